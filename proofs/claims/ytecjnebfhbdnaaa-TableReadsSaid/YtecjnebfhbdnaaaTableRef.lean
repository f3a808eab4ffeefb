/-
  The document's own table: its keys, its bytes.
-/
import Derived.Test.YtecjnebfhbdnaaaTableBuild
import Derived.Test.YtecjnebfhbdnaaaTableArgs
import Derived.Test.YtecjnebfhbdnaaaBlockRef
import Derived.Test.YtecjnebfhbdnaaaBloomRefMake
import Derived.RegionTactic
import Derived.Deep.RegionHeld3
namespace Go.Proofs.Ytecjnebfhbdnaaa
open Go.ChangeShapes Go.WideShapes Go.ChangeAt Go.RowKit
set_option linter.unusedVariables false
set_option maxRecDepth 100000
set_option maxHeartbeats 3000000

theorem keysU_le (l : List Mm.Ent) : ∀ k, (Tb.keysU l k).length ≤ k
  | 0 => by simp [Tb.keysU]
  | k + 1 => by
    rw [Tb.keysU_succ, List.length_append]
    have := keysU_le l k
    have := Tb.kst_len l k
    omega
theorem txc_app (a b : List (List UInt8)) : txc (a ++ b) = txc a ++ txc b := by unfold txc; rw [List.map_append]
theorem kst_yes {l : List Mm.Ent} {k : Nat} {x : Mm.Ent} (hx : l[k]? = some x) (h : k = 0 ∨ Bk.keyAt l (k - 1) ≠ x.key) : Tb.kst l k = [x.key] := by unfold Tb.kst; rw [hx]; simp only; rw [if_pos h]
theorem kst_no {l : List Mm.Ent} {k : Nat} {x : Mm.Ent} (hx : l[k]? = some x) (h : ¬ (k = 0 ∨ Bk.keyAt l (k - 1) ≠ x.key)) : Tb.kst l k = [] := by unfold Tb.kst; rw [hx]; simp only; rw [if_neg h]
theorem rtkeys_any {w : World} {A : Option Addr} {l : List Mm.Ent} (c : Nat) (h : Els w A l) (hl : l.length ≤ 500) :
    Calls Try.prog 40 #[.slice A l.length c] w fun e w' => ∃ B c', e = .returned (.slice B (Tb.keys l).length c') ∧ Txs w' B (Tb.keys l) ∧ Kept w w' := by
  have HE := Lib.hid h
  obtain ⟨i0, hi, hz0, hz1, hz2⟩ := info_parts ftInfo
  have HI := Lib.hid hi; have HZ0 := Lib.hid hz0; have HZ1 := Lib.hid hz1; have HZ2 := Lib.hid hz2
  have HN0 := Lib.hid (show (w.alloc (.cells #[] 9)).ownsRow w.heap.size 9 1 (.slice (some ⟨w.heap.size, 0, none⟩) 0 0) (Tb.keysU l 0).length (txc (Tb.keysU l 0)) from World.ownsRow_lit (base := w.heap.size) (e := 9) (size := 1) w #[] 0 (Nat.le_refl _) (by unfold maxLen; omega) rfl)
  obtain ⟨n, hn⟩ : ∃ n, n = l.length := ⟨_, rfl⟩
  rw [← hn] at hl ⊢
  have HN := Lib.hid hn
  clear hi hz0 hz1 hz2 h hn
  go_enter Try.func40, Try.ntmps40
  go_wp2_with fail
  go_loopw [3, 4] (fun v t wr => ∃ k : Nat, k ≤ n ∧ t = .int .i64 k ∧ wr.ownsRow w.heap.size 9 1 v (Tb.keysU l k).length (txc (Tb.keysU l k)) ∧ Kept w wr) (fun _ t _ => n - (intOf t).toNat)
  case atStart => exact ⟨0, Nat.zero_le _, rfl, HN0.out, (Kept.refl w).alloc _⟩
  case round =>
    obtain ⟨k, hk, rfl, hown, hkr⟩ := hrel
    by_cases hlt : k < n
    · obtain ⟨x, hx⟩ : ∃ x, l[k]? = some x := ⟨_, List.getElem?_eq_getElem (by have := HN.out; omega)⟩
      have hEl := HE.out.kept hkr
      obtain ⟨b, o, rfl, hb, c0, c1, c2, c3⟩ := hEl k x hx
      have hbase := Below.size hkr
      obtain ⟨k1, hk1⟩ : ∃ k1, k1 = k + 1 := ⟨_, rfl⟩
      have u1 : IntKind.i64.wrap ((k : Int) + 1) = (k1 : Int) := by rw [IntKind.wrap_i64]; omega
      have u2 : (k : Int) + 1 = (k1 : Int) := by omega
      have HML := Lib.hid (Nat.le_trans (keysU_le l k) (show k ≤ 500 by omega))
      have HK1 := Lib.hid hk1
      have HS := Lib.hid (Tb.keysU_succ l k)
      by_cases h0 : k = 0
      · have HU := Lib.hid (show txc (Tb.keysU l k1) = txc (Tb.keysU l k) ++ [.string (bs x.key)] by rw [hk1, HS.out, txc_app, kst_yes hx (.inl h0)]; rfl)
        have HM2 := Lib.hid (show (Tb.keysU l k1).length = (Tb.keysU l k).length + 1 by rw [hk1, HS.out, List.length_append, kst_yes hx (.inl h0)]; rfl)
        have d0 : ((k : Int) == 0) = true := by rw [beq_iff_eq]; omega
        clear hk1 hx h0 HS hEl
        go_wp2_with fail
        go_quiet (fail)
        obtain ⟨wq, hwq⟩ : ∃ wq, wq = wr.drewN nq := ⟨_, rfl⟩
        rw [← hwq]
        have hkq := kept_trans hkr (show Kept wr wq by rw [hwq]; exact kept_drewN _ _)
        have hown1 := own_kept hown (show Kept wr wq by rw [hwq]; exact kept_drewN _ _)
        have hcc := kept_cell (show Kept wr wq by rw [hwq]; exact kept_drewN _ _) (p := ⟨b, o + k * 4, none⟩) hb
        rw [c0] at hcc
        have hbase2 := Below.size hkq
        clear hwq hown
        go_wp2_with (at_builtin; refine wpList_append_own _ rfl _ _ 69 rfl w.heap.size 9 i0 (.string ByteArray.empty) 1 16 Try.underlying69 HI.out HZ0.out HZ1.out HZ2.out rfl (by decide) _ (Tb.keysU l k).length (txc (Tb.keysU l k)) rfl (hown1.alloc _) ⟨wq.heap.size, 0, none⟩ 1 1 [.string (bs x.key)] rfl rfl (cell_new1 _ _ _) (by simp [Value.oneCell']) (by have := HML.out; unfold maxLen; omega) (by have := HML.out; omega) (by simp; omega) ?_)
        intro v' w2 hown2 hg _
        have g2 : Kept w w2 := Below.grown (hkq.alloc _) hg (by simp; omega) (fun b hb => (hown1.lt b hb).1)
        go_wp2_with fail
        go_roundw
        case rel => exact ⟨k1, by have := HK1.out; omega, rfl, by rw [HU.out, HM2.out]; exact hown2, g2⟩
        case measure => have := HK1.out; simp [intOf]; omega
      · obtain ⟨j, hj⟩ : ∃ j, j = k - 1 := ⟨_, rfl⟩
        obtain ⟨y, hy⟩ : ∃ y, l[j]? = some y := ⟨_, List.getElem?_eq_getElem (by have := HN.out; omega)⟩
        obtain ⟨b', o', hbo, hb2, q0, q1, q2, q3⟩ := hEl j y hy
        cases hbo
        have d0 : ((k : Int) == 0) = false := by rw [beq_eq_false_iff_ne]; omega
        have u3 : IntKind.i64.wrap ((k : Int) - 1) = (j : Int) := by rw [IntKind.wrap_i64]; omega
        have u4 : (k : Int) - 1 = (j : Int) := by omega
        have hjn : j < n := by omega
        have e1 := mbs_eq y.key x.key
        have hka : Bk.keyAt l (k - 1) = y.key := by rw [← hj]; exact Bk.keyAt_some hy
        by_cases hq : y.key = x.key
        · have hno : ¬ (k = 0 ∨ Bk.keyAt l (k - 1) ≠ x.key) := by rw [hka, hq]; simp [h0]
          have HU := Lib.hid (show Tb.keysU l k1 = Tb.keysU l k by rw [hk1, HS.out, kst_no hx hno, List.append_nil])
          rw [decide_eq_true hq] at e1
          have e2 : (!((bs y.key).toList == (bs x.key).toList)) = false := by rw [e1]; rfl
          clear hk1 hx h0 HS hEl hj hy hka hq hno q1 q2 q3 c1 c2 c3 HML
          go_wp2_with fail
          go_quiet (fail)
          go_wp2_with fail
          go_roundw
          case rel => exact ⟨k1, by have := HK1.out; omega, rfl, by rw [HU.out]; exact own_kept hown (kept_drewN _ _), kept_trans hkr (kept_drewN _ _)⟩
          case measure => have := HK1.out; simp [intOf]; omega
        · have hye : k = 0 ∨ Bk.keyAt l (k - 1) ≠ x.key := by rw [hka]; exact .inr hq
          have HU := Lib.hid (show txc (Tb.keysU l k1) = txc (Tb.keysU l k) ++ [.string (bs x.key)] by rw [hk1, HS.out, txc_app, kst_yes hx hye]; rfl)
          have HM2 := Lib.hid (show (Tb.keysU l k1).length = (Tb.keysU l k).length + 1 by rw [hk1, HS.out, List.length_append, kst_yes hx hye]; rfl)
          rw [decide_eq_false hq] at e1
          have e2 : (!((bs y.key).toList == (bs x.key).toList)) = true := by rw [e1]; rfl
          clear hk1 hx h0 HS hEl hj hy hka hq hye q1 q2 q3 c1 c2 c3
          go_wp2_with fail
          go_quiet (fail)
          obtain ⟨wq, hwq⟩ : ∃ wq, wq = wr.drewN nq := ⟨_, rfl⟩
          rw [← hwq]
          have hkq := kept_trans hkr (show Kept wr wq by rw [hwq]; exact kept_drewN _ _)
          have hown1 := own_kept hown (show Kept wr wq by rw [hwq]; exact kept_drewN _ _)
          have hcc := kept_cell (show Kept wr wq by rw [hwq]; exact kept_drewN _ _) (p := ⟨b, o + k * 4, none⟩) hb
          rw [c0] at hcc
          have hbase2 := Below.size hkq
          clear hwq hown
          go_wp2_with (at_builtin; refine wpList_append_own _ rfl _ _ 69 rfl w.heap.size 9 i0 (.string ByteArray.empty) 1 16 Try.underlying69 HI.out HZ0.out HZ1.out HZ2.out rfl (by decide) _ (Tb.keysU l k).length (txc (Tb.keysU l k)) rfl (hown1.alloc _) ⟨wq.heap.size, 0, none⟩ 1 1 [.string (bs x.key)] rfl rfl (cell_new1 _ _ _) (by simp [Value.oneCell']) (by have := HML.out; unfold maxLen; omega) (by have := HML.out; omega) (by simp; omega) ?_)
          intro v' w2 hown2 hg _
          have g2 : Kept w w2 := Below.grown (hkq.alloc _) hg (by simp; omega) (fun b hb => (hown1.lt b hb).1)
          go_wp2_with fail
          go_roundw
          case rel => exact ⟨k1, by have := HK1.out; omega, rfl, by rw [HU.out, HM2.out]; exact hown2, g2⟩
          case measure => have := HK1.out; simp [intOf]; omega
    · have e : k = n := by omega
      have hf : Tb.keysU l k = Tb.keys l := by unfold Tb.keys; rw [e, HN.out]
      rw [hf] at hown
      obtain ⟨B, c', rfl, _, ht⟩ := txs_own hown
      have HT := Lib.hid ht
      clear e hf hown ht
      go_wp2_with fail
      go_ret
      exact ⟨B, ⟨c', rfl⟩, HT.out, hkr⟩
theorem te_cells2 {W : World} {b o : Nat} {l : List Mm.Ent} (h : Els W (some ⟨b, o, none⟩) l) {i j : Nat} {x : Mm.Ent} (hx : l[i]? = some x) (hj : j = o + i * 4) (W' : World) (g : Kept W W') : W'.cell? ⟨b, j, none⟩ = some (.string (bs x.key)) ∧ W'.cell? ⟨b, j + 1, none⟩ = some (.int .u64 (x.seq : Nat)) ∧ W'.cell? ⟨b, j + 2, none⟩ = some (.bool x.del) ∧ W'.cell? ⟨b, j + 3, none⟩ = some (.string (bs x.val)) := by
  obtain ⟨b', o', e, hb, c0, c1, c2, c3⟩ := h i x hx
  cases e
  rw [← hj] at c0 c1 c2 c3
  exact ⟨(kept_cell g hb).trans c0, (kept_cell g hb).trans c1, (kept_cell g hb).trans c2, (kept_cell g hb).trans c3⟩
theorem rix1 {l : List Mm.Ent} {k : Nat} {x : Mm.Ent} (h : (Tb.bl l k).getLast? = some x) : Tb.ix1 l k = Bt.sized x.key ++ (Nm.short x.seq ++ (Nm.short (Tb.out l k).length ++ Nm.short (Bk.enc (Tb.bl l k)).length)) := by
  unfold Tb.ix1; rw [h]
theorem ro_len {l : List Mm.Ent} {K : Nat} (h : ∀ i, i < K → Bk.isB (Tb.bl l i) = true) : ∀ {k : Nat}, k ≤ K → (Tb.out l k).length ≤ 7000 * k
  | 0, _ => by simp [Tb.out]
  | k + 1, hk => by
    rw [Tb.out_succ, List.length_append]
    have := ro_len h (show k ≤ K by omega)
    have := Bk.enc_len (h k (by omega))
    omega
theorem ri_len {l : List Mm.Ent} {K : Nat} (h : ∀ i, i < K → Bk.isB (Tb.bl l i) = true) : ∀ {k : Nat}, k ≤ K → K ≤ 63 → (Tb.ix l k).length ≤ 140 * k
  | 0, _, _ => by simp [Tb.ix]
  | k + 1, hk, h63 => by
    rw [Tb.ix_succ, List.length_append]
    have := ri_len h (show k ≤ K by omega) h63
    obtain ⟨q1, q2, q3, q4⟩ := Bk.isB_iff.1 (h k (by omega))
    have hl : (Tb.bl l k).getLast? = some ((Tb.bl l k).getLast (fun e => by rw [e] at q1; simp at q1)) := List.getLast?_eq_some_getLast _
    have hm := q3 _ (List.mem_of_getLast? hl)
    rw [rix1 hl]
    obtain ⟨k1, k2, k3, k4, k5, k6⟩ := Mm.may_iff.1 hm
    generalize (Tb.bl l k).getLast _ = x at *
    have := ro_len h (show k ≤ K by omega)
    have := Bk.enc_len (h k (by omega))
    unfold Bt.sized
    simp only [List.length_append]
    have := Tb.sz_ten x.key.length (by omega)
    have := Tb.sz_ten x.seq (by omega)
    have := Tb.sz_ten (Tb.out l k).length (by omega)
    have := Tb.sz_ten (Bk.enc (Tb.bl l k)).length (by omega)
    omega
/-- the first part that is no block, or as many as there are -/
theorem first_bad (l : List Mm.Ent) : ∀ m, ∃ K, K ≤ m ∧ (∀ i, i < K → Bk.isB (Tb.bl l i) = true) ∧ (K < m → Bk.isB (Tb.bl l K) = false)
  | 0 => ⟨0, Nat.le_refl _, fun i h => absurd h (Nat.not_lt_zero _), fun h => absurd h (Nat.lt_irrefl _)⟩
  | m + 1 => by
    obtain ⟨K, h1, h2, h3⟩ := first_bad l m
    by_cases c : K < m
    · exact ⟨K, by omega, h2, fun _ => h3 c⟩
    · cases hb : Bk.isB (Tb.bl l K) with
      | false => exact ⟨K, by omega, h2, fun _ => hb⟩
      | true => exact ⟨K + 1, by omega, fun i hi => by
          by_cases e : i = K
          · rw [e]; exact hb
          · exact h2 i (by omega), fun q => by omega⟩
theorem rkeys_max {l : List Mm.Ent} (h : Tb.isT l = true) : ∀ x ∈ Tb.keys l, x.length ≤ maxLen := fun x hx => by
  obtain ⟨y, hy, rfl⟩ := Tb.keysU_only hx
  have := (Mm.may_iff.1 ((Tb.isT_iff.1 h).2.2.1 y hy)).2.1
  unfold maxLen; omega
structure KT2 (a b : World) : Prop where
  k : Kept a b
theorem rtbuild_row {w : World} {b o : Nat} {l : List Mm.Ent} (c : Nat) (h : Els w (some ⟨b, o, none⟩) l) (h1 : 1 ≤ l.length) (h5 : l.length ≤ 500) (hc : l.length ≤ c) (hcm : c ≤ maxLen) (ho : OkEl l) (hrow : Mg.row l = true) :
    Calls Try.prog 10 #[.slice (some ⟨b, o, none⟩) l.length c] w fun e w' => e = .returned (.tuple #[.string (bs (Tb.encS l)), .int .i64 (Tb.encC l)]) ∧ Kept w w' := by
  have HE := Lib.hid h; have HO := Lib.hid ho; have HROW := Lib.hid hrow
  obtain ⟨RS, hRS⟩ : ∃ RS, RS = bs (Tb.encS l) := ⟨_, rfl⟩
  obtain ⟨RC, hRC⟩ : ∃ RC, RC = Tb.encC l := ⟨_, rfl⟩
  rw [← hRS, ← hRC]
  have HRS := Lib.hid hRS; have HRC := Lib.hid hRC
  clear hRS hRC
  have hrw := krrow_any c h (by omega)
  rw [hrow] at hrw
  have hky := fun (W : World) (g : Kept w W) => rtkeys_any c (h.kept g) h5
  unfold maxLen at hcm
  obtain ⟨K, hK1, hK2, hK3⟩ := first_bad l (Tb.nb l)
  have hKn : K ≤ 63 := by unfold Tb.nb at hK1; omega
  have HG := Lib.hid hK2; have HBAD := Lib.hid hK3; have HKNB := Lib.hid hK1
  obtain ⟨n, hn⟩ : ∃ n, n = l.length := ⟨_, rfl⟩
  rw [← hn] at h1 h5 hc hrw hky ⊢
  have HN := Lib.hid hn; have HRW := Lib.hid hrw; have HKEYS := Lib.hid hky
  have d1 : decide ((n : Int) < 1) = false := decide_eq_false (by omega)
  have d2 : decide ((500 : Int) < (n : Int)) = false := decide_eq_false (by omega)
  clear h ho hrow hrw hK1 hK2 hK3 hn hky
  go_enter Try.func10, Try.ntmps10
  go_wp2_with fail
  refine HRW.out.mono ?_
  rintro e w1 ⟨rfl, g1⟩
  have G1 := Lib.hid g1
  clear g1
  go_wp2_with fail
  go_loopw [4, 5, 6, 7] (fun a d m t wr => ∃ k I : Nat, k ≤ K ∧ Hid (I = 8 * k) ∧ a = .string (bs (Tb.out l k)) ∧ d = .string (bs (Tb.ix l k)) ∧ m = .int .i64 k ∧ t = .int .i64 I ∧ Hid (Kept w wr)) (fun _ _ _ t _ => n - (intOf t).toNat)
  case atStart => exact ⟨0, 0, Nat.zero_le _, Lib.hid rfl, rfl, rfl, rfl, rfl, G1⟩
  case round =>
    obtain ⟨k, I, hk, HI8, rfl, rfl, rfl, rfl, HKr⟩ := hrel
    by_cases hlt : I < n
    · obtain ⟨E8, hE8⟩ : ∃ E8, E8 = I + 8 := ⟨_, rfl⟩
      have u8 : IntKind.i64.wrap ((I : Int) + 8) = (E8 : Int) := by rw [IntKind.wrap_i64]; omega
      have u88 : (I : Int) + 8 = (E8 : Int) := by omega
      have HE8 := Lib.hid hE8
      have hlE : I ≤ E8 := by omega
      by_cases hg : n < E8
      · have d8 : decide ((n : Int) < (E8 : Int)) = true := decide_eq_true (by omega)
        obtain ⟨n8, hn8⟩ : ∃ n8, n8 = n - I := ⟨_, rfl⟩
        obtain ⟨c8, hc8⟩ : ∃ c8, c8 = c - I := ⟨_, rfl⟩
        obtain ⟨e1, he1⟩ : ∃ e1, e1 = n - 1 := ⟨_, rfl⟩
        have hbl : (Tb.bl l k).length = n8 := by rw [Tb.bl_len, ← HI8.out, ← HN.out]; omega
        have hxl : (Tb.bl l k).getLast? = l[e1]? := by rw [List.getLast?_eq_getElem?, Tb.bl_get _ _ _ (by omega), hbl]; congr 1; have := HI8.out; omega
        obtain ⟨x, hx⟩ : ∃ x, l[e1]? = some x := ⟨_, List.getElem?_eq_getElem (by rw [← HN.out]; omega)⟩
        rw [hx] at hxl
        have hne : c ≠ I := by omega
        have hni : I ≤ n := by omega
        have hnc : n ≤ c := by omega
        have u9 : IntKind.i64.wrap ((n : Int) - 1) = (e1 : Int) := by rw [IntKind.wrap_i64]; omega
        have u10 : (n : Int) - 1 = (e1 : Int) := by omega
        have we1 : IntKind.i64.wrap (e1 : Int) = (e1 : Int) := by rw [IntKind.wrap_i64]; omega
        have hen1 : e1 < n := by omega
        have hn9 : n - I = n8 := hn8.symm
        have hc9 : c - I = c8 := hc8.symm
        have HPE := Lib.hid (fun (W : World) (g : Kept w W) => (by have := els_part (HE.out.kept g) k; rw [show o + 8 * k * 4 = o + I * 4 by rw [HI8.out]] at this; exact this : Els W (some ⟨b, o + I * 4, none⟩) (Tb.bl l k)))
        have HENK := Lib.hid (fun (W : World) (g : Kept w W) => (by have := krencode_any c8 (HPE.out W g) (by unfold maxLen; omega) (fun y hy => HO.out y (Tb.bl_mem hy)); rw [hbl] at this; exact this : Calls Try.prog 36 #[.slice (some ⟨b, o + I * 4, none⟩) n8 c8] W fun e w' => e = .returned (.tuple #[.string (bs (Bk.encS (Tb.bl l k))), .int .i64 (Bk.encC (Tb.bl l k))]) ∧ Kept W w'))
        by_cases hkK : k < K
        · have hB := HG.out k hkK
          have HENS := Lib.hid (Bk.enc_yes hB)
          obtain ⟨OT, hOT⟩ : ∃ OT, OT = bs (Tb.out l k) := ⟨_, rfl⟩
          obtain ⟨IX, hIX⟩ : ∃ IX, IX = bs (Tb.ix l k) := ⟨_, rfl⟩
          obtain ⟨EN, hEN⟩ : ∃ EN, EN = bs (Bk.enc (Tb.bl l k)) := ⟨_, rfl⟩
          have zo := ro_len HG.out (show k ≤ K by omega)
          have zi := ri_len HG.out (show k ≤ K by omega) hKn
          have zen := Bk.enc_len hB
          have hmx := (Bk.isB_iff.1 hB).2.2.1 x (List.mem_of_getLast? hxl)
          obtain ⟨k1, k2, k3, k4, k5, k6⟩ := Mm.may_iff.1 hmx
          clear k4
          obtain ⟨OL, hOL⟩ : ∃ OL, OL = (Tb.out l k).length := ⟨_, rfl⟩
          obtain ⟨EL, hEL⟩ : ∃ EL, EL = (Bk.enc (Tb.bl l k)).length := ⟨_, rfl⟩
          have sOT : OT.size = OL := by rw [hOT, hOL, fbs_size]
          have sEN : EN.size = EL := by rw [hEN, hEL, fbs_size]
          have sIX : IX.size ≤ 140 * k := by rw [hIX, fbs_size]; exact zi
          have wOL : IntKind.u64.wrap (OL : Int) = (OL : Int) := by rw [IntKind.wrap_u64]; omega
          have wEL : IntKind.u64.wrap (EL : Int) = (EL : Int) := by rw [IntKind.wrap_u64]; omega
          have ht1 := krtext_any x.key k2
          have ht2 := rshort_any (x.seq : Int) (by omega) (by omega)
          have ht3 := rshort_any (OL : Int) (by omega) (by omega)
          have ht4 := rshort_any (EL : Int) (by omega) (by omega)
          rw [Int.toNat_natCast] at ht2 ht3 ht4
          obtain ⟨T1, hT1⟩ : ∃ T, T = bs (Bt.sized x.key) := ⟨_, rfl⟩
          obtain ⟨T2, hT2⟩ : ∃ T, T = bs (Nm.short x.seq) := ⟨_, rfl⟩
          obtain ⟨T3, hT3⟩ : ∃ T, T = bs (Nm.short OL) := ⟨_, rfl⟩
          obtain ⟨T4, hT4⟩ : ∃ T, T = bs (Nm.short EL) := ⟨_, rfl⟩
          rw [← hT1] at ht1; rw [← hT2] at ht2; rw [← hT3] at ht3; rw [← hT4] at ht4
          have HT1 := Lib.hid ht1; have HT2 := Lib.hid ht2; have HT3 := Lib.hid ht3; have HT4 := Lib.hid ht4
          have z1 : T1.size ≤ 101 := by rw [hT1, fbs_size]; exact (Bt.sized_len k2).2
          have z2 : T2.size ≤ 10 := by rw [hT2, fbs_size]; exact Tb.sz_ten _ (by omega)
          have z3 : T3.size ≤ 10 := by rw [hT3, fbs_size]; exact Tb.sz_ten _ (by omega)
          have z4 : T4.size ≤ 10 := by rw [hT4, fbs_size]; exact Tb.sz_ten _ (by omega)
          obtain ⟨U1, hU1⟩ : ∃ U, U = T1 ++ T2 := ⟨_, rfl⟩
          have y1 : U1.size ≤ 111 := by rw [hU1, ByteArray.size_append]; omega
          obtain ⟨U2, hU2⟩ : ∃ U, U = U1 ++ T3 := ⟨_, rfl⟩
          have y2 : U2.size ≤ 121 := by rw [hU2, ByteArray.size_append]; omega
          obtain ⟨U3, hU3⟩ : ∃ U, U = U2 ++ T4 := ⟨_, rfl⟩
          have y3 : U3.size ≤ 131 := by rw [hU3, ByteArray.size_append]; omega
          obtain ⟨U4, hU4⟩ : ∃ U, U = IX ++ U3 := ⟨_, rfl⟩
          obtain ⟨OT1, hOT1⟩ : ∃ U, U = OT ++ EN := ⟨_, rfl⟩
          have r1 : ∀ W, (Op.stringOp .add T1 T2).run Try.prog W = .ok (.string U1) W := fun W => by rw [hU1]; exact run_string_add_sum W _ _ (by omega)
          have r2 : ∀ W, (Op.stringOp .add U1 T3).run Try.prog W = .ok (.string U2) W := fun W => by rw [hU2]; exact run_string_add_sum W _ _ (by omega)
          have r3 : ∀ W, (Op.stringOp .add U2 T4).run Try.prog W = .ok (.string U3) W := fun W => by rw [hU3]; exact run_string_add_sum W _ _ (by omega)
          have r4 : ∀ W, (Op.stringOp .add IX U3).run Try.prog W = .ok (.string U4) W := fun W => by rw [hU4]; exact run_string_add_sum W _ _ (by omega)
          have r5 : ∀ W, (Op.stringOp .add OT EN).run Try.prog W = .ok (.string OT1) W := fun W => by rw [hOT1]; exact run_string_add_sum W _ _ (by omega)
          have HO1 := Lib.hid (show OT1 = bs (Tb.out l (k + 1)) by rw [hOT1, hOT, hEN, Tb.out_succ]; exact fbs_app _ _)
          have HX1 := Lib.hid (show U4 = bs (Tb.ix l (k + 1)) by rw [hU4, hU3, hU2, hU1, hT1, hT2, hT3, hT4, hIX, Tb.ix_succ, rix1 hxl, hOL, hEL]; simp only [fbs_app, List.append_assoc])
          have HXC := Lib.hid (fun (W : World) (g : Kept wr W) => (te_cells2 HE.out hx (show o + 4 * e1 = o + e1 * 4 by omega)) W (kept_trans HKr.out g))
          rw [← hOT, ← hIX]
          rw [HENS.out.1, HENS.out.2, ← hEN] at HENK
          have HK1 := Lib.hid hkK
          clear hE8 hT1 hT2 hT3 hT4 ht1 ht2 ht3 ht4 hU1 hU2 hU3 hU4 hOT1 hOT hIX hEN hOL hEL hB HENS hmx hx hxl hbl hn8 hc8 he1 zo zi zen y1 y2 y3 HPE
          obtain ⟨kk1, hkk1⟩ : ∃ kk1, kk1 = k + 1 := ⟨_, rfl⟩
          have u11 : IntKind.i64.wrap ((k : Int) + 1) = (kk1 : Int) := by rw [IntKind.wrap_i64]; omega
          have u12 : (k : Int) + 1 = (kk1 : Int) := by omega
          have HKK1 := Lib.hid hkk1
          clear hkk1 hkK
          go_wp2_with fail

          refine (HENK.out _ HKr.out).mono ?_
          rintro e w3 ⟨rfl, g3⟩
          go_upto_region 15 with fail
          refine wp_region_held_drew (S := fun W => KT2 w3 W) (by kernel_rfl) ⟨kept_drewN w3 1⟩ (fun hHeld => ?_)
          refine wpAnyH_take (i := 0) (v := (.string IX)) (List.getElem?_toArray.trans rfl) (by kernel_rfl) (by kernel_rfl) (by kernel_rfl) (fun _ _ _ h => h) (Or.inl ⟨by rfl, ?_⟩) (by assumption) ?_
          · intro W hSw
            first | rfl | (go_simp; done) | (go_simp; rfl)
          simp only [Act.put, List.setIfInBounds_toArray, List.set_cons_zero, List.set_cons_succ]
          refine wpAnyH_take (i := 1) (v := (.slice (some ⟨b, o, none⟩) n c)) (List.getElem?_toArray.trans rfl) (by kernel_rfl) (by kernel_rfl) (by kernel_rfl) (fun _ _ _ h => h) (Or.inl ⟨by rfl, ?_⟩) (by assumption) ?_
          · intro W hSw
            first | rfl | (go_simp; done) | (go_simp; rfl)
          simp only [Act.put, List.setIfInBounds_toArray, List.set_cons_zero, List.set_cons_succ]
          refine wpAnyH_take (i := 2) (v := (.int .i64 (n : Nat))) (List.getElem?_toArray.trans rfl) (by kernel_rfl) (by kernel_rfl) (by kernel_rfl) (fun _ _ _ h => h) (Or.inl ⟨by rfl, ?_⟩) (by assumption) ?_
          · intro W hSw
            first | rfl | (go_simp; done) | (go_simp; rfl)
          simp only [Act.put, List.setIfInBounds_toArray, List.set_cons_zero, List.set_cons_succ]
          refine wpAnyH_take (i := 3) (v := (.int .i64 (e1 : Nat))) (List.getElem?_toArray.trans rfl) (by kernel_rfl) (by kernel_rfl) (by kernel_rfl) (fun _ _ _ h => h) (Or.inl ⟨by rfl, ?_⟩) (by assumption) ?_
          · intro W hSw
            first | rfl | (go_simp; done) | (go_simp; rfl)
          simp only [Act.put, List.setIfInBounds_toArray, List.set_cons_zero, List.set_cons_succ]
          refine wpAnyH_take (i := 4) (v := (.pointer (some ⟨b, o + 4 * e1, none⟩))) (List.getElem?_toArray.trans rfl) (by kernel_rfl) (by kernel_rfl) (by kernel_rfl) (fun _ _ _ h => h) (Or.inl ⟨by rfl, ?_⟩) (by assumption) ?_
          · intro W hSw
            first | rfl | (go_simp; done) | (go_simp; rfl)
          simp only [Act.put, List.setIfInBounds_toArray, List.set_cons_zero, List.set_cons_succ]
          refine wpAnyH_take (i := 5) (v := (.pointer (some ⟨b, o + 4 * e1, none⟩))) (List.getElem?_toArray.trans rfl) (by kernel_rfl) (by kernel_rfl) (by kernel_rfl) (fun _ _ _ h => h) (Or.inl ⟨by rfl, ?_⟩) (by assumption) ?_
          · intro W hSw
            first | rfl | (go_simp; done) | (go_simp; rfl)
          simp only [Act.put, List.setIfInBounds_toArray, List.set_cons_zero, List.set_cons_succ]
          refine wpAnyH_take (i := 6) (v := (.string (bs x.key))) (List.getElem?_toArray.trans rfl) (by kernel_rfl) (by kernel_rfl) (by kernel_rfl) (fun _ _ _ h => h) (Or.inl ⟨by rfl, ?_⟩) (by assumption) ?_
          · intro W hSw
            obtain ⟨q0, q1, q2, q3⟩ := HXC.out W (kept_trans g3 hSw.k)
            first | (go_simp; done) | (go_simp; rfl)
          simp only [Act.put, List.setIfInBounds_toArray, List.set_cons_zero, List.set_cons_succ]
          refine wpAnyH_take (i := 8) (v := (.slice (some ⟨b, o, none⟩) n c)) (List.getElem?_toArray.trans rfl) (by kernel_rfl) (by kernel_rfl) (by kernel_rfl) (fun _ _ _ h => h) (Or.inl ⟨by rfl, ?_⟩) (by assumption) ?_
          · intro W hSw
            first | rfl | (go_simp; done) | (go_simp; rfl)
          simp only [Act.put, List.setIfInBounds_toArray, List.set_cons_zero, List.set_cons_succ]
          refine wpAnyH_take (i := 9) (v := (.int .i64 (n : Nat))) (List.getElem?_toArray.trans rfl) (by kernel_rfl) (by kernel_rfl) (by kernel_rfl) (fun _ _ _ h => h) (Or.inl ⟨by rfl, ?_⟩) (by assumption) ?_
          · intro W hSw
            first | rfl | (go_simp; done) | (go_simp; rfl)
          simp only [Act.put, List.setIfInBounds_toArray, List.set_cons_zero, List.set_cons_succ]
          refine wpAnyH_take (i := 10) (v := (.int .i64 (e1 : Nat))) (List.getElem?_toArray.trans rfl) (by kernel_rfl) (by kernel_rfl) (by kernel_rfl) (fun _ _ _ h => h) (Or.inl ⟨by rfl, ?_⟩) (by assumption) ?_
          · intro W hSw
            first | rfl | (go_simp; done) | (go_simp; rfl)
          simp only [Act.put, List.setIfInBounds_toArray, List.set_cons_zero, List.set_cons_succ]
          refine wpAnyH_take (i := 11) (v := (.pointer (some ⟨b, o + 4 * e1, none⟩))) (List.getElem?_toArray.trans rfl) (by kernel_rfl) (by kernel_rfl) (by kernel_rfl) (fun _ _ _ h => h) (Or.inl ⟨by rfl, ?_⟩) (by assumption) ?_
          · intro W hSw
            first | rfl | (go_simp; done) | (go_simp; rfl)
          simp only [Act.put, List.setIfInBounds_toArray, List.set_cons_zero, List.set_cons_succ]
          refine wpAnyH_take (i := 12) (v := (.pointer (some ⟨b, o + 4 * e1 + 1, none⟩))) (List.getElem?_toArray.trans rfl) (by kernel_rfl) (by kernel_rfl) (by kernel_rfl) (fun _ _ _ h => h) (Or.inl ⟨by rfl, ?_⟩) (by assumption) ?_
          · intro W hSw
            first | rfl | (go_simp; done) | (go_simp; rfl)
          simp only [Act.put, List.setIfInBounds_toArray, List.set_cons_zero, List.set_cons_succ]
          refine wpAnyH_take (i := 13) (v := (.int .u64 (x.seq : Nat))) (List.getElem?_toArray.trans rfl) (by kernel_rfl) (by kernel_rfl) (by kernel_rfl) (fun _ _ _ h => h) (Or.inl ⟨by rfl, ?_⟩) (by assumption) ?_
          · intro W hSw
            obtain ⟨q0, q1, q2, q3⟩ := HXC.out W (kept_trans g3 hSw.k)
            first | (go_simp; done) | (go_simp; rfl)
          simp only [Act.put, List.setIfInBounds_toArray, List.set_cons_zero, List.set_cons_succ]
          refine wpAnyH_take (i := 16) (v := (.string OT)) (List.getElem?_toArray.trans rfl) (by kernel_rfl) (by kernel_rfl) (by kernel_rfl) (fun _ _ _ h => h) (Or.inl ⟨by rfl, ?_⟩) (by assumption) ?_
          · intro W hSw
            first | rfl | (go_simp; done) | (go_simp; rfl)
          simp only [Act.put, List.setIfInBounds_toArray, List.set_cons_zero, List.set_cons_succ]
          refine wpAnyH_take (i := 17) (v := (.int .i64 (OL : Nat))) (List.getElem?_toArray.trans rfl) (by kernel_rfl) (by kernel_rfl) (by kernel_rfl) (fun _ _ _ h => h) (Or.inl ⟨by rfl, ?_⟩) (by assumption) ?_
          · intro W hSw
            first | rfl | (go_simp; done) | (go_simp; rfl)
          simp only [Act.put, List.setIfInBounds_toArray, List.set_cons_zero, List.set_cons_succ]
          refine wpAnyH_take (i := 18) (v := (.int .u64 (OL : Nat))) (List.getElem?_toArray.trans rfl) (by kernel_rfl) (by kernel_rfl) (by kernel_rfl) (fun _ _ _ h => h) (Or.inl ⟨by rfl, ?_⟩) (by assumption) ?_
          · intro W hSw
            first | rfl | (go_simp; done) | (go_simp; rfl)
          simp only [Act.put, List.setIfInBounds_toArray, List.set_cons_zero, List.set_cons_succ]
          refine wpAnyH_take (i := 21) (v := (.string EN)) (List.getElem?_toArray.trans rfl) (by kernel_rfl) (by kernel_rfl) (by kernel_rfl) (fun _ _ _ h => h) (Or.inl ⟨by rfl, ?_⟩) (by assumption) ?_
          · intro W hSw
            first | rfl | (go_simp; done) | (go_simp; rfl)
          simp only [Act.put, List.setIfInBounds_toArray, List.set_cons_zero, List.set_cons_succ]
          refine wpAnyH_take (i := 22) (v := (.int .i64 (EL : Nat))) (List.getElem?_toArray.trans rfl) (by kernel_rfl) (by kernel_rfl) (by kernel_rfl) (fun _ _ _ h => h) (Or.inl ⟨by rfl, ?_⟩) (by assumption) ?_
          · intro W hSw
            first | rfl | (go_simp; done) | (go_simp; rfl)
          simp only [Act.put, List.setIfInBounds_toArray, List.set_cons_zero, List.set_cons_succ]
          refine wpAnyH_take (i := 23) (v := (.int .u64 (EL : Nat))) (List.getElem?_toArray.trans rfl) (by kernel_rfl) (by kernel_rfl) (by kernel_rfl) (fun _ _ _ h => h) (Or.inl ⟨by rfl, ?_⟩) (by assumption) ?_
          · intro W hSw
            first | rfl | (go_simp; done) | (go_simp; rfl)
          simp only [Act.put, List.setIfInBounds_toArray, List.set_cons_zero, List.set_cons_succ]
          refine wpAnyH_ready (rs := [7]) (by kernel_rfl) (by simp) ?_
          refine AllReadyH.cons (List.getElem?_toArray.trans rfl) (fun K hK => ?_) AllReadyH.nil
          go_simp
          refine (HT1.out _).mono ?_
          rintro e w22 ⟨rfl, g22⟩
          go_wp2_with fail
          refine hK.out _ _ ⟨kept_trans hHeld.k g22⟩ (fun hHeld => ?_)
          clear hK K
          refine wpAnyH_ready (rs := [14]) (by kernel_rfl) (by simp) ?_
          refine AllReadyH.cons (List.getElem?_toArray.trans rfl) (fun K hK => ?_) AllReadyH.nil
          go_simp
          refine (HT2.out _).mono ?_
          rintro e w23 ⟨rfl, g23⟩
          go_wp2_with fail
          refine hK.out _ _ ⟨kept_trans hHeld.k g23⟩ (fun hHeld => ?_)
          clear hK K
          refine wpAnyH_take (i := 15) (v := (.string U1)) (List.getElem?_toArray.trans rfl) (by kernel_rfl) (by kernel_rfl) (by kernel_rfl) (fun _ _ _ h => h) (Or.inl ⟨by rfl, ?_⟩) (by assumption) ?_
          · intro W hSw
            first | rfl | (go_simp; done) | (go_simp; rfl)
          simp only [Act.put, List.setIfInBounds_toArray, List.set_cons_zero, List.set_cons_succ]
          refine wpAnyH_ready (rs := [19]) (by kernel_rfl) (by simp) ?_
          refine AllReadyH.cons (List.getElem?_toArray.trans rfl) (fun K hK => ?_) AllReadyH.nil
          go_simp
          refine (HT3.out _).mono ?_
          rintro e w24 ⟨rfl, g24⟩
          go_wp2_with fail
          refine hK.out _ _ ⟨kept_trans hHeld.k g24⟩ (fun hHeld => ?_)
          clear hK K
          refine wpAnyH_take (i := 20) (v := (.string U2)) (List.getElem?_toArray.trans rfl) (by kernel_rfl) (by kernel_rfl) (by kernel_rfl) (fun _ _ _ h => h) (Or.inl ⟨by rfl, ?_⟩) (by assumption) ?_
          · intro W hSw
            first | rfl | (go_simp; done) | (go_simp; rfl)
          simp only [Act.put, List.setIfInBounds_toArray, List.set_cons_zero, List.set_cons_succ]
          refine wpAnyH_ready (rs := [24]) (by kernel_rfl) (by simp) ?_
          refine AllReadyH.cons (List.getElem?_toArray.trans rfl) (fun K hK => ?_) AllReadyH.nil
          go_simp
          refine (HT4.out _).mono ?_
          rintro e w25 ⟨rfl, g25⟩
          go_wp2_with fail
          refine hK.out _ _ ⟨kept_trans hHeld.k g25⟩ (fun hHeld => ?_)
          clear hK K
          refine wpAnyH_take (i := 25) (v := (.string U3)) (List.getElem?_toArray.trans rfl) (by kernel_rfl) (by kernel_rfl) (by kernel_rfl) (fun _ _ _ h => h) (Or.inl ⟨by rfl, ?_⟩) (by assumption) ?_
          · intro W hSw
            first | rfl | (go_simp; done) | (go_simp; rfl)
          simp only [Act.put, List.setIfInBounds_toArray, List.set_cons_zero, List.set_cons_succ]
          refine wpAnyH_take (i := 26) (v := (.string U4)) (List.getElem?_toArray.trans rfl) (by kernel_rfl) (by kernel_rfl) (by kernel_rfl) (fun _ _ _ h => h) (Or.inl ⟨by rfl, ?_⟩) (by assumption) ?_
          · intro W hSw
            first | rfl | (go_simp; done) | (go_simp; rfl)
          simp only [Act.put, List.setIfInBounds_toArray, List.set_cons_zero, List.set_cons_succ]
          refine wpAnyH_take (i := 27) (v := (.string U4)) (List.getElem?_toArray.trans rfl) (by kernel_rfl) (by kernel_rfl) (by kernel_rfl) (fun _ _ _ h => h) (Or.inl ⟨by rfl, ?_⟩) (by assumption) ?_
          · intro W hSw
            first | rfl | (go_simp; done) | (go_simp; rfl)
          simp only [Act.put, List.setIfInBounds_toArray]
          refine wpAnyH_done (by kernel_rfl) ?_ _
          go_wp2_with fail
          go_roundw
          case rel => exact ⟨k + 1, E8, by have := HK1.out; omega, Lib.hid (by have := HE8.out; have := HI8.out; omega), by rw [HO1.out], by rw [HX1.out], by rw [HKK1.out], rfl, Lib.hid (kept_trans (kept_trans HKr.out g3) hHeld.k)⟩
          case measure => have := HE8.out; have := HI8.out; simp [intOf]; omega
        · obtain rfl : k = K := by omega
          have hB : Bk.isB (Tb.bl l k) = false := HBAD.out (by have := HI8.out; have := HN.out; unfold Tb.nb; omega)
          have HENS := Lib.hid (Bk.enc_no hB)
          have HTN := Lib.hid (Tb.encS_no (Tb.isT_no_bl (l := l) (i := k) (by have := HI8.out; have := HN.out; unfold Tb.nb; omega) hB))
          rw [HENS.out.1, HENS.out.2] at HENK
          have HRS2 := Lib.hid (show RS = bs [] ∧ RC = 2 from ⟨by rw [HRS.out, HTN.out.1], by rw [HRC.out, HTN.out.2]⟩)
          obtain ⟨OT, hOT⟩ : ∃ OT, OT = bs (Tb.out l k) := ⟨_, rfl⟩
          obtain ⟨IX, hIX⟩ : ∃ IX, IX = bs (Tb.ix l k) := ⟨_, rfl⟩
          rw [← hOT, ← hIX]
          clear hE8 hB HENS HTN hkK hOT hIX hx hxl hbl hn8 hc8 he1 HPE
          go_wp2_with fail
          refine (HENK.out _ HKr.out).mono ?_
          rintro e w3 ⟨rfl, g3⟩
          go_wp2_with fail
          go_ret2
          exact ⟨by rw [HRS2.out.1, HRS2.out.2]; rfl, kept_trans HKr.out g3⟩
      · have d8 : decide ((n : Int) < (E8 : Int)) = false := decide_eq_false (by omega)
        obtain ⟨n8, hn8⟩ : ∃ n8, n8 = E8 - I := ⟨_, rfl⟩
        obtain ⟨c8, hc8⟩ : ∃ c8, c8 = c - I := ⟨_, rfl⟩
        obtain ⟨e1, he1⟩ : ∃ e1, e1 = E8 - 1 := ⟨_, rfl⟩
        have hbl : (Tb.bl l k).length = n8 := by rw [Tb.bl_len, ← HI8.out, ← HN.out]; omega
        have hxl : (Tb.bl l k).getLast? = l[e1]? := by rw [List.getLast?_eq_getElem?, Tb.bl_get _ _ _ (by omega), hbl]; congr 1; have := HI8.out; omega
        obtain ⟨x, hx⟩ : ∃ x, l[e1]? = some x := ⟨_, List.getElem?_eq_getElem (by rw [← HN.out]; omega)⟩
        rw [hx] at hxl
        have hne : c ≠ I := by omega
        have hni : I ≤ E8 := by omega
        have hnc : E8 ≤ c := by omega
        have u9 : IntKind.i64.wrap ((E8 : Int) - 1) = (e1 : Int) := by rw [IntKind.wrap_i64]; omega
        have u10 : (E8 : Int) - 1 = (e1 : Int) := by omega
        have we1 : IntKind.i64.wrap (e1 : Int) = (e1 : Int) := by rw [IntKind.wrap_i64]; omega
        have hen1 : e1 < n := by omega
        have hn9 : E8 - I = n8 := hn8.symm
        have hc9 : c - I = c8 := hc8.symm
        have HPE := Lib.hid (fun (W : World) (g : Kept w W) => (by have := els_part (HE.out.kept g) k; rw [show o + 8 * k * 4 = o + I * 4 by rw [HI8.out]] at this; exact this : Els W (some ⟨b, o + I * 4, none⟩) (Tb.bl l k)))
        have HENK := Lib.hid (fun (W : World) (g : Kept w W) => (by have := krencode_any c8 (HPE.out W g) (by unfold maxLen; omega) (fun y hy => HO.out y (Tb.bl_mem hy)); rw [hbl] at this; exact this : Calls Try.prog 36 #[.slice (some ⟨b, o + I * 4, none⟩) n8 c8] W fun e w' => e = .returned (.tuple #[.string (bs (Bk.encS (Tb.bl l k))), .int .i64 (Bk.encC (Tb.bl l k))]) ∧ Kept W w'))
        by_cases hkK : k < K
        · have hB := HG.out k hkK
          have HENS := Lib.hid (Bk.enc_yes hB)
          obtain ⟨OT, hOT⟩ : ∃ OT, OT = bs (Tb.out l k) := ⟨_, rfl⟩
          obtain ⟨IX, hIX⟩ : ∃ IX, IX = bs (Tb.ix l k) := ⟨_, rfl⟩
          obtain ⟨EN, hEN⟩ : ∃ EN, EN = bs (Bk.enc (Tb.bl l k)) := ⟨_, rfl⟩
          have zo := ro_len HG.out (show k ≤ K by omega)
          have zi := ri_len HG.out (show k ≤ K by omega) hKn
          have zen := Bk.enc_len hB
          have hmx := (Bk.isB_iff.1 hB).2.2.1 x (List.mem_of_getLast? hxl)
          obtain ⟨k1, k2, k3, k4, k5, k6⟩ := Mm.may_iff.1 hmx
          clear k4
          obtain ⟨OL, hOL⟩ : ∃ OL, OL = (Tb.out l k).length := ⟨_, rfl⟩
          obtain ⟨EL, hEL⟩ : ∃ EL, EL = (Bk.enc (Tb.bl l k)).length := ⟨_, rfl⟩
          have sOT : OT.size = OL := by rw [hOT, hOL, fbs_size]
          have sEN : EN.size = EL := by rw [hEN, hEL, fbs_size]
          have sIX : IX.size ≤ 140 * k := by rw [hIX, fbs_size]; exact zi
          have wOL : IntKind.u64.wrap (OL : Int) = (OL : Int) := by rw [IntKind.wrap_u64]; omega
          have wEL : IntKind.u64.wrap (EL : Int) = (EL : Int) := by rw [IntKind.wrap_u64]; omega
          have ht1 := krtext_any x.key k2
          have ht2 := rshort_any (x.seq : Int) (by omega) (by omega)
          have ht3 := rshort_any (OL : Int) (by omega) (by omega)
          have ht4 := rshort_any (EL : Int) (by omega) (by omega)
          rw [Int.toNat_natCast] at ht2 ht3 ht4
          obtain ⟨T1, hT1⟩ : ∃ T, T = bs (Bt.sized x.key) := ⟨_, rfl⟩
          obtain ⟨T2, hT2⟩ : ∃ T, T = bs (Nm.short x.seq) := ⟨_, rfl⟩
          obtain ⟨T3, hT3⟩ : ∃ T, T = bs (Nm.short OL) := ⟨_, rfl⟩
          obtain ⟨T4, hT4⟩ : ∃ T, T = bs (Nm.short EL) := ⟨_, rfl⟩
          rw [← hT1] at ht1; rw [← hT2] at ht2; rw [← hT3] at ht3; rw [← hT4] at ht4
          have HT1 := Lib.hid ht1; have HT2 := Lib.hid ht2; have HT3 := Lib.hid ht3; have HT4 := Lib.hid ht4
          have z1 : T1.size ≤ 101 := by rw [hT1, fbs_size]; exact (Bt.sized_len k2).2
          have z2 : T2.size ≤ 10 := by rw [hT2, fbs_size]; exact Tb.sz_ten _ (by omega)
          have z3 : T3.size ≤ 10 := by rw [hT3, fbs_size]; exact Tb.sz_ten _ (by omega)
          have z4 : T4.size ≤ 10 := by rw [hT4, fbs_size]; exact Tb.sz_ten _ (by omega)
          obtain ⟨U1, hU1⟩ : ∃ U, U = T1 ++ T2 := ⟨_, rfl⟩
          have y1 : U1.size ≤ 111 := by rw [hU1, ByteArray.size_append]; omega
          obtain ⟨U2, hU2⟩ : ∃ U, U = U1 ++ T3 := ⟨_, rfl⟩
          have y2 : U2.size ≤ 121 := by rw [hU2, ByteArray.size_append]; omega
          obtain ⟨U3, hU3⟩ : ∃ U, U = U2 ++ T4 := ⟨_, rfl⟩
          have y3 : U3.size ≤ 131 := by rw [hU3, ByteArray.size_append]; omega
          obtain ⟨U4, hU4⟩ : ∃ U, U = IX ++ U3 := ⟨_, rfl⟩
          obtain ⟨OT1, hOT1⟩ : ∃ U, U = OT ++ EN := ⟨_, rfl⟩
          have r1 : ∀ W, (Op.stringOp .add T1 T2).run Try.prog W = .ok (.string U1) W := fun W => by rw [hU1]; exact run_string_add_sum W _ _ (by omega)
          have r2 : ∀ W, (Op.stringOp .add U1 T3).run Try.prog W = .ok (.string U2) W := fun W => by rw [hU2]; exact run_string_add_sum W _ _ (by omega)
          have r3 : ∀ W, (Op.stringOp .add U2 T4).run Try.prog W = .ok (.string U3) W := fun W => by rw [hU3]; exact run_string_add_sum W _ _ (by omega)
          have r4 : ∀ W, (Op.stringOp .add IX U3).run Try.prog W = .ok (.string U4) W := fun W => by rw [hU4]; exact run_string_add_sum W _ _ (by omega)
          have r5 : ∀ W, (Op.stringOp .add OT EN).run Try.prog W = .ok (.string OT1) W := fun W => by rw [hOT1]; exact run_string_add_sum W _ _ (by omega)
          have HO1 := Lib.hid (show OT1 = bs (Tb.out l (k + 1)) by rw [hOT1, hOT, hEN, Tb.out_succ]; exact fbs_app _ _)
          have HX1 := Lib.hid (show U4 = bs (Tb.ix l (k + 1)) by rw [hU4, hU3, hU2, hU1, hT1, hT2, hT3, hT4, hIX, Tb.ix_succ, rix1 hxl, hOL, hEL]; simp only [fbs_app, List.append_assoc])
          have HXC := Lib.hid (fun (W : World) (g : Kept wr W) => (te_cells2 HE.out hx (show o + 4 * e1 = o + e1 * 4 by omega)) W (kept_trans HKr.out g))
          rw [← hOT, ← hIX]
          rw [HENS.out.1, HENS.out.2, ← hEN] at HENK
          have HK1 := Lib.hid hkK
          clear hE8 hT1 hT2 hT3 hT4 ht1 ht2 ht3 ht4 hU1 hU2 hU3 hU4 hOT1 hOT hIX hEN hOL hEL hB HENS hmx hx hxl hbl hn8 hc8 he1 zo zi zen y1 y2 y3 HPE
          obtain ⟨kk1, hkk1⟩ : ∃ kk1, kk1 = k + 1 := ⟨_, rfl⟩
          have u11 : IntKind.i64.wrap ((k : Int) + 1) = (kk1 : Int) := by rw [IntKind.wrap_i64]; omega
          have u12 : (k : Int) + 1 = (kk1 : Int) := by omega
          have HKK1 := Lib.hid hkk1
          clear hkk1 hkK
          go_wp2_with fail

          refine (HENK.out _ HKr.out).mono ?_
          rintro e w3 ⟨rfl, g3⟩
          go_upto_region 15 with fail
          refine wp_region_held_drew (S := fun W => KT2 w3 W) (by kernel_rfl) ⟨kept_drewN w3 1⟩ (fun hHeld => ?_)
          refine wpAnyH_take (i := 0) (v := (.string IX)) (List.getElem?_toArray.trans rfl) (by kernel_rfl) (by kernel_rfl) (by kernel_rfl) (fun _ _ _ h => h) (Or.inl ⟨by rfl, ?_⟩) (by assumption) ?_
          · intro W hSw
            first | rfl | (go_simp; done) | (go_simp; rfl)
          simp only [Act.put, List.setIfInBounds_toArray, List.set_cons_zero, List.set_cons_succ]
          refine wpAnyH_take (i := 1) (v := (.slice (some ⟨b, o, none⟩) n c)) (List.getElem?_toArray.trans rfl) (by kernel_rfl) (by kernel_rfl) (by kernel_rfl) (fun _ _ _ h => h) (Or.inl ⟨by rfl, ?_⟩) (by assumption) ?_
          · intro W hSw
            first | rfl | (go_simp; done) | (go_simp; rfl)
          simp only [Act.put, List.setIfInBounds_toArray, List.set_cons_zero, List.set_cons_succ]
          refine wpAnyH_take (i := 2) (v := (.int .i64 (E8 : Nat))) (List.getElem?_toArray.trans rfl) (by kernel_rfl) (by kernel_rfl) (by kernel_rfl) (fun _ _ _ h => h) (Or.inl ⟨by rfl, ?_⟩) (by assumption) ?_
          · intro W hSw
            first | rfl | (go_simp; done) | (go_simp; rfl)
          simp only [Act.put, List.setIfInBounds_toArray, List.set_cons_zero, List.set_cons_succ]
          refine wpAnyH_take (i := 3) (v := (.int .i64 (e1 : Nat))) (List.getElem?_toArray.trans rfl) (by kernel_rfl) (by kernel_rfl) (by kernel_rfl) (fun _ _ _ h => h) (Or.inl ⟨by rfl, ?_⟩) (by assumption) ?_
          · intro W hSw
            first | rfl | (go_simp; done) | (go_simp; rfl)
          simp only [Act.put, List.setIfInBounds_toArray, List.set_cons_zero, List.set_cons_succ]
          refine wpAnyH_take (i := 4) (v := (.pointer (some ⟨b, o + 4 * e1, none⟩))) (List.getElem?_toArray.trans rfl) (by kernel_rfl) (by kernel_rfl) (by kernel_rfl) (fun _ _ _ h => h) (Or.inl ⟨by rfl, ?_⟩) (by assumption) ?_
          · intro W hSw
            first | rfl | (go_simp; done) | (go_simp; rfl)
          simp only [Act.put, List.setIfInBounds_toArray, List.set_cons_zero, List.set_cons_succ]
          refine wpAnyH_take (i := 5) (v := (.pointer (some ⟨b, o + 4 * e1, none⟩))) (List.getElem?_toArray.trans rfl) (by kernel_rfl) (by kernel_rfl) (by kernel_rfl) (fun _ _ _ h => h) (Or.inl ⟨by rfl, ?_⟩) (by assumption) ?_
          · intro W hSw
            first | rfl | (go_simp; done) | (go_simp; rfl)
          simp only [Act.put, List.setIfInBounds_toArray, List.set_cons_zero, List.set_cons_succ]
          refine wpAnyH_take (i := 6) (v := (.string (bs x.key))) (List.getElem?_toArray.trans rfl) (by kernel_rfl) (by kernel_rfl) (by kernel_rfl) (fun _ _ _ h => h) (Or.inl ⟨by rfl, ?_⟩) (by assumption) ?_
          · intro W hSw
            obtain ⟨q0, q1, q2, q3⟩ := HXC.out W (kept_trans g3 hSw.k)
            first | (go_simp; done) | (go_simp; rfl)
          simp only [Act.put, List.setIfInBounds_toArray, List.set_cons_zero, List.set_cons_succ]
          refine wpAnyH_take (i := 8) (v := (.slice (some ⟨b, o, none⟩) n c)) (List.getElem?_toArray.trans rfl) (by kernel_rfl) (by kernel_rfl) (by kernel_rfl) (fun _ _ _ h => h) (Or.inl ⟨by rfl, ?_⟩) (by assumption) ?_
          · intro W hSw
            first | rfl | (go_simp; done) | (go_simp; rfl)
          simp only [Act.put, List.setIfInBounds_toArray, List.set_cons_zero, List.set_cons_succ]
          refine wpAnyH_take (i := 9) (v := (.int .i64 (E8 : Nat))) (List.getElem?_toArray.trans rfl) (by kernel_rfl) (by kernel_rfl) (by kernel_rfl) (fun _ _ _ h => h) (Or.inl ⟨by rfl, ?_⟩) (by assumption) ?_
          · intro W hSw
            first | rfl | (go_simp; done) | (go_simp; rfl)
          simp only [Act.put, List.setIfInBounds_toArray, List.set_cons_zero, List.set_cons_succ]
          refine wpAnyH_take (i := 10) (v := (.int .i64 (e1 : Nat))) (List.getElem?_toArray.trans rfl) (by kernel_rfl) (by kernel_rfl) (by kernel_rfl) (fun _ _ _ h => h) (Or.inl ⟨by rfl, ?_⟩) (by assumption) ?_
          · intro W hSw
            first | rfl | (go_simp; done) | (go_simp; rfl)
          simp only [Act.put, List.setIfInBounds_toArray, List.set_cons_zero, List.set_cons_succ]
          refine wpAnyH_take (i := 11) (v := (.pointer (some ⟨b, o + 4 * e1, none⟩))) (List.getElem?_toArray.trans rfl) (by kernel_rfl) (by kernel_rfl) (by kernel_rfl) (fun _ _ _ h => h) (Or.inl ⟨by rfl, ?_⟩) (by assumption) ?_
          · intro W hSw
            first | rfl | (go_simp; done) | (go_simp; rfl)
          simp only [Act.put, List.setIfInBounds_toArray, List.set_cons_zero, List.set_cons_succ]
          refine wpAnyH_take (i := 12) (v := (.pointer (some ⟨b, o + 4 * e1 + 1, none⟩))) (List.getElem?_toArray.trans rfl) (by kernel_rfl) (by kernel_rfl) (by kernel_rfl) (fun _ _ _ h => h) (Or.inl ⟨by rfl, ?_⟩) (by assumption) ?_
          · intro W hSw
            first | rfl | (go_simp; done) | (go_simp; rfl)
          simp only [Act.put, List.setIfInBounds_toArray, List.set_cons_zero, List.set_cons_succ]
          refine wpAnyH_take (i := 13) (v := (.int .u64 (x.seq : Nat))) (List.getElem?_toArray.trans rfl) (by kernel_rfl) (by kernel_rfl) (by kernel_rfl) (fun _ _ _ h => h) (Or.inl ⟨by rfl, ?_⟩) (by assumption) ?_
          · intro W hSw
            obtain ⟨q0, q1, q2, q3⟩ := HXC.out W (kept_trans g3 hSw.k)
            first | (go_simp; done) | (go_simp; rfl)
          simp only [Act.put, List.setIfInBounds_toArray, List.set_cons_zero, List.set_cons_succ]
          refine wpAnyH_take (i := 16) (v := (.string OT)) (List.getElem?_toArray.trans rfl) (by kernel_rfl) (by kernel_rfl) (by kernel_rfl) (fun _ _ _ h => h) (Or.inl ⟨by rfl, ?_⟩) (by assumption) ?_
          · intro W hSw
            first | rfl | (go_simp; done) | (go_simp; rfl)
          simp only [Act.put, List.setIfInBounds_toArray, List.set_cons_zero, List.set_cons_succ]
          refine wpAnyH_take (i := 17) (v := (.int .i64 (OL : Nat))) (List.getElem?_toArray.trans rfl) (by kernel_rfl) (by kernel_rfl) (by kernel_rfl) (fun _ _ _ h => h) (Or.inl ⟨by rfl, ?_⟩) (by assumption) ?_
          · intro W hSw
            first | rfl | (go_simp; done) | (go_simp; rfl)
          simp only [Act.put, List.setIfInBounds_toArray, List.set_cons_zero, List.set_cons_succ]
          refine wpAnyH_take (i := 18) (v := (.int .u64 (OL : Nat))) (List.getElem?_toArray.trans rfl) (by kernel_rfl) (by kernel_rfl) (by kernel_rfl) (fun _ _ _ h => h) (Or.inl ⟨by rfl, ?_⟩) (by assumption) ?_
          · intro W hSw
            first | rfl | (go_simp; done) | (go_simp; rfl)
          simp only [Act.put, List.setIfInBounds_toArray, List.set_cons_zero, List.set_cons_succ]
          refine wpAnyH_take (i := 21) (v := (.string EN)) (List.getElem?_toArray.trans rfl) (by kernel_rfl) (by kernel_rfl) (by kernel_rfl) (fun _ _ _ h => h) (Or.inl ⟨by rfl, ?_⟩) (by assumption) ?_
          · intro W hSw
            first | rfl | (go_simp; done) | (go_simp; rfl)
          simp only [Act.put, List.setIfInBounds_toArray, List.set_cons_zero, List.set_cons_succ]
          refine wpAnyH_take (i := 22) (v := (.int .i64 (EL : Nat))) (List.getElem?_toArray.trans rfl) (by kernel_rfl) (by kernel_rfl) (by kernel_rfl) (fun _ _ _ h => h) (Or.inl ⟨by rfl, ?_⟩) (by assumption) ?_
          · intro W hSw
            first | rfl | (go_simp; done) | (go_simp; rfl)
          simp only [Act.put, List.setIfInBounds_toArray, List.set_cons_zero, List.set_cons_succ]
          refine wpAnyH_take (i := 23) (v := (.int .u64 (EL : Nat))) (List.getElem?_toArray.trans rfl) (by kernel_rfl) (by kernel_rfl) (by kernel_rfl) (fun _ _ _ h => h) (Or.inl ⟨by rfl, ?_⟩) (by assumption) ?_
          · intro W hSw
            first | rfl | (go_simp; done) | (go_simp; rfl)
          simp only [Act.put, List.setIfInBounds_toArray, List.set_cons_zero, List.set_cons_succ]
          refine wpAnyH_ready (rs := [7]) (by kernel_rfl) (by simp) ?_
          refine AllReadyH.cons (List.getElem?_toArray.trans rfl) (fun K hK => ?_) AllReadyH.nil
          go_simp
          refine (HT1.out _).mono ?_
          rintro e w22 ⟨rfl, g22⟩
          go_wp2_with fail
          refine hK.out _ _ ⟨kept_trans hHeld.k g22⟩ (fun hHeld => ?_)
          clear hK K
          refine wpAnyH_ready (rs := [14]) (by kernel_rfl) (by simp) ?_
          refine AllReadyH.cons (List.getElem?_toArray.trans rfl) (fun K hK => ?_) AllReadyH.nil
          go_simp
          refine (HT2.out _).mono ?_
          rintro e w23 ⟨rfl, g23⟩
          go_wp2_with fail
          refine hK.out _ _ ⟨kept_trans hHeld.k g23⟩ (fun hHeld => ?_)
          clear hK K
          refine wpAnyH_take (i := 15) (v := (.string U1)) (List.getElem?_toArray.trans rfl) (by kernel_rfl) (by kernel_rfl) (by kernel_rfl) (fun _ _ _ h => h) (Or.inl ⟨by rfl, ?_⟩) (by assumption) ?_
          · intro W hSw
            first | rfl | (go_simp; done) | (go_simp; rfl)
          simp only [Act.put, List.setIfInBounds_toArray, List.set_cons_zero, List.set_cons_succ]
          refine wpAnyH_ready (rs := [19]) (by kernel_rfl) (by simp) ?_
          refine AllReadyH.cons (List.getElem?_toArray.trans rfl) (fun K hK => ?_) AllReadyH.nil
          go_simp
          refine (HT3.out _).mono ?_
          rintro e w24 ⟨rfl, g24⟩
          go_wp2_with fail
          refine hK.out _ _ ⟨kept_trans hHeld.k g24⟩ (fun hHeld => ?_)
          clear hK K
          refine wpAnyH_take (i := 20) (v := (.string U2)) (List.getElem?_toArray.trans rfl) (by kernel_rfl) (by kernel_rfl) (by kernel_rfl) (fun _ _ _ h => h) (Or.inl ⟨by rfl, ?_⟩) (by assumption) ?_
          · intro W hSw
            first | rfl | (go_simp; done) | (go_simp; rfl)
          simp only [Act.put, List.setIfInBounds_toArray, List.set_cons_zero, List.set_cons_succ]
          refine wpAnyH_ready (rs := [24]) (by kernel_rfl) (by simp) ?_
          refine AllReadyH.cons (List.getElem?_toArray.trans rfl) (fun K hK => ?_) AllReadyH.nil
          go_simp
          refine (HT4.out _).mono ?_
          rintro e w25 ⟨rfl, g25⟩
          go_wp2_with fail
          refine hK.out _ _ ⟨kept_trans hHeld.k g25⟩ (fun hHeld => ?_)
          clear hK K
          refine wpAnyH_take (i := 25) (v := (.string U3)) (List.getElem?_toArray.trans rfl) (by kernel_rfl) (by kernel_rfl) (by kernel_rfl) (fun _ _ _ h => h) (Or.inl ⟨by rfl, ?_⟩) (by assumption) ?_
          · intro W hSw
            first | rfl | (go_simp; done) | (go_simp; rfl)
          simp only [Act.put, List.setIfInBounds_toArray, List.set_cons_zero, List.set_cons_succ]
          refine wpAnyH_take (i := 26) (v := (.string U4)) (List.getElem?_toArray.trans rfl) (by kernel_rfl) (by kernel_rfl) (by kernel_rfl) (fun _ _ _ h => h) (Or.inl ⟨by rfl, ?_⟩) (by assumption) ?_
          · intro W hSw
            first | rfl | (go_simp; done) | (go_simp; rfl)
          simp only [Act.put, List.setIfInBounds_toArray, List.set_cons_zero, List.set_cons_succ]
          refine wpAnyH_take (i := 27) (v := (.string U4)) (List.getElem?_toArray.trans rfl) (by kernel_rfl) (by kernel_rfl) (by kernel_rfl) (fun _ _ _ h => h) (Or.inl ⟨by rfl, ?_⟩) (by assumption) ?_
          · intro W hSw
            first | rfl | (go_simp; done) | (go_simp; rfl)
          simp only [Act.put, List.setIfInBounds_toArray]
          refine wpAnyH_done (by kernel_rfl) ?_ _
          go_wp2_with fail
          go_roundw
          case rel => exact ⟨k + 1, E8, by have := HK1.out; omega, Lib.hid (by have := HE8.out; have := HI8.out; omega), by rw [HO1.out], by rw [HX1.out], by rw [HKK1.out], rfl, Lib.hid (kept_trans (kept_trans HKr.out g3) hHeld.k)⟩
          case measure => have := HE8.out; have := HI8.out; simp [intOf]; omega
        · obtain rfl : k = K := by omega
          have hB : Bk.isB (Tb.bl l k) = false := HBAD.out (by have := HI8.out; have := HN.out; unfold Tb.nb; omega)
          have HENS := Lib.hid (Bk.enc_no hB)
          have HTN := Lib.hid (Tb.encS_no (Tb.isT_no_bl (l := l) (i := k) (by have := HI8.out; have := HN.out; unfold Tb.nb; omega) hB))
          rw [HENS.out.1, HENS.out.2] at HENK
          have HRS2 := Lib.hid (show RS = bs [] ∧ RC = 2 from ⟨by rw [HRS.out, HTN.out.1], by rw [HRC.out, HTN.out.2]⟩)
          obtain ⟨OT, hOT⟩ : ∃ OT, OT = bs (Tb.out l k) := ⟨_, rfl⟩
          obtain ⟨IX, hIX⟩ : ∃ IX, IX = bs (Tb.ix l k) := ⟨_, rfl⟩
          rw [← hOT, ← hIX]
          clear hE8 hB HENS HTN hkK hOT hIX hx hxl hbl hn8 hc8 he1 HPE
          go_wp2_with fail
          refine (HENK.out _ HKr.out).mono ?_
          rintro e w3 ⟨rfl, g3⟩
          go_wp2_with fail
          go_ret2
          exact ⟨by rw [HRS2.out.1, HRS2.out.2]; rfl, kept_trans HKr.out g3⟩
    · have hkK : k = K := by have := HI8.out; have := HN.out; have := HKNB.out; unfold Tb.nb at this; omega
      have hKK : k = Tb.nb l := by have := HI8.out; have := HN.out; have := HKNB.out; unfold Tb.nb at *; omega
      have hT : Tb.isT l = true := Tb.isT_all (by rw [← HN.out]; exact h1) (by rw [← HN.out]; exact h5) HROW.out (fun i hi => HG.out i (by omega))
      have HRS2 := Lib.hid (show RS = bs (Tb.enc l) ∧ RC = 0 from ⟨by rw [HRS.out, (Tb.encS_yes hT).1], by rw [HRC.out, (Tb.encS_yes hT).2]⟩)
      have zk := Tb.keys_len hT
      have zo := Tb.out_len hT (Tb.nb l) (Nat.le_refl _)
      have zi := Tb.idx_len hT
      have zf := Tb.fl_len hT
      have zn := Tb.nb_le hT
      have zx := Tb.ix_len hT (Tb.nb l) (Nat.le_refl _)
      have hs0 := rshort_any (k : Int) (by omega) (by omega)
      rw [Int.toNat_natCast] at hs0
      obtain ⟨T0, hT0⟩ : ∃ T, T = bs (Nm.short k) := ⟨_, rfl⟩
      rw [← hT0] at hs0
      obtain ⟨OT, hOT⟩ : ∃ OT, OT = bs (Tb.out l k) := ⟨_, rfl⟩
      obtain ⟨IX, hIX⟩ : ∃ IX, IX = bs (Tb.ix l k) := ⟨_, rfl⟩
      obtain ⟨FL, hFL⟩ : ∃ FL, FL = bs (Tb.fl l) := ⟨_, rfl⟩
      obtain ⟨ID, hID⟩ : ∃ ID, ID = T0 ++ IX := ⟨_, rfl⟩
      have hID2 : ID = bs (Tb.idx l) := by rw [hID, hT0, hIX, hKK]; exact fbs_app _ _
      obtain ⟨IL, hIL⟩ : ∃ IL, IL = (Tb.idx l).length := ⟨_, rfl⟩
      obtain ⟨GL, hGL⟩ : ∃ GL, GL = (Tb.fl l).length := ⟨_, rfl⟩
      have sID : ID.size = IL := by rw [hID2, hIL, fbs_size]
      have sFL : FL.size = GL := by rw [hFL, hGL, fbs_size]
      have sOT : OT.size ≤ 7000 * 63 := by rw [hOT, fbs_size, hKK]; omega
      have sT0 : T0.size ≤ 10 := by rw [hT0, fbs_size]; exact Tb.sz_ten _ (by omega)
      have sIX : IX.size ≤ 140 * 63 := by rw [hIX, fbs_size, hKK]; omega
      have hl1 := rlong_any (IL : Int) (by omega) (by omega)
      have hl2 := rlong_any (GL : Int) (by omega) (by omega)
      have hl3 := rlong_any (n : Int) (by omega) (by omega)
      rw [Int.toNat_natCast] at hl1 hl2 hl3
      obtain ⟨L1, hL1⟩ : ∃ T, T = bs (Nm.long IL) := ⟨_, rfl⟩
      obtain ⟨L2, hL2⟩ : ∃ T, T = bs (Nm.long GL) := ⟨_, rfl⟩
      obtain ⟨L3, hL3⟩ : ∃ T, T = bs (Nm.long n) := ⟨_, rfl⟩
      rw [← hL1] at hl1; rw [← hL2] at hl2; rw [← hL3] at hl3
      have s1 : L1.size = 8 := by rw [hL1, fbs_size, Tb.long_len]
      have s2 : L2.size = 8 := by rw [hL2, fbs_size, Tb.long_len]
      have s3 : L3.size = 8 := by rw [hL3, fbs_size, Tb.long_len]
      have HS0 := Lib.hid hs0; have HL1 := Lib.hid hl1; have HL2 := Lib.hid hl2; have HL3 := Lib.hid hl3
      have w0 : IntKind.u64.wrap (k : Int) = (k : Int) := by rw [IntKind.wrap_u64]; omega
      have wIL : IntKind.u64.wrap (IL : Int) = (IL : Int) := by rw [IntKind.wrap_u64]; omega
      have wGL : IntKind.u64.wrap (GL : Int) = (GL : Int) := by rw [IntKind.wrap_u64]; omega
      have wnn : IntKind.u64.wrap (n : Int) = (n : Int) := by rw [IntKind.wrap_u64]; omega
      obtain ⟨U1, hU1⟩ : ∃ U, U = OT ++ ID := ⟨_, rfl⟩
      have y1 : U1.size = OT.size + ID.size := by rw [hU1, ByteArray.size_append]
      obtain ⟨U2, hU2⟩ : ∃ U, U = U1 ++ FL := ⟨_, rfl⟩
      have y2 : U2.size = U1.size + FL.size := by rw [hU2, ByteArray.size_append]
      obtain ⟨U3, hU3⟩ : ∃ U, U = U2 ++ L1 := ⟨_, rfl⟩
      have y3 : U3.size = U2.size + L1.size := by rw [hU3, ByteArray.size_append]
      obtain ⟨U4, hU4⟩ : ∃ U, U = U3 ++ L2 := ⟨_, rfl⟩
      have y4 : U4.size = U3.size + L2.size := by rw [hU4, ByteArray.size_append]
      obtain ⟨U5, hU5⟩ : ∃ U, U = U4 ++ L3 := ⟨_, rfl⟩
      have y5 : U5.size = U4.size + L3.size := by rw [hU5, ByteArray.size_append]
      obtain ⟨U6, hU6⟩ : ∃ U, U = U5 ++ (⟨#[115, 99, 114, 101, 101, 48, 48, 49]⟩ : ByteArray) := ⟨_, rfl⟩
      have zm : (⟨#[115, 99, 114, 101, 101, 48, 48, 49]⟩ : ByteArray).size = 8 := rfl
      have r0 : ∀ W, (Op.stringOp .add T0 IX).run Try.prog W = .ok (.string ID) W := fun W => by rw [hID]; exact run_string_add_sum W _ _ (by omega)
      have r1 : ∀ W, (Op.stringOp .add OT ID).run Try.prog W = .ok (.string U1) W := fun W => by rw [hU1]; exact run_string_add_sum W _ _ (by omega)
      have r2 : ∀ W, (Op.stringOp .add U1 FL).run Try.prog W = .ok (.string U2) W := fun W => by rw [hU2]; exact run_string_add_sum W _ _ (by omega)
      have r3 : ∀ W, (Op.stringOp .add U2 L1).run Try.prog W = .ok (.string U3) W := fun W => by rw [hU3]; exact run_string_add_sum W _ _ (by omega)
      have r4 : ∀ W, (Op.stringOp .add U3 L2).run Try.prog W = .ok (.string U4) W := fun W => by rw [hU4]; exact run_string_add_sum W _ _ (by omega)
      have r5 : ∀ W, (Op.stringOp .add U4 L3).run Try.prog W = .ok (.string U5) W := fun W => by rw [hU5]; exact run_string_add_sum W _ _ (by omega)
      have r6 : ∀ W, (Op.stringOp .add U5 (⟨#[115, 99, 114, 101, 101, 48, 48, 49]⟩ : ByteArray)).run Try.prog W = .ok (.string U6) W := fun W => by rw [hU6]; exact run_string_add_sum W _ _ (by omega)
      have HEND := Lib.hid (show U6 = bs (Tb.enc l) by rw [hU6, hU5, hU4, hU3, hU2, hU1, hID2, hOT, hFL, hL1, hL2, hL3, hKK, hIL, hGL, HN.out]; exact bs_of (by simp [Tb.enc, Tb.foot, Tb.magic, bs, ByteArray.data_append]))
      have HMK := Lib.hid (fun (W : World) (B : Option Addr) (c' : Nat) (q : Txs W B (Tb.keys l)) => (by have := rbmmake_any B c' (Tb.keys l) (by unfold maxLen; omega) (rkeys_max hT) W q; rw [show Bm.makeS (Tb.keys l) = Tb.fl l from if_pos (by omega), show Bm.makeE (Tb.keys l) = 0 from if_pos (by omega), ← hFL] at this; exact this : Calls Try.prog 39 #[.slice B (Tb.keys l).length c'] W fun e w' => e = .returned (.tuple #[.string FL, .int .i64 0]) ∧ Kept W w'))
      rw [← hOT, ← hIX]
      clear hT0 hOT hIX hFL hID hID2 hIL hGL hL1 hL2 hL3 hU1 hU2 hU3 hU4 hU5 hU6 y1 y2 y3 y4 y5 hT hKK hkK zo zi zf zn zx hs0 hl1 hl2 hl3
      go_wp2_with fail
      refine (HS0.out _).mono ?_
      rintro e w2 ⟨rfl, g2⟩
      have G2 := Lib.hid (kept_trans HKr.out g2)
      go_wp2_with fail
      refine (HKEYS.out _ G2.out).mono ?_
      rintro e w5 ⟨B, c', rfl, ht, g5⟩
      have HMK2 := Lib.hid (HMK.out w5 B c' ht)
      clear ht HMK
      go_wp2_with fail
      refine HMK2.out.mono ?_
      rintro e w6 ⟨rfl, g6⟩
      have G6 := Lib.hid (kept_trans G2.out (kept_trans g5 g6))
      clear g5 g6 g2 HMK2
      go_wp2_with fail
      refine (HL1.out _).mono ?_
      rintro e w7 ⟨rfl, g7⟩
      go_wp2_with fail
      refine (HL2.out _).mono ?_
      rintro e w8 ⟨rfl, g8⟩
      go_wp2_with fail
      refine (HL3.out _).mono ?_
      rintro e w9 ⟨rfl, g9⟩
      go_wp2_with fail
      go_ret2
      exact ⟨by rw [HRS2.out.1, HRS2.out.2, HEND.out]; rfl, kept_trans G6.out (kept_trans g7 (kept_trans g8 g9))⟩
theorem rtbuild_any {w : World} {A : Option Addr} {l : List Mm.Ent} (c : Nat) (h : Els w A l) (hl : l.length ≤ c) (hcm : c ≤ maxLen) (ho : OkEl l) :
    Calls Try.prog 10 #[.slice A l.length c] w fun e w' => e = .returned (.tuple #[.string (bs (Tb.encS l)), .int .i64 (Tb.encC l)]) ∧ Kept w w' := by
  have hcm' := hcm
  unfold maxLen at hcm'
  by_cases hb : l.length < 1 ∨ 500 < l.length
  · have hT : Tb.isT l = false := by
      cases ht : Tb.isT l with
      | false => rfl
      | true => obtain ⟨q1, q2, _⟩ := Tb.isT_iff.1 ht; omega
    rw [(Tb.encS_no hT).1, (Tb.encS_no hT).2]
    clear h ho hT
    generalize l.length = L at *
    by_cases h1 : L < 1
    · have d1 : decide ((L : Int) < 1) = true := decide_eq_true (by omega)
      go_enter Try.func10, Try.ntmps10
      go_wp2_with fail
      go_ret2
      exact ⟨rfl, Kept.refl _⟩
    · have d1 : decide ((L : Int) < 1) = false := decide_eq_false (by omega)
      have d2 : decide ((500 : Int) < (L : Int)) = true := decide_eq_true (by omega)
      go_enter Try.func10, Try.ntmps10
      go_wp2_with fail
      go_ret2
      exact ⟨rfl, Kept.refl _⟩
  · obtain ⟨b, o, rfl⟩ : ∃ b o, A = some ⟨b, o, none⟩ := by
      obtain ⟨b, o, e, _⟩ := h 0 _ (List.getElem?_eq_getElem (by omega))
      exact ⟨b, o, e⟩
    cases hr : Mg.row l with
    | true => exact rtbuild_row c h (by omega) (by omega) hl hcm ho hr
    | false =>
      have hT : Tb.isT l = false := by
        cases ht : Tb.isT l with
        | false => rfl
        | true => obtain ⟨_, _, _, q⟩ := Tb.isT_iff.1 ht; rw [hr] at q; cases q
      rw [(Tb.encS_no hT).1, (Tb.encS_no hT).2]
      have hrw := krrow_any c h (by omega)
      rw [hr] at hrw
      have d1 : decide ((l.length : Int) < 1) = false := decide_eq_false (by omega)
      have d2 : decide ((500 : Int) < (l.length : Int)) = false := decide_eq_false (by omega)
      have HRW := Lib.hid hrw
      generalize l.length = L at *
      clear h ho hT hr hrw
      go_enter Try.func10, Try.ntmps10
      go_wp2_with fail
      refine HRW.out.mono ?_
      rintro e w1 ⟨rfl, g1⟩
      go_wp2_with fail
      go_ret2
      exact ⟨rfl, g1⟩
end Go.Proofs.Ytecjnebfhbdnaaa
