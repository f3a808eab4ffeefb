/-
  What the document's own Encode, Entries, taken and Decode of layer 5 (package screeref05) tell, whatever the input: the same as the program's.
-/
import Derived.Test.YtalcmiaohclnjaaBatchRef
import Derived.Test.YtalcmiaohclnjaaBatchLawBack
import Derived.Deep.AppendLies
namespace Go.Proofs.Ytalcmiaohclnjaa
open Go.ChangeShapes Go.WideShapes Go.ChangeAt Go.RowKit
set_option linter.unusedVariables false
set_option maxHeartbeats 1000000

theorem rencode_form (n : Int) (A : Option Addr) (c : Nat) (l : List Bt.Op) (hl : l.length ≤ maxLen) (hs : Sane l) (hm : Bt.may l = false) (w : World) (hA : Ops w A l) :
    Calls Try.prog 13 #[.int .u64 n, .slice A l.length c] w fun e w' => e = .returned (.tuple #[.string (bs []), .int .i64 2]) ∧ Kept w w' := by
  have hcm := rbmay_any A c l hl hs w hA
  rw [hm] at hcm
  unfold maxLen at hl
  clear hm
  go_enter Try.func13, Try.ntmps13
  go_wp2_with fail
  refine hcm.mono ?_
  rintro e w1 ⟨rfl, g1⟩
  go_wp2_with fail
  go_ret2
  exact ⟨rfl, g1⟩
theorem rencode_range (n : Int) (A : Option Addr) (c : Nat) (l : List Bt.Op) (h1 : 0 ≤ n) (h2 : n ≤ 18446744073709551615) (hs : Sane l) (hm : Bt.may l = true) (hn : Bt.nums n.toNat l.length = false) (w : World) (hA : Ops w A l) :
    Calls Try.prog 13 #[.int .u64 n, .slice A l.length c] w fun e w' => e = .returned (.tuple #[.string (bs []), .int .i64 3]) ∧ Kept w w' := by
  obtain ⟨_, h16, _⟩ := Bt.may_iff.1 hm
  have hcm := rbmay_any A c l (by unfold maxLen; omega) hs w hA
  rw [hm] at hcm
  rw [Bool.eq_false_iff, ne_eq, Bt.nums_iff] at hn
  by_cases hz : n < 1
  · have d1 : decide (n < 1) = true := by simp; omega
    clear hm hn
    go_enter Try.func13, Try.ntmps13
    go_wp2_with fail
    refine hcm.mono ?_
    rintro e w1 ⟨rfl, g1⟩
    go_wp2_with fail
    go_ret2
    exact ⟨rfl, g1⟩
  · have d1 : decide (n < 1) = false := by simp; omega
    have d2 : 1099511627777 - (l.length : Int) < n := by omega
    clear hm hn
    go_enter Try.func13, Try.ntmps13
    go_wp2_with fail
    refine hcm.mono ?_
    rintro e w1 ⟨rfl, g1⟩
    go_wp2_with fail
    go_ret2
    exact ⟨rfl, g1⟩
theorem rencode_any (n : Int) (A : Option Addr) (c : Nat) (l : List Bt.Op) (h1 : 0 ≤ n) (h2 : n ≤ 18446744073709551615) (hl : l.length ≤ maxLen) (hs : Sane l) (w : World) (hA : Ops w A l) :
    Calls Try.prog 13 #[.int .u64 n, .slice A l.length c] w fun e w' => e = .returned (.tuple #[.string (bs (Bt.encS n.toNat l)), .int .i64 (Bt.encE n.toNat l)]) ∧ Kept w w' := by
  cases hm : Bt.may l with
  | false =>
    have e1 : Bt.encS n.toNat l = [] := by unfold Bt.encS Bt.ok; rw [hm]; rfl
    have e2 : Bt.encE n.toNat l = 2 := by unfold Bt.encE; rw [hm]; rfl
    rw [e1, e2]
    exact rencode_form n A c l hl hs hm w hA
  | true =>
    cases hn : Bt.nums n.toNat l.length with
    | false =>
      have e1 : Bt.encS n.toNat l = [] := by unfold Bt.encS Bt.ok; rw [hm, hn]; rfl
      have e2 : Bt.encE n.toNat l = 3 := by unfold Bt.encE; rw [hm, hn]; rfl
      rw [e1, e2]
      exact rencode_range n A c l h1 h2 hs hm hn w hA
    | true =>
      have ho := Bt.ok_iff.2 ⟨hm, hn⟩
      rw [(Bt.enc_yes ho).1, (Bt.enc_yes ho).2]
      exact rencode_ok n A c l h1 h2 ho w hA
theorem own_ent0 (w : World) : (w.alloc (.cells #[] 32)).ownsRow w.heap.size 32 4 (.slice (some ⟨w.heap.size, 0, none⟩) 0 0) 0 [] :=
  World.ownsRow_lit (base := w.heap.size) (e := 32) (size := 4) w #[] 0 (Nat.le_refl _) (by unfold maxLen; omega) rfl
theorem own_op0 (w : World) : (w.alloc (.cells #[] 34)).ownsRow w.heap.size 34 3 (.slice (some ⟨w.heap.size, 0, none⟩) 0 0) 0 [] :=
  World.ownsRow_lit (base := w.heap.size) (e := 34) (size := 3) w #[] 0 (Nat.le_refl _) (by unfold maxLen; omega) rfl
theorem rentries_any (n : Int) (A : Option Addr) (c : Nat) (l : List Bt.Op) (h1 : 0 ≤ n) (h2 : n ≤ 18446744073709551615) (hl : l.length ≤ 1000) (w : World) (hA : Ops w A l) :
    Calls Try.prog 15 #[.int .u64 n, .slice A l.length c] w fun e w' => ∃ B c', e = .returned (.slice B l.length c') ∧ Ents w' B n.toNat l ∧ Kept w w' := by
  obtain ⟨i0, hi, hz0, hz1, hz2⟩ := info_parts entInfo
  have HI := Lib.hid hi; have HZ0 := Lib.hid hz0; have HZ1 := Lib.hid hz1; have HZ2 := Lib.hid hz2
  have hst0 : n = ((md (n.toNat + 0) : Nat) : Int) := by unfold md; omega
  have HN0 := Lib.hid hst0
  have hwr : ∀ k, IntKind.u64.wrap (((md (n.toNat + k) : Nat) : Int) + 1) = ((md (n.toNat + (k + 1)) : Nat) : Int) := fun k => by rw [IntKind.wrap_u64]; unfold md; omega
  have HW := Lib.hid hwr
  clear hi hz0 hz1 hz2 hst0 hwr
  go_enter Try.func15, Try.ntmps15
  go_wp2_with fail
  go_loopw [0, 5, 6] (fun s v t wr => ∃ (k : Nat), k ≤ l.length ∧ t = .int .i64 k ∧ s = .int .u64 (md (n.toNat + k) : Nat) ∧ wr.ownsRow w.heap.size 32 4 v k (entc n.toNat (l.take k)) ∧ Kept w wr) (fun _ _ t _ => l.length - (intOf t).toNat)
  case atStart => exact ⟨0, Nat.zero_le _, rfl, by rw [← HN0.out], own_ent0 w, (Kept.refl _).alloc _⟩
  case round =>
    obtain ⟨k, hk, rfl, rfl, hown, hkr⟩ := hrel
    have hbase : w.heap.size ≤ wr.heap.size := Below.size hkr
    by_cases hlt : k < l.length
    · obtain ⟨x, hx⟩ : ∃ x, l[k]? = some x := ⟨_, List.getElem?_eq_getElem hlt⟩
      obtain ⟨b, o, rfl, hb, c0, c1, c2⟩ := hA k x hx
      have hkeep : ∀ W, Kept w W → W.cell? ⟨b, o + k * 3, none⟩ = some (.bool x.del) ∧ W.cell? ⟨b, o + k * 3 + 1, none⟩ = some (.string (bs x.key)) ∧ W.cell? ⟨b, o + k * 3 + 2, none⟩ = some (.string (bs x.val)) := fun W hW =>
        ⟨by rw [kept_cell hW hb]; exact c0, by rw [kept_cell hW hb]; exact c1, by rw [kept_cell hW hb]; exact c2⟩
      have hst : entc n.toNat (l.take (k + 1)) = entc n.toNat (l.take k) ++ ent (n.toNat + k) x := by
        rw [ballsnoc hx, entc_snoc, List.length_take, Nat.min_eq_left (by omega)]
      have HST := Lib.hid hst
      have hwk := HW.out k
      have hmd := md_le (n.toNat + k)
      unfold ent at HST
      have HK := Lib.hid hkeep
      have k0 := hkeep _ hkr
      obtain ⟨p0, p1, p2⟩ := k0
      clear hst hx hkeep c0 c1 c2
      generalize md (n.toNat + k) = M at *
      have hown2 : ((wr.alloc (.cells #[.string (bs x.key), .int .u64 (M : Nat), .bool x.del, .string (bs x.val)] 32)).drew).ownsRow w.heap.size 32 4 u5 k (entc n.toNat (l.take k)) := hown.alloc _
      have hnew : ∀ j u, [Value.string (bs x.key), .int .u64 (M : Nat), .bool x.del, .string (bs x.val)][j]? = some u → ((wr.alloc (.cells #[.string (bs x.key), .int .u64 (M : Nat), .bool x.del, .string (bs x.val)] 32)).drew).cell? ((⟨wr.heap.size, 0, none⟩ : Addr).add j) = some u := cells_new4 wr _ _ _ _ _ _ rfl
      have hbs : w.heap.size ≤ ((wr.alloc (.cells #[.string (bs x.key), .int .u64 (M : Nat), .bool x.del, .string (bs x.val)] 32)).drew).heap.size := by simp; omega
      have HOWN := Lib.hid hown2; have HNEW := Lib.hid hnew; have HBS := Lib.hid hbs
      have HROW := Lib.hid (fun b hb => (hown.lt b hb).1)
      clear hown2 hnew hbs hown
      go_wp2_with fail
      go_region_held3 (fun w' => w'.cell? ⟨b, o + k * 3, none⟩ = some (.bool x.del) ∧ w'.cell? ⟨b, o + k * 3 + 1, none⟩ = some (.string (bs x.key)) ∧ w'.cell? ⟨b, o + k * 3 + 2, none⟩ = some (.string (bs x.val)))
        (first | exact HK.out _ (by assumption) | exact HK.out _ (kept_trans hkr (kept_of_drew (Kept.refl _))) | exact HK.out _ (kept_trans hkr ((kept_of_drew (Kept.refl _)).alloc _)))
        (first
          | (refine step_append_lies _ rfl _ _ 29 rfl w.heap.size 32 i0 zent 4 48 Try.underlying29 HI.out HZ0.out HZ1.out HZ2.out rfl (by decide) u5 k (entc n.toNat (l.take k)) rfl HOWN.out ⟨wr.heap.size, 0, none⟩ 1 1 [.string (bs x.key), .int .u64 (M : Nat), .bool x.del, .string (bs x.val)] rfl rfl HNEW.out (by simp [Value.oneCell']) (by decide) (by unfold maxLen; omega) (by omega) HBS.out _ rfl ?_; intro g cap w2 hown3 hg hat hlt2; have g2 : Kept w w2 := Below.grown (kept_trans hkr ((kept_of_drew (Kept.refl wr.drew)).alloc _)) hg HBS.out HROW.out))
      all_goals
        rw [← HST.out] at hown3
        clear HK HOWN HNEW HBS HROW hg hat p0 p1 p2
        go_wp2_with fail
        go_roundw
        case rel => exact ⟨k + 1, by omega, by go_num, rfl, hown3, g2⟩
        case measure => simp [intOf]; omega
    · have e : k = l.length := by omega
      subst e
      rw [List.take_length] at hown
      go_wp2_with fail
      obtain ⟨B, c', rfl, _, ht⟩ := ents_own hown
      go_ret
      exact ⟨B, c', rfl, ht, hkr⟩
theorem brtake_some {R : List UInt8} (hs : R.length ≤ 16777216) {n : Nat} {b : List UInt8} (h : Nm.take R = some (n, b)) (w : World) :
    Calls Try.prog 32 #[.string (bs R)] w fun e w' => e = .returned (.tuple #[.int .u64 n, .string (bs b), .bool true]) ∧ Kept w w' := by
  have := rtake_any (bs R) (by rw [fbs_size]; unfold maxLen; omega) w
  unfold Nm.takeN Nm.takeR Nm.takeB at this
  rw [bs_data, h] at this
  exact this
theorem brtake_none {R : List UInt8} (hs : R.length ≤ 16777216) (h : Nm.take R = none) (w : World) :
    Calls Try.prog 32 #[.string (bs R)] w fun e w' => e = .returned (.tuple #[.int .u64 0, .string (bs []), .bool false]) ∧ Kept w w' := by
  have := rtake_any (bs R) (by rw [fbs_size]; unfold maxLen; omega) w
  unfold Nm.takeN Nm.takeR Nm.takeB at this
  rw [bs_data, h] at this
  exact this
theorem rtaken_some {R t r : List UInt8} (h : Bt.takeT R = some (t, r)) (hl : R.length ≤ 16777216) (W : World) :
    Calls Try.prog 33 #[.string (bs R)] W fun e w' => e = .returned (.tuple #[.string (bs t), .string (bs r), .bool true]) ∧ Kept W w' := by
  obtain ⟨n, q, hq, hle, rfl, rfl⟩ : ∃ n q, Nm.take R = some (n, q) ∧ n ≤ q.length ∧ t = q.take n ∧ r = q.drop n := by
    unfold Bt.takeT at h
    split at h
    · cases h
    · rename_i n q hq
      split at h
      · injection h with h
        injection h with h1 h2
        exact ⟨n, q, hq, by assumption, h1.symm, h2.symm⟩
      · cases h
  have hql : q.length ≤ 16777216 := by
    have e := congrArg List.length (Nm.take_back _ _ _ hq).1
    rw [List.length_append] at e; omega
  have hz := fbs_size q
  have z1 : (bs q).size ≤ 16777216 := by omega
  have z2 : n ≤ (bs q).size := by omega
  have d1 : decide (((bs q).size : Int) < (n : Int)) = false := by simp; omega
  have hc := brtake_some hl hq
  have hx : (bs q).extract 0 n = bs (q.take n) := extract_take q n
  have hy : (bs q).extract n (bs q).size = bs (q.drop n) := extract_drop q n
  have q1 : IntKind.i64.wrap (n : Int) = (n : Int) := by rw [IntKind.wrap_i64]; omega
  have HX := Lib.hid hx; have HY := Lib.hid hy
  clear h hq hx hy hz
  go_enter Try.func33, Try.ntmps33
  go_wp2_with fail
  refine (hc _).mono ?_
  rintro e w1 ⟨rfl, g1⟩
  go_wp2_with fail
  go_quiet (fail)
  go_wp2_with fail
  go_ret3
  refine ⟨?_, kept_trans g1 (kept_drewN _ _)⟩
  rw [← HX.out, ← HY.out]
  rfl
theorem rtaken_none {R : List UInt8} (h : Bt.takeT R = none) (hl : R.length ≤ 16777216) (W : World) :
    Calls Try.prog 33 #[.string (bs R)] W fun e w' => e = .returned (.tuple #[.string (bs []), .string (bs []), .bool false]) ∧ Kept W w' := by
  cases hq : Nm.take R with
  | none =>
    have hc := brtake_none hl hq
    clear h hq
    go_enter Try.func33, Try.ntmps33
    go_wp2_with fail
    refine (hc _).mono ?_
    rintro e w1 ⟨rfl, g1⟩
    go_wp2_with fail
    go_ret3
    exact ⟨rfl, g1⟩
  | some x =>
    obtain ⟨n, q⟩ := x
    have hlt : q.length < n := by
      unfold Bt.takeT at h
      rw [hq] at h
      simp only at h
      split at h
      · cases h
      · omega
    have hb := (Nm.take_back _ _ _ hq).2
    have hql : q.length ≤ 16777216 := by
      have e := congrArg List.length (Nm.take_back _ _ _ hq).1
      rw [List.length_append] at e; omega
    have hz := fbs_size q
    have z1 : (bs q).size ≤ 16777216 := by omega
    have d1 : decide (((bs q).size : Int) < (n : Int)) = true := by simp; omega
    have hc := brtake_some hl hq
    clear h hq hz
    go_enter Try.func33, Try.ntmps33
    go_wp2_with fail
    refine (hc _).mono ?_
    rintro e w1 ⟨rfl, g1⟩
    go_wp2_with fail
    go_ret3
    exact ⟨rfl, g1⟩
end Go.Proofs.Ytalcmiaohclnjaa
