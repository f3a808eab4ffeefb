/-
  Package block over memory: what two texts share, may an entry be, is a row one of which a block is made, an entry's bytes, how many entries bytes say.
-/
import Derived.Test.YtecjnebfhbdnaaaPackMath
import Derived.Test.YtecjnebfhbdnaaaPackFrame
import Derived.Test.YtecjnebfhbdnaaaMergeFns
namespace Go.Proofs.Ytecjnebfhbdnaaa
open Go.ChangeShapes Go.WideShapes Go.ChangeAt Go.RowKit
set_option linter.unusedVariables false
set_option maxRecDepth 100000
set_option maxHeartbeats 1000000

theorem bkmay_any (x : Mm.Ent) (hk : x.key.length ≤ maxLen) (hv : x.val.length ≤ maxLen) (w : World) :
    Calls Try.prog 81 #[entV x] w fun e w' => e = .returned (.bool (Mm.may x)) ∧ Kept w w' := by
  obtain ⟨k, s, d, v⟩ := x
  unfold maxLen at hk hv
  have e1 := mbs_size k
  have e2 := mbs_size v
  have hn := mval_nil v
  simp only at hk hv
  unfold entV
  by_cases h1 : k.length < 1
  · rw [mmay_no (fun c => by have := c.1; simp only at this; omega)]
    have d1 : decide (((bs k).size : Int) < 1) = true := by rw [e1]; simp; omega
    clear e1 e2 hn
    go_enter Try.func81, Try.ntmps81
    go_wp2_with fail
    go_ret
    exact ⟨rfl, (Kept.refl _).alloc _⟩
  · have d1 : decide (((bs k).size : Int) < 1) = false := by rw [e1]; simp; omega
    by_cases h2 : 100 < k.length
    · rw [mmay_no (fun c => by have := c.2.1; simp only at this; omega)]
      have d2 : decide ((100 : Int) < ((bs k).size : Int)) = true := by rw [e1]; simp; omega
      clear e1 e2 hn
      go_enter Try.func81, Try.ntmps81
      go_wp2_with fail
      go_ret
      exact ⟨rfl, (Kept.refl _).alloc _⟩
    · have d2 : decide ((100 : Int) < ((bs k).size : Int)) = false := by rw [e1]; simp; omega
      by_cases h3 : 100 < v.length
      · rw [mmay_no (fun c => by have := c.2.2.1; simp only at this; omega)]
        have d3 : decide ((100 : Int) < ((bs v).size : Int)) = true := by rw [e2]; simp; omega
        clear e1 e2 hn
        go_enter Try.func81, Try.ntmps81
        go_wp2_with fail
        go_ret
        exact ⟨rfl, (Kept.refl _).alloc _⟩
      · have d3 : decide ((100 : Int) < ((bs v).size : Int)) = false := by rw [e2]; simp; omega
        by_cases h4 : d = true ∧ v ≠ []
        · rw [mmay_no (fun c => by have := c.2.2.2.1; simp only at this; exact h4.2 (this h4.1))]
          obtain ⟨rfl, hv0⟩ := h4
          rw [decide_eq_false hv0] at hn
          clear e1 e2
          go_enter Try.func81, Try.ntmps81
          go_wp2_with fail
          go_ret
          exact ⟨rfl, (Kept.refl _).alloc _⟩
        · have hr : Mm.may ⟨k, s, d, v⟩ = (decide ((1 : Int) ≤ (s : Int)) && decide ((s : Int) ≤ 1099511627776)) := by
            rw [Bool.eq_iff_iff, Mm.may_iff, Bool.and_eq_true, decide_eq_true_iff, decide_eq_true_iff]
            simp only
            constructor
            · rintro ⟨_, _, _, _, a, b⟩; omega
            · rintro ⟨a, b⟩
              exact ⟨by omega, by omega, by omega, fun hd => Classical.byContradiction fun hv0 => h4 ⟨hd, hv0⟩, by omega, by omega⟩
          rw [hr]
          have h5 : d = false ∨ (d = true ∧ (bs v).toList.isEmpty = true) := by
            cases d with
            | false => exact .inl rfl
            | true => exact .inr ⟨rfl, by rw [hn]; exact decide_eq_true (Classical.byContradiction fun hv0 => h4 ⟨rfl, hv0⟩)⟩
          clear e1 e2 hn hr h4
          by_cases h6 : 1 ≤ s
          · have d6 : decide ((1 : Int) ≤ (s : Int)) = true := by simp; omega
            rw [d6]
            rcases h5 with rfl | ⟨rfl, h5⟩
            · go_enter Try.func81, Try.ntmps81
              go_wp2_with fail
              go_ret
              exact ⟨ret_bool (by simp), (Kept.refl _).alloc _⟩
            · go_enter Try.func81, Try.ntmps81
              go_wp2_with fail
              go_ret
              exact ⟨ret_bool (by simp), (Kept.refl _).alloc _⟩
          · have d6 : decide ((1 : Int) ≤ (s : Int)) = false := by simp; omega
            rw [d6]
            rcases h5 with rfl | ⟨rfl, h5⟩
            · go_enter Try.func81, Try.ntmps81
              go_wp2_with fail
              go_ret
              exact ⟨ret_bool (by simp), (Kept.refl _).alloc _⟩
            · go_enter Try.func81, Try.ntmps81
              go_wp2_with fail
              go_ret
              exact ⟨ret_bool (by simp), (Kept.refl _).alloc _⟩


theorem drew_more {w wr : World} (h : ∃ q, wr = w.drewN q) (n : Nat) : ∃ q, wr.drewN n = w.drewN q := by
  obtain ⟨q, rfl⟩ := h
  exact ⟨q + n, by simp [World.drewN, Nat.add_assoc]⟩
theorem kshared_q (a b : List UInt8) (ha : a.length ≤ maxLen) (hb : b.length ≤ maxLen) (w : World) :
    Calls Try.prog 59 #[.string (bs a), .string (bs b)] w fun e w' => e = .returned (.int .i64 (Bk.sh a b : Nat)) ∧ ∃ q, w' = w.drewN q := by
  have e1 := fbs_size a
  have e2 := fbs_size b
  unfold maxLen at ha hb
  have z1 : (bs a).size ≤ 9223372036854775807 := by omega
  have z2 : (bs b).size ≤ 9223372036854775807 := by omega
  obtain ⟨M, hM⟩ : ∃ M : Nat, M = min a.length b.length := ⟨_, rfl⟩
  have hm : min ((bs a).size : Int) ((bs b).size : Int) = (M : Int) := by rw [e1, e2]; omega
  have hMa : M ≤ (bs a).size := by omega
  have hMb : M ≤ (bs b).size := by omega
  have hMl : M ≤ 9223372036854775807 := by omega
  have ha2 : M ≤ a.length := by omega
  have hb2 : M ≤ b.length := by omega
  have HM := Lib.hid hM
  clear hM e1 e2
  go_enter Try.func59, Try.ntmps59
  go_wp2_with fail
  go_loopw [13] (fun t wr => ∃ k : Nat, k ≤ M ∧ t = .int .i64 k ∧ Hid (∀ j, j < k → a[j]? = b[j]?) ∧ Hid (∃ q, wr = w.drewN q)) (fun t _ => M - (intOf t).toNat)
  case atStart => exact ⟨0, Nat.zero_le _, rfl, Lib.hid (fun j hj => absurd hj (by omega)), Lib.hid ⟨0, rfl⟩⟩
  case round =>
    obtain ⟨k, hk, rfl, HE, hkr⟩ := hrel
    by_cases hlt : k < M
    · have hka : k < (bs a).size := by omega
      have hkb : k < (bs b).size := by omega
      have hq1 : a[k]? = some (bs a)[k] := List.getElem?_eq_getElem (show k < a.length by omega)
      have hq2 : b[k]? = some (bs b)[k] := List.getElem?_eq_getElem (show k < b.length by omega)
      have HQ1 := Lib.hid hq1; have HQ2 := Lib.hid hq2
      clear hq1 hq2 hm
      have d0 : decide ((k : Int) < (M : Int)) = true := decide_eq_true (by omega)
      by_cases he : (bs a)[k] = (bs b)[k]
      · have HN := Lib.hid (show ∀ j, j < k + 1 → a[j]? = b[j]? from fun j hj => by
          by_cases e : j = k
          · subst e; rw [HQ1.out, HQ2.out, he]
          · exact HE.out j (by omega))
        have d1 : (((bs a)[k].toNat : Int) != ((bs b)[k].toNat : Int)) = false := by rw [he]; simp
        have HEE := Lib.hid he
        clear he
        go_wp2_with fail
        go_quiet (fail)
        go_wp2_with fail
        go_roundw
        case rel => exact ⟨k + 1, by omega, by go_num, HN, Lib.hid (drew_more hkr.out _)⟩
        case measure => simp [intOf]; omega
      · have hs : Bk.sh a b = k := Bk.sh_at HE.out (by omega) (by omega) (.inr (.inr (fun q => he (by rw [HQ1.out, HQ2.out] at q; injection q))))
        have HS := Lib.hid hs
        have d1 : (((bs a)[k].toNat : Int) != ((bs b)[k].toNat : Int)) = true := by
          rw [bne_iff_ne]; intro q; exact he (UInt8.toNat_inj.1 (by omega))
        clear hs he
        go_wp2_with fail
        go_quiet (fail)
        go_wp2_with fail
        go_ret
        exact ⟨ret_int (by rw [HS.out]), drew_more hkr.out _⟩
    · have e : k = M := by omega
      subst e
      have HS := Lib.hid (show Bk.sh a b = k from Bk.sh_at HE.out ha2 hb2 (by have := HM.out; omega))
      clear hm
      go_wp2_with fail
      go_ret
      exact ⟨ret_int (by rw [HS.out]), hkr.out⟩
theorem kshared_any (a b : List UInt8) (ha : a.length ≤ maxLen) (hb : b.length ≤ maxLen) (w : World) :
    Calls Try.prog 59 #[.string (bs a), .string (bs b)] w fun e w' => e = .returned (.int .i64 (Bk.sh a b : Nat)) ∧ Kept w w' :=
  (kshared_q a b ha hb w).mono fun e w' ⟨h, q, hq⟩ => ⟨h, by rw [hq]; exact kept_drewN w q⟩
theorem krshared_any (a b : List UInt8) (ha : a.length ≤ maxLen) (hb : b.length ≤ maxLen) (w : World) :
    Calls Try.prog 65 #[.string (bs a), .string (bs b)] w fun e w' => e = .returned (.int .i64 (Bk.sh a b : Nat)) ∧ Kept w w' := by
  have e1 := fbs_size a
  have e2 := fbs_size b
  unfold maxLen at ha hb
  have z1 : (bs a).size ≤ 9223372036854775807 := by omega
  have z2 : (bs b).size ≤ 9223372036854775807 := by omega
  have E1 := Lib.hid e1; have E2 := Lib.hid e2
  clear e1 e2
  go_enter Try.func65, Try.ntmps65
  go_wp2_with fail
  go_loopw [5] (fun t wr => ∃ k : Nat, k ≤ (bs a).size ∧ k ≤ (bs b).size ∧ t = .int .i64 k ∧ Hid (∀ j, j < k → a[j]? = b[j]?) ∧ Kept w wr) (fun t _ => (bs a).size - (intOf t).toNat)
  case atStart => exact ⟨0, Nat.zero_le _, Nat.zero_le _, rfl, Lib.hid (fun j hj => absurd hj (by omega)), Kept.refl _⟩
  case round =>
    obtain ⟨k, hk, hk2, rfl, HE, hkr⟩ := hrel
    by_cases hka : k < (bs a).size
    · have d0 : decide ((k : Int) < ((bs a).size : Int)) = true := decide_eq_true (by omega)
      by_cases hkb : k < (bs b).size
      · have d2 : decide ((k : Int) < ((bs b).size : Int)) = true := decide_eq_true (by omega)
        have hq1 : a[k]? = some (bs a)[k] := List.getElem?_eq_getElem (show k < a.length by have := E1.out; omega)
        have hq2 : b[k]? = some (bs b)[k] := List.getElem?_eq_getElem (show k < b.length by have := E2.out; omega)
        have HQ1 := Lib.hid hq1; have HQ2 := Lib.hid hq2
        clear hq1 hq2
        by_cases he : (bs a)[k] = (bs b)[k]
        · have HN := Lib.hid (show ∀ j, j < k + 1 → a[j]? = b[j]? from fun j hj => by
            by_cases e : j = k
            · subst e; rw [HQ1.out, HQ2.out, he]
            · exact HE.out j (by omega))
          have d1 : (((bs a)[k].toNat : Int) == ((bs b)[k].toNat : Int)) = true := by rw [he]; simp
          clear he
          go_wp2_with fail
          go_quiet (fail)
          go_wp2_with fail
          go_roundw
          case rel => exact ⟨k + 1, by omega, by omega, by go_num, HN, kept_trans hkr (kept_drewN _ _)⟩
          case measure => simp [intOf]; omega
        · have HS := Lib.hid (show Bk.sh a b = k from Bk.sh_at HE.out (by have := E1.out; omega) (by have := E2.out; omega) (.inr (.inr (fun q => he (by rw [HQ1.out, HQ2.out] at q; injection q)))))
          have d1 : (((bs a)[k].toNat : Int) == ((bs b)[k].toNat : Int)) = false := by
            rw [beq_eq_false_iff_ne]; intro q; exact he (UInt8.toNat_inj.1 (by omega))
          clear he
          go_wp2_with fail
          go_quiet (fail)
          go_wp2_with fail
          go_ret
          exact ⟨ret_int (by rw [HS.out]), kept_trans hkr (kept_drewN _ _)⟩
      · have d2 : decide ((k : Int) < ((bs b).size : Int)) = false := decide_eq_false (by omega)
        have HS := Lib.hid (show Bk.sh a b = k from Bk.sh_at HE.out (by have := E1.out; omega) (by have := E2.out; omega) (.inr (.inl (by have := E2.out; omega))))
        go_wp2_with fail
        go_quiet (fail)
        go_wp2_with fail
        go_ret
        exact ⟨ret_int (by rw [HS.out]), kept_trans hkr (kept_drewN _ _)⟩
    · have d0 : decide ((k : Int) < ((bs a).size : Int)) = false := decide_eq_false (by omega)
      have HS := Lib.hid (show Bk.sh a b = k from Bk.sh_at HE.out (by have := E1.out; omega) (by have := E2.out; omega) (.inl (by have := E1.out; omega)))
      go_wp2_with fail
      go_quiet (fail)
      go_wp2_with fail
      go_ret
      exact ⟨ret_int (by rw [HS.out]), kept_trans hkr (kept_drewN _ _)⟩
/-- texts that aren't longer than any may be -/
def OkEl (l : List Mm.Ent) : Prop := ∀ x ∈ l, x.key.length ≤ maxLen ∧ x.val.length ≤ maxLen
theorem kisb_no {l : List Mm.Ent} (h : ¬ (1 ≤ l.length ∧ l.length ≤ 32 ∧ (∀ x ∈ l, Mm.may x = true) ∧ Mg.row l = true)) : Bk.isB l = false := by
  rw [Bool.eq_false_iff, ne_eq, Bk.isB_iff]; exact h
theorem kisb_any {w : World} {A : Option Addr} {l : List Mm.Ent} (c : Nat) (h : Els w A l) (hl : l.length ≤ maxLen) (ho : OkEl l) :
    Calls Try.prog 56 #[.slice A l.length c] w fun e w' => e = .returned (.bool (Bk.isB l)) ∧ Kept w w' := by
  have HE := Lib.hid h; have HO := Lib.hid ho
  unfold maxLen at hl
  clear h ho
  by_cases h1 : l.length < 1
  · rw [kisb_no (fun q => by omega)]
    have d1 : decide ((l.length : Int) < 1) = true := decide_eq_true (by omega)
    go_enter Try.func56, Try.ntmps56
    go_wp2_with fail
    go_ret
    exact ⟨rfl, Kept.refl _⟩
  · have d1 : decide ((l.length : Int) < 1) = false := decide_eq_false (by omega)
    by_cases h2 : 32 < l.length
    · rw [kisb_no (fun q => by omega)]
      have d2 : decide ((32 : Int) < (l.length : Int)) = true := decide_eq_true (by omega)
      go_enter Try.func56, Try.ntmps56
      go_wp2_with fail
      go_ret
      exact ⟨rfl, Kept.refl _⟩
    · have d2 : decide ((32 : Int) < (l.length : Int)) = false := decide_eq_false (by omega)
      have hr := fun W (hW : Els W A l) => grow_any A c l (by omega) W hW
      have HR := Lib.hid hr
      clear hr
      go_enter Try.func56, Try.ntmps56
      go_wp2_with fail
      go_loopw [15] (fun t wr => ∃ k : Nat, k ≤ l.length ∧ t = .int .i64 k ∧ Hid (∀ x ∈ l.take k, Mm.may x = true) ∧ Kept w wr) (fun t _ => l.length - (intOf t).toNat)
      case atStart => exact ⟨0, Nat.zero_le _, rfl, Lib.hid (fun x hx => by simp at hx), Kept.refl _⟩
      case round =>
        obtain ⟨k, hk, rfl, HF, hkr⟩ := hrel
        by_cases hlt : k < l.length
        · obtain ⟨x, hx⟩ : ∃ x, l[k]? = some x := ⟨_, List.getElem?_eq_getElem hlt⟩
          have hmem : x ∈ l := List.mem_of_getElem? hx
          obtain ⟨b, o, rfl, hb, c0, c1, c2, c3⟩ := (HE.out.kept hkr) k x hx
          have hz := HO.out x hmem
          have HM := Lib.hid (bkmay_any x hz.1 hz.2)
          have HT := Lib.hid (show l.take (k + 1) = l.take k ++ [x] by rw [List.take_add_one, hx]; rfl)
          unfold entV at HM
          cases hv : Mm.may x with
          | false =>
            have HV := Lib.hid (kisb_no (l := l) (fun q => by have := q.2.2.1 x hmem; rw [hv] at this; cases this))
            rw [hv] at HM
            clear hx hmem hz hv
            go_wp2_with fail
            refine (HM.out _).mono ?_
            rintro e w1 ⟨rfl, g1⟩
            go_wp2_with fail
            go_ret
            exact ⟨by rw [HV.out]; rfl, kept_trans hkr (kept_trans ((Kept.refl _).alloc _) g1)⟩
          | true =>
            have HN := Lib.hid (show ∀ y ∈ l.take (k + 1), Mm.may y = true from fun y hy => by
              rw [HT.out, List.mem_append] at hy
              rcases hy with hy | hy
              · exact HF.out y hy
              · simp at hy; rw [hy]; exact hv)
            rw [hv] at HM
            clear hx hmem hz hv
            go_wp2_with fail
            refine (HM.out _).mono ?_
            rintro e w1 ⟨rfl, g1⟩
            go_wp2_with fail
            go_roundw
            case rel => exact ⟨k + 1, by omega, by go_num, HN, kept_trans hkr (kept_trans ((Kept.refl _).alloc _) g1)⟩
            case measure => simp [intOf]; omega
        · have e : k = l.length := by omega
          subst e
          have HV := Lib.hid (show Bk.isB l = Mg.row l by
            have hf := HF.out
            rw [List.take_length] at hf
            rw [Bool.eq_iff_iff, Bk.isB_iff]
            exact ⟨fun q => q.2.2.2, fun q => ⟨by omega, by omega, hf, q⟩⟩)
          clear HF
          go_wp2_with fail
          refine (HR.out _ (HE.out.kept hkr)).mono ?_
          rintro e w1 ⟨rfl, g1⟩
          go_wp2_with fail
          go_ret
          exact ⟨ret_bool (by rw [HV.out]), kept_trans hkr g1⟩
theorem ksized_any (t : List UInt8) (ht : t.length ≤ 100) (w : World) :
    Calls Try.prog 82 #[.string (bs t)] w fun e w' => e = .returned (.string (bs (Bt.sized t))) ∧ Kept w w' := by
  have hz := fbs_size t
  have hsh := short_any ((bs t).size : Int) (by omega) (by omega)
  have e1 : bs (Nm.short t.length) ++ bs t = bs (Bt.sized t) := fbs_app _ _
  have z1 : (bs (Nm.short t.length)).size = 1 := by rw [fbs_size, Nm.short_len _ (by omega), Nm.sz_small _ (by omega)]
  rw [Int.toNat_natCast, hz] at hsh
  have hz2 : (bs t).size ≤ 100 := by omega
  have HZ := Lib.hid hz; have HE := Lib.hid e1
  clear hz e1
  go_enter Try.func82, Try.ntmps82
  go_wp2_with fail
  rw [HZ.out]
  refine (hsh _).mono ?_
  rintro e w1 ⟨rfl, g1⟩
  go_wp2_with fail
  go_ret
  exact ⟨by rw [← HE.out]; rfl, g1⟩
theorem kcount_any (s : List UInt8) (hs : s.length ≤ 16777216) (w : World) :
    Calls Try.prog 93 #[.string (bs s)] w fun e w' => e = .returned (.int .i64 (Bk.count s : Nat)) ∧ w = w' := by
  have e1 := fbs_size s
  have z1 : (bs s).size ≤ 16777216 := by omega
  by_cases h1 : s.length < 8
  · have hc : Bk.count s = 0 := by unfold Bk.count; rw [if_pos h1]
    rw [hc]
    have d1 : decide (((bs s).size : Int) < 8) = true := by rw [e1]; exact decide_eq_true (by omega)
    clear e1 hc
    go_enter Try.func93, Try.ntmps93
    go_wp2_with fail
    go_ret
    exact ⟨rfl, rfl⟩
  · have d1 : decide (((bs s).size : Int) < 8) = false := by rw [e1]; exact decide_eq_false (by omega)
    obtain ⟨j, hj⟩ : ∃ j, j = s.length - 8 := ⟨_, rfl⟩
    have q1 : ((bs s).size : Int) - 8 = (j : Int) := by omega
    have q2 : j ≤ (bs s).size := by omega
    have HX := Lib.hid (show (bs s).extract j (bs s).size = bs (s.drop j) from extract_drop s j)
    have hu := unlong_any ((bs s).extract j (bs s).size) (by rw [HX.out, fbs_size, List.length_drop]; unfold maxLen; omega)
    have hc : Bk.count s = if Nm.unl (s.drop j) ≤ 32 then Nm.unl (s.drop j) else 0 := by unfold Bk.count; rw [if_neg h1, hj]
    rw [hc]
    have hd : ((bs s).extract j (bs s).size).data.toList = s.drop j := by rw [HX.out, bs_data]
    rw [hd] at hu
    have hlt := Nm.unl_lt (s.drop j)
    generalize Nm.unl (s.drop j) = n at *
    generalize Nm.unlB (s.drop j) = nb at *
    have HU := Lib.hid hu
    clear e1 hc hj hu hd
    by_cases h2 : n ≤ 32
    · have d2 : decide ((32 : Int) < (n : Int)) = false := decide_eq_false (by omega)
      rw [if_pos h2]
      go_enter Try.func93, Try.ntmps93
      go_wp2_with fail
      refine (HU.out _).mono ?_
      rintro e w1 ⟨rfl, rfl⟩
      go_wp2_with fail
      go_ret
      exact ⟨rfl, rfl⟩
    · have d2 : decide ((32 : Int) < (n : Int)) = true := decide_eq_true (by omega)
      rw [if_neg h2]
      go_enter Try.func93, Try.ntmps93
      go_wp2_with fail
      refine (HU.out _).mono ?_
      rintro e w1 ⟨rfl, rfl⟩
      go_wp2_with fail
      go_ret
      exact ⟨rfl, rfl⟩
theorem krcount_any (s : List UInt8) (hs : s.length ≤ 16777216) (w : World) :
    Calls Try.prog 70 #[.string (bs s)] w fun e w' => e = .returned (.int .i64 (Bk.count s : Nat)) ∧ w = w' := by
  have e1 := fbs_size s
  have z1 : (bs s).size ≤ 16777216 := by omega
  by_cases h1 : s.length < 8
  · have hc : Bk.count s = 0 := by unfold Bk.count; rw [if_pos h1]
    rw [hc]
    have d1 : decide (((bs s).size : Int) < 8) = true := by rw [e1]; exact decide_eq_true (by omega)
    clear e1 hc
    go_enter Try.func70, Try.ntmps70
    go_wp2_with fail
    go_ret
    exact ⟨rfl, rfl⟩
  · have d1 : decide (((bs s).size : Int) < 8) = false := by rw [e1]; exact decide_eq_false (by omega)
    obtain ⟨j, hj⟩ : ∃ j, j = s.length - 8 := ⟨_, rfl⟩
    have q1 : ((bs s).size : Int) - 8 = (j : Int) := by omega
    have q2 : j ≤ (bs s).size := by omega
    have HX := Lib.hid (show (bs s).extract j (bs s).size = bs (s.drop j) from extract_drop s j)
    have hu := runlong_any ((bs s).extract j (bs s).size) (by rw [HX.out, fbs_size, List.length_drop]; unfold maxLen; omega)
    have hc : Bk.count s = if Nm.unl (s.drop j) ≤ 32 then Nm.unl (s.drop j) else 0 := by unfold Bk.count; rw [if_neg h1, hj]
    rw [hc]
    have hd : ((bs s).extract j (bs s).size).data.toList = s.drop j := by rw [HX.out, bs_data]
    rw [hd] at hu
    have hlt := Nm.unl_lt (s.drop j)
    generalize Nm.unl (s.drop j) = n at *
    generalize Nm.unlB (s.drop j) = nb at *
    have HU := Lib.hid hu
    clear e1 hc hj hu hd
    by_cases h2 : n ≤ 32
    · have d2 : decide ((32 : Int) < (n : Int)) = false := decide_eq_false (by omega)
      rw [if_pos h2]
      by_cases h3 : n < 1
      · have hn0 : n = 0 := by omega
        subst hn0
        go_enter Try.func70, Try.ntmps70
        go_wp2_with fail
        refine (HU.out _).mono ?_
        rintro e w1 ⟨rfl, rfl⟩
        go_wp2_with fail
        go_ret
        exact ⟨rfl, rfl⟩
      · have d3 : decide ((n : Int) < 1) = false := decide_eq_false (by omega)
        go_enter Try.func70, Try.ntmps70
        go_wp2_with fail
        refine (HU.out _).mono ?_
        rintro e w1 ⟨rfl, rfl⟩
        go_wp2_with fail
        go_ret
        exact ⟨rfl, rfl⟩
    · have d2 : decide ((32 : Int) < (n : Int)) = true := decide_eq_true (by omega)
      have d3 : decide ((n : Int) < 1) = false := decide_eq_false (by omega)
      rw [if_neg h2]
      go_enter Try.func70, Try.ntmps70
      go_wp2_with fail
      refine (HU.out _).mono ?_
      rintro e w1 ⟨rfl, rfl⟩
      go_wp2_with fail
      go_ret
      exact ⟨rfl, rfl⟩
end Go.Proofs.Ytecjnebfhbdnaaa
