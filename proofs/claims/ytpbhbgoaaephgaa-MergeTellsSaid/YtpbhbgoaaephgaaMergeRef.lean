/-
  The document's own Row and Between of layer 8: the same as the program's.
-/
import Derived.Test.YtpbhbgoaaephgaaMergeLawGroups
import Derived.Test.YtpbhbgoaaephgaaMergeApp
namespace Go.Proofs.Ytpbhbgoaaephgaa
open Go.ChangeShapes Go.WideShapes Go.ChangeAt Go.RowKit
set_option linter.unusedVariables false
set_option maxRecDepth 100000
set_option maxHeartbeats 4000000

theorem grah_n (x y : Mm.Ent) (W : World) (n : Nat) :
    Calls Try.prog 74 #[.string (bs x.key), .int .u64 (x.seq : Nat), .string (bs y.key), .int .u64 (y.seq : Nat)] (W.drewN n) fun e w' => e = .returned (.bool (Mg.ab x y)) ∧ ∃ q, w' = W.drewN q :=
  (rahead_any x.key x.seq y.key y.seq (W.drewN n)).mono fun e w' ⟨h1, h2⟩ => ⟨h1, n, h2.symm⟩
theorem grrow_any {w : World} {A : Option Addr} {l : List Mm.Ent} (c : Nat) (h : Els w A l) (hl : l.length ≤ 4000) :
    Calls Try.prog 50 #[.slice A l.length c] w fun e w' => e = .returned (.bool (Mg.row l)) ∧ Kept w w' := by
  have HE := Lib.hid h
  clear h
  go_enter Try.func50, Try.ntmps50
  go_wp2_with fail
  go_loopw [3] (fun t wi => ∃ i : Nat, i ≤ l.length ∧ t = .int .i64 (i : Int) ∧ Hid (∀ j x y, j < i → l[j]? = some x → l[j + 1]? = some y → Mg.ab x y = true) ∧ Hid (Kept w wi)) (fun t _ => l.length - (intOf t).toNat)
  case atStart => exact ⟨0, Nat.zero_le _, rfl, Lib.hid (fun i x y hi => absurd hi (by omega)), Lib.hid (Kept.refl _)⟩
  case round =>
    obtain ⟨i, hi, rfl, HA, HK⟩ := hrel
    by_cases hlt : i + 1 < l.length
    · have hx : l[i]? = some l[i] := List.getElem?_eq_getElem (by omega)
      have hy : l[i + 1]? = some l[i + 1] := List.getElem?_eq_getElem hlt
      generalize l[i] = x at hx
      generalize l[i + 1] = y at hy
      obtain ⟨b, o, rfl, hb, ⟨c0, c1, c2, c3⟩, d0, d1, d2, d3⟩ := (HE.out.kept HK.out).two hx hy
      have HAH := Lib.hid (grah_n x y wr)
      have HX := Lib.hid hx; have HY := Lib.hid hy
      obtain ⟨i1, hi1⟩ : ∃ i1, i1 = i + 1 := ⟨_, rfl⟩
      rw [← hi1] at d0 d1 d2 d3
      have u1 : IntKind.i64.wrap ((i : Int) + 1) = (i1 : Int) := by rw [IntKind.wrap_i64]; omega
      have u2 : (i : Int) + 1 = (i1 : Int) := by omega
      have hil : i < l.length := by omega
      have hil1 : i1 < l.length := by omega
      have HI1 := Lib.hid hi1
      clear hi1 hlt
      clear hx hy
      cases hv : Mg.ab x y with
      | true =>
        have HV := Lib.hid hv
        rw [hv] at HAH
        clear hv
        go_wp2_with fail
        go_quiet ((go_at_call 74; exact HAH.out _))
        go_wp2_with fail
        go_roundw
        case rel => exact ⟨i1, by omega, rfl, Lib.hid (fun q u v hq hu hv => by
          by_cases e : q = i
          · subst e; rw [HX.out] at hu; rw [HY.out] at hv; cases hu; cases hv; exact HV.out
          · exact HA.out q u v (by have := HI1.out; omega) hu hv), Lib.hid (kept_trans HK.out (kept_drewN _ _))⟩
        case measure => have := HI1.out; simp [intOf]; omega
      | false =>
        have HV := Lib.hid (Mg.row_not (l := l) HX.out HY.out hv)
        rw [hv] at HAH
        clear hv
        go_wp2_with fail
        go_quiet ((go_at_call 74; exact HAH.out _))
        go_wp2_with fail
        go_ret
        exact ⟨by rw [HV.out]; rfl, kept_trans HK.out (kept_drewN _ _)⟩
    · have HR := Lib.hid (show Mg.row l = true from Mg.row_adj.2 fun j x y hx hy => HA.out j x y (by have := (List.getElem?_eq_some_iff.1 hy).1; omega) hx hy)
      go_wp2_with fail
      go_ret
      exact ⟨by rw [HR.out]; rfl, HK.out⟩
theorem grbetween_any {w : World} {A : Option Addr} {l : List Mm.Ent} (c : Nat) (h : Els w A l) (hl : l.length ≤ 4000) (kf kt : List UInt8) (hkt : kt.length ≤ maxLen) :
    Calls Try.prog 54 #[.slice A l.length c, .string (bs kf), .string (bs kt)] w fun e w' => ∃ B c', e = .returned (.tuple #[.slice B (Mg.rS l (Mg.between l kf kt)).length c', .int .i64 (Mg.rC l)]) ∧ Elr w.heap.size w' B c' (Mg.rS l (Mg.between l kf kt)) ∧ Kept w w' := by
  obtain ⟨i0, hi, hz0, hz1, hz2⟩ := info_parts mentInfo
  have HI := Lib.hid hi; have HZ0 := Lib.hid hz0; have HZ1 := Lib.hid hz1; have HZ2 := Lib.hid hz2
  have hrow := grrow_any c h hl
  have HE := Lib.hid h
  clear hi hz0 hz1 hz2
  cases hv : Mg.row l with
  | false =>
    have HNO := Lib.hid (rS_no (m := Mg.between l kf kt) hv)
    rw [hv] at hrow
    have HRW := Lib.hid hrow
    clear hrow hv h
    go_enter Try.func54, Try.ntmps54
    go_wp2_with fail
    refine HRW.out.mono ?_
    rintro e w1 ⟨rfl, k1⟩
    go_wp2_with fail
    go_ret2
    exact ⟨none, 0, by rw [HNO.out.1, HNO.out.2]; rfl, by rw [HNO.out.1]; exact elr_nil _ _, k1⟩
  | true =>
    have HYES := Lib.hid (rS_yes (m := Mg.between l kf kt) hv)
    rw [hv] at hrow
    have HRW := Lib.hid hrow
    clear hrow hv h
    have hz := mbs_size kt
    unfold maxLen at hkt
    have hz2 : (bs kt).size ≤ 9223372036854775807 := by omega
    have HZK := Lib.hid hz
    clear hz
    go_enter Try.func54, Try.ntmps54
    go_wp2_with fail
    refine HRW.out.mono ?_
    rintro e w1 ⟨rfl, k1⟩
    have HK1 := Lib.hid (k1.alloc (.cells #[] 51))
    have HO1 := Lib.hid (World.ownsRow_lit (base := w.heap.size) (e := 51) (size := 4) w1 #[] 0 (Below.size k1) (by unfold maxLen; omega) rfl)
    clear k1
    have HSP := Lib.hid (show Mg.between l kf kt = l.filter (Mg.inr kf kt) from rfl)
    generalize hP : Mg.inr kf kt = P at *
    have HPP := Lib.hid hP
    clear hP
    go_wp2_with fail
    go_loopw [8, 9] (fun v t wr => ∃ i : Nat, i ≤ l.length ∧ t = .int .i64 (i : Nat) ∧ Hid (wr.ownsRow w.heap.size 51 4 v ((l.take i).filter P).length (elc ((l.take i).filter P))) ∧ Hid (Kept w wr)) (fun _ t _ => l.length - (intOf t).toNat)
    case atStart => exact ⟨0, Nat.zero_le _, rfl, Lib.hid (by rw [List.take_zero]; exact HO1.out), HK1⟩
    case round =>
      obtain ⟨i, hi, rfl, HO, HK⟩ := hrel
      by_cases hlt : i < l.length
      · obtain ⟨x, hx⟩ : ∃ x, l[i]? = some x := ⟨_, List.getElem?_eq_getElem hlt⟩
        obtain ⟨b, o, rfl, hb, c0, c1, c2, c3⟩ := (HE.out.kept HK.out) i x hx
        have HX := Lib.hid hx
        have hfl : ((l.take i).filter P).length ≤ 4000 := Nat.le_trans (List.length_filter_le _ _) (by rw [List.length_take]; omega)
        have hwsz : w.heap.size ≤ wr.heap.size := Below.size HK.out
        clear hx
        have t1 := mbs_less x.key kf
        by_cases h1 : x.key < kf
        · rw [decide_eq_true h1] at t1
          have HPX := Lib.hid (show P x = false by rw [← HPP.out]; unfold Mg.inr; rw [decide_eq_true h1]; rfl)
          clear h1
          have HW := Lib.hid (show (l.take (i + 1)).filter P = (l.take i).filter P by rw [Mg.filter_step HX.out, if_neg (by rw [HPX.out]; decide), List.append_nil])
          go_wp2_with fail
          go_roundw
          case rel => exact ⟨i + 1, by omega, by go_num, Lib.hid (by rw [HW.out]; exact HO.out), HK⟩
          case measure => simp [intOf]; omega
        · rw [decide_eq_false h1] at t1
          by_cases h2 : kt = []
          · have t2b : (bs kt).size = 0 := by rw [HZK.out, h2]; rfl
            have t2 : (((bs kt).size : Int) == 0) = true := by rw [beq_iff_eq]; omega
            have HPX := Lib.hid (show P x = true by rw [← HPP.out]; unfold Mg.inr; rw [decide_eq_false h1, decide_eq_true h2]; rfl)
            clear h1 h2
            have HW := Lib.hid (show (l.take (i + 1)).filter P = (l.take i).filter P ++ [x] by rw [Mg.filter_step HX.out, if_pos HPX.out])
            have HES := Lib.hid (show elc ((l.take i).filter P ++ [x]) = elc ((l.take i).filter P) ++ [.string (bs x.key), .int .u64 (x.seq : Nat), .bool x.del, .string (bs x.val)] by rw [elc_app]; simp [elc, ecs])
            obtain ⟨A9, c9, e9⟩ := own_slice HO.out
            subst e9
            have hown := HO.out
            clear HO
            go_wp2_with (at_builtin; refine wpList_append_own _ rfl _ _ 46 rfl w.heap.size 51 i0 zentV 4 48 Try.underlying46 HI.out HZ0.out HZ1.out HZ2.out rfl (by decide) _ ((l.take i).filter P).length (elc ((l.take i).filter P)) rfl (hown.alloc _) ⟨wr.heap.size, 0, none⟩ 1 1 [.string (bs x.key), .int .u64 (x.seq : Nat), .bool x.del, .string (bs x.val)] rfl rfl (mcells_new4 _ _ _ _ _ _ _ rfl) (by simp [Value.oneCell']) (by unfold maxLen; omega) (by omega) (by simp; omega) ?_)
            intro v' w5 hown5 hg _
            have HK5 := Lib.hid (show Kept w w5 from Below.grown (HK.out.alloc _) hg (by simp; omega) (fun b hb => (hown.lt b hb).1))
            rw [← HES.out] at hown5
            have HO5 := Lib.hid (show w5.ownsRow w.heap.size 51 4 v' ((l.take (i + 1)).filter P).length (elc ((l.take (i + 1)).filter P)) by rw [HW.out, List.length_append]; exact hown5)
            clear hown5 hown hg
            go_wp2_with fail
            go_roundw
            case rel => exact ⟨i + 1, by omega, by go_num, HO5, HK5⟩
            case measure => simp [intOf]; omega
          · have t2 : (((bs kt).size : Int) == 0) = false := by
              rw [beq_eq_false_iff_ne]; intro q; exact h2 (List.eq_nil_of_length_eq_zero (by have := HZK.out; omega))
            have t3 := mbs_less x.key kt
            by_cases h3 : x.key < kt
            · rw [decide_eq_true h3] at t3
              have HPX := Lib.hid (show P x = true by rw [← HPP.out]; unfold Mg.inr; rw [decide_eq_false h1, decide_eq_false h2, decide_eq_true h3]; rfl)
              clear h1 h2 h3
              have HW := Lib.hid (show (l.take (i + 1)).filter P = (l.take i).filter P ++ [x] by rw [Mg.filter_step HX.out, if_pos HPX.out])
              have HES := Lib.hid (show elc ((l.take i).filter P ++ [x]) = elc ((l.take i).filter P) ++ [.string (bs x.key), .int .u64 (x.seq : Nat), .bool x.del, .string (bs x.val)] by rw [elc_app]; simp [elc, ecs])
              obtain ⟨A9, c9, e9⟩ := own_slice HO.out
              subst e9
              have hown := HO.out
              clear HO
              go_wp2_with (at_builtin; refine wpList_append_own _ rfl _ _ 46 rfl w.heap.size 51 i0 zentV 4 48 Try.underlying46 HI.out HZ0.out HZ1.out HZ2.out rfl (by decide) _ ((l.take i).filter P).length (elc ((l.take i).filter P)) rfl (hown.alloc _) ⟨wr.heap.size, 0, none⟩ 1 1 [.string (bs x.key), .int .u64 (x.seq : Nat), .bool x.del, .string (bs x.val)] rfl rfl (mcells_new4 _ _ _ _ _ _ _ rfl) (by simp [Value.oneCell']) (by unfold maxLen; omega) (by omega) (by simp; omega) ?_)
              intro v' w5 hown5 hg _
              have HK5 := Lib.hid (show Kept w w5 from Below.grown (HK.out.alloc _) hg (by simp; omega) (fun b hb => (hown.lt b hb).1))
              rw [← HES.out] at hown5
              have HO5 := Lib.hid (show w5.ownsRow w.heap.size 51 4 v' ((l.take (i + 1)).filter P).length (elc ((l.take (i + 1)).filter P)) by rw [HW.out, List.length_append]; exact hown5)
              clear hown5 hown hg
              go_wp2_with fail
              go_roundw
              case rel => exact ⟨i + 1, by omega, by go_num, HO5, HK5⟩
              case measure => simp [intOf]; omega
            · rw [decide_eq_false h3] at t3
              have HPX := Lib.hid (show P x = false by rw [← HPP.out]; unfold Mg.inr; rw [decide_eq_false h1, decide_eq_false h2, decide_eq_false h3]; rfl)
              clear h1 h2 h3
              have HW := Lib.hid (show (l.take (i + 1)).filter P = (l.take i).filter P by rw [Mg.filter_step HX.out, if_neg (by rw [HPX.out]; decide), List.append_nil])
              go_wp2_with fail
              go_roundw
              case rel => exact ⟨i + 1, by omega, by go_num, Lib.hid (by rw [HW.out]; exact HO.out), HK⟩
              case measure => simp [intOf]; omega
      · have e : i = l.length := by omega
        subst e
        have ho := HO.out
        rw [List.take_length, ← HSP.out, ← HYES.out.1] at ho
        obtain ⟨B, c', rfl, _, hel⟩ := els_own ho
        have HEL := Lib.hid hel
        clear hel ho HO
        go_wp2_with fail
        go_ret2
        exact ⟨B, c', by rw [HYES.out.2]; rfl, HEL.out, HK.out⟩
end Go.Proofs.Ytpbhbgoaaephgaa
