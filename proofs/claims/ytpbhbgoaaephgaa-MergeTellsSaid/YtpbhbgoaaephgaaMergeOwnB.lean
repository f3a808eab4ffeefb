/-
  Between of package merge: what it tells is a row of its own.
-/
import Derived.Test.YtpbhbgoaaephgaaMergeRefGet
namespace Go.Proofs.Ytpbhbgoaaephgaa
open Go.ChangeShapes Go.WideShapes Go.ChangeAt Go.RowKit
set_option linter.unusedVariables false
set_option maxRecDepth 100000
set_option maxHeartbeats 4000000

theorem gbetween_own {w : World} {A : Option Addr} {l : List Mm.Ent} (c : Nat) (h : Els w A l) (hl : l.length ≤ 4000) (kf kt : List UInt8) :
    Calls Try.prog 53 #[.slice A l.length c, .string (bs kf), .string (bs kt)] w fun e w' => ∃ B c', e = .returned (.tuple #[.slice B (Mg.rS l (Mg.between l kf kt)).length c', .int .i64 (Mg.rC l)]) ∧ w'.ownsRow w.heap.size 51 4 (.slice B (Mg.rS l (Mg.between l kf kt)).length c') (Mg.rS l (Mg.between l kf kt)).length (elc (Mg.rS l (Mg.between l kf kt))) ∧ Kept w w' := by
  obtain ⟨i0, hi, hz0, hz1, hz2⟩ := info_parts mentInfo
  have HI := Lib.hid hi; have HZ0 := Lib.hid hz0; have HZ1 := Lib.hid hz1; have HZ2 := Lib.hid hz2
  have hrow := grow_any A c l hl w h
  have HE := Lib.hid h
  clear hi hz0 hz1 hz2
  cases hv : Mg.row l with
  | false =>
    have HNO := Lib.hid (rS_no (m := Mg.between l kf kt) hv)
    rw [hv] at hrow
    have HRW := Lib.hid hrow
    clear hrow hv h
    go_enter Try.func53, Try.ntmps53
    go_wp2_with fail
    refine HRW.out.mono ?_
    rintro e w1 ⟨rfl, k1⟩
    go_wp2_with fail
    go_ret2
    exact ⟨none, 0, by rw [HNO.out.1, HNO.out.2]; rfl, by rw [HNO.out.1]; exact World.ownsRow_nil _ _ _ _, k1⟩
  | true =>
    have HYES := Lib.hid (rS_yes (m := Mg.between l kf kt) hv)
    have HRW2 := Lib.hid (Mg.row_iff.1 hv)
    rw [hv] at hrow
    have HRW := Lib.hid hrow
    clear hrow hv h
    go_enter Try.func53, Try.ntmps53
    go_wp2_with fail
    refine HRW.out.mono ?_
    rintro e w1 ⟨rfl, k1⟩
    have HK1 := Lib.hid k1
    clear k1
    have HSP := Lib.hid (show Mg.between l kf kt = l.filter (Mg.inr kf kt) from rfl)
    have HPD := Lib.hid (show ∀ y, (Mg.inr kf kt) y = Mg.inr kf kt y from fun _ => rfl)
    generalize hP : Mg.inr kf kt = P at *
    have HPP := Lib.hid hP
    clear hP
    go_wp2_with fail
    go_loopw [8, 16] (fun v t wr => ∃ i : Nat, i ≤ l.length ∧ t = .int .i64 (i : Nat) ∧ Hid (wr.ownsRow w.heap.size 51 4 v ((l.take i).filter P).length (elc ((l.take i).filter P))) ∧ Hid (Kept w wr)) (fun _ t _ => l.length - (intOf t).toNat)
    case atStart => exact ⟨0, Nat.zero_le _, rfl, Lib.hid (by rw [List.take_zero]; exact World.ownsRow_nil _ _ _ _), HK1⟩
    case round =>
      obtain ⟨i, hi, rfl, HO, HK⟩ := hrel
      by_cases hlt : i < l.length
      · obtain ⟨x, hx⟩ : ∃ x, l[i]? = some x := ⟨_, List.getElem?_eq_getElem hlt⟩
        have HE2 := Lib.hid (HE.out.kept HK.out)
        obtain ⟨b, o, rfl, hb, c0, c1, c2, c3⟩ := HE2.out i x hx
        have HX := Lib.hid hx
        have k1 : Kept wr (wr.alloc (.cells #[.string (bs x.key), .int .u64 (x.seq : Nat), .bool x.del, .string (bs x.val)] 51)) := (Kept.refl wr).alloc _
        have rx := malloc_new wr (.cells #[.string (bs x.key), .int .u64 (x.seq : Nat), .bool x.del, .string (bs x.val)] 51)
        clear hx
        have t1 := mbs_less x.key kf
        have t2 := mbs_less x.key kt
        have t3 := mval_nil kt
        by_cases h1 : x.key < kf
        · rw [decide_eq_true h1] at t1
          have HPX := Lib.hid (show P x = false by rw [← HPP.out]; unfold Mg.inr; rw [decide_eq_true h1]; rfl)
          clear h1 t2 t3
          obtain ⟨A9, c9, e9⟩ := own_slice HO.out
          subst e9
          go_upto_region 7 with fail
          generalize wr.alloc (.cells #[.string (bs x.key), .int .u64 (x.seq : Nat), .bool x.del, .string (bs x.val)] 51) = w1 at *
          have b1 := mcell (v := .string (bs x.key)) rx 0 rfl; have b2 := mcell (v := .int .u64 (x.seq : Nat)) rx 1 rfl; have b3 := mcell (v := .bool x.del) rx 2 rfl; have b4 := mcell (v := .string (bs x.val)) rx 3 rfl
          have KW := Lib.hid k1
          clear k1 rx
          have HW := Lib.hid (show (l.take (i + 1)).filter P = (l.take i).filter P by rw [Mg.filter_step HX.out, if_neg (by rw [HPX.out]; decide), List.append_nil])
          go_wp2_with fail
          go_roundw
          case rel => exact ⟨i + 1, by omega, by go_num, Lib.hid (by rw [HW.out]; exact rown_kept HO.out KW.out), Lib.hid (kept_trans HK.out KW.out)⟩
          case measure => simp [intOf]; omega
        · rw [decide_eq_false h1] at t1
          by_cases h2 : kt = []
          · rw [decide_eq_true h2] at t3
            have HPX := Lib.hid (show P x = true by rw [← HPP.out]; unfold Mg.inr; rw [decide_eq_false h1, decide_eq_true h2]; rfl)
            clear h1 h2 t2
            obtain ⟨A9, c9, e9⟩ := own_slice HO.out
            subst e9
            go_upto_region 7 with fail
            generalize wr.alloc (.cells #[.string (bs x.key), .int .u64 (x.seq : Nat), .bool x.del, .string (bs x.val)] 51) = w1 at *
            have b1 := mcell (v := .string (bs x.key)) rx 0 rfl; have b2 := mcell (v := .int .u64 (x.seq : Nat)) rx 1 rfl; have b3 := mcell (v := .bool x.del) rx 2 rfl; have b4 := mcell (v := .string (bs x.val)) rx 3 rfl
            have KW := Lib.hid k1
            clear k1 rx
            have HW := Lib.hid (show (l.take (i + 1)).filter P = (l.take i).filter P ++ [x] by rw [Mg.filter_step HX.out, if_pos HPX.out])
            have hO2 := rown_kept HO.out KW.out
            have hb2 := Nat.le_refl w.heap.size
            have hbz := Nat.le_trans (Below.size HK.out) (Below.size KW.out)
            have hlf : ((l.take i).filter P).length ≤ 4000 := Nat.le_trans (List.length_filter_le _ _) (by rw [List.length_take]; omega)
            generalize hMM : (l.take i).filter P = M at *
            have HMM := Lib.hid hMM
            clear hMM
            go_wp2_with (at_builtin; refine wpList_append_own _ rfl _ _ 46 rfl w.heap.size 51 i0 zentV 4 48 Try.underlying46 HI.out HZ0.out HZ1.out HZ2.out rfl (by decide) _ M.length (elc M) rfl (hO2.alloc _) ⟨w1.heap.size, 0, none⟩ 1 1 [.string (bs x.key), .int .u64 (x.seq : Nat), .bool x.del, .string (bs x.val)] rfl rfl (mcells_new4 _ _ _ _ _ _ _ rfl) (by simp [Value.oneCell']) (by unfold maxLen; omega) (by omega) (by simp; omega) ?_)
            intro v9 w9 hown9 hg9 _
            have g9 : Kept w w9 := Below.grown ((kept_trans HK.out KW.out).alloc _) hg9 (by simp; omega) (fun b hb => (hO2.lt b hb).1)
            have hO9 : w9.ownsRow w.heap.size 51 4 v9 ((l.take (i + 1)).filter P).length (elc ((l.take (i + 1)).filter P)) := by
              rw [HW.out, elc_app, List.length_append]
              simpa [elc, ecs] using hown9
            have HO9 := Lib.hid hO9
            clear hO2 hown9 hg9 hO9 hbz hlf hb2 b1 b2 b3 b4
            go_wp2_with fail
            go_roundw
            case rel => exact ⟨i + 1, by omega, by go_num, HO9, Lib.hid g9⟩
            case measure => simp [intOf]; omega
          · rw [decide_eq_false h2] at t3
            by_cases h3 : x.key < kt
            · rw [decide_eq_true h3] at t2
              have HPX := Lib.hid (show P x = true by rw [← HPP.out]; unfold Mg.inr; rw [decide_eq_false h1, decide_eq_true h3]; simp)
              clear h1 h2 h3
              obtain ⟨A9, c9, e9⟩ := own_slice HO.out
              subst e9
              go_upto_region 7 with fail
              generalize wr.alloc (.cells #[.string (bs x.key), .int .u64 (x.seq : Nat), .bool x.del, .string (bs x.val)] 51) = w1 at *
              have b1 := mcell (v := .string (bs x.key)) rx 0 rfl; have b2 := mcell (v := .int .u64 (x.seq : Nat)) rx 1 rfl; have b3 := mcell (v := .bool x.del) rx 2 rfl; have b4 := mcell (v := .string (bs x.val)) rx 3 rfl
              have KW := Lib.hid k1
              clear k1 rx
              have HW := Lib.hid (show (l.take (i + 1)).filter P = (l.take i).filter P ++ [x] by rw [Mg.filter_step HX.out, if_pos HPX.out])
              have hO2 := rown_kept HO.out KW.out
              have hb2 := Nat.le_refl w.heap.size
              have hbz := Nat.le_trans (Below.size HK.out) (Below.size KW.out)
              have hlf : ((l.take i).filter P).length ≤ 4000 := Nat.le_trans (List.length_filter_le _ _) (by rw [List.length_take]; omega)
              generalize hMM : (l.take i).filter P = M at *
              have HMM := Lib.hid hMM
              clear hMM
              go_wp2_with (at_builtin; refine wpList_append_own _ rfl _ _ 46 rfl w.heap.size 51 i0 zentV 4 48 Try.underlying46 HI.out HZ0.out HZ1.out HZ2.out rfl (by decide) _ M.length (elc M) rfl (hO2.alloc _) ⟨w1.heap.size, 0, none⟩ 1 1 [.string (bs x.key), .int .u64 (x.seq : Nat), .bool x.del, .string (bs x.val)] rfl rfl (mcells_new4 _ _ _ _ _ _ _ rfl) (by simp [Value.oneCell']) (by unfold maxLen; omega) (by omega) (by simp; omega) ?_)
              intro v9 w9 hown9 hg9 _
              have g9 : Kept w w9 := Below.grown ((kept_trans HK.out KW.out).alloc _) hg9 (by simp; omega) (fun b hb => (hO2.lt b hb).1)
              have hO9 : w9.ownsRow w.heap.size 51 4 v9 ((l.take (i + 1)).filter P).length (elc ((l.take (i + 1)).filter P)) := by
                rw [HW.out, elc_app, List.length_append]
                simpa [elc, ecs] using hown9
              have HO9 := Lib.hid hO9
              clear hO2 hown9 hg9 hO9 hbz hlf hb2 b1 b2 b3 b4
              go_wp2_with fail
              go_roundw
              case rel => exact ⟨i + 1, by omega, by go_num, HO9, Lib.hid g9⟩
              case measure => simp [intOf]; omega
            · rw [decide_eq_false h3] at t2
              have HPX := Lib.hid (show P x = false by rw [← HPP.out]; unfold Mg.inr; rw [decide_eq_false h1, decide_eq_false h2, decide_eq_false h3]; rfl)
              clear h1 h2 h3
              obtain ⟨A9, c9, e9⟩ := own_slice HO.out
              subst e9
              go_upto_region 7 with fail
              generalize wr.alloc (.cells #[.string (bs x.key), .int .u64 (x.seq : Nat), .bool x.del, .string (bs x.val)] 51) = w1 at *
              have b1 := mcell (v := .string (bs x.key)) rx 0 rfl; have b2 := mcell (v := .int .u64 (x.seq : Nat)) rx 1 rfl; have b3 := mcell (v := .bool x.del) rx 2 rfl; have b4 := mcell (v := .string (bs x.val)) rx 3 rfl
              have KW := Lib.hid k1
              clear k1 rx
              have HW := Lib.hid (show (l.take (i + 1)).filter P = (l.take i).filter P by rw [Mg.filter_step HX.out, if_neg (by rw [HPX.out]; decide), List.append_nil])
              go_wp2_with fail
              go_roundw
              case rel => exact ⟨i + 1, by omega, by go_num, Lib.hid (by rw [HW.out]; exact rown_kept HO.out KW.out), Lib.hid (kept_trans HK.out KW.out)⟩
              case measure => simp [intOf]; omega
      · have e : i = l.length := by omega
        subst e
        have hO := HO.out
        rw [List.take_length] at hO
        obtain ⟨B, c9, e1⟩ := own_slice hO
        subst e1
        have hel := hO
        have HEL := Lib.hid hel
        clear hO hel
        go_wp2_with fail
        go_ret2
        refine ⟨B, c9, ?_, ?_, HK.out⟩
        · rw [HYES.out.1, HYES.out.2, HSP.out]; rfl
        · rw [HYES.out.1, HSP.out]; exact HEL.out
end Go.Proofs.Ytpbhbgoaaephgaa
