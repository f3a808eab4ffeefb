/-
  Package merge over memory: isFirst, Seen, Newest, Between.
-/
import Derived.Test.YtpbhbgoaaephgaaMergeAll
namespace Go.Proofs.Ytpbhbgoaaephgaa
open Go.ChangeShapes Go.WideShapes Go.ChangeAt Go.RowKit
set_option linter.unusedVariables false
set_option maxRecDepth 100000
set_option maxHeartbeats 4000000

/-- of a row, what is asked for; else nothing -/
def Mg.rS (l m : List Mm.Ent) : List Mm.Ent := if Mg.row l then m else []
def Mg.rC (l : List Mm.Ent) : Int := if Mg.row l then 0 else 2
theorem rS_no {l m : List Mm.Ent} (h : Mg.row l = false) : Mg.rS l m = [] ∧ Mg.rC l = 2 := by unfold Mg.rS Mg.rC; rw [h]; exact ⟨rfl, rfl⟩
theorem rS_yes {l m : List Mm.Ent} (h : Mg.row l = true) : Mg.rS l m = m ∧ Mg.rC l = 0 := by unfold Mg.rS Mg.rC; rw [h]; exact ⟨rfl, rfl⟩
theorem mbs_ne (a b : List UInt8) : ((bs a).toList != (bs b).toList) = !decide (a = b) := by rw [bne, mbs_eq]
theorem gisF_any {w : World} {A : Option Addr} {l : List Mm.Ent} (c : Nat) (h : Els w A l) (hl : l.length ≤ 4000) {i : Nat} {x : Mm.Ent} (hx : l[i]? = some x) (s : Nat) :
    Calls Try.prog 72 #[.slice A l.length c, .int .i64 (i : Nat), .int .u64 (s : Nat)] w fun e w' => e = .returned (.bool (Mg.isF l i x s)) ∧ ∃ q, w' = w.drewN q := by
  obtain ⟨b, o, rfl, hb, c0, c1, c2, c3⟩ := h i x hx
  have hi := (List.getElem?_eq_some_iff.1 hx).1
  unfold Mg.isF
  by_cases hs : x.seq ≤ s
  · rw [decide_eq_true hs, Bool.true_and]
    have d1 : decide ((s : Int) < (x.seq : Int)) = false := decide_eq_false (by omega)
    have d1' : ¬ s < x.seq := by omega
    cases i with
    | zero =>
      clear hx h c0 c2 c3 hs
      rw [Nat.zero_mul, Nat.add_zero] at c1
      go_enter Try.func72, Try.ntmps72
      go_wp2_with fail
      go_quiet (fail)
      go_wp2_with fail
      go_ret
      exact ⟨rfl, _, rfl⟩
    | succ j =>
      have hj : j < l.length := by omega
      have hy : l[j]? = some l[j] := List.getElem?_eq_getElem hj
      simp only
      rw [hy]
      generalize l[j] = y at hy
      simp only
      obtain ⟨b', o', e, hb', p0, p1, p2, p3⟩ := h j y hy
      cases e
      generalize l.length = n at *
      generalize hk : j + 1 = k at *
      have e1 : (k : Int) - 1 = (j : Int) := by omega
      have e2 : IntKind.i64.wrap (j : Int) = (j : Int) := wrap_nat (by omega)
      have e3 : ((k : Int) == 0) = false := by rw [beq_eq_false_iff_ne]; omega
      have n1 := mbs_ne y.key x.key
      have n2 := mbs_eq y.key x.key
      by_cases hk2 : y.key = x.key
      · rw [decide_eq_true hk2] at n1 n2
        have d2 : (!decide (y.key = x.key) || decide (s < y.seq)) = decide ((s : Int) < (y.seq : Int)) := by rw [decide_eq_true hk2]; simp
        rw [d2]
        clear hx hy h c2 c3 p2 p3 hs hk hk2 d2
        by_cases h3 : s < y.seq
        · have d3 : decide ((s : Int) < (y.seq : Int)) = true := decide_eq_true (by omega)
          rw [d3]
          go_enter Try.func72, Try.ntmps72
          go_wp2_with fail
          go_quiet (fail)
          go_wp2_with fail
          go_ret
          exact ⟨rfl, _, rfl⟩
        · have d3 : decide ((s : Int) < (y.seq : Int)) = false := decide_eq_false (by omega)
          rw [d3]
          go_enter Try.func72, Try.ntmps72
          go_wp2_with fail
          go_quiet (fail)
          go_wp2_with fail
          go_ret
          exact ⟨rfl, _, rfl⟩
      · rw [decide_eq_false hk2] at n1 n2
        have d2 : (!decide (y.key = x.key) || decide (s < y.seq)) = true := by rw [decide_eq_false hk2]; rfl
        rw [d2]
        clear hx hy h c2 c3 p1 p2 p3 hs hk hk2 d2
        go_enter Try.func72, Try.ntmps72
        go_wp2_with fail
        go_quiet (fail)
        go_wp2_with fail
        go_ret
        exact ⟨rfl, _, rfl⟩
  · rw [decide_eq_false hs, Bool.false_and]
    have d1 : decide ((s : Int) < (x.seq : Int)) = true := decide_eq_true (by omega)
    have d1' : s < x.seq := by omega
    clear hx h c0 c2 c3 hs
    generalize l.length = n at *
    go_enter Try.func72, Try.ntmps72
    go_wp2_with fail
    go_ret
    exact ⟨rfl, 0, rfl⟩
theorem gseen_any {w : World} {A : Option Addr} {l : List Mm.Ent} (c : Nat) (h : Els w A l) (hl : l.length ≤ 4000) (s : Nat) :
    Calls Try.prog 47 #[.slice A l.length c, .int .u64 (s : Nat)] w fun e w' => ∃ B c', e = .returned (.tuple #[.slice B (Mg.rS l (Mg.seen l s)).length c', .int .i64 (Mg.rC l)]) ∧ Elr w.heap.size w' B c' (Mg.rS l (Mg.seen l s)) ∧ Kept w w' := by
  obtain ⟨i0, hi, hz0, hz1, hz2⟩ := info_parts mentInfo
  have HI := Lib.hid hi; have HZ0 := Lib.hid hz0; have HZ1 := Lib.hid hz1; have HZ2 := Lib.hid hz2
  have hrow := grow_any A c l hl w h
  have HE := Lib.hid h
  clear hi hz0 hz1 hz2
  cases hv : Mg.row l with
  | false =>
    have HNO := Lib.hid (rS_no (m := Mg.seen l s) hv)
    rw [hv] at hrow
    have HRW := Lib.hid hrow
    clear hrow hv h
    go_enter Try.func47, Try.ntmps47
    go_wp2_with fail
    refine HRW.out.mono ?_
    rintro e w1 ⟨rfl, k1⟩
    go_wp2_with fail
    go_ret2
    exact ⟨none, 0, by rw [HNO.out.1, HNO.out.2]; rfl, by rw [HNO.out.1]; exact elr_nil _ _, k1⟩
  | true =>
    have HYES := Lib.hid (rS_yes (m := Mg.seen l s) hv)
    have HRW2 := Lib.hid (Mg.row_iff.1 hv)
    rw [hv] at hrow
    have HRW := Lib.hid hrow
    clear hrow hv h
    go_enter Try.func47, Try.ntmps47
    go_wp2_with fail
    refine HRW.out.mono ?_
    rintro e w1 ⟨rfl, k1⟩
    have HK1 := Lib.hid k1
    clear k1
    have HSP := Lib.hid (show Mg.seen l s = l.filter (Mg.seenP l s) from rfl)
    have HPD := Lib.hid (show ∀ y, (Mg.seenP l s) y = Mg.seenP l s y from fun _ => rfl)
    generalize hP : Mg.seenP l s = P at *
    have HPP := Lib.hid hP
    clear hP
    go_wp2_with fail
    go_loopw [6, 14] (fun v t wr => ∃ i : Nat, i ≤ l.length ∧ t = .int .i64 (i : Nat) ∧ Hid (wr.ownsRow w.heap.size 51 4 v ((l.take i).filter P).length (elc ((l.take i).filter P))) ∧ Hid (Kept w wr)) (fun _ t _ => l.length - (intOf t).toNat)
    case atStart => exact ⟨0, Nat.zero_le _, rfl, Lib.hid (by rw [List.take_zero]; exact World.ownsRow_nil _ _ _ _), HK1⟩
    case round =>
      obtain ⟨i, hi, rfl, HO, HK⟩ := hrel
      by_cases hlt : i < l.length
      · obtain ⟨x, hx⟩ : ∃ x, l[i]? = some x := ⟨_, List.getElem?_eq_getElem hlt⟩
        have HE2 := Lib.hid (HE.out.kept HK.out)
        obtain ⟨b, o, rfl, hb, c0, c1, c2, c3⟩ := HE2.out i x hx
        have HX := Lib.hid hx
        have k1 : Kept wr (wr.alloc (.cells #[.string (bs x.key), .int .u64 (x.seq : Nat), .bool x.del, .string (bs x.val)] 51)) := (Kept.refl wr).alloc _
        have rx := malloc_new wr (.cells #[.string (bs x.key), .int .u64 (x.seq : Nat), .bool x.del, .string (bs x.val)] 51)
        clear hx
        obtain ⟨A9, c9, e9⟩ := own_slice HO.out
        subst e9
        go_upto_region 7 with fail
        generalize wr.alloc (.cells #[.string (bs x.key), .int .u64 (x.seq : Nat), .bool x.del, .string (bs x.val)] 51) = w1 at *
        have b1 := mcell (v := .string (bs x.key)) rx 0 rfl; have b2 := mcell (v := .int .u64 (x.seq : Nat)) rx 1 rfl; have b3 := mcell (v := .bool x.del) rx 2 rfl; have b4 := mcell (v := .string (bs x.val)) rx 3 rfl
        have HIF := Lib.hid (gisF_any c (HE2.out.kept k1) hl HX.out s)
        have HFS := Lib.hid (Mg.isF_first HRW2.out HX.out s)
        cases hf : Mg.isF l i x s with
        | true =>
          have hc := HIF.out
          rw [hf] at hc
          have HC := Lib.hid hc
          have HF := Lib.hid (HFS.out.symm.trans hf)
          clear hc hf HIF
          go_wp2_with fail
          refine HC.out.mono ?_
          rintro e w2 ⟨rfl, q, rfl⟩
          have kq := kept_drewN w1 q
          have hbx := mheap_lt rx
          rw [← kept_cell kq hbx] at b1 b2 b3 b4
          have KW := Lib.hid (kept_trans k1 kq)
          clear k1
          generalize w1.drewN q = w2 at *
          clear kq hbx rx
          cases hd : x.del with
          | true =>
            rw [hd] at b3
            have HPX := Lib.hid (show P x = false by rw [← HPP.out]; unfold Mg.seenP; rw [HF.out, hd]; rfl)
            clear hd
            have HW := Lib.hid (show (l.take (i + 1)).filter P = (l.take i).filter P by rw [Mg.filter_step HX.out, if_neg (by rw [HPX.out]; decide), List.append_nil])
            go_wp2_with fail
            go_roundw
            case rel => exact ⟨i + 1, by omega, by go_num, Lib.hid (by rw [HW.out]; exact rown_kept HO.out KW.out), Lib.hid (kept_trans HK.out KW.out)⟩
            case measure => simp [intOf]; omega
          | false =>
            have HPX := Lib.hid (show P x = true by rw [← HPP.out]; unfold Mg.seenP; rw [HF.out, hd]; rfl)
            rw [hd] at b3
            have HD := Lib.hid hd
            clear hd
            have HW := Lib.hid (show (l.take (i + 1)).filter P = (l.take i).filter P ++ [x] by rw [Mg.filter_step HX.out, if_pos HPX.out])
            have hO2 := rown_kept HO.out KW.out
            have hb2 := Nat.le_refl w.heap.size
            have hbz := Nat.le_trans (Below.size HK.out) (Below.size KW.out)
            have hlf : ((l.take i).filter P).length ≤ 4000 := Nat.le_trans (List.length_filter_le _ _) (by rw [List.length_take]; omega)
            generalize hMM : (l.take i).filter P = M at *
            have HMM := Lib.hid hMM
            clear hMM
            go_wp2_with (at_builtin; refine wpList_append_own _ rfl _ _ 46 rfl w.heap.size 51 i0 zentV 4 48 Try.underlying46 HI.out HZ0.out HZ1.out HZ2.out rfl (by decide) _ M.length (elc M) rfl (hO2.alloc _) ⟨w2.heap.size, 0, none⟩ 1 1 [.string (bs x.key), .int .u64 (x.seq : Nat), .bool false, .string (bs x.val)] rfl rfl (mcells_new4 _ _ _ _ _ _ _ rfl) (by simp [Value.oneCell']) (by unfold maxLen; omega) (by omega) (by simp; omega) ?_)
            intro v9 w9 hown9 hg9 _
            have g9 : Kept w w9 := Below.grown ((kept_trans HK.out KW.out).alloc _) hg9 (by simp; omega) (fun b hb => (hO2.lt b hb).1)
            have hO9 : w9.ownsRow w.heap.size 51 4 v9 ((l.take (i + 1)).filter P).length (elc ((l.take (i + 1)).filter P)) := by
              rw [HW.out, elc_app, List.length_append]
              simpa [elc, ecs, HD.out] using hown9
            have HO9 := Lib.hid hO9
            clear hO2 hown9 hg9 hO9 hbz hlf hb2 b1 b2 b3 b4
            go_wp2_with fail
            go_roundw
            case rel => exact ⟨i + 1, by omega, by go_num, HO9, Lib.hid g9⟩
            case measure => simp [intOf]; omega
        | false =>
          have hc := HIF.out
          rw [hf] at hc
          have HC := Lib.hid hc
          have HF := Lib.hid (HFS.out.symm.trans hf)
          clear hc hf HIF
          have HPX := Lib.hid (show P x = false by rw [← HPP.out]; unfold Mg.seenP; rw [HF.out]; rfl)
          go_wp2_with fail
          refine HC.out.mono ?_
          rintro e w2 ⟨rfl, q, rfl⟩
          have kq := kept_drewN w1 q
          have hbx := mheap_lt rx
          rw [← kept_cell kq hbx] at b1 b2 b3 b4
          have KW := Lib.hid (kept_trans k1 kq)
          clear k1
          generalize w1.drewN q = w2 at *
          clear kq hbx rx
          have HW := Lib.hid (show (l.take (i + 1)).filter P = (l.take i).filter P by rw [Mg.filter_step HX.out, if_neg (by rw [HPX.out]; decide), List.append_nil])
          go_wp2_with fail
          go_roundw
          case rel => exact ⟨i + 1, by omega, by go_num, Lib.hid (by rw [HW.out]; exact rown_kept HO.out KW.out), Lib.hid (kept_trans HK.out KW.out)⟩
          case measure => simp [intOf]; omega
      · have e : i = l.length := by omega
        subst e
        have hO := HO.out
        rw [List.take_length] at hO
        obtain ⟨B, c9, e1, _, hel⟩ := els_own hO
        have HEL := Lib.hid hel
        subst e1
        clear hO hel
        go_wp2_with fail
        go_ret2
        refine ⟨B, c9, ?_, ?_, HK.out⟩
        · rw [HYES.out.1, HYES.out.2, HSP.out]; rfl
        · rw [HYES.out.1, HSP.out]; exact HEL.out
theorem gnewest_any {w : World} {A : Option Addr} {l : List Mm.Ent} (c : Nat) (h : Els w A l) (hl : l.length ≤ 4000) (s : Nat) :
    Calls Try.prog 51 #[.slice A l.length c, .int .u64 (s : Nat)] w fun e w' => ∃ B c', e = .returned (.tuple #[.slice B (Mg.rS l (Mg.newest l s)).length c', .int .i64 (Mg.rC l)]) ∧ Elr w.heap.size w' B c' (Mg.rS l (Mg.newest l s)) ∧ Kept w w' := by
  obtain ⟨i0, hi, hz0, hz1, hz2⟩ := info_parts mentInfo
  have HI := Lib.hid hi; have HZ0 := Lib.hid hz0; have HZ1 := Lib.hid hz1; have HZ2 := Lib.hid hz2
  have hrow := grow_any A c l hl w h
  have HE := Lib.hid h
  clear hi hz0 hz1 hz2
  cases hv : Mg.row l with
  | false =>
    have HNO := Lib.hid (rS_no (m := Mg.newest l s) hv)
    rw [hv] at hrow
    have HRW := Lib.hid hrow
    clear hrow hv h
    go_enter Try.func51, Try.ntmps51
    go_wp2_with fail
    refine HRW.out.mono ?_
    rintro e w1 ⟨rfl, k1⟩
    go_wp2_with fail
    go_ret2
    exact ⟨none, 0, by rw [HNO.out.1, HNO.out.2]; rfl, by rw [HNO.out.1]; exact elr_nil _ _, k1⟩
  | true =>
    have HYES := Lib.hid (rS_yes (m := Mg.newest l s) hv)
    have HRW2 := Lib.hid (Mg.row_iff.1 hv)
    rw [hv] at hrow
    have HRW := Lib.hid hrow
    clear hrow hv h
    go_enter Try.func51, Try.ntmps51
    go_wp2_with fail
    refine HRW.out.mono ?_
    rintro e w1 ⟨rfl, k1⟩
    have HK1 := Lib.hid k1
    clear k1
    have HSP := Lib.hid (show Mg.newest l s = l.filter (Mg.newP l s) from rfl)
    have HPD := Lib.hid (show ∀ y, (Mg.newP l s) y = Mg.newP l s y from fun _ => rfl)
    generalize hP : Mg.newP l s = P at *
    have HPP := Lib.hid hP
    clear hP
    go_wp2_with fail
    go_loopw [6, 14] (fun v t wr => ∃ i : Nat, i ≤ l.length ∧ t = .int .i64 (i : Nat) ∧ Hid (wr.ownsRow w.heap.size 51 4 v ((l.take i).filter P).length (elc ((l.take i).filter P))) ∧ Hid (Kept w wr)) (fun _ t _ => l.length - (intOf t).toNat)
    case atStart => exact ⟨0, Nat.zero_le _, rfl, Lib.hid (by rw [List.take_zero]; exact World.ownsRow_nil _ _ _ _), HK1⟩
    case round =>
      obtain ⟨i, hi, rfl, HO, HK⟩ := hrel
      by_cases hlt : i < l.length
      · obtain ⟨x, hx⟩ : ∃ x, l[i]? = some x := ⟨_, List.getElem?_eq_getElem hlt⟩
        have HE2 := Lib.hid (HE.out.kept HK.out)
        obtain ⟨b, o, rfl, hb, c0, c1, c2, c3⟩ := HE2.out i x hx
        have HX := Lib.hid hx
        have k1 : Kept wr (wr.alloc (.cells #[.string (bs x.key), .int .u64 (x.seq : Nat), .bool x.del, .string (bs x.val)] 51)) := (Kept.refl wr).alloc _
        have rx := malloc_new wr (.cells #[.string (bs x.key), .int .u64 (x.seq : Nat), .bool x.del, .string (bs x.val)] 51)
        clear hx
        have HIF := Lib.hid (gisF_any c (HE2.out.kept k1) hl HX.out s)
        have HFS := Lib.hid (Mg.isF_first HRW2.out HX.out s)
        by_cases h1 : s < x.seq
        · have d1 : decide ((s : Int) < (x.seq : Int)) = true := decide_eq_true (by omega)
          have HPX := Lib.hid (show P x = true by rw [← HPP.out]; unfold Mg.newP; rw [decide_eq_true h1]; rfl)
          clear HIF
          obtain ⟨A9, c9, e9⟩ := own_slice HO.out
          subst e9
          go_upto_region 7 with fail
          generalize wr.alloc (.cells #[.string (bs x.key), .int .u64 (x.seq : Nat), .bool x.del, .string (bs x.val)] 51) = w1 at *
          have b1 := mcell (v := .string (bs x.key)) rx 0 rfl; have b2 := mcell (v := .int .u64 (x.seq : Nat)) rx 1 rfl; have b3 := mcell (v := .bool x.del) rx 2 rfl; have b4 := mcell (v := .string (bs x.val)) rx 3 rfl
          have KW := Lib.hid k1
          clear k1 rx
          have HW := Lib.hid (show (l.take (i + 1)).filter P = (l.take i).filter P ++ [x] by rw [Mg.filter_step HX.out, if_pos HPX.out])
          have hO2 := rown_kept HO.out KW.out
          have hb2 := Nat.le_refl w.heap.size
          have hbz := Nat.le_trans (Below.size HK.out) (Below.size KW.out)
          have hlf : ((l.take i).filter P).length ≤ 4000 := Nat.le_trans (List.length_filter_le _ _) (by rw [List.length_take]; omega)
          generalize hMM : (l.take i).filter P = M at *
          have HMM := Lib.hid hMM
          clear hMM
          go_wp2_with (at_builtin; refine wpList_append_own _ rfl _ _ 46 rfl w.heap.size 51 i0 zentV 4 48 Try.underlying46 HI.out HZ0.out HZ1.out HZ2.out rfl (by decide) _ M.length (elc M) rfl (hO2.alloc _) ⟨w1.heap.size, 0, none⟩ 1 1 [.string (bs x.key), .int .u64 (x.seq : Nat), .bool x.del, .string (bs x.val)] rfl rfl (mcells_new4 _ _ _ _ _ _ _ rfl) (by simp [Value.oneCell']) (by unfold maxLen; omega) (by omega) (by simp; omega) ?_)
          intro v9 w9 hown9 hg9 _
          have g9 : Kept w w9 := Below.grown ((kept_trans HK.out KW.out).alloc _) hg9 (by simp; omega) (fun b hb => (hO2.lt b hb).1)
          have hO9 : w9.ownsRow w.heap.size 51 4 v9 ((l.take (i + 1)).filter P).length (elc ((l.take (i + 1)).filter P)) := by
            rw [HW.out, elc_app, List.length_append]
            simpa [elc, ecs] using hown9
          have HO9 := Lib.hid hO9
          clear hO2 hown9 hg9 hO9 hbz hlf hb2 b1 b2 b3 b4
          go_wp2_with fail
          go_roundw
          case rel => exact ⟨i + 1, by omega, by go_num, HO9, Lib.hid g9⟩
          case measure => simp [intOf]; omega
        · have d1 : decide ((s : Int) < (x.seq : Int)) = false := decide_eq_false (by omega)
          have d2 : x.seq ≤ s := by omega
          cases hf : Mg.isF l i x s with
          | true =>
            have hc := HIF.out
            rw [hf] at hc
            have HC := Lib.hid hc
            have HF := Lib.hid (HFS.out.symm.trans hf)
            clear hc hf HIF
            have HPX := Lib.hid (show P x = true by rw [← HPP.out]; unfold Mg.newP; rw [HF.out]; simp)
            obtain ⟨A9, c9, e9⟩ := own_slice HO.out
            subst e9
            go_upto_region 7 with fail
            generalize wr.alloc (.cells #[.string (bs x.key), .int .u64 (x.seq : Nat), .bool x.del, .string (bs x.val)] 51) = w1 at *
            have b1 := mcell (v := .string (bs x.key)) rx 0 rfl; have b2 := mcell (v := .int .u64 (x.seq : Nat)) rx 1 rfl; have b3 := mcell (v := .bool x.del) rx 2 rfl; have b4 := mcell (v := .string (bs x.val)) rx 3 rfl
            go_wp2_with fail
            refine HC.out.mono ?_
            rintro e w2 ⟨rfl, q, rfl⟩
            have kq := kept_drewN w1 q
            have hbx := mheap_lt rx
            rw [← kept_cell kq hbx] at b1 b2 b3 b4
            have KW := Lib.hid (kept_trans k1 kq)
            clear k1
            generalize w1.drewN q = w2 at *
            clear kq hbx rx
            have HW := Lib.hid (show (l.take (i + 1)).filter P = (l.take i).filter P ++ [x] by rw [Mg.filter_step HX.out, if_pos HPX.out])
            have hO2 := rown_kept HO.out KW.out
            have hb2 := Nat.le_refl w.heap.size
            have hbz := Nat.le_trans (Below.size HK.out) (Below.size KW.out)
            have hlf : ((l.take i).filter P).length ≤ 4000 := Nat.le_trans (List.length_filter_le _ _) (by rw [List.length_take]; omega)
            generalize hMM : (l.take i).filter P = M at *
            have HMM := Lib.hid hMM
            clear hMM
            go_wp2_with (at_builtin; refine wpList_append_own _ rfl _ _ 46 rfl w.heap.size 51 i0 zentV 4 48 Try.underlying46 HI.out HZ0.out HZ1.out HZ2.out rfl (by decide) _ M.length (elc M) rfl (hO2.alloc _) ⟨w2.heap.size, 0, none⟩ 1 1 [.string (bs x.key), .int .u64 (x.seq : Nat), .bool x.del, .string (bs x.val)] rfl rfl (mcells_new4 _ _ _ _ _ _ _ rfl) (by simp [Value.oneCell']) (by unfold maxLen; omega) (by omega) (by simp; omega) ?_)
            intro v9 w9 hown9 hg9 _
            have g9 : Kept w w9 := Below.grown ((kept_trans HK.out KW.out).alloc _) hg9 (by simp; omega) (fun b hb => (hO2.lt b hb).1)
            have hO9 : w9.ownsRow w.heap.size 51 4 v9 ((l.take (i + 1)).filter P).length (elc ((l.take (i + 1)).filter P)) := by
              rw [HW.out, elc_app, List.length_append]
              simpa [elc, ecs] using hown9
            have HO9 := Lib.hid hO9
            clear hO2 hown9 hg9 hO9 hbz hlf hb2 b1 b2 b3 b4
            go_wp2_with fail
            go_roundw
            case rel => exact ⟨i + 1, by omega, by go_num, HO9, Lib.hid g9⟩
            case measure => simp [intOf]; omega
          | false =>
            have hc := HIF.out
            rw [hf] at hc
            have HC := Lib.hid hc
            have HF := Lib.hid (HFS.out.symm.trans hf)
            clear hc hf HIF
            have HPX := Lib.hid (show P x = false by rw [← HPP.out]; unfold Mg.newP; rw [HF.out, decide_eq_false h1]; rfl)
            obtain ⟨A9, c9, e9⟩ := own_slice HO.out
            subst e9
            go_upto_region 7 with fail
            generalize wr.alloc (.cells #[.string (bs x.key), .int .u64 (x.seq : Nat), .bool x.del, .string (bs x.val)] 51) = w1 at *
            have b1 := mcell (v := .string (bs x.key)) rx 0 rfl; have b2 := mcell (v := .int .u64 (x.seq : Nat)) rx 1 rfl; have b3 := mcell (v := .bool x.del) rx 2 rfl; have b4 := mcell (v := .string (bs x.val)) rx 3 rfl
            go_wp2_with fail
            refine HC.out.mono ?_
            rintro e w2 ⟨rfl, q, rfl⟩
            have kq := kept_drewN w1 q
            have hbx := mheap_lt rx
            rw [← kept_cell kq hbx] at b1 b2 b3 b4
            have KW := Lib.hid (kept_trans k1 kq)
            clear k1
            generalize w1.drewN q = w2 at *
            clear kq hbx rx
            have HW := Lib.hid (show (l.take (i + 1)).filter P = (l.take i).filter P by rw [Mg.filter_step HX.out, if_neg (by rw [HPX.out]; decide), List.append_nil])
            go_wp2_with fail
            go_roundw
            case rel => exact ⟨i + 1, by omega, by go_num, Lib.hid (by rw [HW.out]; exact rown_kept HO.out KW.out), Lib.hid (kept_trans HK.out KW.out)⟩
            case measure => simp [intOf]; omega
      · have e : i = l.length := by omega
        subst e
        have hO := HO.out
        rw [List.take_length] at hO
        obtain ⟨B, c9, e1, _, hel⟩ := els_own hO
        have HEL := Lib.hid hel
        subst e1
        clear hO hel
        go_wp2_with fail
        go_ret2
        refine ⟨B, c9, ?_, ?_, HK.out⟩
        · rw [HYES.out.1, HYES.out.2, HSP.out]; rfl
        · rw [HYES.out.1, HSP.out]; exact HEL.out
theorem gbetween_any {w : World} {A : Option Addr} {l : List Mm.Ent} (c : Nat) (h : Els w A l) (hl : l.length ≤ 4000) (kf kt : List UInt8) :
    Calls Try.prog 53 #[.slice A l.length c, .string (bs kf), .string (bs kt)] w fun e w' => ∃ B c', e = .returned (.tuple #[.slice B (Mg.rS l (Mg.between l kf kt)).length c', .int .i64 (Mg.rC l)]) ∧ Elr w.heap.size w' B c' (Mg.rS l (Mg.between l kf kt)) ∧ Kept w w' := by
  obtain ⟨i0, hi, hz0, hz1, hz2⟩ := info_parts mentInfo
  have HI := Lib.hid hi; have HZ0 := Lib.hid hz0; have HZ1 := Lib.hid hz1; have HZ2 := Lib.hid hz2
  have hrow := grow_any A c l hl w h
  have HE := Lib.hid h
  clear hi hz0 hz1 hz2
  cases hv : Mg.row l with
  | false =>
    have HNO := Lib.hid (rS_no (m := Mg.between l kf kt) hv)
    rw [hv] at hrow
    have HRW := Lib.hid hrow
    clear hrow hv h
    go_enter Try.func53, Try.ntmps53
    go_wp2_with fail
    refine HRW.out.mono ?_
    rintro e w1 ⟨rfl, k1⟩
    go_wp2_with fail
    go_ret2
    exact ⟨none, 0, by rw [HNO.out.1, HNO.out.2]; rfl, by rw [HNO.out.1]; exact elr_nil _ _, k1⟩
  | true =>
    have HYES := Lib.hid (rS_yes (m := Mg.between l kf kt) hv)
    have HRW2 := Lib.hid (Mg.row_iff.1 hv)
    rw [hv] at hrow
    have HRW := Lib.hid hrow
    clear hrow hv h
    go_enter Try.func53, Try.ntmps53
    go_wp2_with fail
    refine HRW.out.mono ?_
    rintro e w1 ⟨rfl, k1⟩
    have HK1 := Lib.hid k1
    clear k1
    have HSP := Lib.hid (show Mg.between l kf kt = l.filter (Mg.inr kf kt) from rfl)
    have HPD := Lib.hid (show ∀ y, (Mg.inr kf kt) y = Mg.inr kf kt y from fun _ => rfl)
    generalize hP : Mg.inr kf kt = P at *
    have HPP := Lib.hid hP
    clear hP
    go_wp2_with fail
    go_loopw [8, 16] (fun v t wr => ∃ i : Nat, i ≤ l.length ∧ t = .int .i64 (i : Nat) ∧ Hid (wr.ownsRow w.heap.size 51 4 v ((l.take i).filter P).length (elc ((l.take i).filter P))) ∧ Hid (Kept w wr)) (fun _ t _ => l.length - (intOf t).toNat)
    case atStart => exact ⟨0, Nat.zero_le _, rfl, Lib.hid (by rw [List.take_zero]; exact World.ownsRow_nil _ _ _ _), HK1⟩
    case round =>
      obtain ⟨i, hi, rfl, HO, HK⟩ := hrel
      by_cases hlt : i < l.length
      · obtain ⟨x, hx⟩ : ∃ x, l[i]? = some x := ⟨_, List.getElem?_eq_getElem hlt⟩
        have HE2 := Lib.hid (HE.out.kept HK.out)
        obtain ⟨b, o, rfl, hb, c0, c1, c2, c3⟩ := HE2.out i x hx
        have HX := Lib.hid hx
        have k1 : Kept wr (wr.alloc (.cells #[.string (bs x.key), .int .u64 (x.seq : Nat), .bool x.del, .string (bs x.val)] 51)) := (Kept.refl wr).alloc _
        have rx := malloc_new wr (.cells #[.string (bs x.key), .int .u64 (x.seq : Nat), .bool x.del, .string (bs x.val)] 51)
        clear hx
        have t1 := mbs_less x.key kf
        have t2 := mbs_less x.key kt
        have t3 := mval_nil kt
        by_cases h1 : x.key < kf
        · rw [decide_eq_true h1] at t1
          have HPX := Lib.hid (show P x = false by rw [← HPP.out]; unfold Mg.inr; rw [decide_eq_true h1]; rfl)
          clear h1 t2 t3
          obtain ⟨A9, c9, e9⟩ := own_slice HO.out
          subst e9
          go_upto_region 7 with fail
          generalize wr.alloc (.cells #[.string (bs x.key), .int .u64 (x.seq : Nat), .bool x.del, .string (bs x.val)] 51) = w1 at *
          have b1 := mcell (v := .string (bs x.key)) rx 0 rfl; have b2 := mcell (v := .int .u64 (x.seq : Nat)) rx 1 rfl; have b3 := mcell (v := .bool x.del) rx 2 rfl; have b4 := mcell (v := .string (bs x.val)) rx 3 rfl
          have KW := Lib.hid k1
          clear k1 rx
          have HW := Lib.hid (show (l.take (i + 1)).filter P = (l.take i).filter P by rw [Mg.filter_step HX.out, if_neg (by rw [HPX.out]; decide), List.append_nil])
          go_wp2_with fail
          go_roundw
          case rel => exact ⟨i + 1, by omega, by go_num, Lib.hid (by rw [HW.out]; exact rown_kept HO.out KW.out), Lib.hid (kept_trans HK.out KW.out)⟩
          case measure => simp [intOf]; omega
        · rw [decide_eq_false h1] at t1
          by_cases h2 : kt = []
          · rw [decide_eq_true h2] at t3
            have HPX := Lib.hid (show P x = true by rw [← HPP.out]; unfold Mg.inr; rw [decide_eq_false h1, decide_eq_true h2]; rfl)
            clear h1 h2 t2
            obtain ⟨A9, c9, e9⟩ := own_slice HO.out
            subst e9
            go_upto_region 7 with fail
            generalize wr.alloc (.cells #[.string (bs x.key), .int .u64 (x.seq : Nat), .bool x.del, .string (bs x.val)] 51) = w1 at *
            have b1 := mcell (v := .string (bs x.key)) rx 0 rfl; have b2 := mcell (v := .int .u64 (x.seq : Nat)) rx 1 rfl; have b3 := mcell (v := .bool x.del) rx 2 rfl; have b4 := mcell (v := .string (bs x.val)) rx 3 rfl
            have KW := Lib.hid k1
            clear k1 rx
            have HW := Lib.hid (show (l.take (i + 1)).filter P = (l.take i).filter P ++ [x] by rw [Mg.filter_step HX.out, if_pos HPX.out])
            have hO2 := rown_kept HO.out KW.out
            have hb2 := Nat.le_refl w.heap.size
            have hbz := Nat.le_trans (Below.size HK.out) (Below.size KW.out)
            have hlf : ((l.take i).filter P).length ≤ 4000 := Nat.le_trans (List.length_filter_le _ _) (by rw [List.length_take]; omega)
            generalize hMM : (l.take i).filter P = M at *
            have HMM := Lib.hid hMM
            clear hMM
            go_wp2_with (at_builtin; refine wpList_append_own _ rfl _ _ 46 rfl w.heap.size 51 i0 zentV 4 48 Try.underlying46 HI.out HZ0.out HZ1.out HZ2.out rfl (by decide) _ M.length (elc M) rfl (hO2.alloc _) ⟨w1.heap.size, 0, none⟩ 1 1 [.string (bs x.key), .int .u64 (x.seq : Nat), .bool x.del, .string (bs x.val)] rfl rfl (mcells_new4 _ _ _ _ _ _ _ rfl) (by simp [Value.oneCell']) (by unfold maxLen; omega) (by omega) (by simp; omega) ?_)
            intro v9 w9 hown9 hg9 _
            have g9 : Kept w w9 := Below.grown ((kept_trans HK.out KW.out).alloc _) hg9 (by simp; omega) (fun b hb => (hO2.lt b hb).1)
            have hO9 : w9.ownsRow w.heap.size 51 4 v9 ((l.take (i + 1)).filter P).length (elc ((l.take (i + 1)).filter P)) := by
              rw [HW.out, elc_app, List.length_append]
              simpa [elc, ecs] using hown9
            have HO9 := Lib.hid hO9
            clear hO2 hown9 hg9 hO9 hbz hlf hb2 b1 b2 b3 b4
            go_wp2_with fail
            go_roundw
            case rel => exact ⟨i + 1, by omega, by go_num, HO9, Lib.hid g9⟩
            case measure => simp [intOf]; omega
          · rw [decide_eq_false h2] at t3
            by_cases h3 : x.key < kt
            · rw [decide_eq_true h3] at t2
              have HPX := Lib.hid (show P x = true by rw [← HPP.out]; unfold Mg.inr; rw [decide_eq_false h1, decide_eq_true h3]; simp)
              clear h1 h2 h3
              obtain ⟨A9, c9, e9⟩ := own_slice HO.out
              subst e9
              go_upto_region 7 with fail
              generalize wr.alloc (.cells #[.string (bs x.key), .int .u64 (x.seq : Nat), .bool x.del, .string (bs x.val)] 51) = w1 at *
              have b1 := mcell (v := .string (bs x.key)) rx 0 rfl; have b2 := mcell (v := .int .u64 (x.seq : Nat)) rx 1 rfl; have b3 := mcell (v := .bool x.del) rx 2 rfl; have b4 := mcell (v := .string (bs x.val)) rx 3 rfl
              have KW := Lib.hid k1
              clear k1 rx
              have HW := Lib.hid (show (l.take (i + 1)).filter P = (l.take i).filter P ++ [x] by rw [Mg.filter_step HX.out, if_pos HPX.out])
              have hO2 := rown_kept HO.out KW.out
              have hb2 := Nat.le_refl w.heap.size
              have hbz := Nat.le_trans (Below.size HK.out) (Below.size KW.out)
              have hlf : ((l.take i).filter P).length ≤ 4000 := Nat.le_trans (List.length_filter_le _ _) (by rw [List.length_take]; omega)
              generalize hMM : (l.take i).filter P = M at *
              have HMM := Lib.hid hMM
              clear hMM
              go_wp2_with (at_builtin; refine wpList_append_own _ rfl _ _ 46 rfl w.heap.size 51 i0 zentV 4 48 Try.underlying46 HI.out HZ0.out HZ1.out HZ2.out rfl (by decide) _ M.length (elc M) rfl (hO2.alloc _) ⟨w1.heap.size, 0, none⟩ 1 1 [.string (bs x.key), .int .u64 (x.seq : Nat), .bool x.del, .string (bs x.val)] rfl rfl (mcells_new4 _ _ _ _ _ _ _ rfl) (by simp [Value.oneCell']) (by unfold maxLen; omega) (by omega) (by simp; omega) ?_)
              intro v9 w9 hown9 hg9 _
              have g9 : Kept w w9 := Below.grown ((kept_trans HK.out KW.out).alloc _) hg9 (by simp; omega) (fun b hb => (hO2.lt b hb).1)
              have hO9 : w9.ownsRow w.heap.size 51 4 v9 ((l.take (i + 1)).filter P).length (elc ((l.take (i + 1)).filter P)) := by
                rw [HW.out, elc_app, List.length_append]
                simpa [elc, ecs] using hown9
              have HO9 := Lib.hid hO9
              clear hO2 hown9 hg9 hO9 hbz hlf hb2 b1 b2 b3 b4
              go_wp2_with fail
              go_roundw
              case rel => exact ⟨i + 1, by omega, by go_num, HO9, Lib.hid g9⟩
              case measure => simp [intOf]; omega
            · rw [decide_eq_false h3] at t2
              have HPX := Lib.hid (show P x = false by rw [← HPP.out]; unfold Mg.inr; rw [decide_eq_false h1, decide_eq_false h2, decide_eq_false h3]; rfl)
              clear h1 h2 h3
              obtain ⟨A9, c9, e9⟩ := own_slice HO.out
              subst e9
              go_upto_region 7 with fail
              generalize wr.alloc (.cells #[.string (bs x.key), .int .u64 (x.seq : Nat), .bool x.del, .string (bs x.val)] 51) = w1 at *
              have b1 := mcell (v := .string (bs x.key)) rx 0 rfl; have b2 := mcell (v := .int .u64 (x.seq : Nat)) rx 1 rfl; have b3 := mcell (v := .bool x.del) rx 2 rfl; have b4 := mcell (v := .string (bs x.val)) rx 3 rfl
              have KW := Lib.hid k1
              clear k1 rx
              have HW := Lib.hid (show (l.take (i + 1)).filter P = (l.take i).filter P by rw [Mg.filter_step HX.out, if_neg (by rw [HPX.out]; decide), List.append_nil])
              go_wp2_with fail
              go_roundw
              case rel => exact ⟨i + 1, by omega, by go_num, Lib.hid (by rw [HW.out]; exact rown_kept HO.out KW.out), Lib.hid (kept_trans HK.out KW.out)⟩
              case measure => simp [intOf]; omega
      · have e : i = l.length := by omega
        subst e
        have hO := HO.out
        rw [List.take_length] at hO
        obtain ⟨B, c9, e1, _, hel⟩ := els_own hO
        have HEL := Lib.hid hel
        subst e1
        clear hO hel
        go_wp2_with fail
        go_ret2
        refine ⟨B, c9, ?_, ?_, HK.out⟩
        · rw [HYES.out.1, HYES.out.2, HSP.out]; rfl
        · rw [HYES.out.1, HSP.out]; exact HEL.out
end Go.Proofs.Ytpbhbgoaaephgaa
