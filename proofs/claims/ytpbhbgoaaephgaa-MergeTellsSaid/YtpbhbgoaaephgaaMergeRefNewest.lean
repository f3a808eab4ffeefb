/-
  The document's own Newest of layer 8: the same as the program's.
-/
import Derived.Test.YtpbhbgoaaephgaaMergeRefSeen
namespace Go.Proofs.Ytpbhbgoaaephgaa
open Go.ChangeShapes Go.WideShapes Go.ChangeAt Go.RowKit
set_option linter.unusedVariables false
set_option maxRecDepth 100000
set_option maxHeartbeats 4000000

namespace Mg
open Mm
/-- is an entry covered by one of the k first ones? -/
def gc (l : List Ent) (s : Nat) (x : Ent) (k : Nat) : Bool := (l.take k).any (fun y => decide (y.key = x.key) && decide (y.seq ≤ s))
theorem gc_zero (l : List Ent) (s : Nat) (x : Ent) : gc l s x 0 = false := by simp [gc]
theorem gc_step {l : List Ent} {s : Nat} {x y : Ent} {k : Nat} (hy : l[k]? = some y) : gc l s x (k + 1) = (gc l s x k || (decide (y.key = x.key) && decide (y.seq ≤ s))) := by
  unfold gc
  rw [List.take_add_one, hy, List.any_append]
  simp
theorem gc_new {l : List Ent} (h : Rw l) {s i : Nat} {x : Ent} (hx : l[i]? = some x) : gc l s x i = !newP l s x := by
  have key : newP l s x = true ↔ ∀ y ∈ l.take i, y.key = x.key → s < y.seq := by
    unfold newP
    rw [Bool.or_eq_true, decide_eq_true_iff, first_iff]
    constructor
    · intro hc y hy e
      obtain ⟨j, hj⟩ := List.getElem?_of_mem hy
      rw [List.getElem?_take] at hj
      split at hj
      · rename_i hji
        have hlt : x.seq < y.seq := by
          rcases ab_iff.1 (h.lt hj hx hji) with q | ⟨_, q⟩
          · rw [e] at q; exact absurd q (lt_irrefl _)
          · exact q
        rcases hc with hc | hc
        · omega
        · exact hc.2 y (List.mem_of_getElem? hj) e hlt
      · cases hj
    · intro hc
      by_cases hs : s < x.seq
      · exact .inl hs
      · refine .inr ⟨by omega, fun y hy e1 e2 => ?_⟩
        obtain ⟨j, hj⟩ := List.getElem?_of_mem hy
        have hji := h.idx hj hx (ab_iff.2 (.inr ⟨e1, e2⟩))
        exact hc y (List.mem_of_getElem? (show (l.take i)[j]? = some y by rw [List.getElem?_take, if_pos hji]; exact hj)) e1
  cases hn : newP l s x with
  | true =>
    have h1 := key.1 hn
    unfold gc
    show _ = false
    rw [List.any_eq_false]
    intro y hy hc
    rw [Bool.and_eq_true, decide_eq_true_iff, decide_eq_true_iff] at hc
    have := h1 y hy hc.1
    omega
  | false =>
    show _ = true
    cases hg : gc l s x i with
    | true => rfl
    | false =>
      have : newP l s x = true := key.2 fun y hy e => by
        unfold gc at hg
        rw [List.any_eq_false] at hg
        have := hg y hy
        rw [Bool.and_eq_true, decide_eq_true_iff, decide_eq_true_iff] at this
        by_cases hc : s < y.seq
        · exact hc
        · exact absurd ⟨e, by omega⟩ this
      rw [hn] at this; cases this
end Mg
theorem grnewest_any {w : World} {A : Option Addr} {l : List Mm.Ent} (c : Nat) (h : Els w A l) (hl : l.length ≤ 4000) (s : Nat) :
    Calls Try.prog 52 #[.slice A l.length c, .int .u64 (s : Nat)] w fun e w' => ∃ B c', e = .returned (.tuple #[.slice B (Mg.rS l (Mg.newest l s)).length c', .int .i64 (Mg.rC l)]) ∧ Elr w.heap.size w' B c' (Mg.rS l (Mg.newest l s)) ∧ Kept w w' := by
  obtain ⟨i0, hi, hz0, hz1, hz2⟩ := info_parts mentInfo
  have HI := Lib.hid hi; have HZ0 := Lib.hid hz0; have HZ1 := Lib.hid hz1; have HZ2 := Lib.hid hz2
  have hrow := grrow_any c h hl
  have HE := Lib.hid h
  clear hi hz0 hz1 hz2
  cases hv : Mg.row l with
  | false =>
    have HNO := Lib.hid (rS_no (m := Mg.newest l s) hv)
    rw [hv] at hrow
    have HRW := Lib.hid hrow
    clear hrow hv h
    go_enter Try.func52, Try.ntmps52
    go_wp2_with fail
    refine HRW.out.mono ?_
    rintro e w1 ⟨rfl, k1⟩
    go_wp2_with fail
    go_ret2
    exact ⟨none, 0, by rw [HNO.out.1, HNO.out.2]; rfl, by rw [HNO.out.1]; exact elr_nil _ _, k1⟩
  | true =>
    have HYES := Lib.hid (rS_yes (m := Mg.newest l s) hv)
    have HRR := Lib.hid (Mg.row_iff.1 hv)
    rw [hv] at hrow
    have HRW := Lib.hid hrow
    clear hrow hv h
    go_enter Try.func52, Try.ntmps52
    go_wp2_with fail
    refine HRW.out.mono ?_
    rintro e w1 ⟨rfl, k1⟩
    have HK1 := Lib.hid (k1.alloc (.cells #[] 51))
    have HO1 := Lib.hid (World.ownsRow_lit (base := w.heap.size) (e := 51) (size := 4) w1 #[] 0 (Below.size k1) (by unfold maxLen; omega) rfl)
    clear k1
    have HSP := Lib.hid (show Mg.newest l s = l.filter (Mg.newP l s) from rfl)
    have HGS := Lib.hid (fun i x (hx : l[i]? = some x) => Mg.gc_new HRR.out (s := s) hx)
    generalize hP : Mg.newP l s = P at *
    clear hP
    go_wp2_with fail
    go_loopw [6, 7] (fun v t wr => ∃ i : Nat, i ≤ l.length ∧ t = .int .i64 (i : Nat) ∧ Hid (wr.ownsRow w.heap.size 51 4 v ((l.take i).filter P).length (elc ((l.take i).filter P))) ∧ Hid (Kept w wr)) (fun _ t _ => l.length - (intOf t).toNat)
    case atStart => exact ⟨0, Nat.zero_le _, rfl, Lib.hid (by rw [List.take_zero]; exact HO1.out), HK1⟩
    case round =>
      obtain ⟨i, hi, rfl, HO, HK⟩ := hrel
      by_cases hlt : i < l.length
      · obtain ⟨A9, c9, e9⟩ := own_slice HO.out
        subst e9
        obtain ⟨x, hx⟩ : ∃ x, l[i]? = some x := ⟨_, List.getElem?_eq_getElem hlt⟩
        obtain ⟨b, o, rfl, hb, c0, c1, c2, c3⟩ := (HE.out.kept HK.out) i x hx
        have HX := Lib.hid hx
        have hfl : ((l.take i).filter P).length ≤ 4000 := Nat.le_trans (List.length_filter_le _ _) (by rw [List.length_take]; omega)
        have HGI := Lib.hid (HGS.out i x hx)
        have HG0 := Lib.hid (Mg.gc_zero l s x)
        clear hx
        rename World => wo
        go_wp2_with fail
        go_loopw [8, 9] (fun f t wi => ∃ (k : Nat) (F : Bool), k ≤ i ∧ t = .int .i64 (k : Nat) ∧ f = .bool F ∧ Hid (Mg.gc l s x k = F) ∧ Hid (Kept wo wi)) (fun _ t _ => i - (intOf t).toNat)
        case atStart => exact ⟨0, _, Nat.zero_le _, rfl, rfl, HG0, Lib.hid (Kept.refl _)⟩
        case round =>
          obtain ⟨k, F, hk, rfl, rfl, HF, HK2⟩ := hrel
          by_cases hlt2 : k < i
          · obtain ⟨y, hy⟩ : ∃ y, l[k]? = some y := ⟨_, List.getElem?_eq_getElem (by omega)⟩
            obtain ⟨b', o', eA, _, r0, r1, _, _⟩ := (HE.out.kept (kept_trans HK.out HK2.out)) k y hy
            cases eA
            have x0 := (kept_cell HK2.out (p := ⟨b, o + i * 4, none⟩) hb).trans c0
            have HG := Lib.hid (Mg.gc_step (s := s) (x := x) hy)
            have hkl : k < l.length := by omega
            clear hy
            cases F with
            | true =>
              have HN := Lib.hid (show Mg.gc l s x (k + 1) = true by rw [HG.out, HF.out]; rfl)
              go_wp2_with fail
              go_quiet (fail)
              go_wp2_with fail
              go_roundw
              case rel => exact ⟨k + 1, true, by omega, by go_num, rfl, HN, Lib.hid (kept_trans HK2.out (kept_drewN _ _))⟩
              case measure => simp [intOf]; omega
            | false =>
              by_cases hk1 : y.key = x.key
              · have t1 : ((bs y.key).toList == (bs x.key).toList) = true := by rw [mbs_eq, decide_eq_true hk1]
                by_cases hk2 : y.seq ≤ s
                · have t2 : decide ((y.seq : Int) ≤ (s : Int)) = true := decide_eq_true (by omega)
                  have t3 : decide (y.seq ≤ s) = true := decide_eq_true hk2
                  have HN := Lib.hid (show Mg.gc l s x (k + 1) = true by rw [HG.out, HF.out, t3, decide_eq_true hk1]; rfl)
                  clear hk1 hk2
                  go_wp2_with fail
                  go_quiet (fail)
                  go_wp2_with fail
                  go_roundw
                  case rel => exact ⟨k + 1, true, by omega, by go_num, rfl, HN, Lib.hid (kept_trans HK2.out (kept_drewN _ _))⟩
                  case measure => simp [intOf]; omega
                · have t2 : decide ((y.seq : Int) ≤ (s : Int)) = false := decide_eq_false (by omega)
                  have t3 : decide (y.seq ≤ s) = false := decide_eq_false hk2
                  have HN := Lib.hid (show Mg.gc l s x (k + 1) = false by rw [HG.out, HF.out, t3]; simp)
                  clear hk1 hk2
                  go_wp2_with fail
                  go_quiet (fail)
                  go_wp2_with fail
                  go_roundw
                  case rel => exact ⟨k + 1, false, by omega, by go_num, rfl, HN, Lib.hid (kept_trans HK2.out (kept_drewN _ _))⟩
                  case measure => simp [intOf]; omega
              · have t1 : ((bs y.key).toList == (bs x.key).toList) = false := by rw [mbs_eq, decide_eq_false hk1]
                have HN := Lib.hid (show Mg.gc l s x (k + 1) = false by rw [HG.out, HF.out, decide_eq_false hk1]; rfl)
                clear hk1
                go_wp2_with fail
                go_quiet (fail)
                go_wp2_with fail
                go_roundw
                case rel => exact ⟨k + 1, false, by omega, by go_num, rfl, HN, Lib.hid (kept_trans HK2.out (kept_drewN _ _))⟩
                case measure => simp [intOf]; omega
          · have e : k = i := by omega
            subst e
            have HPX := Lib.hid (show P x = !F by have := HGI.out.symm.trans HF.out; rw [← this]; simp)
            have HO2 := Lib.hid (rown_kept HO.out HK2.out)
            have HKK := Lib.hid (kept_trans HK.out HK2.out)
            cases F with
            | true =>
              have HW := Lib.hid (show (l.take (k + 1)).filter P = (l.take k).filter P by rw [Mg.filter_step HX.out, if_neg (by rw [HPX.out]; decide), List.append_nil])
              go_wp2_with fail
              go_roundw
              case rel => exact ⟨k + 1, by omega, by go_num, Lib.hid (by rw [HW.out]; exact HO2.out), HKK⟩
              case measure => simp [intOf]; omega
            | false =>
              have HW := Lib.hid (show (l.take (k + 1)).filter P = (l.take k).filter P ++ [x] by rw [Mg.filter_step HX.out, if_pos (by rw [HPX.out]; rfl)])
              have HES := Lib.hid (show elc ((l.take k).filter P ++ [x]) = elc ((l.take k).filter P) ++ [.string (bs x.key), .int .u64 (x.seq : Nat), .bool x.del, .string (bs x.val)] by rw [elc_app]; simp [elc, ecs])
              obtain ⟨b', o', eA, hb', y0, y1, y2, y3⟩ := (HE.out.kept HKK.out) k x HX.out
              cases eA
              have hwsz : w.heap.size ≤ wr.heap.size := Below.size HKK.out
              have hown := HO2.out
              clear HO HO2 c0 c1 c2 c3
              go_wp2_with (at_builtin; refine wpList_append_own _ rfl _ _ 46 rfl w.heap.size 51 i0 zentV 4 48 Try.underlying46 HI.out HZ0.out HZ1.out HZ2.out rfl (by decide) _ ((l.take k).filter P).length (elc ((l.take k).filter P)) rfl (hown.alloc _) ⟨wr.heap.size, 0, none⟩ 1 1 [.string (bs x.key), .int .u64 (x.seq : Nat), .bool x.del, .string (bs x.val)] rfl rfl (mcells_new4 _ _ _ _ _ _ _ rfl) (by simp [Value.oneCell']) (by unfold maxLen; omega) (by omega) (by simp; omega) ?_)
              intro v' w5 hown5 hg _
              have HK5 := Lib.hid (show Kept w w5 from Below.grown (HKK.out.alloc _) hg (by simp; omega) (fun b hb => (hown.lt b hb).1))
              rw [← HES.out] at hown5
              have HO5 := Lib.hid (show w5.ownsRow w.heap.size 51 4 v' ((l.take (k + 1)).filter P).length (elc ((l.take (k + 1)).filter P)) by rw [HW.out, List.length_append]; exact hown5)
              clear hown5 hown hg
              go_wp2_with fail
              go_roundw
              case rel => exact ⟨k + 1, by omega, by go_num, HO5, HK5⟩
              case measure => simp [intOf]; omega
      · have e : i = l.length := by omega
        subst e
        have ho := HO.out
        rw [List.take_length, ← HSP.out, ← HYES.out.1] at ho
        obtain ⟨B, c', rfl, _, hel⟩ := els_own ho
        have HEL := Lib.hid hel
        clear hel ho HO
        go_wp2_with fail
        go_ret2
        exact ⟨B, c', by rw [HYES.out.2]; rfl, HEL.out, HK.out⟩
end Go.Proofs.Ytpbhbgoaaephgaa
