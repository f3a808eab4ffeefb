/-
  Package merge over memory: an entry more at the end of what has been told.
-/
import Derived.Test.YtpbhbgoaaephgaaMergePop
namespace Go.Proofs.Ytpbhbgoaaephgaa
open Go.ChangeShapes Go.WideShapes Go.ChangeAt Go.RowKit
set_option linter.unusedVariables false
set_option maxRecDepth 100000
set_option maxHeartbeats 1000000

theorem wn_yes {L : List Mm.Ent} {x : Mm.Ent} (h : L = [] ∨ ∃ z, L.getLast? = some z ∧ Mg.ab z x = true) : Mg.wn L x = L ++ [x] := by
  unfold Mg.wn
  rcases h with rfl | ⟨z, h1, h2⟩
  · rfl
  · rw [h1]; simp only; rw [if_pos h2]
theorem wn_no {L : List Mm.Ent} {x z : Mm.Ent} (h1 : L.getLast? = some z) (h2 : Mg.ab z x = false) : Mg.wn L x = L := by
  unfold Mg.wn
  rw [h1]; simp only; rw [if_neg (by rw [h2]; decide)]
theorem ex_grown {w w1 w2 : World} {v : Value} (k : Kept w w1) (hg : w1.grownBy w2 v.ownBlock) : Ex (fun b => v.ownBlock = some b) w w2 :=
  (ex_kept k).trans (F' := fun b => v.ownBlock = some b) ⟨hg.os, hg.tape, hg.output, hg.size, fun i hi hn => hg.block i hi (fun e => hn e.symm)⟩ (fun _ _ h => h)
theorem gnext_any {w : World} {base : Nat} {v : Value} {L : List Mm.Ent} (hown : w.ownsRow base 51 4 v L.length (elc L)) (x : Mm.Ent) (hL : L.length ≤ 4000) (hbase : base ≤ w.heap.size) :
    Calls Try.prog 69 #[v, entV x] w fun e w' => ∃ v', e = .returned v' ∧ w'.ownsRow base 51 4 v' (Mg.wn L x).length (elc (Mg.wn L x)) ∧ Ex (fun b => v.ownBlock = some b) w w' := by
  obtain ⟨i0, hi, hz0, hz1, hz2⟩ := info_parts mentInfo
  have HI := Lib.hid hi; have HZ0 := Lib.hid hz0; have HZ1 := Lib.hid hz1; have HZ2 := Lib.hid hz2
  obtain ⟨A, c, rfl⟩ := own_slice hown
  have HO := Lib.hid hown
  have XC := Lib.hid (show ecs x = [.string (bs x.key), .int .u64 (x.seq : Nat), .bool x.del, .string (bs x.val)] from rfl)
  have g0 : Kept w (w.alloc (.cells #[.string (bs x.key), .int .u64 (x.seq : Nat), .bool x.del, .string (bs x.val)] 51)) := (Kept.refl w).alloc _
  have rx := malloc_new w (.cells #[.string (bs x.key), .int .u64 (x.seq : Nat), .bool x.del, .string (bs x.val)] 51)
  unfold entV
  have hel := els_own hown
  obtain ⟨A', c', e1, e2, hel⟩ := hel
  cases e1
  have HEL := Lib.hid hel.els
  clear hi hz0 hz1 hz2 hown hel e2
  rcases Nat.eq_zero_or_pos L.length with h0 | hpos
  · have hLn : L = [] := List.eq_nil_of_length_eq_zero h0
    have HW := Lib.hid (wn_yes (x := x) (.inl hLn))
    have HB := Lib.hid hbase
    rw [h0] at HO
    rw [h0]
    have HLE := Lib.hid hLn
    clear hLn hbase
    go_enter Try.func69, Try.ntmps69
    go_wp2_with fail
    go_quiet (fail)
    have k2 := kept_trans g0 (kept_drewN (w.alloc (.cells #[.string (bs x.key), .int .u64 (x.seq : Nat), .bool x.del, .string (bs x.val)] 51)) nq)
    have rx2 : ((w.alloc (.cells #[.string (bs x.key), .int .u64 (x.seq : Nat), .bool x.del, .string (bs x.val)] 51)).drewN nq).heap[w.heap.size]? = some (.cells #[.string (bs x.key), .int .u64 (x.seq : Nat), .bool x.del, .string (bs x.val)] 51) := rx
    clear g0 rx
    generalize (w.alloc (.cells #[.string (bs x.key), .int .u64 (x.seq : Nat), .bool x.del, .string (bs x.val)] 51)).drewN nq = w2 at *
    have b1 := mcell (v := .string (bs x.key)) rx2 0 rfl; have b2 := mcell (v := .int .u64 (x.seq : Nat)) rx2 1 rfl; have b3 := mcell (v := .bool x.del) rx2 2 rfl; have b4 := mcell (v := .string (bs x.val)) rx2 3 rfl
    have hO2 := rown_kept HO.out k2
    have hb2 := Nat.le_trans HB.out (Below.size k2)
    clear rx2
    go_wp2_with (at_builtin; refine wpList_append_own _ rfl _ _ 46 rfl base 51 i0 zentV 4 48 Try.underlying46 HI.out HZ0.out HZ1.out HZ2.out rfl (by decide) _ 0 (elc L) rfl (hO2.alloc _) ⟨w2.heap.size, 0, none⟩ 1 1 [.string (bs x.key), .int .u64 (x.seq : Nat), .bool x.del, .string (bs x.val)] rfl rfl (mcells_new4 _ _ _ _ _ _ _ rfl) (by simp [Value.oneCell']) (by unfold maxLen; omega) (by omega) (by simp; omega) ?_)
    intro v' w3 hown3 hg3 _
    have E3 := ex_grown (kept_trans k2 ((Kept.refl w2).alloc _)) hg3
    clear b1 b2 b3 b4 hO2
    rw [← XC.out] at hown3
    go_wp2_with fail
    go_ret
    refine ⟨v', rfl, ?_, E3⟩
    rw [HW.out, elc_app, List.length_append, HLE.out]
    rw [HLE.out] at hown3
    simpa [elc] using hown3
  · obtain ⟨m, hm⟩ : ∃ m, L.length = m + 1 := ⟨L.length - 1, by omega⟩
    have hz : L[m]? = some (L[m]'(by omega)) := List.getElem?_eq_getElem _
    generalize L[m]'(by omega) = z at hz
    have hlast : L.getLast? = some z := by rw [List.getLast?_eq_getElem?, hm]; exact hz
    obtain ⟨b, o, rfl, hb, c0, c1, c2, c3⟩ := HEL.out m z hz
    have C := Lib.hid (show Ec w b o m z from ⟨c0, c1, c2, c3⟩)
    have hab := gahead_ab z x
    have HB := Lib.hid hbase
    have e1 : ((L.length : Nat) : Int) - 1 = (m : Int) := by omega
    have e2 : IntKind.i64.wrap (m : Int) = (m : Int) := wrap_nat (by omega)
    have hmL : m < L.length := by omega
    have hLL : 0 < L.length := hpos
    have HBL := Lib.hid hb
    clear hz hm hpos hbase c0 c1 c2 c3
    generalize hl : L.length = n at *
    have HLN := Lib.hid hl
    clear hl
    cases hv : Mg.ab z x with
    | true =>
      have HW := Lib.hid (wn_yes (x := x) (.inr ⟨z, hlast, hv⟩))
      rw [hv] at hab
      have HAH := Lib.hid hab
      clear hv hab hlast
      go_enter Try.func69, Try.ntmps69
      go_upto_region 2 with fail
      generalize w.alloc (.cells #[.string (bs x.key), .int .u64 (x.seq : Nat), .bool x.del, .string (bs x.val)] 51) = w1 at *
      have b1 := mcell (v := .string (bs x.key)) rx 0 rfl; have b2 := mcell (v := .int .u64 (x.seq : Nat)) rx 1 rfl; have b3 := mcell (v := .bool x.del) rx 2 rfl; have b4 := mcell (v := .string (bs x.val)) rx 3 rfl
      have C1 := Lib.hid (C.out.kept HBL.out g0)
      have D1 := Lib.hid (show w1.cell? ⟨w.heap.size, 0, none⟩ = some (.string (bs x.key)) ∧ w1.cell? ⟨w.heap.size, 1, none⟩ = some (.int .u64 (x.seq : Nat)) ∧ w1.cell? ⟨w.heap.size, 2, none⟩ = some (.bool x.del) ∧ w1.cell? ⟨w.heap.size, 3, none⟩ = some (.string (bs x.val)) from ⟨b1, b2, b3, b4⟩)
      have B1 := Lib.hid (And.intro (Nat.lt_of_lt_of_le HBL.out (Below.size g0)) (mheap_lt rx))
      obtain ⟨c0, c1, c2, c3⟩ := C1.out
      have G0 := Lib.hid g0
      have hOg := rown_kept HO.out g0
      have HO1 := Lib.hid hOg
      clear g0 rx hOg
      go_region_held3 (fun w' => (w'.cell? ⟨b, o + m * 4, none⟩ = some (.string (bs z.key)) ∧ w'.cell? ⟨b, o + m * 4 + 1, none⟩ = some (.int .u64 (z.seq : Nat)) ∧ w'.cell? ⟨b, o + m * 4 + 2, none⟩ = some (.bool z.del) ∧ w'.cell? ⟨b, o + m * 4 + 3, none⟩ = some (.string (bs z.val))) ∧ w'.cell? ⟨w.heap.size, 0, none⟩ = some (.string (bs x.key)) ∧ w'.cell? ⟨w.heap.size, 1, none⟩ = some (.int .u64 (x.seq : Nat)))
        (first | exact ⟨C1.out, D1.out.1, D1.out.2.1⟩ | exact ⟨C1.out.kept B1.out.1 (kept_drewN _ 1), (kept_cell (kept_drewN w1 1) B1.out.2).trans D1.out.1, (kept_cell (kept_drewN w1 1) B1.out.2).trans D1.out.2.1⟩ | exact ⟨C1.out.kept B1.out.1 (kept_trans (kept_drewN w1 1) g1), (kept_cell (kept_trans (kept_drewN w1 1) g1) B1.out.2).trans D1.out.1, (kept_cell (kept_trans (kept_drewN w1 1) g1) B1.out.2).trans D1.out.2.1⟩)
        ((go_at_call 73; refine (HAH.out _).mono ?_; rintro e w2 ⟨rfl, g1⟩))
      have k2 := kept_trans G0.out (kept_trans (kept_drewN w1 1) g1)
      have K2 := Lib.hid (kept_trans (kept_drewN w1 1) g1)
      clear g1 c0 c1 c2 c3 b1 b2 b3 b4
      have hO2 := rown_kept HO1.out K2.out
      have hb2 := Nat.le_trans HB.out (Below.size k2)
      have b1 := (kept_cell K2.out B1.out.2).trans D1.out.1; have b2 := (kept_cell K2.out B1.out.2).trans D1.out.2.1; have b3 := (kept_cell K2.out B1.out.2).trans D1.out.2.2.1; have b4 := (kept_cell K2.out B1.out.2).trans D1.out.2.2.2
      go_wp2_with (at_builtin; refine wpList_append_own _ rfl _ _ 46 rfl base 51 i0 zentV 4 48 Try.underlying46 HI.out HZ0.out HZ1.out HZ2.out rfl (by decide) _ n (elc L) rfl (hO2.alloc _) ⟨w2.heap.size, 0, none⟩ 1 1 [.string (bs x.key), .int .u64 (x.seq : Nat), .bool x.del, .string (bs x.val)] rfl rfl (mcells_new4 _ _ _ _ _ _ _ rfl) (by simp [Value.oneCell']) (by unfold maxLen; omega) (by omega) (by simp; omega) ?_)
      intro v' w3 hown3 hg3 _
      have E3 := ex_grown (kept_trans k2 ((Kept.refl w2).alloc _)) hg3
      clear b1 b2 b3 b4 hO2
      rw [← XC.out] at hown3
      go_wp2_with fail
      go_ret
      refine ⟨v', rfl, ?_, E3⟩
      rw [HW.out, elc_app, List.length_append, HLN.out]
      simpa [elc] using hown3
    | false =>
      have HW := Lib.hid (wn_no (x := x) hlast hv)
      rw [hv] at hab
      have HAH := Lib.hid hab
      clear hv hab hlast
      go_enter Try.func69, Try.ntmps69
      go_upto_region 2 with fail
      generalize w.alloc (.cells #[.string (bs x.key), .int .u64 (x.seq : Nat), .bool x.del, .string (bs x.val)] 51) = w1 at *
      have b1 := mcell (v := .string (bs x.key)) rx 0 rfl; have b2 := mcell (v := .int .u64 (x.seq : Nat)) rx 1 rfl; have b3 := mcell (v := .bool x.del) rx 2 rfl; have b4 := mcell (v := .string (bs x.val)) rx 3 rfl
      have C1 := Lib.hid (C.out.kept HBL.out g0)
      have D1 := Lib.hid (show w1.cell? ⟨w.heap.size, 0, none⟩ = some (.string (bs x.key)) ∧ w1.cell? ⟨w.heap.size, 1, none⟩ = some (.int .u64 (x.seq : Nat)) ∧ w1.cell? ⟨w.heap.size, 2, none⟩ = some (.bool x.del) ∧ w1.cell? ⟨w.heap.size, 3, none⟩ = some (.string (bs x.val)) from ⟨b1, b2, b3, b4⟩)
      have B1 := Lib.hid (And.intro (Nat.lt_of_lt_of_le HBL.out (Below.size g0)) (mheap_lt rx))
      obtain ⟨c0, c1, c2, c3⟩ := C1.out
      have G0 := Lib.hid g0
      have hOg := rown_kept HO.out g0
      have HO1 := Lib.hid hOg
      clear g0 rx hOg
      go_region_held3 (fun w' => (w'.cell? ⟨b, o + m * 4, none⟩ = some (.string (bs z.key)) ∧ w'.cell? ⟨b, o + m * 4 + 1, none⟩ = some (.int .u64 (z.seq : Nat)) ∧ w'.cell? ⟨b, o + m * 4 + 2, none⟩ = some (.bool z.del) ∧ w'.cell? ⟨b, o + m * 4 + 3, none⟩ = some (.string (bs z.val))) ∧ w'.cell? ⟨w.heap.size, 0, none⟩ = some (.string (bs x.key)) ∧ w'.cell? ⟨w.heap.size, 1, none⟩ = some (.int .u64 (x.seq : Nat)))
        (first | exact ⟨C1.out, D1.out.1, D1.out.2.1⟩ | exact ⟨C1.out.kept B1.out.1 (kept_drewN _ 1), (kept_cell (kept_drewN w1 1) B1.out.2).trans D1.out.1, (kept_cell (kept_drewN w1 1) B1.out.2).trans D1.out.2.1⟩ | exact ⟨C1.out.kept B1.out.1 (kept_trans (kept_drewN w1 1) g1), (kept_cell (kept_trans (kept_drewN w1 1) g1) B1.out.2).trans D1.out.1, (kept_cell (kept_trans (kept_drewN w1 1) g1) B1.out.2).trans D1.out.2.1⟩)
        ((go_at_call 73; refine (HAH.out _).mono ?_; rintro e w2 ⟨rfl, g1⟩))
      have k2 := kept_trans G0.out (kept_trans (kept_drewN w1 1) g1)
      have K2 := Lib.hid (kept_trans (kept_drewN w1 1) g1)
      clear g1 c0 c1 c2 c3 b1 b2 b3 b4
      have hO2 := rown_kept HO1.out K2.out
      go_wp2_with fail
      go_ret
      refine ⟨_, rfl, ?_, ex_kept k2⟩
      rw [HW.out, HLN.out]
      exact hO2
end Go.Proofs.Ytpbhbgoaaephgaa
