/-
  takeOp of package batch takes an operation, or tells that there is none.
-/
import Derived.Test.YtalcmiaohclnjaaBatchTake
namespace Go.Proofs.Ytalcmiaohclnjaa
open Go.ChangeShapes Go.WideShapes Go.ChangeAt Go.RowKit
set_option linter.unusedVariables false
set_option maxHeartbeats 1000000

theorem But.own {b : Nat} {W w : World} (h : But b W w) {q : Nat} (hq : W.heap.size ≤ q) (j : Nat) (x : Value) : But b W (w.setCell ⟨q, j, none⟩ x) :=
  ⟨h.os, h.tape, h.output, Nat.le_trans h.size (by simp [World.setCell]), fun k hk hn => (Below.heap_setCell _ _ _ _ (fun (e : k = q) => by omega)).trans (h.block k hk hn)⟩
theorem Rest.other {w : World} {b : Nat} {R : List UInt8} (h : Rest w b R) {q : Nat} (hq : q ≠ b) (j : Nat) (x : Value) : Rest (w.setCell ⟨q, j, none⟩ x) b R :=
  (Below.heap_setCell _ _ _ _ (fun (e : b = q) => hq e.symm)).trans h
theorem Rest.lt {w : World} {b : Nat} {R : List UInt8} (h : Rest w b R) : b < w.heap.size := (Array.getElem?_eq_some_iff.1 h).1
def zop : Value := .agg #[.bool false, .string ⟨#[]⟩, .string ⟨#[]⟩]
/-- the block of a result: its cells behind what leaves it as it was -/
theorem zblk {W w1 : World} {b : Nat} (hb : b < W.heap.size) (g : But b (W.alloc (.cells #[.bool false, .string ⟨#[]⟩, .string ⟨#[]⟩] 34)) w1) :
    w1.heap[W.heap.size]? = some (.cells #[.bool false, .string ⟨#[]⟩, .string ⟨#[]⟩] 34 (0, 0)) :=
  g.at (by show (W.heap.push _)[W.heap.size]? = _; exact Array.getElem?_push_size) (by omega)
theorem balloc {W w1 : World} {b : Nat} {o : Obj} (g : But b (W.alloc o) w1) : But b W w1 := (But.kept ((Kept.refl W).alloc o)).trans g
theorem oneB (c : UInt8) : bs [c] = ⟨#[c]⟩ := rfl
section
variable {b pn pp : Nat} {r : List UInt8} {W : World}
theorem takeOp_empty (hR : Rest W b []) (hC : Clo W b pn pp) :
    Calls Try.prog 41 #[.func (.func 40) #[] #[.pointer (some ⟨pp, 0, none⟩)], .func (.func 39) #[] #[.pointer (some ⟨pn, 0, none⟩), .pointer (some ⟨pp, 0, none⟩)]] W fun e w' => e = .returned (.tuple #[zop, .bool false]) ∧ But b W w' := by
  have hlt := hR.lt
  have HR := Lib.hid hR; have HC := Lib.hid hC; clear hR hC
  go_enter Try.func41, Try.ntmps41
  go_wp2_with fail
  refine (mark_none _ (HR.out.kept ((Kept.refl _).alloc _)) (HC.out.but (But.kept ((Kept.refl _).alloc _)))).mono ?_
  rintro e w1 ⟨rfl, rfl⟩
  go_wp2_with fail
  refine bodyPost_ret (v := .tuple #[zop, .bool false]) (by simp [results, Try.results41, zop, bs, go_sem]) rfl ⟨rfl, ?_⟩
  exact But.kept ((Kept.refl _).alloc _)
theorem takeOp_mark {c : UInt8} (h0 : c ≠ 0) (h1 : c ≠ 1) (hl : (c :: r).length ≤ 16777216) (hR : Rest W b (c :: r)) (hC : Clo W b pn pp) :
    Calls Try.prog 41 #[.func (.func 40) #[] #[.pointer (some ⟨pp, 0, none⟩)], .func (.func 39) #[] #[.pointer (some ⟨pn, 0, none⟩), .pointer (some ⟨pp, 0, none⟩)]] W fun e w' => e = .returned (.tuple #[zop, .bool false]) ∧ But b W w' := by
  have q0 : (bs [c]).toList = [c] := Lib.toList_data _
  have q1 : (c == 0) = false := by simpa using h0
  have q2 : (c == 1) = false := by simpa using h1
  have hlt := hR.lt
  have HR := Lib.hid hR; have HC := Lib.hid hC; clear hR hC
  go_enter Try.func41, Try.ntmps41
  go_wp2_with fail
  refine (mark_some hl _ (HR.out.kept ((Kept.refl _).alloc _)) (HC.out.but (But.kept ((Kept.refl _).alloc _)))).mono ?_
  rintro e w1 ⟨rfl, r1, g1⟩
  have hb := zblk hlt g1
  have c0 := blk_cell hb 0
  have c1 := blk_cell hb 1
  have c2 := blk_cell hb 2
  simp only [List.getElem?_toArray, List.getElem?_cons_zero, List.getElem?_cons_succ] at c0 c1 c2
  have f0 := blk_soft hb 0
  have f1 := blk_soft hb 1
  have f2 := blk_soft hb 2
  clear hb
  go_wp2_with fail
  refine bodyPost_ret (v := .tuple #[zop, .bool false]) (by simp [results, Try.results41, zop, go_sem, c0, c1, c2]) rfl ⟨rfl, ?_⟩
  exact But.own (But.own (But.own (balloc g1) (Nat.le_refl _) _ _) (Nat.le_refl _) _ _) (Nat.le_refl _) _ _
theorem takeOp_put_key (h : Bt.takeT r = none) (hl : (0 :: r).length ≤ 16777216) (hR : Rest W b (0 :: r)) (hC : Clo W b pn pp) :
    Calls Try.prog 41 #[.func (.func 40) #[] #[.pointer (some ⟨pp, 0, none⟩)], .func (.func 39) #[] #[.pointer (some ⟨pn, 0, none⟩), .pointer (some ⟨pp, 0, none⟩)]] W fun e w' => e = .returned (.tuple #[zop, .bool false]) ∧ But b W w' := by
  have hl2 : r.length ≤ 16777216 := by simp at hl; omega
  have q0 : (bs [0]).toList = [0] := Lib.toList_data _
  have HT := Lib.hid h; clear h
  have hlt := hR.lt
  have HR := Lib.hid hR; have HC := Lib.hid hC; clear hR hC
  go_enter Try.func41, Try.ntmps41
  go_wp2_with fail
  refine (mark_some hl _ (HR.out.kept ((Kept.refl _).alloc _)) (HC.out.but (But.kept ((Kept.refl _).alloc _)))).mono ?_
  rintro e w1 ⟨rfl, r1, g1⟩
  go_wp2_with fail
  refine (text_none HT.out hl2 _ r1 (HC.out.but (balloc g1))).mono ?_
  rintro e w2 ⟨rfl, g2⟩
  have g3 := g1.trans g2
  have hb := zblk hlt g3
  have c0 := blk_cell hb 0
  have c1 := blk_cell hb 1
  have c2 := blk_cell hb 2
  simp only [List.getElem?_toArray, List.getElem?_cons_zero, List.getElem?_cons_succ] at c0 c1 c2
  have f0 := blk_soft hb 0
  have f1 := blk_soft hb 1
  have f2 := blk_soft hb 2
  clear hb
  go_wp2_with fail
  refine bodyPost_ret (v := .tuple #[zop, .bool false]) (by simp [results, Try.results41, zop, go_sem, c0, c1, c2]) rfl ⟨rfl, ?_⟩
  exact But.own (But.own (But.own (balloc g3) (Nat.le_refl _) _ _) (Nat.le_refl _) _ _) (Nat.le_refl _) _ _
theorem takeOp_put_val {k r1 : List UInt8} (h : Bt.takeT r = some (k, r1)) (h2 : Bt.takeT r1 = none) (hl : (0 :: r).length ≤ 16777216) (hR : Rest W b (0 :: r)) (hC : Clo W b pn pp) :
    Calls Try.prog 41 #[.func (.func 40) #[] #[.pointer (some ⟨pp, 0, none⟩)], .func (.func 39) #[] #[.pointer (some ⟨pn, 0, none⟩), .pointer (some ⟨pp, 0, none⟩)]] W fun e w' => e = .returned (.tuple #[zop, .bool false]) ∧ But b W w' := by
  have hl2 : r.length ≤ 16777216 := by simp at hl; omega
  have hl3 : r1.length ≤ 16777216 := by have e := congrArg List.length (Bt.takeT_back h).1; rw [List.length_append] at e; omega
  have q0 : (bs [0]).toList = [0] := Lib.toList_data _
  have HT := Lib.hid h; clear h
  have HT2 := Lib.hid h2; clear h2
  have hlt := hR.lt
  have HR := Lib.hid hR; have HC := Lib.hid hC; clear hR hC
  go_enter Try.func41, Try.ntmps41
  go_wp2_with fail
  refine (mark_some hl _ (HR.out.kept ((Kept.refl _).alloc _)) (HC.out.but (But.kept ((Kept.refl _).alloc _)))).mono ?_
  rintro e w1 ⟨rfl, R1, g1⟩
  go_wp2_with fail
  refine (text_some HT.out hl2 _ R1 (HC.out.but (balloc g1))).mono ?_
  rintro e w2 ⟨rfl, R2, g2⟩
  go_wp2_with fail
  refine (text_none HT2.out hl3 _ R2 (HC.out.but (balloc (g1.trans g2)))).mono ?_
  rintro e w3 ⟨rfl, g3⟩
  have g4 := (g1.trans g2).trans g3
  have hb := zblk hlt g4
  have c0 := blk_cell hb 0
  have c1 := blk_cell hb 1
  have c2 := blk_cell hb 2
  simp only [List.getElem?_toArray, List.getElem?_cons_zero, List.getElem?_cons_succ] at c0 c1 c2
  have f0 := blk_soft hb 0
  have f1 := blk_soft hb 1
  have f2 := blk_soft hb 2
  clear hb
  go_wp2_with fail
  refine bodyPost_ret (v := .tuple #[zop, .bool false]) (by simp [results, Try.results41, zop, go_sem, c0, c1, c2]) rfl ⟨rfl, ?_⟩
  exact But.own (But.own (But.own (balloc g4) (Nat.le_refl _) _ _) (Nat.le_refl _) _ _) (Nat.le_refl _) _ _
theorem takeOp_put {k r1 v r2 : List UInt8} (h : Bt.takeT r = some (k, r1)) (h2 : Bt.takeT r1 = some (v, r2)) (hl : (0 :: r).length ≤ 16777216) (hR : Rest W b (0 :: r)) (hC : Clo W b pn pp) :
    Calls Try.prog 41 #[.func (.func 40) #[] #[.pointer (some ⟨pp, 0, none⟩)], .func (.func 39) #[] #[.pointer (some ⟨pn, 0, none⟩), .pointer (some ⟨pp, 0, none⟩)]] W fun e w' => e = .returned (.tuple #[opv ⟨false, k, v⟩, .bool true]) ∧ Rest w' b r2 ∧ But b W w' := by
  have hl2 : r.length ≤ 16777216 := by simp at hl; omega
  have hl3 : r1.length ≤ 16777216 := by have e := congrArg List.length (Bt.takeT_back h).1; rw [List.length_append] at e; omega
  have q0 : (bs [0]).toList = [0] := Lib.toList_data _
  have HT := Lib.hid h; clear h
  have HT2 := Lib.hid h2; clear h2
  have hlt := hR.lt
  have HR := Lib.hid hR; have HC := Lib.hid hC; clear hR hC
  go_enter Try.func41, Try.ntmps41
  go_wp2_with fail
  refine (mark_some hl _ (HR.out.kept ((Kept.refl _).alloc _)) (HC.out.but (But.kept ((Kept.refl _).alloc _)))).mono ?_
  rintro e w1 ⟨rfl, R1, g1⟩
  go_wp2_with fail
  refine (text_some HT.out hl2 _ R1 (HC.out.but (balloc g1))).mono ?_
  rintro e w2 ⟨rfl, R2, g2⟩
  go_wp2_with fail
  refine (text_some HT2.out hl3 _ R2 (HC.out.but (balloc (g1.trans g2)))).mono ?_
  rintro e w3 ⟨rfl, R3, g3⟩
  have g4 := (g1.trans g2).trans g3
  have hb := zblk hlt g4
  have c0 := blk_cell hb 0
  have c1 := blk_cell hb 1
  have c2 := blk_cell hb 2
  simp only [List.getElem?_toArray, List.getElem?_cons_zero, List.getElem?_cons_succ] at c0 c1 c2
  have f0 := blk_soft hb 0
  have f1 := blk_soft hb 1
  have f2 := blk_soft hb 2
  clear hb
  go_wp2_with fail
  refine bodyPost_ret (v := .tuple #[opv ⟨false, k, v⟩, .bool true]) (by simp [results, Try.results41, opv, bs, go_sem, c0, c1, c2]) rfl ⟨rfl, ?_, ?_⟩
  · exact (((R3).other (Nat.ne_of_gt hlt) _ _).other (Nat.ne_of_gt hlt) _ _).other (Nat.ne_of_gt hlt) _ _
  · exact But.own (But.own (But.own (balloc g4) (Nat.le_refl _) _ _) (Nat.le_refl _) _ _) (Nat.le_refl _) _ _
theorem takeOp_del_key (h : Bt.takeT r = none) (hl : (1 :: r).length ≤ 16777216) (hR : Rest W b (1 :: r)) (hC : Clo W b pn pp) :
    Calls Try.prog 41 #[.func (.func 40) #[] #[.pointer (some ⟨pp, 0, none⟩)], .func (.func 39) #[] #[.pointer (some ⟨pn, 0, none⟩), .pointer (some ⟨pp, 0, none⟩)]] W fun e w' => e = .returned (.tuple #[zop, .bool false]) ∧ But b W w' := by
  have hl2 : r.length ≤ 16777216 := by simp at hl; omega
  have q0 : (bs [1]).toList = [1] := Lib.toList_data _
  have HT := Lib.hid h; clear h
  have hlt := hR.lt
  have HR := Lib.hid hR; have HC := Lib.hid hC; clear hR hC
  go_enter Try.func41, Try.ntmps41
  go_wp2_with fail
  refine (mark_some hl _ (HR.out.kept ((Kept.refl _).alloc _)) (HC.out.but (But.kept ((Kept.refl _).alloc _)))).mono ?_
  rintro e w1 ⟨rfl, r1, g1⟩
  go_wp2_with fail
  refine (text_none HT.out hl2 _ r1 (HC.out.but (balloc g1))).mono ?_
  rintro e w2 ⟨rfl, g2⟩
  have g3 := g1.trans g2
  have hb := zblk hlt g3
  have c0 := blk_cell hb 0
  have c1 := blk_cell hb 1
  have c2 := blk_cell hb 2
  simp only [List.getElem?_toArray, List.getElem?_cons_zero, List.getElem?_cons_succ] at c0 c1 c2
  have f0 := blk_soft hb 0
  have f1 := blk_soft hb 1
  have f2 := blk_soft hb 2
  clear hb
  go_wp2_with fail
  refine bodyPost_ret (v := .tuple #[zop, .bool false]) (by simp [results, Try.results41, zop, go_sem, c0, c1, c2]) rfl ⟨rfl, ?_⟩
  exact But.own (But.own (But.own (balloc g3) (Nat.le_refl _) _ _) (Nat.le_refl _) _ _) (Nat.le_refl _) _ _
theorem takeOp_del {k r1 : List UInt8} (h : Bt.takeT r = some (k, r1)) (hl : (1 :: r).length ≤ 16777216) (hR : Rest W b (1 :: r)) (hC : Clo W b pn pp) :
    Calls Try.prog 41 #[.func (.func 40) #[] #[.pointer (some ⟨pp, 0, none⟩)], .func (.func 39) #[] #[.pointer (some ⟨pn, 0, none⟩), .pointer (some ⟨pp, 0, none⟩)]] W fun e w' => e = .returned (.tuple #[opv ⟨true, k, []⟩, .bool true]) ∧ Rest w' b r1 ∧ But b W w' := by
  have hl2 : r.length ≤ 16777216 := by simp at hl; omega
  have q0 : (bs [1]).toList = [1] := Lib.toList_data _
  have HT := Lib.hid h; clear h
  have hlt := hR.lt
  have HR := Lib.hid hR; have HC := Lib.hid hC; clear hR hC
  go_enter Try.func41, Try.ntmps41
  go_wp2_with fail
  refine (mark_some hl _ (HR.out.kept ((Kept.refl _).alloc _)) (HC.out.but (But.kept ((Kept.refl _).alloc _)))).mono ?_
  rintro e w1 ⟨rfl, R1, g1⟩
  go_wp2_with fail
  refine (text_some HT.out hl2 _ R1 (HC.out.but (balloc g1))).mono ?_
  rintro e w2 ⟨rfl, R2, g2⟩
  have g3 := g1.trans g2
  have hb := zblk hlt g3
  have c0 := blk_cell hb 0
  have c1 := blk_cell hb 1
  have c2 := blk_cell hb 2
  simp only [List.getElem?_toArray, List.getElem?_cons_zero, List.getElem?_cons_succ] at c0 c1 c2
  have f0 := blk_soft hb 0
  have f1 := blk_soft hb 1
  have f2 := blk_soft hb 2
  clear hb
  go_wp2_with fail
  refine bodyPost_ret (v := .tuple #[opv ⟨true, k, []⟩, .bool true]) (by simp [results, Try.results41, opv, bs, go_sem, c0, c1, c2]) rfl ⟨rfl, ?_, ?_⟩
  · exact (((R2).other (Nat.ne_of_gt hlt) _ _).other (Nat.ne_of_gt hlt) _ _).other (Nat.ne_of_gt hlt) _ _
  · exact But.own (But.own (But.own (balloc g3) (Nat.le_refl _) _ _) (Nat.le_refl _) _ _) (Nat.le_refl _) _ _
theorem takeOp_some {R : List UInt8} {x : Bt.Op} (h : Bt.take1 R = some (x, r)) (hl : R.length ≤ 16777216) (hR : Rest W b R) (hC : Clo W b pn pp) :
    Calls Try.prog 41 #[.func (.func 40) #[] #[.pointer (some ⟨pp, 0, none⟩)], .func (.func 39) #[] #[.pointer (some ⟨pn, 0, none⟩), .pointer (some ⟨pp, 0, none⟩)]] W fun e w' => e = .returned (.tuple #[opv x, .bool true]) ∧ Rest w' b r ∧ But b W w' := by
  unfold Bt.take1 at h
  split at h
  · cases h
  · rename_i c q
    split at h
    · rename_i hc
      subst hc
      split at h
      · cases h
      · rename_i k r1 hk
        split at h
        · cases h
        · rename_i v r2 hv
          injection h with h
          injection h with hx hr
          subst hx hr
          exact takeOp_put hk hv hl hR hC
    · split at h
      · rename_i hc
        subst hc
        split at h
        · cases h
        · rename_i k r1 hk
          injection h with h
          injection h with hx hr
          subst hx hr
          exact takeOp_del hk hl hR hC
      · cases h
theorem takeOp_none {R : List UInt8} (h : Bt.take1 R = none) (hl : R.length ≤ 16777216) (hR : Rest W b R) (hC : Clo W b pn pp) :
    Calls Try.prog 41 #[.func (.func 40) #[] #[.pointer (some ⟨pp, 0, none⟩)], .func (.func 39) #[] #[.pointer (some ⟨pn, 0, none⟩), .pointer (some ⟨pp, 0, none⟩)]] W fun e w' => e = .returned (.tuple #[zop, .bool false]) ∧ But b W w' := by
  unfold Bt.take1 at h
  split at h
  · exact takeOp_empty hR hC
  · rename_i c q
    split at h
    · rename_i hc
      subst hc
      split at h
      · rename_i hk
        exact takeOp_put_key hk hl hR hC
      · rename_i k r1 hk
        split at h
        · rename_i hv
          exact takeOp_put_val hk hv hl hR hC
        · cases h
    · rename_i hc0
      split at h
      · rename_i hc
        subst hc
        split at h
        · rename_i hk
          exact takeOp_del_key hk hl hR hC
        · cases h
      · rename_i hc1
        exact takeOp_mark hc0 hc1 hl hR hC
end
end Go.Proofs.Ytalcmiaohclnjaa
