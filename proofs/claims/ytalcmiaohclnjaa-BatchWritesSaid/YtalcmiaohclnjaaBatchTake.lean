/-
  The closures by which Decode of package batch takes bytes: a number, so many bytes, a text, a mark; an operation; all operations.
-/
import Derived.Test.YtalcmiaohclnjaaBatchFns
import Derived.OneCell
namespace Go.Proofs.Ytalcmiaohclnjaa
open Go.ChangeShapes Go.WideShapes Go.ChangeAt Go.RowKit
set_option linter.unusedVariables false
set_option maxHeartbeats 1000000

/-- all blocks but b are as they were; there may be new ones -/
structure But (b : Nat) (w w' : World) : Prop where
  os : w'.os = w.os
  tape : w'.tape = w.tape
  output : w'.output = w.output
  size : w.heap.size ≤ w'.heap.size
  block : ∀ k, k < w.heap.size → k ≠ b → w'.heap[k]? = w.heap[k]?
theorem But.kept {b : Nat} {w w' : World} (h : Kept w w') : But b w w' := ⟨h.os, h.tape, h.output, h.size, fun k hk _ => h.block k hk⟩
theorem But.trans {b : Nat} {w w1 w2 : World} (h : But b w w1) (k : But b w1 w2) : But b w w2 :=
  ⟨k.os.trans h.os, k.tape.trans h.tape, k.output.trans h.output, Nat.le_trans h.size k.size, fun i hi hn => (k.block i (Nat.lt_of_lt_of_le hi h.size) hn).trans (h.block i hi hn)⟩
theorem But.set (b j : Nat) (w : World) (x : Value) : But b w (w.setCell ⟨b, j, none⟩ x) :=
  ⟨rfl, rfl, rfl, by simp [World.setCell], fun k _ hn => Below.heap_setCell _ _ _ _ (fun e => hn e)⟩
theorem But.below {B b : Nat} {w w' : World} (h : But b w w') (hb : B ≤ b) (hw : B ≤ w.heap.size) : Below B w w' :=
  ⟨h.os, h.tape, h.output, h.size, fun k hk => h.block k (by omega) (by omega)⟩
theorem But.at {b : Nat} {w w' : World} (h : But b w w') {k : Nat} {c : Array Value} {t : TypeId} {z : Nat × Nat} (hk : w.heap[k]? = some (.cells c t z)) (hn : k ≠ b) : w'.heap[k]? = some (.cells c t z) :=
  (h.block k (Array.getElem?_eq_some_iff.1 hk).1 hn).trans hk
/-- block b holds what is left to be taken -/
def Rest (w : World) (b : Nat) (R : List UInt8) : Prop := w.heap[b]? = some (.cells #[.string (bs R)] 9 (0, 0))
theorem Rest.kept {w w' : World} {b : Nat} {R : List UInt8} (h : Rest w b R) (k : Kept w w') : Rest w' b R := (Below.block k b (Array.getElem?_eq_some_iff.1 h).1).trans h
theorem Rest.set {w : World} {b : Nat} {R : List UInt8} (h : Rest w b R) (r : List UInt8) : Rest (w.setCell ⟨b, 0, none⟩ (.string (bs r))) b r := by
  unfold Rest at *
  simp [World.setCell, Array.getElem?_modify, h]

theorem number_some {b : Nat} {R r : List UInt8} {n : Nat} (h : Nm.take R = some (n, r)) (hl : R.length ≤ 16777216) (W : World) (hR : Rest W b R) :
    Calls Try.prog 36 #[.pointer (some ⟨b, 0, none⟩)] W fun e w' => e = .returned (.tuple #[.int .u64 n, .bool true]) ∧ Rest w' b r ∧ But b W w' := by
  have c0 := blk_cell hR 0
  simp only [List.getElem?_toArray, List.getElem?_cons_zero] at c0
  have hc := ntake_some (s := bs R) (by rw [fbs_size]; unfold maxLen; omega) (by rw [bs_data]; exact h)
  have HR := Lib.hid hR
  clear h hR
  go_enter Try.func36, Try.ntmps36
  go_wp2_with fail
  refine (hc _).mono ?_
  rintro e w1 ⟨rfl, g1⟩
  have hR1 := HR.out.kept g1
  have f1 := blk_soft hR1 0
  have d1 := blk_cell hR1 0
  simp only [List.getElem?_toArray, List.getElem?_cons_zero] at d1
  have HR1 := Lib.hid hR1
  clear hR1
  go_wp2_with fail
  go_ret2
  exact ⟨rfl, HR1.out.set r, (But.kept g1).trans (But.set b 0 w1 _)⟩
theorem number_none {b : Nat} {R : List UInt8} (h : Nm.take R = none) (hl : R.length ≤ 16777216) (W : World) (hR : Rest W b R) :
    Calls Try.prog 36 #[.pointer (some ⟨b, 0, none⟩)] W fun e w' => e = .returned (.tuple #[.int .u64 0, .bool false]) ∧ But b W w' := by
  have c0 := blk_cell hR 0
  simp only [List.getElem?_toArray, List.getElem?_cons_zero] at c0
  have hc := ntake_none (s := bs R) (by rw [fbs_size]; unfold maxLen; omega) (by rw [bs_data]; exact h)
  have HR := Lib.hid hR
  clear h hR
  go_enter Try.func36, Try.ntmps36
  go_wp2_with fail
  refine (hc _).mono ?_
  rintro e w1 ⟨rfl, g1⟩
  have hR1 := HR.out.kept g1
  have f1 := blk_soft hR1 0
  have d1 := blk_cell hR1 0
  simp only [List.getElem?_toArray, List.getElem?_cons_zero] at d1
  clear hR1
  go_wp2_with fail
  go_ret2
  exact ⟨rfl, (But.kept g1).trans (But.set b 0 w1 _)⟩
theorem piece_some {b : Nat} {R : List UInt8} {n : Nat} (h : n ≤ R.length) (hl : R.length ≤ 16777216) (W : World) (hR : Rest W b R) :
    Calls Try.prog 38 #[.int .u64 n, .pointer (some ⟨b, 0, none⟩)] W fun e w' => e = .returned (.tuple #[.string (bs (R.take n)), .bool true]) ∧ Rest w' b (R.drop n) ∧ But b W w' := by
  have c0 := blk_cell hR 0
  have f0 := blk_soft hR 0
  simp only [List.getElem?_toArray, List.getElem?_cons_zero] at c0
  have hz := fbs_size R
  have hz1 : (bs R).size ≤ 16777216 := by omega
  have hz2 : n ≤ (bs R).size := by omega
  have d1 : decide (((bs R).size : Int) < (n : Int)) = false := by simp; omega
  have hx : (bs R).extract 0 n = bs (R.take n) := extract_take R n
  have hy : (bs R).extract n (bs R).size = bs (R.drop n) := extract_drop R n
  have HR := Lib.hid hR; have HX := Lib.hid hx; have HY := Lib.hid hy
  clear hR hx hy hz
  go_enter Try.func38, Try.ntmps38
  go_wp2_with fail
  go_ret2
  rw [HY.out]
  exact ⟨by rw [← HX.out]; rfl, HR.out.set _, But.set b 0 W _⟩
theorem piece_none {b : Nat} {R : List UInt8} {n : Nat} (h : R.length < n) (hn : n ≤ 18446744073709551615) (hl : R.length ≤ 16777216) (W : World) (hR : Rest W b R) :
    Calls Try.prog 38 #[.int .u64 n, .pointer (some ⟨b, 0, none⟩)] W fun e w' => e = .returned (.tuple #[.string (bs []), .bool false]) ∧ W = w' := by
  have c0 := blk_cell hR 0
  simp only [List.getElem?_toArray, List.getElem?_cons_zero] at c0
  have hz := fbs_size R
  have hz1 : (bs R).size ≤ 16777216 := by omega
  have d1 : decide (((bs R).size : Int) < (n : Int)) = true := by simp; omega
  clear hR hz
  go_enter Try.func38, Try.ntmps38
  go_wp2_with fail
  go_ret2
  exact ⟨rfl, rfl⟩
def numF (b : Nat) : Value := .func (.func 36) #[] #[.pointer (some ⟨b, 0, none⟩)]
def pieF (b : Nat) : Value := .func (.func 38) #[] #[.pointer (some ⟨b, 0, none⟩)]
/-- the two closures that take from block b lie in the blocks pn and pp -/
structure Clo (W : World) (b pn pp : Nat) : Prop where
  nn : pn ≠ b
  np : pp ≠ b
  hn : W.heap[pn]? = some (.cells #[.func (.func 36) #[] #[.pointer (some ⟨b, 0, none⟩)]] 58 (0, 0))
  hp : W.heap[pp]? = some (.cells #[.func (.func 38) #[] #[.pointer (some ⟨b, 0, none⟩)]] 59 (0, 0))
theorem Clo.but {W W' : World} {b pn pp : Nat} (h : Clo W b pn pp) (k : But b W W') : Clo W' b pn pp := ⟨h.nn, h.np, k.at h.hn h.nn, k.at h.hp h.np⟩
theorem text_some {b pn pp : Nat} {R t r : List UInt8} (h : Bt.takeT R = some (t, r)) (hl : R.length ≤ 16777216) (W : World) (hR : Rest W b R) (hC : Clo W b pn pp) :
    Calls Try.prog 39 #[.pointer (some ⟨pn, 0, none⟩), .pointer (some ⟨pp, 0, none⟩)] W fun e w' => e = .returned (.tuple #[.string (bs t), .bool true]) ∧ Rest w' b r ∧ But b W w' := by
  obtain ⟨n, q, hq, hle, rfl, rfl⟩ : ∃ n q, Nm.take R = some (n, q) ∧ n ≤ q.length ∧ t = q.take n ∧ r = q.drop n := by
    unfold Bt.takeT at h
    split at h
    · cases h
    · rename_i n q hq
      split at h
      · injection h with h
        injection h with h1 h2
        exact ⟨n, q, hq, by assumption, h1.symm, h2.symm⟩
      · cases h
  have hql : q.length ≤ 16777216 := by
    have e := congrArg List.length (Nm.take_back _ _ _ hq).1
    rw [List.length_append] at e; omega
  have c0 := blk_cell hC.hn 0
  simp only [List.getElem?_toArray, List.getElem?_cons_zero] at c0
  have HC := Lib.hid hC; have HQ := Lib.hid hq; have HR := Lib.hid hR
  clear h hq hC hR
  go_enter Try.func39, Try.ntmps39
  go_wp2_with fail
  refine (number_some HQ.out hl _ HR.out).mono ?_
  rintro e w1 ⟨rfl, r1, g1⟩
  have c1 := blk_cell (HC.out.but g1).hp 0
  simp only [List.getElem?_toArray, List.getElem?_cons_zero] at c1
  go_wp2_with fail
  refine (piece_some hle hql _ r1).mono ?_
  rintro e w2 ⟨rfl, r2, g2⟩
  go_wp2_with fail
  go_ret2
  exact ⟨rfl, r2, g1.trans g2⟩
theorem text_none {b pn pp : Nat} {R : List UInt8} (h : Bt.takeT R = none) (hl : R.length ≤ 16777216) (W : World) (hR : Rest W b R) (hC : Clo W b pn pp) :
    Calls Try.prog 39 #[.pointer (some ⟨pn, 0, none⟩), .pointer (some ⟨pp, 0, none⟩)] W fun e w' => e = .returned (.tuple #[.string (bs []), .bool false]) ∧ But b W w' := by
  have c0 := blk_cell hC.hn 0
  simp only [List.getElem?_toArray, List.getElem?_cons_zero] at c0
  have HC := Lib.hid hC; have HR := Lib.hid hR
  clear hC hR
  cases hq : Nm.take R with
  | none =>
    have HQ := Lib.hid hq
    clear h hq
    go_enter Try.func39, Try.ntmps39
    go_wp2_with fail
    refine (number_none HQ.out hl _ HR.out).mono ?_
    rintro e w1 ⟨rfl, g1⟩
    go_wp2_with fail
    go_ret2
    exact ⟨rfl, g1⟩
  | some x =>
    obtain ⟨n, q⟩ := x
    have hlt : q.length < n := by
      unfold Bt.takeT at h
      rw [hq] at h
      simp only at h
      split at h
      · cases h
      · omega
    have hb := (Nm.take_back _ _ _ hq).2
    have hql : q.length ≤ 16777216 := by
      have e := congrArg List.length (Nm.take_back _ _ _ hq).1
      rw [List.length_append] at e; omega
    have HQ := Lib.hid hq
    clear h hq
    go_enter Try.func39, Try.ntmps39
    go_wp2_with fail
    refine (number_some HQ.out hl _ HR.out).mono ?_
    rintro e w1 ⟨rfl, r1, g1⟩
    have c1 := blk_cell (HC.out.but g1).hp 0
    simp only [List.getElem?_toArray, List.getElem?_cons_zero] at c1
    go_wp2_with fail
    refine (piece_none hlt (by omega) hql _ r1).mono ?_
    rintro e w2 ⟨rfl, rfl⟩
    go_wp2_with fail
    go_ret2
    exact ⟨rfl, g1⟩
theorem mark_some {b pn pp : Nat} {c : UInt8} {r : List UInt8} (hl : (c :: r).length ≤ 16777216) (W : World) (hR : Rest W b (c :: r)) (hC : Clo W b pn pp) :
    Calls Try.prog 40 #[.pointer (some ⟨pp, 0, none⟩)] W fun e w' => e = .returned (.tuple #[.string (bs [c]), .bool true]) ∧ Rest w' b r ∧ But b W w' := by
  have c0 := blk_cell hC.hp 0
  simp only [List.getElem?_toArray, List.getElem?_cons_zero] at c0
  have hp := piece_some (n := 1) (by simp) hl W hR
  have HP := Lib.hid hp
  clear hp hR hC
  go_enter Try.func40, Try.ntmps40
  go_wp2_with fail
  refine HP.out.mono ?_
  rintro e w1 ⟨rfl, r1, g1⟩
  go_wp2_with fail
  go_ret2
  exact ⟨rfl, r1, g1⟩
theorem mark_none {b pn pp : Nat} (W : World) (hR : Rest W b []) (hC : Clo W b pn pp) :
    Calls Try.prog 40 #[.pointer (some ⟨pp, 0, none⟩)] W fun e w' => e = .returned (.tuple #[.string (bs []), .bool false]) ∧ W = w' := by
  have c0 := blk_cell hC.hp 0
  simp only [List.getElem?_toArray, List.getElem?_cons_zero] at c0
  have hp := piece_none (n := 1) (by simp) (by omega) (by simp) W hR
  have HP := Lib.hid hp
  clear hp hR hC
  go_enter Try.func40, Try.ntmps40
  go_wp2_with fail
  refine HP.out.mono ?_
  rintro e w1 ⟨rfl, rfl⟩
  go_wp2_with fail
  go_ret2
  exact ⟨rfl, rfl⟩
end Go.Proofs.Ytalcmiaohclnjaa
