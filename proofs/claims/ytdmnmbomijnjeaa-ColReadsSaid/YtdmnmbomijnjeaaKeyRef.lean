/-
  What the document's own answers for keys (package screeref02) compute: May, Escape, First, Behind, Make: the same as the program's functions.
-/
import Derived.Test.YtdmnmbomijnjeaaKeyRead2
namespace Go.Proofs.Ytdmnmbomijnjeaa
open Go.ChangeShapes Go.WideShapes Go.ChangeAt Go.RowKit
set_option linter.unusedVariables false
set_option maxRecDepth 100000
set_option maxHeartbeats 400000

theorem rkmay_any (s : ByteArray) (hs : s.size ≤ maxLen) (w : World) :
    Calls Try.prog 28 #[.string s] w fun e w' => e = .returned (.bool (Ky.may s.data.toList)) ∧ w = w' := by
  have hl : s.data.toList.length = s.size := by simp
  unfold maxLen at hs
  have HM := Lib.hid (show Ky.may s.data.toList = decide (1 ≤ s.size ∧ s.size ≤ 24) from by unfold Ky.may; rw [hl])
  clear hl
  by_cases h1 : 1 ≤ s.size
  · by_cases h2 : s.size ≤ 24
    · go_enter Try.func28, Try.ntmps28
      go_wp2
      go_ret
      exact ⟨ret_bool (by rw [HM.out, Bool.eq_iff_iff]; simp <;> omega), rfl⟩
    · go_enter Try.func28, Try.ntmps28
      go_wp2
      go_ret
      exact ⟨ret_bool (by rw [HM.out, Bool.eq_iff_iff]; simp <;> omega), rfl⟩
  · go_enter Try.func28, Try.ntmps28
    go_wp2
    go_ret
    exact ⟨ret_bool (by rw [HM.out, Bool.eq_iff_iff]; simp <;> omega), rfl⟩
theorem own_lit0 (w : World) : (w.alloc (.cells #[] 5)).ownsRow w.heap.size 5 1 (.slice (some ⟨w.heap.size, 0, none⟩) 0 0) ([] : List UInt8).length (cellsOf []) :=
  World.ownsRow_lit (base := w.heap.size) (e := 5) (size := 1) w #[] 0 (Nat.le_refl _) (by unfold maxLen; omega) rfl
theorem beh_of (c : Int) (u : List UInt8) : (bs (Ky.fst c u)).extract 0 ((bs (Ky.fst c u)).size - 1) ++ ⟨#[2]⟩ = bs (Ky.beh c u) := by
  refine bs_of ?_
  rw [ByteArray.data_append, Array.toList_append, Lib.extract_data, bs_data, bs_size]
  have e1 : Ky.fst c u = (Ky.cfb c :: (Ky.escB u ++ [0])) ++ [1] := by simp [Ky.fst, Ky.esc]
  have e2 : Ky.beh c u = (Ky.cfb c :: (Ky.escB u ++ [0])) ++ [2] := by simp [Ky.beh]
  rw [e1, e2, List.length_append, List.drop_zero, List.length_singleton, Nat.add_sub_cancel, Nat.sub_zero, List.take_left]
end Go.Proofs.Ytdmnmbomijnjeaa
