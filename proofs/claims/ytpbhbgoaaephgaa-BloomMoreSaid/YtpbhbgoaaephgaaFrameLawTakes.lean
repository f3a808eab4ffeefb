/-
  FrameTakes and FrameOne of the statements of layer 4 return true, whatever strings.
-/
import Derived.Test.YtpbhbgoaaephgaaFrameAwake
namespace Go.Proofs.Ytpbhbgoaaephgaa
open Go.ChangeShapes Go.WideShapes Go.ChangeAt Go.RowKit
set_option linter.unusedVariables false
set_option maxRecDepth 100000
set_option maxHeartbeats 1000000

theorem nil_beq (r : List UInt8) : ((bs r).toList == []) = decide (r = []) := by
  rw [Lib.toList_data, bs_data]
  cases r with
  | nil => rfl
  | cons x r => simp
/-- two frames, as far as the shorter one goes -/
theorem one_min (a b : List UInt8) (ha : a.length ≤ 8000) (hb : b.length ≤ 8000) : (((bs (Fr.mk a)).extract 0 (min (bs (Fr.mk a)).size (bs (Fr.mk b)).size)).toList == ((bs (Fr.mk b)).extract 0 (min (bs (Fr.mk a)).size (bs (Fr.mk b)).size)).toList) = decide (a = b) := by
  rw [fbs_size, fbs_size, extract_take, extract_take, Lib.toList_data, Lib.toList_data, bs_data, bs_data]
  have := Fr.one ha hb
  rw [Bool.eq_iff_iff, beq_iff_eq, decide_eq_true_iff]
  exact this
theorem str_beq (a b : ByteArray) : (a.toList == b.toList) = decide (a.data.toList = b.data.toList) := by
  rw [Lib.toList_data, Lib.toList_data]
  rw [Bool.eq_iff_iff, beq_iff_eq, decide_eq_true_iff]
theorem fmk_yes {s : ByteArray} (h : s.size ≤ 8000) : Fr.makeS s.data.toList = Fr.mk s.data.toList ∧ Fr.makeE s.data.toList = 0 := by
  unfold Fr.makeS Fr.makeE
  rw [if_pos (by rw [toList_size]; exact h), if_pos (by rw [toList_size]; exact h)]; exact ⟨rfl, rfl⟩
theorem fmk_no {s : ByteArray} (h : ¬ s.size ≤ 8000) : Fr.makeS s.data.toList = [] ∧ Fr.makeE s.data.toList = 5 := by
  unfold Fr.makeS Fr.makeE
  rw [if_neg (by rw [toList_size]; exact h), if_neg (by rw [toList_size]; exact h)]; exact ⟨rfl, rfl⟩
end Go.Proofs.Ytpbhbgoaaephgaa
