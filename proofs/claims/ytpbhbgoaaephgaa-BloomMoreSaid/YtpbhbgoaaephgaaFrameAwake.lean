/-
  What the helpers of the statements of layer 4 tell: awake, large, texts.
-/
import Derived.Test.YtpbhbgoaaephgaaFrameAll
namespace Go.Proofs.Ytpbhbgoaaephgaa
open Go.ChangeShapes Go.WideShapes Go.ChangeAt Go.RowKit
set_option linter.unusedVariables false
set_option maxRecDepth 100000
set_option maxHeartbeats 400000

def zeros8 : List UInt8 := List.replicate 8001 0
theorem zeros8_len : zeros8.length = 8001 := List.length_replicate
theorem zeros_cells (n : Nat) : madeCells (Value.int .u8 0).cells (n * 1) = (cellsOf (List.replicate n 0)).toArray := by
  apply Array.ext
  · rw [size_madeCells]; simp [cellsOf]
  · intro i h1 h2
    simp [madeCells, Value.cells, Nat.mod_one, cellsOf]
theorem zeros8_cells : madeCells (Value.int .u8 0).cells (8001 * 1) = (cellsOf zeros8).toArray := zeros_cells 8001
theorem zeros8_make (wx : World) : (Instr.makeSlice 36 (.int .i64 8001) (.int .i64 8001)).run Try.prog wx = .ok (.slice (some ⟨wx.heap.size, 0, none⟩) 8001 8001) (wx.alloc (.cells (cellsOf zeros8).toArray 5)) := by
  obtain ⟨i0, hi, hz0, hz1, hz2⟩ := info_parts info5
  have := run_make (P := Try.prog) wx 36 5 i0 (.int .u8 0) Try.underlying36 hi hz0 .i64 .i64 8001 8001 (by omega) (by omega) (by rw [hz2]; omega) (by omega)
  rw [show (8001 : Int).toNat = 8001 from rfl, hz1, zeros8_cells] at this
  exact this
end Go.Proofs.Ytpbhbgoaaephgaa
