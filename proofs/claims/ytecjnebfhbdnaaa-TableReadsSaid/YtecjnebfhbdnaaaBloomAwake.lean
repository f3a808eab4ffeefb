/-
  What the helpers awake and large of the statements of layer 10 answer.
-/
import Derived.Test.YtecjnebfhbdnaaaBloomMake
namespace Go.Proofs.Ytecjnebfhbdnaaa
open Go.ChangeShapes Go.WideShapes Go.ChangeAt Go.RowKit
set_option linter.unusedVariables false
set_option maxRecDepth 100000
set_option maxHeartbeats 1000000

theorem txs_two (w : World) (x y : List UInt8) (t : TypeId) : Txs (w.alloc (.cells #[.string (bs x), .string (bs y)] t)) (some ⟨w.heap.size, 0, none⟩) [x, y] := fun j z hz => by
  refine ⟨w.heap.size, 0, rfl, by simp, ?_⟩
  match j, hz with
  | 0, hz => simp at hz; subst hz; simp
  | 1, hz => simp at hz; subst hz; simp
  | j + 2, hz => simp at hz
theorem txs_zeros (w : World) (n : Nat) (t : TypeId) : Txs (w.alloc (.cells (List.replicate n (.string ByteArray.empty)).toArray t)) (some ⟨w.heap.size, 0, none⟩) (List.replicate n []) := fun j z hz => by
  rw [List.getElem?_replicate] at hz
  split at hz
  · cases hz
    refine ⟨w.heap.size, 0, rfl, by simp, ?_⟩
    simp [*]; rfl
  · cases hz
theorem infoS : (Try.prog.info? 9).map (fun i => (i.zero, i.size, i.bytes)) = some (some (.string ByteArray.empty), 1, 16) := by kernel_rfl
end Go.Proofs.Ytecjnebfhbdnaaa
