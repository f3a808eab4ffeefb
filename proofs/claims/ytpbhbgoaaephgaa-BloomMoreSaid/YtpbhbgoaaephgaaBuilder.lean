/-
  strings.Builder, as package frame uses it: WriteString puts the text behind what is there, String tells it all.
-/
import Derived.Test.YtpbhbgoaaephgaaLaysB
import Derived.Test.YtpbhbgoaaephgaaBytes
import Derived.Lib.Builder
import Derived.Lib.AppendStr
import Derived.Laws.Externs
namespace Go.Proofs.Ytpbhbgoaaephgaa
open Go.ChangeShapes Go.WideShapes Go.ChangeAt Go.RowKit
set_option linter.unusedVariables false
set_option maxHeartbeats 1000000
set_option maxRecDepth 100000

theorem blk_cell {w : World} {b : Nat} {c : Array Value} {t : TypeId} {z : Nat × Nat} (h : w.heap[b]? = some (.cells c t z)) (j : Nat) : w.cell? ⟨b, j, none⟩ = c[j]? := by simp [World.cell?, h]
theorem blk_soft {w : World} {b : Nat} {c : Array Value} {t : TypeId} (h : w.heap[b]? = some (.cells c t (0, 0))) (j : Nat) : w.frozen? ⟨b, j, none⟩ = false := by simp [World.frozen?, h]
theorem own_shape1 {w : World} {base n size : Nat} {e : TypeId} {v : Value} {xs : List Value} (h : w.ownsRow base e size v n xs) : ∃ a m c, v = .slice a m c := by
  rcases h.2 with ⟨e, _⟩ | ⟨g, c, cur, e, _⟩
  · exact ⟨_, _, _, e⟩
  · exact ⟨_, _, _, e⟩
theorem toList_size (s : ByteArray) : s.data.toList.length = s.size := by simp
/-- blocks of other types than bytes, but b, are as they were -/
def Ther (b : Nat) (w w' : World) : Prop := ∀ (k : Nat) (c : Array Value) (t : TypeId) (z : Nat × Nat), k ≠ b → t ≠ 5 → w.heap[k]? = some (.cells c t z) → w'.heap[k]? = some (.cells c t z)
theorem Ther.refl (b : Nat) (w : World) : Ther b w w := fun _ _ _ _ _ _ h => h
theorem Ther.trans {b : Nat} {w w1 w2 : World} (h : Ther b w w1) (k : Ther b w1 w2) : Ther b w w2 := fun i c t z h1 h2 h3 => k i c t z h1 h2 (h i c t z h1 h2 h3)
theorem Ther.kept {b : Nat} {w w1 : World} (k : Kept w w1) : Ther b w w1 := fun i c t z _ _ h3 => (Below.block k i (Array.getElem?_eq_some_iff.1 h3).1).trans h3
theorem Ther.set (b j : Nat) (w : World) (x : Value) : Ther b w (w.setCell ⟨b, j, none⟩ x) := fun i c t z h1 _ h3 => (Below.heap_setCell _ _ _ _ (fun e => h1 e)).trans h3
theorem strCells_of (s : ByteArray) : Lib.strCells s = cellsOf s.data.toList := rfl
end Go.Proofs.Ytpbhbgoaaephgaa
