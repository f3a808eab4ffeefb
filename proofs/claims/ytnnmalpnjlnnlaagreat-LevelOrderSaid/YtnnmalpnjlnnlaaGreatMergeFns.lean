/-
  Package merge over memory: which entry is ahead, what a row is.
-/
import Derived.Test.YtnnmalpnjlnnlaaGreatPackMem
import Derived.Test.YtnnmalpnjlnnlaaGreatPackMath
import Derived.Deep.RegionHeld3
import Derived.Deep.LoopGhost
namespace Go.Proofs.YtnnmalpnjlnnlaaGreat
open Go.ChangeShapes Go.WideShapes Go.ChangeAt Go.RowKit
set_option linter.unusedVariables false
set_option maxRecDepth 100000
set_option maxHeartbeats 1000000

theorem Els.two {w : World} {A : Option Addr} {l : List Mm.Ent} (h : Els w A l) {i j : Nat} {x y : Mm.Ent} (hx : l[i]? = some x) (hy : l[j]? = some y) : ∃ b o, A = some ⟨b, o, none⟩ ∧ b < w.heap.size ∧
    (w.cell? ⟨b, o + i * 4, none⟩ = some (.string (bs x.key)) ∧ w.cell? ⟨b, o + i * 4 + 1, none⟩ = some (.int .u64 (x.seq : Nat)) ∧ w.cell? ⟨b, o + i * 4 + 2, none⟩ = some (.bool x.del) ∧ w.cell? ⟨b, o + i * 4 + 3, none⟩ = some (.string (bs x.val))) ∧
    (w.cell? ⟨b, o + j * 4, none⟩ = some (.string (bs y.key)) ∧ w.cell? ⟨b, o + j * 4 + 1, none⟩ = some (.int .u64 (y.seq : Nat)) ∧ w.cell? ⟨b, o + j * 4 + 2, none⟩ = some (.bool y.del) ∧ w.cell? ⟨b, o + j * 4 + 3, none⟩ = some (.string (bs y.val))) := by
  obtain ⟨b, o, rfl, hb, c⟩ := h i x hx
  obtain ⟨b', o', e, hb', c'⟩ := h j y hy
  cases e
  exact ⟨b, o, rfl, hb, c, c'⟩
/-- an entry's cells, at a place of a list -/
def Ec (w : World) (b o i : Nat) (x : Mm.Ent) : Prop := w.cell? ⟨b, o + i * 4, none⟩ = some (.string (bs x.key)) ∧ w.cell? ⟨b, o + i * 4 + 1, none⟩ = some (.int .u64 (x.seq : Nat)) ∧ w.cell? ⟨b, o + i * 4 + 2, none⟩ = some (.bool x.del) ∧ w.cell? ⟨b, o + i * 4 + 3, none⟩ = some (.string (bs x.val))
theorem Ec.kept {w w' : World} {b o i : Nat} {x : Mm.Ent} (h : Ec w b o i x) (hb : b < w.heap.size) (k : Kept w w') : Ec w' b o i x :=
  ⟨by rw [kept_cell k hb]; exact h.1, by rw [kept_cell k hb]; exact h.2.1, by rw [kept_cell k hb]; exact h.2.2.1, by rw [kept_cell k hb]; exact h.2.2.2⟩
theorem wrap_nat {j : Nat} (h : j ≤ 9223372036854775807) : IntKind.i64.wrap (j : Int) = (j : Int) := by rw [IntKind.wrap_i64]; omega
end Go.Proofs.YtnnmalpnjlnnlaaGreat
