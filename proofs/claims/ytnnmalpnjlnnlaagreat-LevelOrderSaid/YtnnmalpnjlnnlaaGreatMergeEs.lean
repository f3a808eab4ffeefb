/-
  A list of entries that was written out, and one that comes in.
-/
import Derived.Test.YtnnmalpnjlnnlaaGreatMergeFns
import Derived.Test.YtnnmalpnjlnnlaaGreatPackMem
namespace Go.Proofs.YtnnmalpnjlnnlaaGreat
open Go.ChangeShapes Go.WideShapes Go.ChangeAt Go.RowKit
set_option linter.unusedVariables false
set_option maxRecDepth 100000
set_option maxHeartbeats 1000000

theorem els_lit {w : World} {b : Nat} {l : List Mm.Ent} {cs : Array Value} {t : TypeId} {fr : Nat × Nat} (h : w.heap[b]? = some (.cells cs t fr)) (hc : cs.toList = elc l) : Els w (some ⟨b, 0, none⟩) l := fun j x hx => by
  have hg := elc_get hx
  have hcell : ∀ i u, (elc l)[i]? = some u → w.cell? ⟨b, i, none⟩ = some u := fun i u hu => by
    rw [← hc] at hu
    exact mcell h i (by simpa using hu)
  refine ⟨b, 0, rfl, mheap_lt h, ?_, ?_, ?_, ?_⟩
  · rw [Nat.zero_add]; exact hcell _ _ (hg 0 _ rfl)
  · rw [Nat.zero_add]; exact hcell _ _ (hg 1 _ rfl)
  · rw [Nat.zero_add]; exact hcell _ _ (hg 2 _ rfl)
  · rw [Nat.zero_add]; exact hcell _ _ (hg 3 _ rfl)
def OkEs (l : List Mm.Ent) : Prop := ∀ x ∈ l, x.key.length ≤ maxLen ∧ x.val.length ≤ maxLen ∧ x.seq ≤ 18446744073709551615
section
variable {H : Type} {enc : TypeId × Value → H} {w : World}
end
end Go.Proofs.YtnnmalpnjlnnlaaGreat
