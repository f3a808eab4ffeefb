/-
  Which entries are too large to be looked at by the laws of layer 9.
-/
import Derived.Test.YtecjnebfhbdnaaaBlockAwake
namespace Go.Proofs.Ytecjnebfhbdnaaa
open Go.ChangeShapes Go.WideShapes Go.ChangeAt Go.RowKit
set_option linter.unusedVariables false
set_option maxRecDepth 100000
set_option maxHeartbeats 2000000

/-- what 'large' tells: that they aren't, only if they are small -/
def KLg (w : World) (l : List Mm.Ent) (e : Ending) (w' : World) : Prop := ∃ B, e = .returned (.bool B) ∧ Kept w w' ∧ (B = false → l.length ≤ 60 ∧ ∀ x ∈ l, x.key.length ≤ 300 ∧ x.val.length ≤ 300)
theorem es_el {l : List Mm.Ent} (h : OkEs l) : OkEl l := fun x hx => ⟨(h x hx).1, (h x hx).2.1⟩
theorem bs_back (S : ByteArray) : ∃ K, S = bs K ∧ K.length = S.size := ⟨S.data.toList, (mbs_self S).symm, by simp⟩
end Go.Proofs.Ytecjnebfhbdnaaa
