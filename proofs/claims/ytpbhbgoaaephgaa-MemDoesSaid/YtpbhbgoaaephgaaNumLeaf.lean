/-
  What the small functions of package num compute, each for every input (its kind's bounds): Fold, Unfold, Fits, mayEnd, shortSize, and bits.Len64.
-/
import Derived.Test.YtpbhbgoaaephgaaRows
import Derived.Test.YtpbhbgoaaephgaaNumMath
import Derived.WalkKit
import Derived.ProofKit
import Derived.WalkSpells
import Derived.WalkLawsBesides
import Derived.Handy
import Derived.Lib.Hide
import Derived.Below
import Derived.Deep.Draws
namespace Go.Proofs.Ytpbhbgoaaephgaa
open Go.ChangeShapes Go.WideShapes Go.ChangeAt Go.RowKit
set_option linter.unusedVariables false
set_option maxRecDepth 100000
set_option maxHeartbeats 400000

/-- what was there is as it was; there may be new memory -/
def Kept (w w' : World) : Prop := Below w.heap.size w w'
theorem Kept.refl (w : World) : Kept w w := Below.refl _ _
theorem kept_trans {a b c : World} (h : Kept a b) (k : Kept b c) : Kept a c := Below.trans h (Below.mono k (Below.size h))
theorem Kept.alloc {a b : World} (h : Kept a b) (o : Obj) : Kept a (b.alloc o) := Below.alloc h (Below.size h) o
theorem kept_drewN (w : World) (n : Nat) : Kept w (w.drewN n) := ⟨rfl, rfl, rfl, Nat.le_refl _, fun _ _ => rfl⟩
theorem kept_cell {w w' : World} (h : Kept w w') {p : Addr} (hp : p.block < w.heap.size) : w'.cell? p = w.cell? p := Below.cell h hp
theorem kept_frozen {w w' : World} (h : Kept w w') {p : Addr} (hp : p.block < w.heap.size) : w'.frozen? p = w.frozen? p := Below.frozen h hp

theorem ret_int {k : IntKind} {a b : Int} (h : a = b) : Ending.returned (.int k a) = .returned (.int k b) := by rw [h]
theorem ret_bool {a b : Bool} (h : a = b) : Ending.returned (.bool a) = .returned (.bool b) := by rw [h]

theorem endB_of {k : Nat} {c : UInt8} {b : Bool} (h : b = true ↔ ¬ ((0 < k ∧ c.toNat = 0) ∨ (k = 9 ∧ 1 < c.toNat))) : b = Nm.endB k c := by
  unfold Nm.endB
  rw [Bool.eq_iff_iff, h, Bool.not_eq_true', decide_eq_false_iff_not]
theorem lenK (n y c : Int) (b : Nat) (hn : 0 ≤ n) (hy : y.toNat = n.toNat / 2 ^ b) (hz : b = 0 ∨ y.toNat ≠ 0) (hl : y.toNat < 256) (hb : b ≤ 56) (hc : c = b) :
    wrap64 (c + wrap64 ((bitLen y.toNat : Nat) : Int)) = ((bitLen n.toNat : Nat) : Int) := by
  have h8 := bitLen_le8 y.toNat hl
  rw [IntWalk.wrap64_in ((bitLen y.toNat : Nat) : Int) (by constructor <;> omega), IntWalk.wrap64_in _ (by constructor <;> omega), hc]
  rcases hz with rfl | hz
  · rw [hy]; simp
  · rw [bitLen_shift n.toNat b (by rw [← hy]; exact hz), ← hy]; omega