/-
  Append of a list of entries that lies in memory, onto a row of the call's own.
-/
import Derived.Test.YtnnmalpnjlnnlaaGreatMergeEs
import Derived.Test.YtnnmalpnjlnnlaaGreatPackMem
import Derived.Maps.AppendAt
namespace Go.Proofs.YtnnmalpnjlnnlaaGreat
open Go.ChangeShapes Go.WideShapes Go.ChangeAt Go.RowKit
set_option linter.unusedVariables false
set_option maxRecDepth 100000
set_option maxHeartbeats 4000000

theorem run_append_owned_nil {P : Program} {w : World} (base : Nat) (t ty e : TypeId) (i : TypeInfo) (size : Nat) (ht : P.underlying t = some (.slice e)) (hi : P.info? e = some i)
    (v : Value) (n : Nat) (xs : List Value) (hown : w.ownsRow base e size v n xs) (c : Nat) :
    (Builtin.append_ #[t, t] ty #[v, .slice none 0 c]).run P w = .ok v w := by
  rcases hown.2 with ⟨rfl, rfl⟩ | ⟨g, cap, cur, rfl, _, _, hnc, _⟩
  · simp [Builtin.append_, run_underlying ht, sizeOf, typeInfo, hi, Builtin.lenOf, Builtin.firstCells]
  · simp [Builtin.append_, run_underlying ht, sizeOf, typeInfo, hi, Builtin.lenOf, Builtin.firstCells, hnc, storeCells]
theorem els_news {wr : World} {ad : Addr} {Y : List Mm.Ent} (hA : Els wr (some ad) Y) : ∀ j u, (elc Y)[j]? = some u → wr.cell? (ad.add j) = some u := fun j u hj => by
  have hjl := (List.getElem?_eq_some_iff.1 hj).1
  rw [elc_len] at hjl
  have hy : Y[j / 4]? = some Y[j / 4] := List.getElem?_eq_getElem (by omega)
  generalize Y[j / 4] = y at hy
  have hg := elc_get hy
  obtain ⟨b, o', e, hb, c0, c1, c2, c3⟩ := hA (j / 4) y hy
  cases e
  rw [madd_at]
  have hm : j % 4 = 0 ∨ j % 4 = 1 ∨ j % 4 = 2 ∨ j % 4 = 3 := by omega
  rcases hm with hm | hm | hm | hm
  · have e : j = j / 4 * 4 + 0 := by omega
    have g := hg 0 _ rfl
    rw [← e] at g
    rw [Nat.add_zero] at e
    rw [← e] at c0
    rw [c0]; rw [g] at hj; exact hj
  · have e : j = j / 4 * 4 + 1 := by omega
    have g := hg 1 _ rfl
    rw [← e] at g
    rw [Nat.add_assoc, ← e] at c1
    rw [c1]; rw [g] at hj; exact hj
  · have e : j = j / 4 * 4 + 2 := by omega
    have g := hg 2 _ rfl
    rw [← e] at g
    rw [Nat.add_assoc, ← e] at c2
    rw [c2]; rw [g] at hj; exact hj
  · have e : j = j / 4 * 4 + 3 := by omega
    have g := hg 3 _ rfl
    rw [← e] at g
    rw [Nat.add_assoc, ← e] at c3
    rw [c3]; rw [g] at hj; exact hj
end Go.Proofs.YtnnmalpnjlnnlaaGreat
