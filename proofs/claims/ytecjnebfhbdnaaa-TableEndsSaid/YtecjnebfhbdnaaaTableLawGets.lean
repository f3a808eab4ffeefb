/-
  The walk of screelaw11.TableGets.
-/
import Derived.Test.YtecjnebfhbdnaaaTableArgs
import Derived.Test.YtecjnebfhbdnaaaTableAwake
import Derived.Test.YtecjnebfhbdnaaaBlockArgs
import Derived.OpenShut
namespace Go.Proofs.Ytecjnebfhbdnaaa
open Go.ChangeShapes Go.WideShapes Go.ChangeAt Go.RowKit
set_option linter.unusedVariables false
set_option maxRecDepth 100000
set_option maxHeartbeats 4000000

theorem okEl_gs {l : List Mm.Ent} (h : OkEs l) : OkEl l := fun x hx => ⟨(h x hx).1, (h x hx).2.1⟩
namespace Tb
open Mm
theorem cost_le (l : List Ent) (k : List UInt8) (s : Nat) : cost l k s = 0 ∨ cost l k s = 1 := by
  unfold cost; split <;> simp
theorem lastE_mem {l : List Ent} (h : isT l = true) : ∃ i, l[i]? = some (lastE l) ∧ i + 1 = l.length := by
  have h1 := (isT_iff.1 h).1
  refine ⟨l.length - 1, ?_, by omega⟩
  unfold lastE
  rw [List.getLast?_eq_getElem?, List.getElem?_eq_getElem (by omega)]
  rfl
theorem cost_hit {l : List Ent} (h : isT l = true) {k : List UInt8} {s i : Nat} {y : Ent} (hy : l[i]? = some y) (hm : mt k s y = true) : cost l k s = 1 := by
  obtain ⟨m1, m2⟩ := mt_iff.1 hm
  unfold cost
  rw [if_pos]
  refine ⟨by rw [← m1]; exact Bm.made_may (keys_has (List.mem_of_getElem? hy)), ?_⟩
  obtain ⟨j, hj, hjl⟩ := lastE_mem h
  have hi := (List.getElem?_eq_some_iff.1 hy).1
  cases hv : (lastE l).ah k s with
  | false => rfl
  | true =>
    have hya : y.ah k s = true := by
      by_cases e : i = j
      · subst e; rw [hy] at hj; cases hj; exact hv
      · exact ahd_trans ((Mg.row_iff.1 (isT_iff.1 h).2.2.2).lt hy hj (by omega)) hv
    rw [mt_ahead hya] at hm
    cases hm
theorem find_hit {l : List Ent} {k : List UInt8} {s i : Nat} {y : Ent} (hn : (l.take i).find? (mt k s) = none) (hy : l[i]? = some y) (hm : mt k s y = true) : l.find? (mt k s) = some y := by
  conv => lhs; rw [← List.take_append_drop i l]
  rw [List.find?_append, hn, Option.none_or]
  obtain ⟨hi, rfl⟩ := List.getElem?_eq_some_iff.1 hy
  rw [List.drop_eq_getElem_cons hi, List.find?_cons, hm]
theorem find_next {l : List Ent} {k : List UInt8} {s i : Nat} {y : Ent} (hn : (l.take i).find? (mt k s) = none) (hy : l[i]? = some y) (hm : mt k s y = false) : (l.take (i + 1)).find? (mt k s) = none := by
  rw [List.take_add_one, hy, List.find?_append, hn]
  simp [hm]
end Tb
end Go.Proofs.Ytecjnebfhbdnaaa
