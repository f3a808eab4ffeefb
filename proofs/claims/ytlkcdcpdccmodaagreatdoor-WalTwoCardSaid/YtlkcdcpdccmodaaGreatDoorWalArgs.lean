/-
  Lists of small numbers and of bools that come in.
-/
import Derived.Test.YtlkcdcpdccmodaaGreatDoorWalState
import Derived.Test.YtlkcdcpdccmodaaGreatDoorFsArgs
import Derived.Deep.Grids
namespace Go.Proofs.YtlkcdcpdccmodaaGreatDoor
open Go.ChangeShapes Go.WideShapes Go.ChangeAt Go.RowKit
set_option linter.unusedVariables false
set_option maxRecDepth 100000

/-- a list of values in memory -/
def Vls {α : Type} (f : α → Value) (w : World) (A : Option Addr) (l : List α) : Prop := ∀ (j : Nat) (x : α), l[j]? = some x → ∃ b o, A = some ⟨b, o, none⟩ ∧ b < w.heap.size ∧ w.cell? ⟨b, o + j, none⟩ = some (f x)
theorem Vls.kept {α : Type} {f : α → Value} {w w' : World} {A : Option Addr} {l : List α} (h : Vls f w A l) (k : Kept w w') : Vls f w' A l := fun j x hx => by
  obtain ⟨b, o, e, hb, hc⟩ := h j x hx
  exact ⟨b, o, e, Nat.lt_of_lt_of_le hb (Below.size k), by rw [kept_cell k hb]; exact hc⟩
def u16V (z : Int) : Value := .int .u16 z
def blV (z : Bool) : Value := .bool z
section
variable {H : Type} {enc : TypeId × Value → H} {w : World}
theorem open_u16 {fuel : Nat} {cs : List Value} {x : DataW H × List MemPlace} (h : DataW.trod enc Tryz.prog w 0 (fun _ => true) true fuel 64 cs = some x) :
    ∃ (A : Option Addr) (cap : Nat) (l : List Int), cs = [.slice A l.length cap] ∧ Vls u16V w A l ∧ (l.length ≤ maxLen ∧ ∀ z ∈ l, 0 ≤ z ∧ z ≤ 65535) := by
  rcases open_ints Tryz.underlying64 Tryz.underlying65 (by kernel_rfl) h with ⟨rfl, _⟩ | ⟨a, len, cap, zs, rfl, _, hl, hm, hz, _, hc, hwf⟩
  · exact ⟨none, 0, [], rfl, fun j x hx => by simp at hx, by simp, fun z hz => by simp at hz⟩
  · rw [if_pos rfl] at hz
    have hlen : (zs.take len).length = len := by rw [List.length_take]; omega
    refine ⟨some a, cap, zs.take len, by rw [hlen], fun j x hx => ?_, by omega, fun z hz' => ?_⟩
    · have hj := (List.getElem?_eq_some_iff.1 hx).1
      rw [hlen] at hj
      have hc0 := hc 0 (by omega)
      rw [add_zero'] at hc0
      obtain ⟨b, o, rfl, hbl⟩ := addr_at hc0
      refine ⟨b, o, rfl, hbl, ?_⟩
      have hcj := hc j (by omega)
      rw [add_at] at hcj
      rw [List.getElem?_take, if_pos hj] at hx
      rw [hcj, List.getD_eq_getElem?_getD, hx]; rfl
    · have := hwf z (List.mem_of_mem_take hz')
      have h2 := bounds_u16 this
      omega
theorem open_bls {fuel : Nat} {cs : List Value} {x : DataW H × List MemPlace} (h : DataW.trod enc Tryz.prog w 0 (fun _ => true) true fuel 67 cs = some x) :
    ∃ (A : Option Addr) (cap : Nat) (l : List Bool), cs = [.slice A l.length cap] ∧ Vls blV w A l ∧ l.length ≤ maxLen := by
  rcases Deep.open_bools Tryz.underlying67 Tryz.underlying4 (by kernel_rfl) h with ⟨rfl, _⟩ | ⟨a, len, cap, B, rfl, _, hl, hm, _, hc⟩
  · exact ⟨none, 0, [], rfl, fun j x hx => by simp at hx, by simp⟩
  · have hlen : ((List.range len).map B).length = len := by simp
    refine ⟨some a, cap, (List.range len).map B, by rw [hlen], fun j x hx => ?_, by rw [hlen]; omega⟩
    have hj := (List.getElem?_eq_some_iff.1 hx).1
    rw [hlen] at hj
    have hc0 := hc 0 (by omega)
    rw [add_zero'] at hc0
    obtain ⟨b, o, rfl, hbl⟩ := addr_at hc0
    refine ⟨b, o, rfl, hbl, ?_⟩
    have hcj := hc j (by omega)
    rw [add_at] at hcj
    rw [hcj]
    simp [hj] at hx
    rw [← hx]; rfl
end
end Go.Proofs.YtlkcdcpdccmodaaGreatDoor
