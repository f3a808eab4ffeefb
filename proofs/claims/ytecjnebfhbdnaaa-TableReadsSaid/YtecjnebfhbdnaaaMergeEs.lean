/-
  A list of entries that was written out, and one that comes in.
-/
import Derived.Test.YtecjnebfhbdnaaaMergeFns
import Derived.Test.YtecjnebfhbdnaaaPackMem
namespace Go.Proofs.Ytecjnebfhbdnaaa
open Go.ChangeShapes Go.WideShapes Go.ChangeAt Go.RowKit
set_option linter.unusedVariables false
set_option maxRecDepth 100000
set_option maxHeartbeats 1000000

theorem els_lit {w : World} {b : Nat} {l : List Mm.Ent} {cs : Array Value} {t : TypeId} {fr : Nat × Nat} (h : w.heap[b]? = some (.cells cs t fr)) (hc : cs.toList = elc l) : Els w (some ⟨b, 0, none⟩) l := fun j x hx => by
  have hg := elc_get hx
  have hcell : ∀ i u, (elc l)[i]? = some u → w.cell? ⟨b, i, none⟩ = some u := fun i u hu => by
    rw [← hc] at hu
    exact mcell h i (by simpa using hu)
  refine ⟨b, 0, rfl, mheap_lt h, ?_, ?_, ?_, ?_⟩
  · rw [Nat.zero_add]; exact hcell _ _ (hg 0 _ rfl)
  · rw [Nat.zero_add]; exact hcell _ _ (hg 1 _ rfl)
  · rw [Nat.zero_add]; exact hcell _ _ (hg 2 _ rfl)
  · rw [Nat.zero_add]; exact hcell _ _ (hg 3 _ rfl)
def OkEs (l : List Mm.Ent) : Prop := ∀ x ∈ l, x.key.length ≤ maxLen ∧ x.val.length ≤ maxLen ∧ x.seq ≤ 18446744073709551615
theorem mcellsEs : Try.prog.cellsOf 22 = 1 := by kernel_rfl
section
variable {H : Type} {enc : TypeId × Value → H} {w : World}
theorem open_ent4 {n : Nat} {b o : Nat} {cs : List Value} {y : DataW H × List MemPlace} (hcl : cs.length = 4) (hat : ∀ j, j < 4 → w.cell? ⟨b, o + j, none⟩ = cs[j]?) (ht : DataW.trod enc Try.prog w 0 (fun _ => true) true n 37 cs = some y) :
    ∃ x : Mm.Ent, Ec w b o 0 x ∧ x.key.length ≤ maxLen ∧ x.val.length ≤ maxLen ∧ x.seq ≤ 18446744073709551615 := by
  match cs, hcl with
  | [v0, v1, v2, v3], _ =>
    obtain ⟨x, rfl, rfl, rfl, rfl, q⟩ := open_ent ht
    exact ⟨x, ⟨hat 0 (by omega), hat 1 (by omega), hat 2 (by omega), hat 3 (by omega)⟩, q⟩
/-- a list of entries that comes in -/
theorem open_es {fuel : Nat} {cs : List Value} {x : DataW H × List MemPlace} (h : DataW.trod enc Try.prog w 0 (fun _ => true) true fuel 22 cs = some x) :
    ∃ (A : Option Addr) (cap : Nat) (l : List Mm.Ent), cs = [.slice A l.length cap] ∧ Els w A l ∧ l.length ≤ cap ∧ cap ≤ maxLen ∧ OkEs l := by
  rcases Deep.open_slice Try.underlying22 h with ⟨rfl, _⟩ | ⟨a, len, cap, m, n, D, Pl, rfl, _, hl, hm, hmm, _, hi⟩
  · exact ⟨none, 0, [], rfl, fun j x hx => by simp at hx, by simp, by simp, fun x hx => by simp at hx⟩
  · rw [if_pos rfl] at hmm
    rw [mcellsEnt] at hi
    have key : ∀ i, i < len → ∃ (x : Mm.Ent) (b o : Nat), a = ⟨b, o, none⟩ ∧ b < w.heap.size ∧ Ec w b (o + i * 4) 0 x ∧ x.key.length ≤ maxLen ∧ x.val.length ≤ maxLen ∧ x.seq ≤ 18446744073709551615 := fun i hil => by
      obtain ⟨cs0, hc0, _⟩ := hi 0 (by omega)
      obtain ⟨_, hcl0, hat0⟩ := World.cells?_some hc0
      have h00 := hat0 0 (by omega)
      rw [Nat.zero_mul, madd_zero, madd_zero, List.getElem?_eq_getElem (show 0 < cs0.length by omega)] at h00
      obtain ⟨b, o, rfl, hbl⟩ := maddr_at h00
      obtain ⟨cs', hc, ht⟩ := hi i (by omega)
      obtain ⟨_, hcl, hat⟩ := World.cells?_some hc
      obtain ⟨x, hx⟩ := open_ent4 (o := o + i * 4) hcl (fun j hj => by rw [← hat j hj, madd_at, madd_at]) ht
      exact ⟨x, b, o, rfl, hbl, hx⟩
    have hch : ∀ i, ∃ x : Mm.Ent, i < len → ∃ b o, a = ⟨b, o, none⟩ ∧ b < w.heap.size ∧ Ec w b (o + i * 4) 0 x ∧ x.key.length ≤ maxLen ∧ x.val.length ≤ maxLen ∧ x.seq ≤ 18446744073709551615 := fun i => by
      by_cases hil : i < len
      · obtain ⟨x, r⟩ := key i hil
        exact ⟨x, fun _ => r⟩
      · exact ⟨Mm.zent, fun hh => absurd hh hil⟩
    obtain ⟨f, hf⟩ := Classical.axiomOfChoice hch
    have hlen : ((List.range len).map f).length = len := by simp
    have hat : ∀ i x, ((List.range len).map f)[i]? = some x → i < len ∧ f i = x := fun i x hx => by
      have hil : i < len := by
        have := (List.getElem?_eq_some_iff.1 hx).1
        rw [hlen] at this; exact this
      exact ⟨hil, by simpa [hil] using hx⟩
    refine ⟨some a, cap, (List.range len).map f, by rw [hlen], fun i x hx => ?_, by rw [hlen]; exact hl, hm, fun x hx => ?_⟩
    · obtain ⟨hil, hfx⟩ := hat i x hx
      obtain ⟨b, o, e, hb, hc, _⟩ := hf i hil
      rw [hfx] at hc
      unfold Ec at hc
      rw [Nat.zero_mul, Nat.add_zero] at hc
      exact ⟨b, o, by rw [e], hb, hc⟩
    · obtain ⟨i, hi'⟩ := List.getElem?_of_mem hx
      obtain ⟨hil, hfx⟩ := hat i x hi'
      obtain ⟨b, o, e, hb, _, hc⟩ := hf i hil
      rw [hfx] at hc
      exact hc
end
end Go.Proofs.Ytecjnebfhbdnaaa
