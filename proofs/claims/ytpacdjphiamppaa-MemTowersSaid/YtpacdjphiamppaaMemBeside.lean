/-
  A table of package mem beside a map keyed by entries, that a law has made.
-/
import Derived.Test.YtpacdjphiamppaaMemMap
namespace Go.Proofs.Ytpacdjphiamppaa
open Go.ChangeShapes Go.WideShapes Go.ChangeAt Go.RowKit Go.Maps
set_option linter.unusedVariables false
set_option maxRecDepth 100000
set_option maxHeartbeats 1000000

/-- a table and a map that a law has made -/
def Tm (W w : World) (p b : Nat) (e : TypeId) (T M : List Mm.Tv) (val : Nat → DataW Unit) : Prop := ∃ F : Nat → Prop, Tab w p F T ∧ (∀ x, F x → W.heap.size ≤ x ∧ x < w.heap.size) ∧ ¬ F b ∧ W.heap.size ≤ b ∧ MapIs w e b M val ∧ Kept W w
section
variable {W w w' : World} {p b : Nat} {e : TypeId} {T M : List Mm.Tv} {val : Nat → DataW Unit}
theorem Tm.kept (h : Tm W w p b e T M val) : Kept W w := by obtain ⟨F, _, _, _, _, _, k⟩ := h; exact k
theorem Tm.map (h : Tm W w p b e T M val) : MapIs w e b M val := by obtain ⟨F, _, _, _, _, m, k⟩ := h; exact m
theorem Tm.more (h : Tm W w p b e T M val) (k : Kept w w') : Tm W w' p b e T M val := by
  obtain ⟨F, h1, h2, h3, h4, h5, k0⟩ := h
  exact ⟨F, h1.kept k, fun x hx => ⟨(h2 x hx).1, Nat.lt_of_lt_of_le (h2 x hx).2 (Below.size k)⟩, h3, h4, h5.kept k, kept_trans k0 k⟩
theorem Tm.left (h : Tm W w p b e T M val) : Ts W w p T := by
  obtain ⟨F, h1, h2, h3, h4, h5, k0⟩ := h
  exact ⟨h1.mono fun x _ hx => (h2 x hx).1, k0⟩
theorem tm_new (h : Tab w p (fun x => x = p) []) (hp : W.heap.size ≤ p) (k : Kept W w) (e : TypeId) (val : Nat → DataW Unit) : Tm W (w.alloc (.map #[] 0)) p w.heap.size e [] [] val :=
  ⟨fun x => x = p, h.kept ((Kept.refl _).alloc _), fun x hx => by have := h.ptr; rw [malloc_size]; omega, fun q => by have := h.ptr; omega, Below.size k, mapIs_new w e val, k.alloc _⟩
theorem Tm.put (h : Tm W w p b e T M val) (hf : T.length < 1000) (x : Mm.Ent) (n : Int) (hk : x.key.length ≤ maxLen) (hv : x.val.length ≤ maxLen) :
    Calls Try.prog 13 #[.pointer (some ⟨p, 0, none⟩), entV x, .int .i64 n] w fun r w' => r = .returned (.int .i64 (Mm.code T x n)) ∧ Tm W w' p b e (Mm.put T x n) M val := by
  obtain ⟨F, h1, h2, h3, h4, h5, k0⟩ := h
  refine (mput_any h1 hf x n hk hv).mono fun r w' ⟨a1, a2, a3⟩ => ⟨a1, fun y => (F y ∨ w.heap.size ≤ y) ∧ y < w'.heap.size, a2.mono fun y hy hF => ⟨hF, hy⟩, fun y hF => ⟨?_, hF.2⟩, fun hF => ?_, h4, h5.same (a3.block b h5.lt h3), ?_⟩
  · rcases hF.1 with hF | hF
    · exact (h2 y hF).1
    · exact Nat.le_trans (Below.size k0) hF
  · rcases hF.1 with hF | hF
    · exact h3 hF
    · have := h5.lt; omega
  · exact Below.trans k0 (a3.below (Below.size k0) (fun i hi => (h2 i hi).1))
theorem Tm.store {x : Mm.Ent} {n : Int} {t : TypeId} (h : Tm W w p b e (Mm.put T x n) T val) (g : Mm.Good T) (hf : T.length < 1000) (ht : Try.prog.underlying t = some (.map 34 e)) (hc : Mm.code T x n = 0) {v : Value} (hv : plainElem Try.prog e v = some (val n.toNat, [])) :
    ∃ w', (Instr.mapUpdate t (.map (some b)) (entV x) v).run Try.prog w = .ok () w' ∧ Tm W w' p b e (Mm.put T x n) (Mm.put T x n) val := by
  obtain ⟨F, h1, h2, h3, h4, h5, k0⟩ := h
  obtain ⟨w', hr, hm, hg, hs⟩ := h5.store g hf ht hc hv
  have hne : ∀ y, F y → w'.heap[y]? = w.heap[y]? := fun y hy => hg.block y (h2 y hy).2 (fun q => by cases q; exact h3 hy)
  refine ⟨w', hr, F, ?_, fun y hy => ⟨(h2 y hy).1, by rw [hs]; exact (h2 y hy).2⟩, h3, h4, hm, ?_⟩
  · obtain ⟨N, g', q1, q2, q3⟩ := h1
    exact ⟨N, g', q1.same fun y hy => hne y (q3 y hy), q2, q3⟩
  · refine Below.trans k0 ⟨hg.os, hg.tape, hg.output, hg.size, fun i hi => hg.block i (by have := Below.size k0; omega) (fun q => by cases q; omega)⟩
end
end Go.Proofs.Ytpacdjphiamppaa
