/-
  Two tables of package mem that a law has made: neither's memory is the other one's.
-/
import Derived.Test.YtpbhbgoaaephgaaMemAwake
namespace Go.Proofs.Ytpbhbgoaaephgaa
open Go.ChangeShapes Go.WideShapes Go.ChangeAt Go.RowKit
set_option linter.unusedVariables false
set_option maxRecDepth 100000
set_option maxHeartbeats 400000

theorem msame_eq {A1 A2 : Option Addr} {a b c1 c2 : Nat} {l m : List Mm.Ent} {w : World} (h1 : Els w A1 l) (h2 : Els w A2 m) (ha : l.length = a) (hb : m.length = b) (hl : l.length ≤ 1000) (he : l = m) :
    Calls Try.prog 37 #[.slice A1 a c1, .slice A2 b c2] w fun e w' => e = .returned (.bool true) ∧ Kept w w' := by
  subst ha hb he
  have := msame_any A1 A2 c1 c2 l l hl hl w h1 h2
  rw [decide_eq_true rfl] at this
  exact this.mono fun e w' ⟨q1, q, q2⟩ => ⟨q1, by rw [q2]; exact kept_drewN w q⟩
def Tw (W w : World) (p q : Nat) (T U : List Mm.Tv) : Prop := ∃ F G : Nat → Prop, Tab w p F T ∧ Tab w q G U ∧ (∀ b, F b → G b → False) ∧ (∀ b, F b → W.heap.size ≤ b ∧ b < w.heap.size) ∧ (∀ b, G b → W.heap.size ≤ b ∧ b < w.heap.size) ∧ Kept W w
section
variable {W w w' : World} {p q : Nat} {T U : List Mm.Tv}
theorem Tw.kept (h : Tw W w p q T U) : Kept W w := by obtain ⟨F, G, _, _, _, _, _, k⟩ := h; exact k
theorem Tw.flip (h : Tw W w p q T U) : Tw W w q p U T := by
  obtain ⟨F, G, h1, h2, h3, h4, h5, k⟩ := h
  exact ⟨G, F, h2, h1, fun b x y => h3 b y x, h5, h4, k⟩
theorem Tw.more (h : Tw W w p q T U) (k : Kept w w') : Tw W w' p q T U := by
  obtain ⟨F, G, h1, h2, h3, h4, h5, k0⟩ := h
  exact ⟨F, G, h1.kept k, h2.kept k, h3, fun b hb => ⟨(h4 b hb).1, Nat.lt_of_lt_of_le (h4 b hb).2 (Below.size k)⟩, fun b hb => ⟨(h5 b hb).1, Nat.lt_of_lt_of_le (h5 b hb).2 (Below.size k)⟩, kept_trans k0 k⟩
theorem Tw.left (h : Tw W w p q T U) : Ts W w p T := by
  obtain ⟨F, G, h1, h2, h3, h4, h5, k0⟩ := h
  exact ⟨h1.mono fun b _ hb => (h4 b hb).1, k0⟩
theorem Tw.right (h : Tw W w p q T U) : Ts W w q U := h.flip.left
theorem tw_new (h : Tab w p (fun b => b = p) []) (hp : W.heap.size ≤ p) (k : Kept W w) : Calls Try.prog 25 #[] w fun e w' => e = .returned (.pointer (some ⟨w.heap.size, 0, none⟩)) ∧ Tw W w' p w.heap.size [] [] :=
  (mnew_any w).mono fun e w' ⟨h1, h2, h3, h4⟩ => ⟨h1, fun b => b = p, fun b => b = w.heap.size, h.kept h4, h2, fun b x y => by have := h.ptr; omega, fun b x => by have := h.ptr; omega, fun b x => by have := h.ptr; omega, kept_trans k h4⟩
theorem Tw.put (h : Tw W w p q T U) (hf : T.length < 1000) (e : Mm.Ent) (x : Int) (hk : e.key.length ≤ maxLen) (hv : e.val.length ≤ maxLen) :
    Calls Try.prog 27 #[.pointer (some ⟨p, 0, none⟩), entV e, .int .i64 x] w fun r w' => r = .returned (.int .i64 (Mm.code T e x)) ∧ Tw W w' p q (Mm.put T e x) U := by
  obtain ⟨F, G, h1, h2, h3, h4, h5, k0⟩ := h
  refine (mput_any h1 hf e x hk hv).mono fun r w' ⟨a1, a2, a3⟩ => ⟨a1, fun b => (F b ∨ w.heap.size ≤ b) ∧ b < w'.heap.size, G, a2.mono fun b hb hF => ⟨hF, hb⟩, h2.ex a3 (fun b hG hF => h3 b hF hG), fun b hF hG => ?_, fun b hF => ⟨?_, hF.2⟩, fun b hG => ⟨(h5 b hG).1, Nat.lt_of_lt_of_le (h5 b hG).2 a3.size⟩, ?_⟩
  · rcases hF.1 with hF | hF
    · exact h3 b hF hG
    · have := (h5 b hG).2; omega
  · rcases hF.1 with hF | hF
    · exact (h4 b hF).1
    · exact Nat.le_trans (Below.size k0) hF
  · exact Below.trans k0 (a3.below (Below.size k0) (fun i hi => (h4 i hi).1))
theorem Tw.put2 (h : Tw W w p q T U) (hf : U.length < 1000) (e : Mm.Ent) (x : Int) (hk : e.key.length ≤ maxLen) (hv : e.val.length ≤ maxLen) :
    Calls Try.prog 27 #[.pointer (some ⟨q, 0, none⟩), entV e, .int .i64 x] w fun r w' => r = .returned (.int .i64 (Mm.code U e x)) ∧ Tw W w' p q T (Mm.put U e x) :=
  (h.flip.put hf e x hk hv).mono fun r w' ⟨a1, a2⟩ => ⟨a1, a2.flip⟩
end
end Go.Proofs.Ytpbhbgoaaephgaa
