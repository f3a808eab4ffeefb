/-
  The walk of screelaw08.MergeNewest.
-/
import Derived.Test.YtpbhbgoaaephgaaMergeArgs
import Derived.Test.YtpbhbgoaaephgaaMemTwo
namespace Go.Proofs.Ytpbhbgoaaephgaa
open Go.ChangeShapes Go.WideShapes Go.ChangeAt Go.RowKit
set_option linter.unusedVariables false
set_option maxRecDepth 100000
set_option maxHeartbeats 4000000

theorem first_sub {l : List Mm.Ent} {p : Mm.Ent → Bool} {s : Nat} {x : Mm.Ent} (h : Mg.first l s x = true) : Mg.first (l.filter p) s x = true := by
  rw [Mg.first_iff] at *
  exact ⟨h.1, fun y hy => h.2 y ((List.mem_filter.1 hy).1)⟩
theorem newest_twice (l : List Mm.Ent) (s : Nat) : Mg.newest (Mg.newest l s) s = Mg.newest l s := by
  unfold Mg.newest
  rw [List.filter_eq_self]
  intro x hx
  have h := (List.mem_filter.1 hx).2
  unfold Mg.newP at h ⊢
  rw [Bool.or_eq_true] at h ⊢
  exact h.imp id (fun h => first_sub h)
theorem seen_newest (l : List Mm.Ent) {s M : Nat} (hs : s ≤ M) : Mg.seen (Mg.newest l s) M = Mg.seen l M := by
  unfold Mg.seen Mg.newest
  rw [List.filter_filter]
  refine List.filter_congr fun x hx => ?_
  unfold Mg.seenP
  rw [Bool.eq_iff_iff, Bool.and_eq_true, Bool.and_eq_true, Bool.and_eq_true]
  constructor
  · rintro ⟨⟨h1, h2⟩, h3⟩
    refine ⟨?_, h2⟩
    rw [Mg.first_iff] at h1 ⊢
    refine ⟨h1.1, fun y hy e1 e2 => ?_⟩
    by_cases hM : M < y.seq
    · exact hM
    · refine h1.2 y (List.mem_filter.2 ⟨hy, ?_⟩) e1 e2
      unfold Mg.newP at h3 ⊢
      rw [Bool.or_eq_true, decide_eq_true_iff] at h3 ⊢
      rcases h3 with h3 | h3
      · left; omega
      · left; exact (Mg.first_iff.1 h3).2 y hy e1 e2
  · rintro ⟨h1, h2⟩
    refine ⟨⟨first_sub h1, h2⟩, ?_⟩
    rw [Mg.first_iff] at h1
    unfold Mg.newP
    rw [Bool.or_eq_true, decide_eq_true_iff]
    by_cases hx2 : s < x.seq
    · exact .inl hx2
    · right
      rw [Mg.first_iff]
      exact ⟨by omega, fun y hy e1 e2 => Nat.lt_of_le_of_lt hs (h1.2 y hy e1 e2)⟩
theorem newest_row {l : List Mm.Ent} (h : Mg.row l = true) (s : Nat) : Mg.row (Mg.newest l s) = true := Mg.row_iff.2 ((Mg.row_iff.1 h).filter _)
theorem newest_len (l : List Mm.Ent) (s : Nat) : (Mg.newest l s).length ≤ l.length := List.length_filter_le _ _
/-- a list alone is asked for its size -/
theorem glarge_one {w : World} {A : Option Addr} {l : List Mm.Ent} {c p : Nat} (h : Els w A l) (hc : l.length ≤ c) (hm : c ≤ maxLen) (ho : OkEs l) (hp : w.heap[p]? = some (.cells #[.slice A l.length c] 46)) :
    Calls Try.prog 42 #[.slice (some ⟨p, 0, none⟩) 1 1] w fun e w' => ∃ B, e = .returned (.bool B) ∧ Kept w w' ∧ (B = false → l.length ≤ 300) := by
  have hx : Rwx w (some ⟨p, 0, none⟩) [⟨A, c, l, 0⟩] := by
    refine ⟨fun j x hx => ⟨p, 0, rfl, mheap_lt hp, ?_⟩, fun r hr => ?_, fun r hr => ?_, fun r hr => ?_, fun r hr => ?_⟩
    · rw [Nat.zero_add]
      match j, hx with
      | 0, hx => simp at hx; subst hx; exact mcell hp 0 rfl
      | j + 1, hx => simp at hx
    · rw [List.mem_singleton] at hr; subst hr; exact h
    · rw [List.mem_singleton] at hr; subst hr; exact hc
    · rw [List.mem_singleton] at hr; subst hr; exact hm
    · rw [List.mem_singleton] at hr; subst hr; exact ho
  exact (glarge_any 1 hx (by simp [maxLen])).mono fun e w' ⟨B, h1, h2, h3⟩ => ⟨B, h1, h2, fun e => by have := (h3 e).2; simpa using this⟩
/-- the answer of 'large' behind a name -/
def LgOne (w : World) (l : List Mm.Ent) (e : Ending) (w' : World) : Prop := ∃ B, e = .returned (.bool B) ∧ Kept w w' ∧ (B = false → l.length ≤ 300)
end Go.Proofs.Ytpbhbgoaaephgaa
