/-
  What Unescape, readTime and Read of package key compute, each for every input.
-/
import Derived.Test.YtdmnmbomijnjeaaKeyFns
namespace Go.Proofs.Ytdmnmbomijnjeaa
open Go.ChangeShapes Go.WideShapes Go.ChangeAt Go.RowKit
set_option linter.unusedVariables false
set_option maxRecDepth 100000
set_option maxHeartbeats 400000

/-- bytes that begin with an escaped user's key -/
def Begins (l : List UInt8) : Prop := ∃ u r, l = Ky.esc u ++ r ∧ Ky.may u = true
/-- what was gone through: U is the key so far, o tells whether a byte 0 is open -/
def Gone (l : List UInt8) (k : Nat) (U : List UInt8) (o : Bool) : Prop := l.take k = Ky.escB U ++ (if o then [0] else []) ∧ k ≤ l.length
theorem Gone.zero (l : List UInt8) : Gone l 0 [] false := ⟨rfl, Nat.zero_le _⟩
theorem Gone.len {l : List UInt8} {k : Nat} {U : List UInt8} {o : Bool} (h : Gone l k U o) : U.length ≤ k := by
  have h1 := congrArg List.length h.1
  rw [List.length_take_of_le h.2, List.length_append] at h1
  have := (Ky.escB_len U).1
  omega
theorem Gone.opens {l : List UInt8} {k : Nat} {U : List UInt8} (h : Gone l k U false) (hk : k < l.length) (hc : l.getD k 0 = 0) : Gone l (k + 1) U true := by
  refine ⟨?_, hk⟩
  rw [Nm.take_snoc' l k hk, h.1, hc]; simp
theorem Gone.plain {l : List UInt8} {k : Nat} {U : List UInt8} (h : Gone l k U false) (hk : k < l.length) (hc : l.getD k 0 ≠ 0) : Gone l (k + 1) (U ++ [l.getD k 0]) false := by
  refine ⟨?_, hk⟩
  rw [Nm.take_snoc' l k hk, h.1, Ky.escB_snoc _ _ hc]; simp
theorem Gone.own {l : List UInt8} {k : Nat} {U : List UInt8} (h : Gone l k U true) (hk : k < l.length) (hc : l.getD k 0 = 255) : Gone l (k + 1) (U ++ [0]) false := by
  refine ⟨?_, hk⟩
  rw [Nm.take_snoc' l k hk, h.1, hc, Ky.escB_snoc0]; simp
theorem Gone.ends {l : List UInt8} {k : Nat} {U : List UInt8} (h : Gone l k U true) (hk : k < l.length) (hc : l.getD k 0 = 1) : l = Ky.esc U ++ l.drop (k + 1) := by
  have h1 : l.take (k + 1) = Ky.esc U := by rw [Nm.take_snoc' l k hk, h.1, hc, Ky.esc]; simp
  rw [← h1, List.take_append_drop]
theorem Gone.wrong {l : List UInt8} {k : Nat} {U : List UInt8} (h : Gone l k U true) (hk : k < l.length) (hc : l.getD k 0 ≠ 255) (hd : l.getD k 0 = 1 → Ky.may U = false) : ¬ Begins l := by
  rintro ⟨u, r, e, hm⟩
  have h1 : l.take (k + 1) = Ky.escB U ++ [0, l.getD k 0] := by rw [Nm.take_snoc' l k hk, h.1]; simp
  have h2 : Ky.escB U ++ 0 :: l.getD k 0 :: l.drop (k + 1) = Ky.esc u ++ r := by
    rw [← e]
    conv => rhs; rw [← List.take_append_drop (k + 1) l, h1]
    simp
  obtain ⟨h3, h4, _⟩ := Ky.esc_ends U u _ _ r hc h2
  subst h3
  rw [hd h4] at hm
  exact absurd hm (by decide)
theorem Gone.nothing {l : List UInt8} {k : Nat} {U : List UInt8} {o : Bool} (h : Gone l k U o) (hk : k = 50 ∨ k = l.length) : ¬ Begins l := by
  rintro ⟨u, r, e, hm⟩
  have hl := congrArg List.length h.1
  rw [List.length_take_of_le h.2, List.length_append] at hl
  have := Ky.esc_longer U u (if o then [0] else []) (l.drop k) r (by cases o <;> simp) (by rw [← e, ← List.append_assoc, ← h.1, List.take_append_drop])
  have h50 := (Ky.esc_len_may u hm).2
  have hlen := congrArg List.length e
  rw [List.length_append] at hlen
  omega
/-- what Unescape tells -/
def UnescPost (l : List UInt8) (w : World) (e : Ending) (w' : World) : Prop :=
  ((∃ u r, l = Ky.esc u ++ r ∧ Ky.may u = true ∧ e = .returned (.tuple #[.string (bs u), .string (bs r), .int .i64 0])) ∨ (¬ Begins l ∧ e = .returned (.tuple #[.string (bs []), .string (bs []), .int .i64 2]))) ∧ Kept w w'
theorem u8_is (c : UInt8) (n : Nat) (hn : n < 256) : (((c.toNat : Nat) : Int) == (n : Int)) = (c == n.toUInt8) := by
  rw [Bool.eq_iff_iff, beq_iff_eq, beq_iff_eq, ← UInt8.toNat_inj, Nm.u8_of n hn]
  omega
/-- bytes that are a time of a family's keys -/
def TimeOf (c : Int) (l : List UInt8) (t : Int) : Prop := l = Ky.tailS c t ∧ 0 ≤ t ∧ t ≤ Ky.lastT c
end Go.Proofs.Ytdmnmbomijnjeaa
