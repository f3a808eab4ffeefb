/-
  Package level in plain mathematics: metas, ranges, which meet.
-/
import Derived.Test.YtnnmalpnjlnnlaaGreatPackMath
namespace Go.Proofs.YtnnmalpnjlnnlaaGreat
set_option linter.unusedVariables false
set_option maxRecDepth 100000
namespace Lv
structure Meta where
  file : Nat
  size : Int
  first : List UInt8
  last : List UInt8
  seq : Nat
theorem meta_eq (a b : Meta) : (a.file = b.file ∧ a.size = b.size ∧ a.first = b.first ∧ a.last = b.last ∧ a.seq = b.seq) ↔ a = b := by
  obtain ⟨a1, a2, a3, a4, a5⟩ := a
  obtain ⟨b1, b2, b3, b4, b5⟩ := b
  constructor
  · rintro ⟨h1, h2, h3, h4, h5⟩
    simp only at h1 h2 h3 h4 h5
    subst h1 h2 h3 h4 h5
    rfl
  · intro h
    rw [h]
    exact ⟨rfl, rfl, rfl, rfl, rfl⟩
instance metaDec : DecidableEq Meta := fun a b => decidable_of_iff _ (meta_eq a b)
def zmeta : Meta := ⟨0, 0, [], [], 0⟩
instance metaInh : Inhabited Meta := ⟨zmeta⟩
def isN (n : Nat) : Bool := decide (1 ≤ n) && decide (n ≤ 1099511627776)
def isZ (z : Int) : Bool := decide (1 ≤ z) && decide (z ≤ 1099511627776)
def isK (s : List UInt8) : Bool := decide (1 ≤ s.length) && decide (s.length ≤ 100)
/-- is a text not above another one? -/
def le (a b : List UInt8) : Bool := decide (a < b) || decide (a = b)
theorem le_iff {a b : List UInt8} : le a b = true ↔ ¬ b < a := by
  unfold le
  rw [Bool.or_eq_true, decide_eq_true_iff, decide_eq_true_iff]
  constructor
  · rintro (h | rfl) k
    · exact Mm.lt_irrefl _ (Mm.lt_trans h k)
    · exact Mm.lt_irrefl _ k
  · intro h
    by_cases k : a < b
    · exact .inl k
    · exact .inr (Mm.lt_total k h)
theorem le_not {a b : List UInt8} : le a b = !decide (b < a) := by
  rw [Bool.eq_iff_iff, le_iff]; simp
def may (m : Meta) : Bool := isN m.file && isZ m.size && isN m.seq && isK m.first && isK m.last && le m.first m.last
/-- does a range meet another one? -/
def meets (a b c d : List UInt8) : Bool := le c b && le a d
def mt (m : Meta) (c d : List UInt8) : Bool := meets m.first m.last c d
/-- the range of a range and of metas -/
def over1 (s : List UInt8 × List UInt8) (m : Meta) : List UInt8 × List UInt8 := (if m.first < s.1 then m.first else s.1, if s.2 < m.last then m.last else s.2)
def over (s : List UInt8 × List UInt8) (l : List Meta) : List UInt8 × List UInt8 := l.foldl over1 s
/-- lengths and numbers as the machine has them -/
def Sane (m : Meta) : Prop := m.file ≤ 18446744073709551615 ∧ -9223372036854775808 ≤ m.size ∧ m.size ≤ 9223372036854775807 ∧ m.first.length ≤ maxLen ∧ m.last.length ≤ maxLen ∧ m.seq ≤ 18446744073709551615
end Lv
end Go.Proofs.YtnnmalpnjlnnlaaGreat
