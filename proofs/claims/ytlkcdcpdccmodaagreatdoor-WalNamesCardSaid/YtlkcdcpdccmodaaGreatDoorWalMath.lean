/-
  The plain mathematics of logs: the names of their files and what number a name says, what laying a text down does to a disk of one log or of two, what is read back behind a crash. No program.
-/
import Derived.Test.YtlkcdcpdccmodaaGreatDoorFsMath
import Derived.Test.YtlkcdcpdccmodaaGreatDoorFrameMath
import Derived.Lib.ItoaNum
import Derived.Lib.ParseIntB
import Derived.Lib.ParseIntBCases
namespace Go.Proofs.YtlkcdcpdccmodaaGreatDoor
open Go.RowKit Go.WideShapes
set_option linter.unusedVariables false
set_option maxRecDepth 100000
namespace Wl
/-! names -/
def pre : List UInt8 := [119, 97, 108, 46]
def nm (n : Nat) : List UInt8 := pre ++ Lib.decDigits n
def name (n : Nat) : List UInt8 := if n ≤ 1099511627776 then nm n else []
def dec (l : List UInt8) : Nat := l.foldl (fun a c => a * 10 + (c.toNat - 48)) 0
def number (s : List UInt8) : Option Nat := if dec (s.drop 4) ≤ 1099511627776 ∧ nm (dec (s.drop 4)) = s then some (dec (s.drop 4)) else none
theorem digits_big {n : Nat} (h : ¬ n < 10) : Lib.decDigits n = Lib.decDigits (n / 10) ++ [UInt8.ofNat (48 + n % 10)] := by rw [Lib.decDigits, dif_neg h]
theorem digit_toNat {k : Nat} (h : k < 10) : (UInt8.ofNat (48 + k)).toNat = 48 + k := by rw [UInt8.toNat_ofNat_of_lt' (by unfold UInt8.size; omega)]
theorem dec_digits (n : Nat) : dec (Lib.decDigits n) = n := by
  induction n using Nat.strongRecOn with
  | _ n ih =>
    by_cases h : n < 10
    · rw [Lib.decDigits_one h]; simp only [dec, List.foldl_cons, List.foldl_nil, digit_toNat h]; omega
    · have e := ih (n / 10) (by omega)
      rw [digits_big h]
      unfold dec at e ⊢
      rw [List.foldl_append, e]
      simp only [List.foldl_cons, List.foldl_nil, digit_toNat (show n % 10 < 10 by omega)]
      omega
theorem drop_nm (n : Nat) : (nm n).drop 4 = Lib.decDigits n := rfl
theorem number_iff {s : List UInt8} {n : Nat} : number s = some n ↔ n ≤ 1099511627776 ∧ s = nm n := by
  unfold number
  constructor
  · intro h
    split at h
    · rename_i hc
      simp only [Option.some.injEq] at h
      subst h
      exact ⟨hc.1, hc.2.symm⟩
    · cases h
  · rintro ⟨h, rfl⟩
    rw [drop_nm, dec_digits]
    simp [h]
theorem number_nm {n : Nat} (h : n ≤ 1099511627776) : number (nm n) = some n := number_iff.2 ⟨h, rfl⟩
theorem nm_inj {a b : Nat} (h : nm a = nm b) : a = b := by
  have e : dec ((nm a).drop 4) = dec ((nm b).drop 4) := by rw [h]
  rwa [drop_nm, drop_nm, dec_digits, dec_digits] at e
theorem digits_each (n : Nat) : ∀ c ∈ Lib.decDigits n, 48 ≤ c.toNat ∧ c.toNat ≤ 57 := by
  induction n using Nat.strongRecOn with
  | _ n ih =>
    by_cases h : n < 10
    · rw [Lib.decDigits_one h]; intro c hc; simp only [List.mem_singleton] at hc; subst hc; rw [digit_toNat h]; omega
    · rw [digits_big h]
      intro c hc
      rcases List.mem_append.1 hc with hc | hc
      · exact ih (n / 10) (by omega) c hc
      · simp only [List.mem_singleton] at hc; subst hc; rw [digit_toNat (show n % 10 < 10 by omega)]; omega
theorem digits_len {n : Nat} (h : n ≤ 1099511627776) : 1 ≤ (Lib.decDigits n).length ∧ (Lib.decDigits n).length ≤ 13 := by
  rw [Lib.decDigits_length]
  refine ⟨Lib.nDigits_pos n, ?_⟩
  have aux : ∀ (k u : Nat), u < 10 ^ (k + 1) → Lib.nDigits u ≤ k + 1 := by
    intro k
    induction k with
    | zero => intro u hu; rw [Lib.nDigits_small (by simpa using hu)]; omega
    | succ k ih =>
      intro u hu
      by_cases h : u < 10
      · rw [Lib.nDigits_small h]; omega
      · rw [Lib.nDigits_big h]
        have := ih (u / 10) (by rw [Nat.pow_succ] at hu; omega)
        omega
  exact aux 12 n (by omega)
theorem digits_ne (n : Nat) : Lib.decDigits n ≠ [] := by
  intro e
  have h := Lib.decDigits_length n
  rw [e] at h
  have := Lib.nDigits_pos n
  simp at h; omega
theorem nm_len {n : Nat} (h : n ≤ 1099511627776) : 5 ≤ (nm n).length ∧ (nm n).length ≤ 17 := by
  have := digits_len h
  unfold nm pre
  simp only [List.length_append, List.length_cons, List.length_nil]
  omega
theorem stand_digit {c : UInt8} (h : 48 ≤ c.toNat ∧ c.toNat ≤ 57) : Fs.stand c = true := by
  unfold Fs.stand
  have h1 : decide ((48 : UInt8) ≤ c) = true := by rw [decide_eq_true_eq, UInt8.le_iff_toNat_le]; exact h.1
  have h2 : decide (c ≤ (57 : UInt8)) = true := by rw [decide_eq_true_eq, UInt8.le_iff_toNat_le]; exact h.2
  rw [h1, h2]; simp
theorem may_nm {n : Nat} (h : n ≤ 1099511627776) : Fs.may (nm n) = true := by
  have hl := nm_len h
  unfold Fs.may
  rw [decide_eq_true (show 1 ≤ (nm n).length by omega), decide_eq_true (show (nm n).length ≤ 20 by omega)]
  simp only [Bool.true_and, List.all_eq_true]
  intro c hc
  rcases List.mem_append.1 hc with hc | hc
  · simp only [pre, List.mem_cons, List.not_mem_nil, or_false] at hc
    rcases hc with rfl | rfl | rfl | rfl <;> decide
  · exact stand_digit (digits_each n c hc)
theorem may_name (n : Nat) : Fs.may (name n) = decide (n ≤ 1099511627776) := by
  unfold name
  split
  · rename_i h; rw [may_nm h, decide_eq_true h]
  · rename_i h; rw [decide_eq_false h]; rfl
theorem name_nm {n : Nat} (h : n ≤ 1099511627776) : name n = nm n := if_pos h
/-! numerals read back -/
theorem parse_app (M acc : Nat) (l r : List UInt8) : Lib.parseUintM M acc (l ++ r) = match Lib.parseUintM M acc l with | .ok a => Lib.parseUintM M a r | .syntax => .syntax | .range => .range := by
  induction l generalizing acc with
  | nil => rfl
  | cons c l ih =>
    simp only [List.cons_append, Lib.parseUintM]
    split
    · split
      · rfl
      · split
        · rfl
        · exact ih _
    · rfl
theorem parse_digits (M : Nat) (hM : M ≤ 18446744073709551615) (n : Nat) (h : n ≤ M) : Lib.parseUintM M 0 (Lib.decDigits n) = .ok n := by
  induction n using Nat.strongRecOn with
  | _ n ih =>
    by_cases h1 : n < 10
    · rw [Lib.decDigits_one h1]
      have e := digit_toNat h1
      simp only [Lib.parseUintM, e]
      rw [if_pos (by omega), if_neg (by omega), if_neg (by omega)]
      congr 1; omega
    · rw [digits_big h1, parse_app, ih (n / 10) (by omega) (by omega)]
      have e := digit_toNat (show n % 10 < 10 by omega)
      simp only [Lib.parseUintM, e]
      rw [if_pos (by omega), if_neg (by omega), if_neg (by omega)]
      congr 1; omega
theorem parseB_digits (n : Nat) (h : n ≤ 1099511627776) : Lib.parseUintB 64 (Lib.decDigits n) = .ok n := by
  unfold Lib.parseUintB
  rw [if_neg (digits_ne n)]
  exact parse_digits _ (by decide) n (by omega)
theorem parse_lt {l : List UInt8} {u : Nat} (h : Lib.parseUintB 64 l = .ok u) : u ≤ 18446744073709551615 := by
  have := Lib.parseUintB_le h
  omega
/-- a name that begins otherwise says nothing -/
theorem number_pre {s : List UInt8} (h : ¬ pre <+: s) : number s = none := by
  cases e : number s with
  | none => rfl
  | some n => obtain ⟨_, rfl⟩ := number_iff.1 e; exact absurd (List.prefix_append _ _) h
/-- nor does one whose rest is no number -/
theorem number_syn {r : List UInt8} (h : ∀ u, Lib.parseUintB 64 r ≠ .ok u) : number (pre ++ r) = none := by
  cases e : number (pre ++ r) with
  | none => rfl
  | some n =>
    obtain ⟨hn, e'⟩ := number_iff.1 e
    unfold nm at e'
    have := List.append_cancel_left e'
    subst this
    exact absurd (parseB_digits n hn) (h n)
theorem number_ok {r : List UInt8} {u : Nat} (h : Lib.parseUintB 64 r = .ok u) : number (pre ++ r) = if name u = pre ++ r then some u else none := by
  by_cases e : name u = pre ++ r
  · rw [if_pos e]
    refine number_iff.2 ?_
    unfold name at e
    split at e
    · rename_i hu; exact ⟨hu, e.symm⟩
    · cases e
  · rw [if_neg e]
    cases e1 : number (pre ++ r) with
    | none => rfl
    | some n =>
      obtain ⟨hn, e'⟩ := number_iff.1 e1
      have e2 : r = Lib.decDigits n := List.append_cancel_left e'
      subst e2
      rw [parseB_digits n hn] at h
      cases h
      exact absurd (by rw [name_nm hn]; exact e'.symm) e
end Wl
end Go.Proofs.YtlkcdcpdccmodaaGreatDoor
