/-
  The walk of the statement NumFits: it answers true for every unsigned 64-bit number and every two ints.
-/
import Derived.Test.YtfakkjolanegcaaNumAwake
import Derived.OpenShut
namespace Go.Proofs.Ytfakkjolanegcaa
open Go.ChangeShapes Go.WideShapes Go.ChangeAt Go.RowKit
set_option linter.unusedVariables false
set_option maxHeartbeats 400000

/-- j halvings of n leave x -/
def Halved (n j x : Nat) : Prop := j + bitLen x = bitLen n ∧ x ≤ n
theorem Halved.start (n : Nat) : Halved n 0 n := ⟨by omega, Nat.le_refl _⟩
theorem Halved.next {n j x : Nat} (h : Halved n j x) (hx : 0 < x) : Halved n (j + 1) (x / 2) :=
  ⟨by have := Nm.bitLen_half x (by omega); have := h.1; omega, by have := h.2; omega⟩
theorem Halved.done {n j : Nat} (h : Halved n j 0) : j = bitLen n := by
  have := h.1; have e : bitLen 0 = 0 := by decide
  omega
theorem Halved.le {n j x : Nat} (h : Halved n j x) (hn : n < 18446744073709551616) : j ≤ 64 := by
  have := h.1; have := Nm.bitLen_le64 n hn; omega

theorem NumFits_walk (a0 : Int) (a1 : Int) (a2 : Int) (w0 : (Lit.int .u64 a0).wf = true) (w1 : (Lit.int .i64 a1).wf = true) (w2 : (Lit.int .i64 a2).wf = true) (w : World) :
    Calls Try.prog 8 #[.int .u64 a0, .int .i64 a1, .int .i64 a2] w fun e w' => e = .returned (.bool true) ∧ Kept w w' := by
  obtain ⟨n1, n2⟩ := bounds_u64 w0
  clear w0 w1 w2
  obtain ⟨n, rfl⟩ := Int.eq_ofNat_of_zero_le n1
  have hn : n < 18446744073709551616 := by omega
  have cases : (a2 < a1) ∨ (a1 ≤ a2 ∧ Nm.fitsN n a1 = false) ∨ (a1 ≤ a2 ∧ Nm.fitsN n a1 = true ∧ Nm.fitsN n a2 = true) := by
    by_cases h : a2 < a1
    · exact Or.inl h
    · have h : a1 ≤ a2 := by omega
      rcases Bool.eq_false_or_eq_true (Nm.fitsN n a1) with hf | hf
      · exact Or.inr (Or.inr ⟨h, hf, Nm.fits_mono _ _ _ h hf⟩)
      · exact Or.inr (Or.inl ⟨h, hf⟩)
  have f64 := Nm.fits_64 n n2
  rcases cases with h | ⟨h, hf⟩ | ⟨h, hf, hg⟩
  all_goals
    go_enter Try.func8, Try.ntmps8
    go_wp2_with (first | (go_at_call 10; refine (awake_any _).mono ?_; rintro e w1 ⟨rfl, g1⟩) | (go_at_call 21; refine (fits_any _ _ n1 n2 _).mono ?_; rintro e w1 ⟨rfl, rfl⟩))
    go_loop [7, 8] (fun t x => ∃ j y : Nat, t = .int .i64 j ∧ x = .int .u64 y ∧ Halved n j y) (fun _ x => (intOf x).toNat)
    case atStart => exact ⟨0, n, rfl, rfl, Halved.start n⟩
    case round =>
      obtain ⟨j, y, rfl, rfl, hH⟩ := hrel
      have hj := hH.le hn
      have hy := hH.2
      by_cases hpos : 0 < y
      · go_wp2_with fail
        go_round
        case rel => exact ⟨j + 1, y / 2, by go_num, by go_num, hH.next hpos⟩
        case measure => simp [intOf]; omega
      · have y0 : y = 0 := by omega
        subst y0
        have e := hH.done
        have f1 : Nm.fitsN n j = true := by rw [e]; exact Nm.fits_bitLen n
        by_cases n0 : n = 0
        · have j0 : j = 0 := by rw [e, n0]; decide
          subst j0
          clear e hH n0
          go_wp2_with (first | (go_at_call 21; refine (fits_any _ _ n1 n2 _).mono ?_; rintro e w1 ⟨rfl, rfl⟩))
          go_ret
          exact ⟨rfl, g1⟩
        · have f2 : Nm.fitsN n ((j : Int) - 1) = false := by rw [e]; exact Nm.fits_less n n0
          have jp : 1 ≤ j := by rw [e]; exact Nm.bitLen_pos n n0
          clear e hH n0
          go_wp2_with (first | (go_at_call 21; refine (fits_any _ _ n1 n2 _).mono ?_; rintro e w1 ⟨rfl, rfl⟩))
          go_ret
          exact ⟨rfl, g1⟩
end Go.Proofs.Ytfakkjolanegcaa
