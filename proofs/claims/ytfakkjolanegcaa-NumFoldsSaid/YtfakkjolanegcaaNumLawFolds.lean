/-
  The walk of the statement NumFolds: it answers true for every signed and every unsigned 64-bit number.
-/
import Derived.Test.YtfakkjolanegcaaNumAwake
import Derived.OpenShut
namespace Go.Proofs.Ytfakkjolanegcaa
open Go.ChangeShapes Go.WideShapes Go.ChangeAt Go.RowKit
set_option linter.unusedVariables false
set_option maxHeartbeats 400000

theorem NumFolds_walk (a0 : Int) (a1 : Int) (w0 : (Lit.int .i64 a0).wf = true) (w1 : (Lit.int .u64 a1).wf = true) (w : World) :
    Calls Try.prog 7 #[.int .i64 a0, .int .u64 a1] w fun e w' => e = .returned (.bool true) ∧ Kept w w' := by
  obtain ⟨m1, m2⟩ := bounds_i64 w0
  obtain ⟨n1, n2⟩ := bounds_u64 w1
  clear w0 w1
  have hb := Nm.foldN_bd a0 m1 m2
  have hu := Nm.unfoldN_bd a1 n1 n2
  have HF := Lib.hid (Nm.unfold_fold a0)
  have HU := Lib.hid (Nm.fold_unfold a1 n1)
  have H2 : Hid (Nm.foldN a0 % 2 = if a0 < 0 then 1 else 0) := Lib.hid (by unfold Nm.foldN; split <;> omega)
  have H3 : Hid (-4611686018427387904 ≤ a0 → a0 < 4611686018427387904 → Nm.foldN a0 ≤ 9223372036854775808) := Lib.hid (by unfold Nm.foldN; split <;> omega)
  generalize hx : Nm.foldN a0 = x at *
  have HX := Lib.hid hx; clear hx
  generalize hy : Nm.unfoldN a1 = y at *
  have HY := Lib.hid hy; clear hy
  by_cases hr : -4611686018427387904 ≤ a0 ∧ a0 < 4611686018427387904
  · obtain ⟨r1, r2⟩ := hr
    have hx3 := H3.out r1 r2
    by_cases hs : a0 < 0
    · have hd : (x % 2 == 0) = false := by rw [H2.out, if_pos hs]; rfl
      have hd0 : decide (0 ≤ a0) = false := by simp; omega
      go_enter Try.func7, Try.ntmps7
      go_wp2_with fail
      refine (awake_any _).mono ?_; rintro e w1 ⟨rfl, g1⟩
      go_wp2_with fail
      refine (fold_any _ m1 m2 _).mono ?_; rintro e w1 ⟨rfl, rfl⟩; rw [HX.out]
      go_wp2_with fail
      refine (unfold_any _ hb.1 hb.2 _).mono ?_; rintro e w1 ⟨rfl, rfl⟩; rw [HF.out]
      go_wp2_with fail
      refine (unfold_any _ n1 n2 _).mono ?_; rintro e w1 ⟨rfl, rfl⟩; rw [HY.out]
      go_wp2_with fail
      refine (fold_any _ hu.1 hu.2 _).mono ?_; rintro e w1 ⟨rfl, rfl⟩; rw [HU.out]
      go_wp2_with fail
      refine (fold_any _ m1 m2 _).mono ?_; rintro e w1 ⟨rfl, rfl⟩; rw [HX.out]
      go_wp2_with fail
      refine (fold_any _ m1 m2 _).mono ?_; rintro e w1 ⟨rfl, rfl⟩; rw [HX.out]
      go_wp2_with fail
      go_ret
      exact ⟨rfl, g1⟩
    · have hd : (x % 2 == 0) = true := by rw [H2.out, if_neg hs]; rfl
      go_enter Try.func7, Try.ntmps7
      go_wp2_with fail
      refine (awake_any _).mono ?_; rintro e w1 ⟨rfl, g1⟩
      go_wp2_with fail
      refine (fold_any _ m1 m2 _).mono ?_; rintro e w1 ⟨rfl, rfl⟩; rw [HX.out]
      go_wp2_with fail
      refine (unfold_any _ hb.1 hb.2 _).mono ?_; rintro e w1 ⟨rfl, rfl⟩; rw [HF.out]
      go_wp2_with fail
      refine (unfold_any _ n1 n2 _).mono ?_; rintro e w1 ⟨rfl, rfl⟩; rw [HY.out]
      go_wp2_with fail
      refine (fold_any _ hu.1 hu.2 _).mono ?_; rintro e w1 ⟨rfl, rfl⟩; rw [HU.out]
      go_wp2_with fail
      refine (fold_any _ m1 m2 _).mono ?_; rintro e w1 ⟨rfl, rfl⟩; rw [HX.out]
      go_wp2_with fail
      refine (fold_any _ m1 m2 _).mono ?_; rintro e w1 ⟨rfl, rfl⟩; rw [HX.out]
      go_wp2_with fail
      go_ret
      exact ⟨rfl, g1⟩
  · by_cases r1 : -4611686018427387904 ≤ a0
    all_goals
      go_enter Try.func7, Try.ntmps7
      go_wp2_with fail
      refine (awake_any _).mono ?_; rintro e w1 ⟨rfl, g1⟩
      go_wp2_with fail
      refine (fold_any _ m1 m2 _).mono ?_; rintro e w1 ⟨rfl, rfl⟩; rw [HX.out]
      go_wp2_with fail
      refine (unfold_any _ hb.1 hb.2 _).mono ?_; rintro e w1 ⟨rfl, rfl⟩; rw [HF.out]
      go_wp2_with fail
      refine (unfold_any _ n1 n2 _).mono ?_; rintro e w1 ⟨rfl, rfl⟩; rw [HY.out]
      go_wp2_with fail
      refine (fold_any _ hu.1 hu.2 _).mono ?_; rintro e w1 ⟨rfl, rfl⟩; rw [HU.out]
      go_wp2_with fail
      go_ret
      exact ⟨rfl, g1⟩
end Go.Proofs.Ytfakkjolanegcaa
