/-
  The walk of the statement NumWrites: it answers true for every unsigned and every signed 64-bit number and every int.
-/
import Derived.Test.YtfakkjolanegcaaNumAwake
import Derived.Test.YtfakkjolanegcaaNumRef
import Derived.OpenShut
namespace Go.Proofs.Ytfakkjolanegcaa
open Go.ChangeShapes Go.WideShapes Go.ChangeAt Go.RowKit
set_option linter.unusedVariables false
set_option maxHeartbeats 400000

theorem NumWrites_walk (a0 : Int) (a1 : Int) (a2 : Int) (w0 : (Lit.int .u64 a0).wf = true) (w1 : (Lit.int .i64 a1).wf = true) (w2 : (Lit.int .i64 a2).wf = true) (w : World) :
    Calls Try.prog 3 #[.int .u64 a0, .int .i64 a1, .int .i64 a2] w fun e w' => e = .returned (.bool true) ∧ Kept w w' := by
  obtain ⟨n1, n2⟩ := bounds_u64 w0
  obtain ⟨m1, m2⟩ := bounds_i64 w1
  clear w0 w1 w2
  go_enter Try.func3, Try.ntmps3
  go_wp2_with fail
  refine (awake_any _).mono ?_; rintro e w1 ⟨rfl, g1⟩
  go_wp2_with fail
  refine (short_any _ n1 n2 _).mono ?_; rintro e w2 ⟨rfl, g2⟩
  go_wp2_with fail
  refine (rshort_any _ n1 n2 _).mono ?_; rintro e w3 ⟨rfl, g3⟩
  go_wp2_with fail
  refine (long_any _ n1 n2 _).mono ?_; rintro e w4 ⟨rfl, g4⟩
  go_wp2_with fail
  refine (rlong_any _ n1 n2 _).mono ?_; rintro e w5 ⟨rfl, g5⟩
  go_wp2_with fail
  refine (fall_any _ n1 n2 _).mono ?_; rintro e w6 ⟨rfl, g6⟩
  go_wp2_with fail
  refine (rfall_any _ n1 n2 _).mono ?_; rintro e w7 ⟨rfl, g7⟩
  go_wp2_with fail
  refine (fold_any _ m1 m2 _).mono ?_; rintro e w7 ⟨rfl, rfl⟩
  go_wp2_with fail
  refine (rfold_any _ m1 m2 _).mono ?_; rintro e w7 ⟨rfl, rfl⟩
  go_wp2_with fail
  refine (unfold_any _ n1 n2 _).mono ?_; rintro e w7 ⟨rfl, rfl⟩
  go_wp2_with fail
  refine (runfold_any _ n1 n2 _).mono ?_; rintro e w7 ⟨rfl, rfl⟩
  go_wp2_with fail
  refine (fits_any _ _ n1 n2 _).mono ?_; rintro e w7 ⟨rfl, rfl⟩
  go_wp2_with fail
  refine (rfits_any _ _ n1 n2 _).mono ?_; rintro e w7 ⟨rfl, rfl⟩
  go_wp2_with fail
  go_ret
  exact ⟨ret_bool (by simp), kept_trans g1 (kept_trans g2 (kept_trans g3 (kept_trans g4 (kept_trans g5 (kept_trans g6 g7)))))⟩
end Go.Proofs.Ytfakkjolanegcaa
