/-
  The statements' own look at the program (awake) is true: each answer that the document fixes there is given.
-/
import Derived.Test.YtfakkjolanegcaaNumFns
namespace Go.Proofs.Ytfakkjolanegcaa
open Go.ChangeShapes Go.WideShapes Go.ChangeAt Go.RowKit
set_option linter.unusedVariables false
set_option maxHeartbeats 400000

theorem take_a (w : World) : Calls Try.prog 23 #[.string ⟨#[172, 2, 120]⟩] w fun e w' => e = .returned (.tuple #[.int .u64 300, .string ⟨#[120]⟩, .bool true]) ∧ Kept w w' :=
  (take_any ⟨#[172, 2, 120]⟩ (by decide) w).mono fun e w' h => ⟨h.1.trans (ret_take (s := ⟨#[172, 2, 120]⟩) (some (300, [120])) (by decide) rfl rfl rfl).symm, h.2⟩
theorem take_b (w : World) : Calls Try.prog 23 #[.string ⟨#[128, 0]⟩] w fun e w' => e = .returned (.tuple #[.int .u64 0, .string ⟨#[]⟩, .bool false]) ∧ Kept w w' :=
  (take_any ⟨#[128, 0]⟩ (by decide) w).mono fun e w' h => ⟨h.1.trans (ret_take (s := ⟨#[128, 0]⟩) none (by decide) rfl rfl rfl).symm, h.2⟩
theorem long_a (w : World) : Calls Try.prog 13 #[.int .u64 300] w fun e w' => e = .returned (.string ⟨#[0, 0, 0, 0, 0, 0, 1, 44]⟩) ∧ Kept w w' :=
  (long_any 300 (by decide) (by decide) w).mono fun e w' h => ⟨h.1.trans (congrArg (fun l => Ending.returned (.string (bs l))) (show Nm.long (300 : Int).toNat = [0, 0, 0, 0, 0, 0, 1, 44] from by decide)), h.2⟩
theorem fall_a (w : World) : Calls Try.prog 15 #[.int .u64 300] w fun e w' => e = .returned (.string ⟨#[255, 255, 255, 255, 255, 255, 254, 211]⟩) ∧ Kept w w' :=
  (fall_any 300 (by decide) (by decide) w).mono fun e w' h => ⟨h.1.trans (congrArg (fun l => Ending.returned (.string (bs l))) (show Nm.fall (300 : Int).toNat = [255, 255, 255, 255, 255, 255, 254, 211] from by decide +kernel)), h.2⟩
theorem short_a (w : World) : Calls Try.prog 11 #[.int .u64 300] w fun e w' => e = .returned (.string ⟨#[172, 2]⟩) ∧ Kept w w' :=
  (short_any 300 (by decide) (by decide) w).mono fun e w' h => ⟨h.1.trans (congrArg (fun l => Ending.returned (.string (bs l))) (show Nm.short (300 : Int).toNat = [172, 2] from by decide)), h.2⟩
theorem unlong_a (w : World) : Calls Try.prog 25 #[.string ⟨#[0, 0, 0, 0, 0, 0, 1, 44]⟩] w fun e w' => e = .returned (.tuple #[.int .u64 300, .bool true]) ∧ w = w' :=
  (unlong_any ⟨#[0, 0, 0, 0, 0, 0, 1, 44]⟩ (by decide) w).mono fun e w' h => ⟨h.1.trans (ret_unl (by decide +kernel) (by decide)), h.2⟩
theorem unfall_a (w : World) : Calls Try.prog 27 #[.string ⟨#[255, 255, 255, 255, 255, 255, 254, 211]⟩] w fun e w' => e = .returned (.tuple #[.int .u64 300, .bool true]) ∧ w = w' :=
  (unfall_any ⟨#[255, 255, 255, 255, 255, 255, 254, 211]⟩ (by decide) w).mono fun e w' h => ⟨h.1.trans (ret_unl (by decide +kernel) (by decide)), h.2⟩
theorem fold_a (w : World) : Calls Try.prog 17 #[.int .i64 (-1)] w fun e w' => e = .returned (.int .u64 1) ∧ w = w' :=
  (fold_any (-1) (by decide) (by decide) w).mono fun e w' h => ⟨h.1.trans (ret_int (by decide)), h.2⟩
theorem unfold_a (w : World) : Calls Try.prog 19 #[.int .u64 3] w fun e w' => e = .returned (.int .i64 (-2)) ∧ w = w' :=
  (unfold_any 3 (by decide) (by decide) w).mono fun e w' h => ⟨h.1.trans (ret_int (by decide)), h.2⟩
theorem fits_a (w : World) : Calls Try.prog 21 #[.int .u64 255, .int .i64 8] w fun e w' => e = .returned (.bool true) ∧ w = w' :=
  (fits_any 255 8 (by decide) (by decide) w).mono fun e w' h => ⟨h.1.trans (ret_bool (by decide)), h.2⟩
theorem fits_b (w : World) : Calls Try.prog 21 #[.int .u64 256, .int .i64 8] w fun e w' => e = .returned (.bool false) ∧ w = w' :=
  (fits_any 256 8 (by decide) (by decide) w).mono fun e w' h => ⟨h.1.trans (ret_bool (by decide)), h.2⟩

set_option maxRecDepth 100000 in
theorem awake_any (w : World) : Calls Try.prog 10 #[] w fun e w' => e = .returned (.bool true) ∧ Kept w w' := by
  go_enter Try.func10, Try.ntmps10
  go_wp2_with fail
  refine (take_a _).mono ?_; rintro e w1 ⟨rfl, g1⟩
  go_wp2_with fail
  refine (take_b _).mono ?_; rintro e w2 ⟨rfl, g2⟩
  go_wp2_with fail
  refine (long_a _).mono ?_; rintro e w3 ⟨rfl, g3⟩
  go_wp2_with fail
  refine (unlong_a _).mono ?_; rintro e w3 ⟨rfl, rfl⟩
  go_wp2_with fail
  refine (fall_a _).mono ?_; rintro e w4 ⟨rfl, g4⟩
  go_wp2_with fail
  refine (unfall_a _).mono ?_; rintro e w4 ⟨rfl, rfl⟩
  go_wp2_with fail
  refine (short_a _).mono ?_; rintro e w5 ⟨rfl, g5⟩
  go_wp2_with fail
  refine (long_a _).mono ?_; rintro e w6 ⟨rfl, g6⟩
  go_wp2_with fail
  refine (fall_a _).mono ?_; rintro e w7 ⟨rfl, g7⟩
  go_wp2_with fail
  refine (fold_a _).mono ?_; rintro e w7 ⟨rfl, rfl⟩
  go_wp2_with fail
  refine (unfold_a _).mono ?_; rintro e w7 ⟨rfl, rfl⟩
  go_wp2_with fail
  refine (fits_a _).mono ?_; rintro e w7 ⟨rfl, rfl⟩
  go_wp2_with fail
  refine (fits_b _).mono ?_; rintro e w7 ⟨rfl, rfl⟩
  go_wp2_with fail
  go_ret
  exact ⟨rfl, kept_trans g1 (kept_trans g2 (kept_trans g3 (kept_trans g4 (kept_trans g5 (kept_trans g6 g7)))))⟩
end Go.Proofs.Ytfakkjolanegcaa
