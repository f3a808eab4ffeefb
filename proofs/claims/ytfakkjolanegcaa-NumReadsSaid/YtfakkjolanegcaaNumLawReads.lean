/-
  The walk of the statement NumReads: it answers true for every string.
-/
import Derived.Test.YtfakkjolanegcaaNumAwake
import Derived.Test.YtfakkjolanegcaaNumRefTake
import Derived.OpenShut
namespace Go.Proofs.Ytfakkjolanegcaa
open Go.ChangeShapes Go.WideShapes Go.ChangeAt Go.RowKit
set_option linter.unusedVariables false
set_option maxHeartbeats 400000

theorem NumReads_walk (a0 : ByteArray) (w0 : a0.size ≤ maxLen) (w : World) :
    Calls Try.prog 4 #[.string a0] w fun e w' => e = .returned (.bool true) ∧ Kept w w' := by
  have HM := Lib.hid w0
  unfold maxLen at w0
  by_cases hs : a0.size ≤ 4096
  · go_enter Try.func4, Try.ntmps4
    go_wp2_with fail
    refine (awake_any _).mono ?_; rintro e w1 ⟨rfl, g1⟩
    go_wp2_with fail
    refine (take_any _ HM.out _).mono ?_; rintro e w2 ⟨rfl, g2⟩
    go_wp2_with fail
    refine (rtake_any _ HM.out _).mono ?_; rintro e w3 ⟨rfl, g3⟩
    go_wp2_with fail
    refine (unlong_any _ HM.out _).mono ?_; rintro e w3 ⟨rfl, rfl⟩
    go_wp2_with fail
    refine (runlong_any _ HM.out _).mono ?_; rintro e w3 ⟨rfl, rfl⟩
    go_wp2_with fail
    refine (unfall_any _ HM.out _).mono ?_; rintro e w3 ⟨rfl, rfl⟩
    go_wp2_with fail
    refine (runfall_any _ HM.out _).mono ?_; rintro e w3 ⟨rfl, rfl⟩
    go_wp2_with fail
    go_ret
    exact ⟨ret_bool (by simp), kept_trans g1 (kept_trans g2 g3)⟩
  · go_enter Try.func4, Try.ntmps4
    go_wp2_with fail
    refine (awake_any _).mono ?_; rintro e w1 ⟨rfl, g1⟩
    go_wp2_with fail
    go_ret
    exact ⟨rfl, g1⟩
end Go.Proofs.Ytfakkjolanegcaa
