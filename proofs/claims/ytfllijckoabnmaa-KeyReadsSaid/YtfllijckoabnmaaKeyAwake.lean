/-
  The statements' own look at package key (awake) is true: each answer that the document fixes there is given.
-/
import Derived.Test.YtfllijckoabnmaaKeyRead2
namespace Go.Proofs.Ytfllijckoabnmaa
open Go.ChangeShapes Go.WideShapes Go.ChangeAt Go.RowKit
set_option linter.unusedVariables false
set_option maxHeartbeats 400000

theorem ok_a : Ky.Ok 2 [97] 300 := ⟨by decide, by decide, by decide, by decide⟩
theorem mk_a : Ky.mk 2 [97] 300 = [2, 97, 0, 1, 255, 255, 255, 255, 255, 255, 254, 211] := by decide +kernel
theorem kmake_a (w : World) : Calls Try.prog 11 #[.agg #[.int .i64 2, .string ⟨#[97]⟩, .int .u64 300]] w fun e w' => e = .returned (.tuple #[.string ⟨#[2, 97, 0, 1, 255, 255, 255, 255, 255, 255, 254, 211]⟩, .int .i64 0]) ∧ Kept w w' :=
  (kmake_any 2 ⟨#[97]⟩ 300 (by decide) (by decide) (by decide) w).mono fun e w' h => ⟨h.1.trans (ret_se ((Ky.makeS_ok ok_a).trans mk_a) (Ky.makeE_ok ok_a)), h.2⟩
theorem kmake_b (w : World) : Calls Try.prog 11 #[.agg #[.int .i64 9, .string ⟨#[97]⟩, .int .u64 0]] w fun e w' => e = .returned (.tuple #[.string ⟨#[]⟩, .int .i64 1]) ∧ Kept w w' :=
  (kmake_any 9 ⟨#[97]⟩ 0 (by decide) (by decide) (by decide) w).mono fun e w' h => ⟨h.1.trans (ret_se (show Ky.makeS 9 [97] 0 = [] from by decide) (show Ky.makeE 9 [97] 0 = 1 from by decide)), h.2⟩
theorem kread_a (w : World) : Calls Try.prog 22 #[.string ⟨#[2, 97, 0, 1, 255, 255, 255, 255, 255, 255, 254, 211]⟩] w fun e w' => e = .returned (.tuple #[.agg #[.int .i64 2, .string ⟨#[97]⟩, .int .u64 300], .int .i64 0]) ∧ Kept w w' :=
  kread_yes ⟨#[2, 97, 0, 1, 255, 255, 255, 255, 255, 255, 254, 211]⟩ 2 [97] 300 (by decide) ok_a mk_a.symm w
theorem kescape_a (w : World) : Calls Try.prog 20 #[.string ⟨#[97, 0, 98]⟩] w fun e w' => e = .returned (.tuple #[.string ⟨#[97, 0, 255, 98, 0, 1]⟩, .int .i64 0]) ∧ Kept w w' :=
  kescape_yes ⟨#[97, 0, 98]⟩ (by decide) w
theorem kunescape_a (s : ByteArray) (h : s = ⟨#[97, 0, 255, 98, 0, 1, 122, 122]⟩) (w : World) : Calls Try.prog 24 #[.string s] w fun e w' => e = .returned (.tuple #[.string ⟨#[97, 0, 98]⟩, .string ⟨#[122, 122]⟩, .int .i64 0]) ∧ Kept w w' := by
  subst h
  exact kunescape_yes _ [97, 0, 98] [122, 122] (by decide) (by decide) (by decide) w
theorem kfirst_a (w : World) : Calls Try.prog 16 #[.int .i64 1, .string ⟨#[97]⟩] w fun e w' => e = .returned (.tuple #[.string ⟨#[1, 97, 0, 1]⟩, .int .i64 0]) ∧ Kept w w' :=
  kfirst_yes 1 ⟨#[97]⟩ (by decide) (by decide) w
theorem kbehind_a (w : World) : Calls Try.prog 18 #[.int .i64 1, .string ⟨#[97]⟩] w fun e w' => e = .returned (.tuple #[.string ⟨#[1, 97, 0, 2]⟩, .int .i64 0]) ∧ Kept w w' :=
  (kbehind_any 1 ⟨#[97]⟩ (by decide) w).mono fun e w' h => ⟨h.1.trans (ret_se (show Ky.behS 1 [97] = [1, 97, 0, 2] from by decide) (show Ky.firstE 1 [97] = 0 from by decide)), h.2⟩
theorem kfamily_a (w : World) : Calls Try.prog 26 #[.int .i64 3] w fun e w' => e = .returned (.tuple #[.string ⟨#[3]⟩, .string ⟨#[4]⟩, .int .i64 0]) ∧ Kept w w' :=
  kfamily_yes 3 (by decide) w
theorem kmay_a (w : World) : Calls Try.prog 14 #[.string ⟨#[97]⟩] w fun e w' => e = .returned (.bool true) ∧ w = w' := kmay_any ⟨#[97]⟩ (by decide) w
theorem kmay_b (w : World) : Calls Try.prog 14 #[.string ⟨#[]⟩] w fun e w' => e = .returned (.bool false) ∧ w = w' := kmay_any ⟨#[]⟩ (by decide) w
set_option maxRecDepth 100000 in
theorem kawake_any (w : World) : Calls Try.prog 10 #[] w fun e w' => e = .returned (.bool true) ∧ Kept w w' := by
  go_enter Try.func10, Try.ntmps10
  go_wp2_with fail
  refine (kmake_a _).mono ?_; rintro e w1 ⟨rfl, g1⟩
  go_wp2_with fail
  refine (kread_a _).mono ?_; rintro e w2 ⟨rfl, g2⟩
  go_wp2_with fail
  refine (kescape_a _).mono ?_; rintro e w3 ⟨rfl, g3⟩
  go_wp2_with fail
  refine (kunescape_a _ (by decide) _).mono ?_; rintro e w4 ⟨rfl, g4⟩
  go_wp2_with fail
  refine (kmake_b _).mono ?_; rintro e w5 ⟨rfl, g5⟩
  go_wp2_with fail
  refine (kfirst_a _).mono ?_; rintro e w6 ⟨rfl, g6⟩
  go_wp2_with fail
  refine (kbehind_a _).mono ?_; rintro e w7 ⟨rfl, g7⟩
  go_wp2_with fail
  refine (kfamily_a _).mono ?_; rintro e w8 ⟨rfl, g8⟩
  have gg := kept_trans g3 (kept_trans g4 (kept_trans g5 (kept_trans g6 (kept_trans g7 g8))))
  obtain ⟨⟨c0, c1, c2⟩, f0, f1, f2⟩ := three gg
  go_wp2_with fail
  refine (kmay_a _).mono ?_; rintro e w9 ⟨rfl, rfl⟩
  go_wp2_with fail
  refine (kmay_b _).mono ?_; rintro e w9 ⟨rfl, rfl⟩
  go_wp2_with fail
  go_ret
  exact ⟨rfl, kept_trans g1 (kept_trans g2 (kept_trans ((Kept.refl _).alloc _) gg))⟩
end Go.Proofs.Ytfllijckoabnmaa
