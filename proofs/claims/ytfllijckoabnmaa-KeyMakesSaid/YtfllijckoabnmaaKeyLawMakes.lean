/-
  The walk of the statement KeyMakes: it answers true for all parts.
-/
import Derived.Test.YtfllijckoabnmaaKeyAwake
import Derived.Test.YtfllijckoabnmaaKeyRef
import Derived.OpenShut
namespace Go.Proofs.Ytfllijckoabnmaa
open Go.ChangeShapes Go.WideShapes Go.ChangeAt Go.RowKit
set_option linter.unusedVariables false
set_option maxHeartbeats 400000
theorem kescape_any (s : ByteArray) (hs : s.size ≤ maxLen) (w : World) :
    Calls Try.prog 20 #[.string s] w fun e w' => e = .returned (.tuple #[.string (bs (Ky.escS s.data.toList)), .int .i64 (Ky.escE s.data.toList)]) ∧ Kept w w' := by
  unfold Ky.escS Ky.escE
  rcases Bool.eq_false_or_eq_true (Ky.may s.data.toList) with hm | hm
  · rw [hm]; exact kescape_yes s hm w
  · rw [hm]; exact kescape_no s hs hm w
theorem rkescape_any (s : ByteArray) (hs : s.size ≤ maxLen) (w : World) :
    Calls Try.prog 21 #[.string s] w fun e w' => e = .returned (.tuple #[.string (bs (Ky.escS s.data.toList)), .int .i64 (Ky.escE s.data.toList)]) ∧ Kept w w' := by
  unfold Ky.escS Ky.escE
  rcases Bool.eq_false_or_eq_true (Ky.may s.data.toList) with hm | hm
  · rw [hm]; exact rkescape_yes s hm w
  · rw [hm]; exact rkescape_no s hs hm w
theorem makes_big (c : Int) (s : ByteArray) (t : Int) (hs : s.size ≤ maxLen) (h : ¬ s.size ≤ 1024) (w : World) :
    Calls Try.prog 3 #[.agg #[.int .i64 c, .string s, .int .u64 t]] w fun e w' => e = .returned (.bool true) ∧ Kept w w' := by
  unfold maxLen at hs
  go_enter Try.func3, Try.ntmps3
  go_wp2_with fail
  refine (kawake_any _).mono ?_; rintro e w1 ⟨rfl, g1⟩
  obtain ⟨⟨c0, c1, c2⟩, f0, f1, f2⟩ := three g1
  go_wp2_with fail
  go_ret
  exact ⟨rfl, kept_trans ((Kept.refl _).alloc _) g1⟩
set_option maxRecDepth 100000 in
theorem makes_yes (c : Int) (s : ByteArray) (t : Int) (hs : s.size ≤ 1024) (t0 : 0 ≤ t) (t1 : t ≤ 18446744073709551615) (w : World) :
    Calls Try.prog 3 #[.agg #[.int .i64 c, .string s, .int .u64 t]] w fun e w' => e = .returned (.bool true) ∧ Kept w w' := by
  have hm : s.size ≤ maxLen := by unfold maxLen; omega
  have d1 : decide (1024 < (s.size : Int)) = false := by simp; omega
  have H1 := Lib.hid (kmake_any c s t hm t0 t1)
  have H2 := Lib.hid (rkmake_any c s t hm t0 t1)
  have H3 := Lib.hid (kfirst_any c s hm)
  have H4 := Lib.hid (rkfirst_any c s hm)
  have H5 := Lib.hid (kbehind_any c s hm)
  have H6 := Lib.hid (rkbehind_any c s hm)
  have H7 := Lib.hid (kescape_any s hm)
  have H8 := Lib.hid (rkescape_any s hm)
  have H9 := Lib.hid (kmay_any s hm)
  have H0 := Lib.hid (rkmay_any s hm)
  clear hm
  generalize Ky.makeE c s.data.toList t = x1 at *
  generalize Ky.makeS c s.data.toList t = X1 at *
  generalize Ky.firstE c s.data.toList = x2 at *
  generalize Ky.firstS c s.data.toList = X2 at *
  generalize Ky.behS c s.data.toList = X3 at *
  generalize Ky.escE s.data.toList = x4 at *
  generalize Ky.escS s.data.toList = X4 at *
  generalize Ky.may s.data.toList = m at *
  go_enter Try.func3, Try.ntmps3
  go_wp2_with fail
  refine (kawake_any _).mono ?_; rintro e w1 ⟨rfl, g1⟩
  obtain ⟨⟨c0, c1, c2⟩, f0, f1, f2⟩ := three g1
  go_wp2_with fail
  refine (H1.out _).mono ?_; rintro e w2 ⟨rfl, g2⟩
  have G2 := kept_trans g1 g2
  clear c0 c1 c2 f0 f1 f2
  obtain ⟨⟨c0, c1, c2⟩, f0, f1, f2⟩ := three G2
  go_wp2_with fail
  refine (own_any _ _ _ _).mono ?_; rintro e w3 ⟨rfl, g3⟩
  have G3 := kept_trans G2 g3
  clear c0 c1 c2 f0 f1 f2
  obtain ⟨⟨c0, c1, c2⟩, f0, f1, f2⟩ := three G3
  go_wp2_with fail
  refine (H2.out _).mono ?_; rintro e w4 ⟨rfl, g4⟩
  have G4 := kept_trans G3 g4
  clear c0 c1 c2 f0 f1 f2
  obtain ⟨⟨c0, c1, c2⟩, f0, f1, f2⟩ := three G4
  go_wp2_with fail
  go_quiet ((first | (go_at_call 14; exact quiet_l (H9.out _)) | (go_at_call 15; exact quiet_l (H0.out _))))
  have G5 := kept_trans G4 (kept_drewN w4 nq)
  go_wp2_with fail
  refine (H3.out _).mono ?_; rintro e w6 ⟨rfl, g6⟩
  have G6 := kept_trans G5 g6
  clear c0 c1 c2 f0 f1 f2
  obtain ⟨⟨c0, c1, c2⟩, f0, f1, f2⟩ := three G6
  go_wp2_with fail
  refine (H4.out _).mono ?_; rintro e w7 ⟨rfl, g7⟩
  have G7 := kept_trans G6 g7
  clear c0 c1 c2 f0 f1 f2
  obtain ⟨⟨c0, c1, c2⟩, f0, f1, f2⟩ := three G7
  go_wp2_with fail
  refine (H5.out _).mono ?_; rintro e w8 ⟨rfl, g8⟩
  have G8 := kept_trans G7 g8
  clear c0 c1 c2 f0 f1 f2
  obtain ⟨⟨c0, c1, c2⟩, f0, f1, f2⟩ := three G8
  go_wp2_with fail
  refine (H6.out _).mono ?_; rintro e w9 ⟨rfl, g9⟩
  have G9 := kept_trans G8 g9
  clear c0 c1 c2 f0 f1 f2
  obtain ⟨⟨c0, c1, c2⟩, f0, f1, f2⟩ := three G9
  go_wp2_with fail
  refine (H7.out _).mono ?_; rintro e w10 ⟨rfl, g10⟩
  have G10 := kept_trans G9 g10
  clear c0 c1 c2 f0 f1 f2
  obtain ⟨⟨c0, c1, c2⟩, f0, f1, f2⟩ := three G10
  go_wp2_with fail
  refine (H8.out _).mono ?_; rintro e w11 ⟨rfl, g11⟩
  go_wp2_with fail
  go_ret
  exact ⟨ret_bool (by simp), kept_trans ((Kept.refl _).alloc _) (kept_trans G10 g11)⟩
theorem KeyMakes_walk (c : Int) (s : ByteArray) (t : Int) (w0 : (Lit.int .i64 c).wf = true) (w1 : s.size ≤ maxLen) (w2 : (Lit.int .u64 t).wf = true) (w : World) :
    Calls Try.prog 3 #[.agg #[.int .i64 c, .string s, .int .u64 t]] w fun e w' => e = .returned (.bool true) ∧ Kept w w' := by
  obtain ⟨t0, t1⟩ := bounds_u64 w2
  by_cases hs : s.size ≤ 1024
  · exact makes_yes c s t hs t0 t1 w
  · exact makes_big c s t w1 hs w
end Go.Proofs.Ytfllijckoabnmaa
