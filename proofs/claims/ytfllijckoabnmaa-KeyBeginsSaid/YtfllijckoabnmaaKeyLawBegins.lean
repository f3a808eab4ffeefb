/-
  The walk of the statement KeyBegins: it answers true for all parts.
-/
import Derived.Test.YtfllijckoabnmaaKeyAwake
import Derived.OpenShut
namespace Go.Proofs.Ytfllijckoabnmaa
open Go.ChangeShapes Go.WideShapes Go.ChangeAt Go.RowKit
set_option linter.unusedVariables false
set_option maxHeartbeats 400000
theorem begins_big (c : Int) (s : ByteArray) (t : Int) (hs : s.size ≤ maxLen) (h : ¬ s.size ≤ 1024) (w : World) :
    Calls Try.prog 9 #[.agg #[.int .i64 c, .string s, .int .u64 t]] w fun e w' => e = .returned (.bool true) ∧ Kept w w' := by
  unfold maxLen at hs
  go_enter Try.func9, Try.ntmps9
  go_wp2_with fail
  refine (kawake_any _).mono ?_; rintro e w1 ⟨rfl, g1⟩
  obtain ⟨⟨c0, c1, c2⟩, f0, f1, f2⟩ := three g1
  go_wp2_with fail
  go_ret
  exact ⟨rfl, kept_trans ((Kept.refl _).alloc _) g1⟩
theorem begins_no (c : Int) (s : ByteArray) (t : Int) (hs : s.size ≤ 1024) (t0 : 0 ≤ t) (t1 : t ≤ 18446744073709551615) (h : ¬ Ky.Ok c s.data.toList t) (w : World) :
    Calls Try.prog 9 #[.agg #[.int .i64 c, .string s, .int .u64 t]] w fun e w' => e = .returned (.bool true) ∧ Kept w w' := by
  have hm : s.size ≤ maxLen := by unfold maxLen; omega
  have HM := Lib.hid (kmake_any c s t hm t0 t1)
  have HF := Lib.hid (kfirst_any c s hm)
  have HE := Lib.hid (Ky.makeS_no t0 h)
  have e1 : (Ky.makeE c s.data.toList t != 0) = true := by rw [bne_iff_ne]; exact Ky.makeE_no t0 h
  have e2 : (Ky.firstE c s.data.toList != 0) = true ∨ (Ky.firstE c s.data.toList != 0) = false ∧ (Ky.makeE c s.data.toList t == 3) = true := by
    by_cases h1 : Ky.okF c = true ∧ Ky.may s.data.toList = true
    · right
      have hr : ¬ t ≤ Ky.lastT c := fun hr => h ⟨h1.1, h1.2, t0, hr⟩
      unfold Ky.firstE Ky.makeE
      rw [if_pos h1.1, if_pos h1.2, if_pos h1.1, if_pos h1.2, if_neg hr]; decide
    · exact .inl (firstE_no h1).1
  have hE : ((bs []).toList == []) = true := by rw [Lib.toList_data]; rfl
  clear h hm
  generalize Ky.makeE c s.data.toList t = x at *
  generalize Ky.firstE c s.data.toList = y at *
  generalize Ky.firstS c s.data.toList = Y at *
  rcases e2 with e2 | ⟨e2, e3⟩
  all_goals
    go_enter Try.func9, Try.ntmps9
    go_wp2_with fail
    refine (kawake_any _).mono ?_; rintro e w1 ⟨rfl, g1⟩
    obtain ⟨⟨c0, c1, c2⟩, f0, f1, f2⟩ := three g1
    go_wp2_with fail
    refine (HM.out _).mono ?_; rintro e w2 ⟨rfl, g2⟩
    rw [HE.out]
    clear c0 c1 c2 f0 f1 f2
    obtain ⟨⟨c0, c1, c2⟩, f0, f1, f2⟩ := three (kept_trans g1 g2)
    go_wp2_with fail
    refine (HF.out _).mono ?_; rintro e w3 ⟨rfl, g3⟩
    go_wp2_with fail
    go_ret
    exact ⟨rfl, kept_trans ((Kept.refl _).alloc _) (kept_trans g1 (kept_trans g2 g3))⟩
theorem begins_yes (c : Int) (s : ByteArray) (t : Int) (hs : s.size ≤ 1024) (t0 : 0 ≤ t) (t1 : t ≤ 18446744073709551615) (h : Ky.Ok c s.data.toList t) (w : World) :
    Calls Try.prog 9 #[.agg #[.int .i64 c, .string s, .int .u64 t]] w fun e w' => e = .returned (.bool true) ∧ Kept w w' := by
  have hm : s.size ≤ maxLen := by unfold maxLen; omega
  have HM := Lib.hid (kmake_any c s t hm t0 t1)
  have HF := Lib.hid (kfirst_yes c s h.1 h.2.1)
  have HS := Lib.hid (Ky.makeS_ok h)
  have HE := Lib.hid (Ky.makeE_ok h)
  have hlen : (Ky.mk c s.data.toList t).length = (Ky.fst c s.data.toList).length + (if c = 1 then 0 else 8) := by unfold Ky.mk; rw [List.length_append, Ky.tail_len]
  have z1 : (bs (Ky.fst c s.data.toList)).size ≤ 51 := by rw [bs_size, Ky.fst, List.length_cons]; have := (Ky.esc_len_may _ h.2.1).2; omega
  have HX := Lib.hid (show (bs (Ky.mk c s.data.toList t)).extract 0 (bs (Ky.fst c s.data.toList)).size = bs (Ky.fst c s.data.toList) from by
    rw [bs_size]
    refine bs_of ?_
    rw [Lib.extract_data, bs_data, Ky.mk]; simp)
  rw [← bs_size, ← bs_size] at hlen
  clear h hm
  generalize Ky.mk c s.data.toList t = M at *
  generalize Ky.fst c s.data.toList = F at *
  by_cases hc : c = 1
  · have hb : (c == 1) = true := by simp [hc]
    rw [if_pos hc] at hlen
    have hl : (((bs M).size : Nat) : Int) == (((bs F).size : Nat) : Int) := by rw [beq_iff_eq]; omega
    have hle : (bs F).size ≤ (bs M).size := by omega
    clear hlen hc
    go_enter Try.func9, Try.ntmps9
    go_wp2_with fail
    refine (kawake_any _).mono ?_; rintro e w1 ⟨rfl, g1⟩
    obtain ⟨⟨c0, c1, c2⟩, f0, f1, f2⟩ := three g1
    go_wp2_with fail
    refine (HM.out _).mono ?_; rintro e w2 ⟨rfl, g2⟩
    rw [HS.out, HE.out]
    clear c0 c1 c2 f0 f1 f2
    obtain ⟨⟨c0, c1, c2⟩, f0, f1, f2⟩ := three (kept_trans g1 g2)
    go_wp2_with fail
    refine (HF.out _).mono ?_; rintro e w3 ⟨rfl, g3⟩
    clear c0 c1 c2 f0 f1 f2
    obtain ⟨⟨c0, c1, c2⟩, f0, f1, f2⟩ := three (kept_trans g1 (kept_trans g2 g3))
    go_wp2_with fail
    go_ret
    exact ⟨ret_bool (by rw [HX.out]; simp), kept_trans ((Kept.refl _).alloc _) (kept_trans g1 (kept_trans g2 g3))⟩
  · have hb : (c == 1) = false := by simp [hc]
    rw [if_neg hc] at hlen
    have hl : (((bs M).size : Nat) : Int) == (((bs F).size : Nat) : Int) + 8 := by rw [beq_iff_eq]; omega
    have hle : (bs F).size ≤ (bs M).size := by omega
    clear hlen hc
    go_enter Try.func9, Try.ntmps9
    go_wp2_with fail
    refine (kawake_any _).mono ?_; rintro e w1 ⟨rfl, g1⟩
    obtain ⟨⟨c0, c1, c2⟩, f0, f1, f2⟩ := three g1
    go_wp2_with fail
    refine (HM.out _).mono ?_; rintro e w2 ⟨rfl, g2⟩
    rw [HS.out, HE.out]
    clear c0 c1 c2 f0 f1 f2
    obtain ⟨⟨c0, c1, c2⟩, f0, f1, f2⟩ := three (kept_trans g1 g2)
    go_wp2_with fail
    refine (HF.out _).mono ?_; rintro e w3 ⟨rfl, g3⟩
    clear c0 c1 c2 f0 f1 f2
    obtain ⟨⟨c0, c1, c2⟩, f0, f1, f2⟩ := three (kept_trans g1 (kept_trans g2 g3))
    go_wp2_with fail
    go_ret
    exact ⟨ret_bool (by rw [HX.out]; simp), kept_trans ((Kept.refl _).alloc _) (kept_trans g1 (kept_trans g2 g3))⟩
theorem KeyBegins_walk (c : Int) (s : ByteArray) (t : Int) (w0 : (Lit.int .i64 c).wf = true) (w1 : s.size ≤ maxLen) (w2 : (Lit.int .u64 t).wf = true) (w : World) :
    Calls Try.prog 9 #[.agg #[.int .i64 c, .string s, .int .u64 t]] w fun e w' => e = .returned (.bool true) ∧ Kept w w' := by
  obtain ⟨t0, t1⟩ := bounds_u64 w2
  by_cases hs : s.size ≤ 1024
  · by_cases h : Ky.Ok c s.data.toList t
    · exact begins_yes c s t hs t0 t1 h w
    · exact begins_no c s t hs t0 t1 h w
  · exact begins_big c s t w1 hs w
end Go.Proofs.Ytfllijckoabnmaa
