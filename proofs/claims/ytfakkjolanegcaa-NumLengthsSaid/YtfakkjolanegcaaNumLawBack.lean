/-
  The walk of the statement NumBack: it answers true for every unsigned 64-bit number and every string.
-/
import Derived.Test.YtfakkjolanegcaaNumAwake
import Derived.OpenShut
namespace Go.Proofs.Ytfakkjolanegcaa
open Go.ChangeShapes Go.WideShapes Go.ChangeAt Go.RowKit
set_option linter.unusedVariables false
set_option maxHeartbeats 400000

theorem app_data (a b : ByteArray) : (a ++ b).data.toList = a.data.toList ++ b.data.toList := by simp [ByteArray.data_append]
theorem size_short (n : Nat) (h : n < 18446744073709551616) : (bs (Nm.short n)).size ≤ 10 := by
  have := Nm.sz_le n h
  rw [bs, ByteArray.size, List.size_toArray, Nm.short_len n h]; omega
/-- Take of a number's short bytes and what follows -/
theorem take_of_short (n : Int) (s : ByteArray) (h1 : 0 ≤ n) (h2 : n ≤ 18446744073709551615) (hs : s.size ≤ 4096) (w : World) :
    Calls Try.prog 23 #[.string (bs (Nm.short n.toNat) ++ s)] w fun e w' => e = .returned (.tuple #[.int .u64 n, .string s, .bool true]) ∧ Kept w w' := by
  have hz := Nm.sz_le n.toNat (by omega)
  have hl := Nm.short_len n.toNat (by omega)
  refine (take_any _ ?_ w).mono fun e w' h => ⟨h.1.trans (ret_take (s := bs (Nm.short n.toNat) ++ s) (some (n.toNat, s.data.toList)) ?_ ?_ ?_ rfl).symm, h.2⟩
  · unfold maxLen
    have := size_short n.toNat (by omega)
    rw [ByteArray.size_append]
    omega
  · rw [app_data, bs_data]; exact Nm.take_short _ _ (by omega)
  · simp; omega
  · exact bs_of rfl
theorem take_some (s : ByteArray) (m : Nat) (r : List UInt8) (hs : s.size ≤ maxLen) (h : Nm.take s.data.toList = some (m, r)) (w : World) :
    Calls Try.prog 23 #[.string s] w fun e w' => e = .returned (.tuple #[.int .u64 (m : Int), .string (bs r), .bool true]) ∧ Kept w w' :=
  (take_any s hs w).mono fun e w' k => ⟨k.1.trans (ret_take (s := s) (some (m, r)) h rfl rfl rfl).symm, k.2⟩
theorem take_none (s : ByteArray) (hs : s.size ≤ maxLen) (h : Nm.take s.data.toList = none) (w : World) :
    Calls Try.prog 23 #[.string s] w fun e w' => e = .returned (.tuple #[.int .u64 0, .string ⟨#[]⟩, .bool false]) ∧ Kept w w' :=
  (take_any s hs w).mono fun e w' k => ⟨k.1.trans (ret_take (s := s) none h rfl rfl rfl).symm, k.2⟩
theorem unlong_of_long (n : Int) (h1 : 0 ≤ n) (h2 : n ≤ 18446744073709551615) (w : World) :
    Calls Try.prog 25 #[.string (bs (Nm.long n.toNat))] w fun e w' => e = .returned (.tuple #[.int .u64 n, .bool true]) ∧ w = w' :=
  (unlong_any _ (by unfold maxLen; rw [bs, ByteArray.size, List.size_toArray, Nm.long_len]; omega) w).mono fun e w' k => ⟨k.1.trans (ret_unl (by rw [bs_data, Nm.unl_long _ (by omega)]; omega) (by rw [bs_data, Nm.unlB_long])), k.2⟩
theorem unfall_of_fall (n : Int) (h1 : 0 ≤ n) (h2 : n ≤ 18446744073709551615) (w : World) :
    Calls Try.prog 27 #[.string (bs (Nm.fall n.toNat))] w fun e w' => e = .returned (.tuple #[.int .u64 n, .bool true]) ∧ w = w' :=
  (unfall_any _ (by unfold maxLen; rw [bs, ByteArray.size, List.size_toArray, Nm.fall, Nm.long_len]; omega) w).mono fun e w' k => ⟨k.1.trans (ret_unl (by
    have h := Nm.unl_long (Nm.turn n.toNat) (by unfold Nm.turn; omega)
    rw [bs_data]; unfold Nm.unf
    unfold Nm.unl at h
    rw [if_pos (Nm.long_len _)] at h
    unfold Nm.fall
    rw [if_pos (Nm.long_len _), h]; unfold Nm.turn; omega) (by rw [bs_data]; exact Nm.unlB_long _)), k.2⟩

theorem NumBack_walk (a0 : Int) (a1 : ByteArray) (w0 : (Lit.int .u64 a0).wf = true) (w1 : a1.size ≤ maxLen) (w : World) :
    Calls Try.prog 5 #[.int .u64 a0, .string a1] w fun e w' => e = .returned (.bool true) ∧ Kept w w' := by
  obtain ⟨n1, n2⟩ := bounds_u64 w0
  have HM := Lib.hid w1
  unfold maxLen at w1
  clear w0
  have sz0 := size_short a0.toNat (by omega)
  by_cases hs : a1.size ≤ 4096
  · rcases hT : Nm.take a1.data.toList with _ | ⟨m, r⟩
    · have HT := Lib.hid hT; clear hT
      go_enter Try.func5, Try.ntmps5
      go_wp2_with fail
      refine (awake_any _).mono ?_; rintro e w1 ⟨rfl, g1⟩
      go_wp2_with fail
      refine (short_any _ n1 n2 _).mono ?_; rintro e w2 ⟨rfl, g2⟩
      go_wp2_with fail
      refine (take_of_short _ _ n1 n2 hs _).mono ?_; rintro e w3 ⟨rfl, g3⟩
      go_wp2_with fail
      refine (long_any _ n1 n2 _).mono ?_; rintro e w4 ⟨rfl, g4⟩
      go_wp2_with fail
      refine (unlong_of_long _ n1 n2 _).mono ?_; rintro e w4 ⟨rfl, rfl⟩
      go_wp2_with fail
      refine (fall_any _ n1 n2 _).mono ?_; rintro e w5 ⟨rfl, g5⟩
      go_wp2_with fail
      refine (unfall_of_fall _ n1 n2 _).mono ?_; rintro e w5 ⟨rfl, rfl⟩
      go_wp2_with fail
      refine (take_none _ HM.out HT.out _).mono ?_; rintro e w6 ⟨rfl, g6⟩
      go_wp2_with fail
      go_ret
      exact ⟨rfl, kept_trans g1 (kept_trans g2 (kept_trans g3 (kept_trans g4 (kept_trans g5 g6))))⟩
    · obtain ⟨e1, e2⟩ := Nm.take_back _ _ _ hT
      have HT := Lib.hid hT; clear hT
      have HE := Lib.hid e1; clear e1
      have k1 : (0 : Int) ≤ (m : Int) := by omega
      have k2 : (m : Int) ≤ 18446744073709551615 := by omega
      have sz1 := size_short m (by omega)
      have sz2 : (bs r).size ≤ 4096 := by
        have := congrArg List.length HE.out
        rw [List.length_append] at this
        rw [bs, ByteArray.size, List.size_toArray]
        simp at this
        omega
      go_enter Try.func5, Try.ntmps5
      go_wp2_with fail
      refine (awake_any _).mono ?_; rintro e w1 ⟨rfl, g1⟩
      go_wp2_with fail
      refine (short_any _ n1 n2 _).mono ?_; rintro e w2 ⟨rfl, g2⟩
      go_wp2_with fail
      refine (take_of_short _ _ n1 n2 hs _).mono ?_; rintro e w3 ⟨rfl, g3⟩
      go_wp2_with fail
      refine (long_any _ n1 n2 _).mono ?_; rintro e w4 ⟨rfl, g4⟩
      go_wp2_with fail
      refine (unlong_of_long _ n1 n2 _).mono ?_; rintro e w4 ⟨rfl, rfl⟩
      go_wp2_with fail
      refine (fall_any _ n1 n2 _).mono ?_; rintro e w5 ⟨rfl, g5⟩
      go_wp2_with fail
      refine (unfall_of_fall _ n1 n2 _).mono ?_; rintro e w5 ⟨rfl, rfl⟩
      go_wp2_with fail
      refine (take_some _ m r HM.out HT.out _).mono ?_; rintro e w6 ⟨rfl, g6⟩
      go_wp2_with fail
      refine (short_any _ k1 k2 _).mono ?_; rintro e w7 ⟨rfl, g7⟩; rw [Int.toNat_natCast]
      go_wp2_with fail
      go_ret
      refine ⟨ret_bool ?_, kept_trans g1 (kept_trans g2 (kept_trans g3 (kept_trans g4 (kept_trans g5 (kept_trans g6 g7)))))⟩
      rw [beq_iff_eq, Lib.toList_data, Lib.toList_data, app_data, bs_data, bs_data, HE.out]
  · go_enter Try.func5, Try.ntmps5
    go_wp2_with fail
    refine (awake_any _).mono ?_; rintro e w1 ⟨rfl, g1⟩
    go_wp2_with fail
    go_ret
    exact ⟨rfl, g1⟩
end Go.Proofs.Ytfakkjolanegcaa
