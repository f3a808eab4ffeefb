/-
  The walk of the statement NumOrder: it answers true for every two unsigned 64-bit numbers.
-/
import Derived.Test.YtfakkjolanegcaaNumAwake
import Derived.OpenShut
namespace Go.Proofs.Ytfakkjolanegcaa
open Go.ChangeShapes Go.WideShapes Go.ChangeAt Go.RowKit
set_option linter.unusedVariables false
set_option maxHeartbeats 400000

theorem bs_toList (l : List UInt8) : (bs l).toList = l := by rw [Lib.toList_data]; rfl
theorem bs_size (l : List UInt8) : (bs l).size = l.length := by simp [bs, ByteArray.size]
theorem bs_extract (l : List UInt8) (k : Nat) : (bs l).extract 0 k = bs (l.take k) := bs_of (by rw [Lib.extract_data]; simp [bs])
/-- of two short bytes none is a beginning of the other -/
theorem short_apart (n m k : Nat) (hn : n < 18446744073709551616) (hm : m < 18446744073709551616) (hk : k = min (Nm.sz n) (Nm.sz m)) (h : (Nm.short n).take k = (Nm.short m).take k) : n = m := by
  have l1 := Nm.short_len n hn
  have l2 := Nm.short_len m hm
  have t1 := Nm.take_short n [] hn
  have t2 := Nm.take_short m [] hm
  rw [List.append_nil] at t1 t2
  rcases Nat.le_total (Nm.sz n) (Nm.sz m) with h1 | h1
  · rw [Nat.min_eq_left h1] at hk
    rw [List.take_of_length_le (by omega)] at h
    have e : Nm.short m = Nm.short n ++ (Nm.short m).drop k := by rw [h, List.take_append_drop]
    rw [e, Nm.take_short n _ hn] at t2
    simp at t2
    exact t2.1
  · rw [Nat.min_eq_right h1] at hk
    rw [List.take_of_length_le (l := Nm.short m) (by omega)] at h
    have e : Nm.short n = Nm.short m ++ (Nm.short n).drop k := by rw [← h, List.take_append_drop]
    rw [e, Nm.take_short m _ hm] at t1
    simp at t1
    exact t1.1.symm

theorem NumOrder_walk (a0 : Int) (a1 : Int) (w0 : (Lit.int .u64 a0).wf = true) (w1 : (Lit.int .u64 a1).wf = true) (w : World) :
    Calls Try.prog 6 #[.int .u64 a0, .int .u64 a1] w fun e w' => e = .returned (.bool true) ∧ Kept w w' := by
  obtain ⟨n1, n2⟩ := bounds_u64 w0
  obtain ⟨m1, m2⟩ := bounds_u64 w1
  clear w0 w1
  have l1 : Op.bytesLess (bs (Nm.long a0.toNat)).toList (bs (Nm.long a1.toNat)).toList = decide (a0 < a1) := by
    rw [bs_toList, bs_toList, Nm.long_less _ _ (by omega) (by omega), Bool.eq_iff_iff, decide_eq_true_iff, decide_eq_true_iff]; omega
  have l2 : Op.bytesLess (bs (Nm.fall a0.toNat)).toList (bs (Nm.fall a1.toNat)).toList = decide (a1 < a0) := by
    unfold Nm.fall
    rw [bs_toList, bs_toList, Nm.long_less _ _ (by unfold Nm.turn; omega) (by unfold Nm.turn; omega), Bool.eq_iff_iff, decide_eq_true_iff, decide_eq_true_iff]; unfold Nm.turn; omega
  have l3 : (bs (Nm.long a0.toNat)).size = 8 := by rw [bs_size, Nm.long_len]
  have l4 : (bs (Nm.fall a1.toNat)).size = 8 := by rw [bs_size]; exact Nm.long_len _
  have s1 : (bs (Nm.short a0.toNat)).size = Nm.sz a0.toNat := by rw [bs_size, Nm.short_len _ (by omega)]
  have s2 : (bs (Nm.short a1.toNat)).size = Nm.sz a1.toNat := by rw [bs_size, Nm.short_len _ (by omega)]
  obtain ⟨z1, z3⟩ := Nm.sz_le a0.toNat (by omega)
  obtain ⟨z2, z4⟩ := Nm.sz_le a1.toNat (by omega)
  have p1 : 0 < Nm.sz a0.toNat := by omega
  have p2 : 0 < Nm.sz a1.toNat := by omega
  have HA := Lib.hid (short_apart a0.toNat a1.toNat · (by omega) (by omega))
  rcases Int.lt_trichotomy a0 a1 with h | h | h
  · have d1 : decide (a0 < a1) = true := by simp; omega
    have d2 : decide (a1 < a0) = false := by simp; omega
    have d3 : (a0 == a1) = false := by rw [beq_eq_false_iff_ne]; omega
    rw [d1] at l1; rw [d2] at l2
    go_enter Try.func6, Try.ntmps6
    go_wp2_with fail
    refine (awake_any _).mono ?_; rintro e w1 ⟨rfl, g1⟩
    go_wp2_with fail
    refine (long_any _ n1 n2 _).mono ?_; rintro e w2 ⟨rfl, g2⟩
    go_wp2_with fail
    refine (long_any _ m1 m2 _).mono ?_; rintro e w3 ⟨rfl, g3⟩
    go_wp2_with fail
    refine (fall_any _ n1 n2 _).mono ?_; rintro e w4 ⟨rfl, g4⟩
    go_wp2_with fail
    refine (fall_any _ m1 m2 _).mono ?_; rintro e w5 ⟨rfl, g5⟩
    go_wp2_with fail
    refine (long_any _ n1 n2 _).mono ?_; rintro e w6 ⟨rfl, g6⟩
    go_wp2_with fail
    refine (fall_any _ m1 m2 _).mono ?_; rintro e w7 ⟨rfl, g7⟩
    go_wp2_with fail
    refine (short_any _ n1 n2 _).mono ?_; rintro e w8 ⟨rfl, g8⟩
    go_wp2_with fail
    refine (short_any _ m1 m2 _).mono ?_; rintro e w9 ⟨rfl, g9⟩
    go_wp2_with fail
    all_goals
      go_quiet (fail)
      go_wp2_with fail
      go_ret
      have gg : Kept w w9 := kept_trans g1 (kept_trans g2 (kept_trans g3 (kept_trans g4 (kept_trans g5 (kept_trans g6 (kept_trans g7 (kept_trans g8 g9)))))))
      refine ⟨ret_bool ?_, kept_trans gg (kept_drewN _ _)⟩
      rw [bs_extract, bs_extract, bs_toList, bs_toList, Bool.not_eq_true', beq_eq_false_iff_ne]
      intro e
      have := HA.out _ (by omega) e
      omega
  · subst h
    have d1 : decide (a0 < a0) = false := by simp
    rw [d1] at l1 l2
    go_enter Try.func6, Try.ntmps6
    go_wp2_with fail
    refine (awake_any _).mono ?_; rintro e w1 ⟨rfl, g1⟩
    go_wp2_with fail
    refine (long_any _ n1 n2 _).mono ?_; rintro e w2 ⟨rfl, g2⟩
    go_wp2_with fail
    refine (long_any _ m1 m2 _).mono ?_; rintro e w3 ⟨rfl, g3⟩
    go_wp2_with fail
    refine (fall_any _ n1 n2 _).mono ?_; rintro e w4 ⟨rfl, g4⟩
    go_wp2_with fail
    refine (fall_any _ m1 m2 _).mono ?_; rintro e w5 ⟨rfl, g5⟩
    go_wp2_with fail
    refine (long_any _ n1 n2 _).mono ?_; rintro e w6 ⟨rfl, g6⟩
    go_wp2_with fail
    refine (fall_any _ m1 m2 _).mono ?_; rintro e w7 ⟨rfl, g7⟩
    go_wp2_with fail
    refine (short_any _ n1 n2 _).mono ?_; rintro e w8 ⟨rfl, g8⟩
    go_wp2_with fail
    refine (short_any _ m1 m2 _).mono ?_; rintro e w9 ⟨rfl, g9⟩
    go_wp2_with fail
    all_goals
      go_quiet (fail)
      go_wp2_with fail
      go_ret
      have gg : Kept w w9 := kept_trans g1 (kept_trans g2 (kept_trans g3 (kept_trans g4 (kept_trans g5 (kept_trans g6 (kept_trans g7 (kept_trans g8 g9)))))))
      refine ⟨ret_bool ?_, kept_trans gg (kept_drewN _ _)⟩
      simp
  · have d1 : decide (a0 < a1) = false := by simp; omega
    have d2 : decide (a1 < a0) = true := by simp; omega
    have d3 : (a0 == a1) = false := by rw [beq_eq_false_iff_ne]; omega
    rw [d1] at l1; rw [d2] at l2
    go_enter Try.func6, Try.ntmps6
    go_wp2_with fail
    refine (awake_any _).mono ?_; rintro e w1 ⟨rfl, g1⟩
    go_wp2_with fail
    refine (long_any _ n1 n2 _).mono ?_; rintro e w2 ⟨rfl, g2⟩
    go_wp2_with fail
    refine (long_any _ m1 m2 _).mono ?_; rintro e w3 ⟨rfl, g3⟩
    go_wp2_with fail
    refine (fall_any _ n1 n2 _).mono ?_; rintro e w4 ⟨rfl, g4⟩
    go_wp2_with fail
    refine (fall_any _ m1 m2 _).mono ?_; rintro e w5 ⟨rfl, g5⟩
    go_wp2_with fail
    refine (long_any _ n1 n2 _).mono ?_; rintro e w6 ⟨rfl, g6⟩
    go_wp2_with fail
    refine (fall_any _ m1 m2 _).mono ?_; rintro e w7 ⟨rfl, g7⟩
    go_wp2_with fail
    refine (short_any _ n1 n2 _).mono ?_; rintro e w8 ⟨rfl, g8⟩
    go_wp2_with fail
    refine (short_any _ m1 m2 _).mono ?_; rintro e w9 ⟨rfl, g9⟩
    go_wp2_with fail
    all_goals
      go_quiet (fail)
      go_wp2_with fail
      go_ret
      have gg : Kept w w9 := kept_trans g1 (kept_trans g2 (kept_trans g3 (kept_trans g4 (kept_trans g5 (kept_trans g6 (kept_trans g7 (kept_trans g8 g9)))))))
      refine ⟨ret_bool ?_, kept_trans gg (kept_drewN _ _)⟩
      rw [bs_extract, bs_extract, bs_toList, bs_toList, Bool.not_eq_true', beq_eq_false_iff_ne]
      intro e
      have := HA.out _ (by omega) e
      omega
end Go.Proofs.Ytfakkjolanegcaa
