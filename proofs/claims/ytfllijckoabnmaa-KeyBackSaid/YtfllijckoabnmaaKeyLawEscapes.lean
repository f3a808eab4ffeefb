/-
  The walk of the statement KeyEscapes: it answers true for every two strings.
-/
import Derived.Test.YtfllijckoabnmaaKeyAwake
import Derived.OpenShut
namespace Go.Proofs.Ytfllijckoabnmaa
open Go.ChangeShapes Go.WideShapes Go.ChangeAt Go.RowKit
set_option linter.unusedVariables false
set_option maxHeartbeats 400000

theorem bs_toList (l : List UInt8) : (bs l).toList = l := by rw [Lib.toList_data]; rfl
theorem bs_extract (l : List UInt8) (k : Nat) : (bs l).extract 0 k = bs (l.take k) := bs_of (by rw [Lib.extract_data]; simp [bs])
theorem data_inj {a b : ByteArray} (h : a.data.toList = b.data.toList) : a = b := by
  have h1 := bs_of h
  rw [h1]; rfl
/-- two texts, none a beginning of the other: what is left of both behind a cut to the shorter one's length isn't the same -/
theorem apart_end {X Y : List UInt8} (h : X.take (min X.length Y.length) = Y.take (min X.length Y.length) → False) :
    ((bs Y).size < (bs X).size → (!((bs X).extract 0 (bs Y).size).toList == (bs Y).toList) = true) ∧ (¬ (bs Y).size < (bs X).size → (!(bs X).toList == ((bs Y).extract 0 (bs X).size).toList) = true) := by
  rw [bs_size, bs_size, bs_extract, bs_extract, bs_toList, bs_toList, bs_toList, bs_toList]
  constructor
  · intro hl
    rw [Bool.not_eq_true', beq_eq_false_iff_ne]
    intro e
    refine h ?_
    rw [Nat.min_eq_right (by omega), e, List.take_length]
  · intro hl
    rw [Bool.not_eq_true', beq_eq_false_iff_ne]
    intro e
    refine h ?_
    rw [Nat.min_eq_left (by omega), List.take_length]; exact e
theorem escapes_big (a0 a1 : ByteArray) (w0 : a0.size ≤ maxLen) (w1 : a1.size ≤ maxLen) (h : ¬ (a0.size ≤ 1024 ∧ a1.size ≤ 1024)) (w : World) :
    Calls Try.prog 8 #[.string a0, .string a1] w fun e w' => e = .returned (.bool true) ∧ Kept w w' := by
  unfold maxLen at w0 w1
  by_cases h0 : a0.size ≤ 1024
  · have h1 : ¬ a1.size ≤ 1024 := fun h1 => h ⟨h0, h1⟩
    clear h
    go_enter Try.func8, Try.ntmps8
    go_wp2_with fail
    refine (kawake_any _).mono ?_; rintro e w1 ⟨rfl, g1⟩
    go_wp2_with fail
    go_ret
    exact ⟨rfl, g1⟩
  · clear h
    go_enter Try.func8, Try.ntmps8
    go_wp2_with fail
    refine (kawake_any _).mono ?_; rintro e w1 ⟨rfl, g1⟩
    go_wp2_with fail
    go_ret
    exact ⟨rfl, g1⟩
theorem escapes_no (a0 a1 : ByteArray) (h0 : a0.size ≤ 1024) (h1 : a1.size ≤ 1024) (h : Ky.may a0.data.toList = false) (w : World) :
    Calls Try.prog 8 #[.string a0, .string a1] w fun e w' => e = .returned (.bool true) ∧ Kept w w' := by
  have hm0 : a0.size ≤ maxLen := by unfold maxLen; omega
  have hm1 : a1.size ≤ maxLen := by unfold maxLen; omega
  have HC1 : Hid (∀ w, ∃ x y, Calls Try.prog 20 #[.string a1] w fun e w' => e = .returned (.tuple #[.string (bs x), .int .i64 y]) ∧ Kept w w') := fun w => by
    rcases Bool.eq_false_or_eq_true (Ky.may a1.data.toList) with hm | hm
    · exact ⟨_, _, kescape_yes a1 hm w⟩
    · exact ⟨_, _, kescape_no a1 hm1 hm w⟩
  have hb : (decide (1 ≤ (a0.size : Int)) && decide ((a0.size : Int) ≤ 24)) = false := by
    unfold Ky.may at h
    simp at h
    rw [Bool.eq_false_iff]; simp; omega
  have HC0 := Lib.hid (kescape_no a0 hm0 h)
  clear h hm0 hm1
  by_cases h10 : 1 ≤ a0.size
  · have h24 : ¬ a0.size ≤ 24 := by simp at hb; omega
    clear hb
    go_enter Try.func8, Try.ntmps8
    go_wp2_with fail
    refine (kawake_any _).mono ?_; rintro e w1 ⟨rfl, g1⟩
    go_wp2_with fail
    refine (HC0.out _).mono ?_; rintro e w2 ⟨rfl, g2⟩
    go_wp2_with fail
    obtain ⟨x, y, hc⟩ := HC1.out w2
    refine hc.mono ?_; clear hc; rintro e w3 ⟨rfl, g3⟩
    go_wp2_with fail
    go_ret
    exact ⟨rfl, kept_trans g1 (kept_trans g2 g3)⟩
  · clear hb
    go_enter Try.func8, Try.ntmps8
    go_wp2_with fail
    refine (kawake_any _).mono ?_; rintro e w1 ⟨rfl, g1⟩
    go_wp2_with fail
    refine (HC0.out _).mono ?_; rintro e w2 ⟨rfl, g2⟩
    go_wp2_with fail
    obtain ⟨x, y, hc⟩ := HC1.out w2
    refine hc.mono ?_; clear hc; rintro e w3 ⟨rfl, g3⟩
    go_wp2_with fail
    go_ret
    exact ⟨rfl, kept_trans g1 (kept_trans g2 g3)⟩
theorem escapes_half (a0 a1 : ByteArray) (h1 : a1.size ≤ 1024) (h : Ky.may a0.data.toList = true) (h2 : Ky.may a1.data.toList = false) (w : World) :
    Calls Try.prog 8 #[.string a0, .string a1] w fun e w' => e = .returned (.bool true) ∧ Kept w w' := by
  have hl : a0.data.toList.length = a0.size := by simp
  have hb := Ky.may_bd h
  rw [hl] at hb
  obtain ⟨b1, b2⟩ := hb
  have d24 : decide ((a0.size : Int) ≤ 24) = true := by simp; omega
  have d1 : decide (1 ≤ (a0.size : Int)) = true := by simp; omega
  have d2 : decide (1024 < (a0.size : Int)) = false := by simp; omega
  have d3 : decide (1024 < (a1.size : Int)) = false := by simp; omega
  have HC0 := Lib.hid (kescape_yes a0 h)
  have HC1 := Lib.hid (kescape_no a1 (by unfold maxLen; omega) h2)
  clear h h2 hl
  go_enter Try.func8, Try.ntmps8
  go_wp2_with fail
  refine (kawake_any _).mono ?_; rintro e w1 ⟨rfl, g1⟩
  go_wp2_with fail
  refine (HC0.out _).mono ?_; rintro e w2 ⟨rfl, g2⟩
  go_wp2_with fail
  refine (HC1.out _).mono ?_; rintro e w3 ⟨rfl, g3⟩
  go_wp2_with fail
  go_ret
  exact ⟨rfl, kept_trans g1 (kept_trans g2 g3)⟩
set_option maxRecDepth 100000 in
theorem escapes_yes (a0 a1 : ByteArray) (h : Ky.may a0.data.toList = true) (h2 : Ky.may a1.data.toList = true) (w : World) :
    Calls Try.prog 8 #[.string a0, .string a1] w fun e w' => e = .returned (.bool true) ∧ Kept w w' := by
  have hl : a0.data.toList.length = a0.size := by simp
  have hl1 : a1.data.toList.length = a1.size := by simp
  obtain ⟨b1, b2⟩ := Ky.may_bd h
  obtain ⟨b3, b4⟩ := Ky.may_bd h2
  rw [hl] at b1 b2
  rw [hl1] at b3 b4
  have z0 := Ky.esc_len_may _ h
  have z1 := Ky.esc_len_may _ h2
  rw [← bs_size] at z0 z1
  obtain ⟨z2, z3⟩ := z0
  obtain ⟨z4, z5⟩ := z1
  have d24 : decide ((a0.size : Int) ≤ 24) = true := by simp; omega
  have d1 : decide (1 ≤ (a0.size : Int)) = true := by simp; omega
  have d2 : decide (1024 < (a0.size : Int)) = false := by simp; omega
  have d3 : decide (1024 < (a1.size : Int)) = false := by simp; omega
  have HC0 := Lib.hid (kescape_yes a0 h)
  have HC1 := Lib.hid (kescape_yes a1 h2)
  by_cases he : a0.data.toList = a1.data.toList
  · obtain rfl := data_inj he
    have l1 : Op.bytesLess (bs (Ky.esc a0.data.toList)).toList (bs (Ky.esc a0.data.toList)).toList = false := Ky.bytesLess_irrefl _
    have l2 : Op.bytesLess a0.toList a0.toList = false := Ky.bytesLess_irrefl _
    clear he hl hl1 h h2
    generalize Ky.esc a0.data.toList = X at *
    go_enter Try.func8, Try.ntmps8
    go_wp2_with fail
    refine (kawake_any _).mono ?_; rintro e w1 ⟨rfl, g1⟩
    go_wp2_with fail
    refine (HC0.out _).mono ?_; rintro e w2 ⟨rfl, g2⟩
    go_wp2_with fail
    refine (HC1.out _).mono ?_; rintro e w3 ⟨rfl, g3⟩
    go_wp2_with fail
    all_goals
      go_quiet (fail)
      go_wp2_with fail
      go_ret
      exact ⟨ret_bool (by simp), kept_trans g1 (kept_trans g2 (kept_trans g3 (kept_drewN _ _)))⟩
  · have l1 : Op.bytesLess (bs (Ky.esc a0.data.toList)).toList (bs (Ky.esc a1.data.toList)).toList = Op.bytesLess a0.data.toList a1.data.toList := by rw [bs_toList, bs_toList, Ky.esc_less']
    have l2 : Op.bytesLess a0.toList a1.toList = Op.bytesLess a0.data.toList a1.data.toList := by rw [Lib.toList_data, Lib.toList_data]
    have e1 : ((bs (Ky.esc a0.data.toList)).toList == (bs (Ky.esc a1.data.toList)).toList) = false := by
      rw [bs_toList, bs_toList, beq_eq_false_iff_ne]
      exact fun e => he (Ky.esc_inj (x := []) (y := []) (by rw [List.append_nil, List.append_nil]; exact e)).1
    have e2 : (a0.toList == a1.toList) = false := by
      rw [Lib.toList_data, Lib.toList_data, beq_eq_false_iff_ne]; exact he
    have HA := Lib.hid (fun e => he (Ky.esc_apart (a := a0.data.toList) (b := a1.data.toList) e))
    clear he hl hl1 h h2
    generalize Ky.esc a0.data.toList = X at *
    generalize Ky.esc a1.data.toList = Y at *
    rcases Bool.eq_false_or_eq_true (Op.bytesLess a0.data.toList a1.data.toList) with hL | hL
    all_goals
      rw [hL] at l1 l2
      clear hL
      go_enter Try.func8, Try.ntmps8
      go_wp2_with fail
      refine (kawake_any _).mono ?_; rintro e w1 ⟨rfl, g1⟩
      go_wp2_with fail
      refine (HC0.out _).mono ?_; rintro e w2 ⟨rfl, g2⟩
      go_wp2_with fail
      refine (HC1.out _).mono ?_; rintro e w3 ⟨rfl, g3⟩
      go_wp2_with fail
      all_goals
        go_quiet (fail)
        go_wp2_with fail
        go_ret
        refine ⟨ret_bool ?_, kept_trans g1 (kept_trans g2 (kept_trans g3 (kept_drewN _ _)))⟩
        first | exact (apart_end HA.out).1 (by assumption) | exact (apart_end HA.out).2 (by assumption)
theorem KeyEscapes_walk (a0 : ByteArray) (a1 : ByteArray) (w0 : a0.size ≤ maxLen) (w1 : a1.size ≤ maxLen) (w : World) :
    Calls Try.prog 8 #[.string a0, .string a1] w fun e w' => e = .returned (.bool true) ∧ Kept w w' := by
  by_cases h : a0.size ≤ 1024 ∧ a1.size ≤ 1024
  · rcases Bool.eq_false_or_eq_true (Ky.may a0.data.toList) with hm | hm
    · rcases Bool.eq_false_or_eq_true (Ky.may a1.data.toList) with hn | hn
      · exact escapes_yes a0 a1 hm hn w
      · exact escapes_half a0 a1 h.2 hm hn w
    · exact escapes_no a0 a1 h.1 h.2 hm w
  · exact escapes_big a0 a1 w0 w1 h w
end Go.Proofs.Ytfllijckoabnmaa
