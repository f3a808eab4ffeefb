/-
  The walk of the statement KeyBack: it answers true for all parts and every string.
-/
import Derived.Test.YtfllijckoabnmaaKeyLawEscapes
import Derived.OpenShut
namespace Go.Proofs.Ytfllijckoabnmaa
open Go.ChangeShapes Go.WideShapes Go.ChangeAt Go.RowKit
set_option linter.unusedVariables false
set_option maxHeartbeats 400000
theorem bs_self (s : ByteArray) : bs s.data.toList = s := (bs_of rfl).symm
set_option maxRecDepth 100000 in
theorem back_big (c : Int) (s : ByteArray) (t : Int) (a : ByteArray) (hs : s.size ≤ maxLen) (hr : a.size ≤ maxLen) (h : ¬ (s.size ≤ 1024 ∧ a.size ≤ 1024)) (w : World) :
    Calls Try.prog 5 #[.agg #[.int .i64 c, .string s, .int .u64 t], .string a] w fun e w' => e = .returned (.bool true) ∧ Kept w w' := by
  unfold maxLen at hs hr
  by_cases h0 : s.size ≤ 1024
  · have h1 : ¬ a.size ≤ 1024 := fun h1 => h ⟨h0, h1⟩
    clear h
    go_enter Try.func5, Try.ntmps5
    go_wp2_with fail
    refine (kawake_any _).mono ?_; rintro e w1 ⟨rfl, g1⟩
    obtain ⟨⟨c0, c1, c2⟩, f0, f1, f2⟩ := three g1
    go_wp2_with fail
    go_ret
    exact ⟨rfl, kept_trans ((Kept.refl _).alloc _) g1⟩
  · clear h
    go_enter Try.func5, Try.ntmps5
    go_wp2_with fail
    refine (kawake_any _).mono ?_; rintro e w1 ⟨rfl, g1⟩
    obtain ⟨⟨c0, c1, c2⟩, f0, f1, f2⟩ := three g1
    go_wp2_with fail
    go_ret
    exact ⟨rfl, kept_trans ((Kept.refl _).alloc _) g1⟩
set_option maxRecDepth 100000 in
theorem back_1a (c : Int) (s : ByteArray) (t : Int) (a : ByteArray) (X E : List UInt8) (d : Int) (v : List UInt8) (u : Int)
    (HM : Hid (∀ w, Calls Try.prog 11 #[.agg #[.int .i64 c, .string s, .int .u64 t]] w fun e w' => e = .returned (.tuple #[.string (bs X), .int .i64 0]) ∧ Kept w w')) (HR : Hid (∀ w, Calls Try.prog 22 #[.string (bs X)] w fun e w' => e = .returned (.tuple #[.agg #[.int .i64 c, .string s, .int .u64 t], .int .i64 0]) ∧ Kept w w'))
    (HE : Hid (∀ w, Calls Try.prog 20 #[.string s] w fun e w' => e = .returned (.tuple #[.string (bs E), .int .i64 0]) ∧ Kept w w')) (HU : Hid (∀ w, Calls Try.prog 24 #[.string (bs E ++ a)] w fun e w' => e = .returned (.tuple #[.string s, .string a, .int .i64 0]) ∧ Kept w w')) (z1 : (bs E).size ≤ 50)
    (HR2 : Hid (∀ w, Calls Try.prog 22 #[.string a] w fun e w' => e = .returned (.tuple #[.agg #[.int .i64 d, .string (bs v), .int .u64 u], .int .i64 0]) ∧ Kept w w')) (HM2 : Hid (∀ w, Calls Try.prog 11 #[.agg #[.int .i64 d, .string (bs v), .int .u64 u]] w fun e w' => e = .returned (.tuple #[.string a, .int .i64 0]) ∧ Kept w w'))
    (d1 : decide (1024 < (s.size : Int)) = false) (d2 : decide (1024 < (a.size : Int)) = false) (z2 : a.size ≤ 1024) (w : World) :
    Calls Try.prog 5 #[.agg #[.int .i64 c, .string s, .int .u64 t], .string a] w fun e w' => e = .returned (.bool true) ∧ Kept w w' := by
  go_enter Try.func5, Try.ntmps5
  go_wp2_with fail
  refine (kawake_any _).mono ?_; rintro e w1 ⟨rfl, g1⟩
  obtain ⟨⟨c0, c1, c2⟩, f0, f1, f2⟩ := three g1
  go_wp2_with fail
  refine (HM.out _).mono ?_; rintro e w2 ⟨rfl, g2⟩
  clear c0 c1 c2 f0 f1 f2
  go_wp2_with fail
  refine (HR.out _).mono ?_; rintro e w3 ⟨rfl, g3⟩
  have G3 := kept_trans g1 (kept_trans g2 g3)
  obtain ⟨⟨c0, c1, c2⟩, f0, f1, f2⟩ := three G3
  have hlt := kept_lt G3
  go_wp2_with fail
  refine (HE.out _).mono ?_; rintro e w4 ⟨rfl, g4⟩
  have G4 := kept_trans G3 (kept_trans ((Kept.refl _).alloc _) g4)
  clear c0 c1 c2 f0 f1 f2
  go_wp2_with fail
  refine (HU.out _).mono ?_; rintro e w5 ⟨rfl, g5⟩
  have G5 := kept_trans G4 g5
  obtain ⟨⟨c0, c1, c2⟩, f0, f1, f2⟩ := three G5
  go_wp2_with fail
  refine (HR2.out _).mono ?_; rintro e w6 ⟨rfl, g6⟩
  go_wp2_with fail
  refine (HM2.out _).mono ?_; rintro e w7 ⟨rfl, g7⟩
  go_wp2_with fail
  go_ret
  exact ⟨ret_bool (by simp), kept_trans ((Kept.refl _).alloc _) (kept_trans G5 (kept_trans g6 (kept_trans ((Kept.refl _).alloc _) g7)))⟩
set_option maxRecDepth 100000 in
theorem back_1b (c : Int) (s : ByteArray) (t : Int) (a : ByteArray) (X E : List UInt8) 
    (HM : Hid (∀ w, Calls Try.prog 11 #[.agg #[.int .i64 c, .string s, .int .u64 t]] w fun e w' => e = .returned (.tuple #[.string (bs X), .int .i64 0]) ∧ Kept w w')) (HR : Hid (∀ w, Calls Try.prog 22 #[.string (bs X)] w fun e w' => e = .returned (.tuple #[.agg #[.int .i64 c, .string s, .int .u64 t], .int .i64 0]) ∧ Kept w w'))
    (HE : Hid (∀ w, Calls Try.prog 20 #[.string s] w fun e w' => e = .returned (.tuple #[.string (bs E), .int .i64 0]) ∧ Kept w w')) (HU : Hid (∀ w, Calls Try.prog 24 #[.string (bs E ++ a)] w fun e w' => e = .returned (.tuple #[.string s, .string a, .int .i64 0]) ∧ Kept w w')) (z1 : (bs E).size ≤ 50)
    (HR2 : Hid (∀ w, Calls Try.prog 22 #[.string a] w fun e w' => e = .returned (.tuple #[.agg #[.int .i64 0, .string (bs []), .int .u64 0], .int .i64 2]) ∧ Kept w w')) (hE2 : ((bs []).toList == []) = true)
    (d1 : decide (1024 < (s.size : Int)) = false) (d2 : decide (1024 < (a.size : Int)) = false) (z2 : a.size ≤ 1024) (w : World) :
    Calls Try.prog 5 #[.agg #[.int .i64 c, .string s, .int .u64 t], .string a] w fun e w' => e = .returned (.bool true) ∧ Kept w w' := by
  go_enter Try.func5, Try.ntmps5
  go_wp2_with fail
  refine (kawake_any _).mono ?_; rintro e w1 ⟨rfl, g1⟩
  obtain ⟨⟨c0, c1, c2⟩, f0, f1, f2⟩ := three g1
  go_wp2_with fail
  refine (HM.out _).mono ?_; rintro e w2 ⟨rfl, g2⟩
  clear c0 c1 c2 f0 f1 f2
  go_wp2_with fail
  refine (HR.out _).mono ?_; rintro e w3 ⟨rfl, g3⟩
  have G3 := kept_trans g1 (kept_trans g2 g3)
  obtain ⟨⟨c0, c1, c2⟩, f0, f1, f2⟩ := three G3
  have hlt := kept_lt G3
  go_wp2_with fail
  refine (HE.out _).mono ?_; rintro e w4 ⟨rfl, g4⟩
  have G4 := kept_trans G3 (kept_trans ((Kept.refl _).alloc _) g4)
  clear c0 c1 c2 f0 f1 f2
  go_wp2_with fail
  refine (HU.out _).mono ?_; rintro e w5 ⟨rfl, g5⟩
  have G5 := kept_trans G4 g5
  obtain ⟨⟨c0, c1, c2⟩, f0, f1, f2⟩ := three G5
  go_wp2_with fail
  refine (HR2.out _).mono ?_; rintro e w6 ⟨rfl, g6⟩
  go_wp2_with fail
  go_ret
  exact ⟨ret_bool (by simp), kept_trans ((Kept.refl _).alloc _) (kept_trans G5 (kept_trans g6 ((Kept.refl _).alloc _)))⟩
set_option maxRecDepth 100000 in
theorem back_2a (c : Int) (s : ByteArray) (t : Int) (a : ByteArray) (z : Int) (E : List UInt8) (d : Int) (v : List UInt8) (u : Int)
    (HM : Hid (∀ w, Calls Try.prog 11 #[.agg #[.int .i64 c, .string s, .int .u64 t]] w fun e w' => e = .returned (.tuple #[.string (bs []), .int .i64 z]) ∧ Kept w w')) (hz : (z == 0) = false) (hE : ((bs []).toList == []) = true)
    (HE : Hid (∀ w, Calls Try.prog 20 #[.string s] w fun e w' => e = .returned (.tuple #[.string (bs E), .int .i64 0]) ∧ Kept w w')) (HU : Hid (∀ w, Calls Try.prog 24 #[.string (bs E ++ a)] w fun e w' => e = .returned (.tuple #[.string s, .string a, .int .i64 0]) ∧ Kept w w')) (z1 : (bs E).size ≤ 50)
    (HR2 : Hid (∀ w, Calls Try.prog 22 #[.string a] w fun e w' => e = .returned (.tuple #[.agg #[.int .i64 d, .string (bs v), .int .u64 u], .int .i64 0]) ∧ Kept w w')) (HM2 : Hid (∀ w, Calls Try.prog 11 #[.agg #[.int .i64 d, .string (bs v), .int .u64 u]] w fun e w' => e = .returned (.tuple #[.string a, .int .i64 0]) ∧ Kept w w'))
    (d1 : decide (1024 < (s.size : Int)) = false) (d2 : decide (1024 < (a.size : Int)) = false) (z2 : a.size ≤ 1024) (w : World) :
    Calls Try.prog 5 #[.agg #[.int .i64 c, .string s, .int .u64 t], .string a] w fun e w' => e = .returned (.bool true) ∧ Kept w w' := by
  go_enter Try.func5, Try.ntmps5
  go_wp2_with fail
  refine (kawake_any _).mono ?_; rintro e w1 ⟨rfl, g1⟩
  obtain ⟨⟨c0, c1, c2⟩, f0, f1, f2⟩ := three g1
  go_wp2_with fail
  refine (HM.out _).mono ?_; rintro e w2 ⟨rfl, g2⟩
  have G3 := kept_trans g1 g2
  clear c0 c1 c2 f0 f1 f2
  obtain ⟨⟨c0, c1, c2⟩, f0, f1, f2⟩ := three G3
  go_wp2_with fail
  refine (HE.out _).mono ?_; rintro e w4 ⟨rfl, g4⟩
  have G4 := kept_trans G3 g4
  clear c0 c1 c2 f0 f1 f2
  go_wp2_with fail
  refine (HU.out _).mono ?_; rintro e w5 ⟨rfl, g5⟩
  have G5 := kept_trans G4 g5
  obtain ⟨⟨c0, c1, c2⟩, f0, f1, f2⟩ := three G5
  go_wp2_with fail
  refine (HR2.out _).mono ?_; rintro e w6 ⟨rfl, g6⟩
  go_wp2_with fail
  refine (HM2.out _).mono ?_; rintro e w7 ⟨rfl, g7⟩
  go_wp2_with fail
  go_ret
  exact ⟨ret_bool (by simp), kept_trans ((Kept.refl _).alloc _) (kept_trans G5 (kept_trans g6 (kept_trans ((Kept.refl _).alloc _) g7)))⟩
set_option maxRecDepth 100000 in
theorem back_2b (c : Int) (s : ByteArray) (t : Int) (a : ByteArray) (z : Int) (E : List UInt8) 
    (HM : Hid (∀ w, Calls Try.prog 11 #[.agg #[.int .i64 c, .string s, .int .u64 t]] w fun e w' => e = .returned (.tuple #[.string (bs []), .int .i64 z]) ∧ Kept w w')) (hz : (z == 0) = false) (hE : ((bs []).toList == []) = true)
    (HE : Hid (∀ w, Calls Try.prog 20 #[.string s] w fun e w' => e = .returned (.tuple #[.string (bs E), .int .i64 0]) ∧ Kept w w')) (HU : Hid (∀ w, Calls Try.prog 24 #[.string (bs E ++ a)] w fun e w' => e = .returned (.tuple #[.string s, .string a, .int .i64 0]) ∧ Kept w w')) (z1 : (bs E).size ≤ 50)
    (HR2 : Hid (∀ w, Calls Try.prog 22 #[.string a] w fun e w' => e = .returned (.tuple #[.agg #[.int .i64 0, .string (bs []), .int .u64 0], .int .i64 2]) ∧ Kept w w')) (hE2 : ((bs []).toList == []) = true)
    (d1 : decide (1024 < (s.size : Int)) = false) (d2 : decide (1024 < (a.size : Int)) = false) (z2 : a.size ≤ 1024) (w : World) :
    Calls Try.prog 5 #[.agg #[.int .i64 c, .string s, .int .u64 t], .string a] w fun e w' => e = .returned (.bool true) ∧ Kept w w' := by
  go_enter Try.func5, Try.ntmps5
  go_wp2_with fail
  refine (kawake_any _).mono ?_; rintro e w1 ⟨rfl, g1⟩
  obtain ⟨⟨c0, c1, c2⟩, f0, f1, f2⟩ := three g1
  go_wp2_with fail
  refine (HM.out _).mono ?_; rintro e w2 ⟨rfl, g2⟩
  have G3 := kept_trans g1 g2
  clear c0 c1 c2 f0 f1 f2
  obtain ⟨⟨c0, c1, c2⟩, f0, f1, f2⟩ := three G3
  go_wp2_with fail
  refine (HE.out _).mono ?_; rintro e w4 ⟨rfl, g4⟩
  have G4 := kept_trans G3 g4
  clear c0 c1 c2 f0 f1 f2
  go_wp2_with fail
  refine (HU.out _).mono ?_; rintro e w5 ⟨rfl, g5⟩
  have G5 := kept_trans G4 g5
  obtain ⟨⟨c0, c1, c2⟩, f0, f1, f2⟩ := three G5
  go_wp2_with fail
  refine (HR2.out _).mono ?_; rintro e w6 ⟨rfl, g6⟩
  go_wp2_with fail
  go_ret
  exact ⟨ret_bool (by simp), kept_trans ((Kept.refl _).alloc _) (kept_trans G5 (kept_trans g6 ((Kept.refl _).alloc _)))⟩
set_option maxRecDepth 100000 in
theorem back_3a (c : Int) (s : ByteArray) (t : Int) (a : ByteArray) (z : Int) (d : Int) (v : List UInt8) (u : Int)
    (HM : Hid (∀ w, Calls Try.prog 11 #[.agg #[.int .i64 c, .string s, .int .u64 t]] w fun e w' => e = .returned (.tuple #[.string (bs []), .int .i64 z]) ∧ Kept w w')) (hz : (z == 0) = false) (hE : ((bs []).toList == []) = true)
    (HE : Hid (∀ w, Calls Try.prog 20 #[.string s] w fun e w' => e = .returned (.tuple #[.string (bs []), .int .i64 20]) ∧ Kept w w'))
    (HR2 : Hid (∀ w, Calls Try.prog 22 #[.string a] w fun e w' => e = .returned (.tuple #[.agg #[.int .i64 d, .string (bs v), .int .u64 u], .int .i64 0]) ∧ Kept w w')) (HM2 : Hid (∀ w, Calls Try.prog 11 #[.agg #[.int .i64 d, .string (bs v), .int .u64 u]] w fun e w' => e = .returned (.tuple #[.string a, .int .i64 0]) ∧ Kept w w'))
    (d1 : decide (1024 < (s.size : Int)) = false) (d2 : decide (1024 < (a.size : Int)) = false) (z2 : a.size ≤ 1024) (w : World) :
    Calls Try.prog 5 #[.agg #[.int .i64 c, .string s, .int .u64 t], .string a] w fun e w' => e = .returned (.bool true) ∧ Kept w w' := by
  go_enter Try.func5, Try.ntmps5
  go_wp2_with fail
  refine (kawake_any _).mono ?_; rintro e w1 ⟨rfl, g1⟩
  obtain ⟨⟨c0, c1, c2⟩, f0, f1, f2⟩ := three g1
  go_wp2_with fail
  refine (HM.out _).mono ?_; rintro e w2 ⟨rfl, g2⟩
  have G3 := kept_trans g1 g2
  clear c0 c1 c2 f0 f1 f2
  obtain ⟨⟨c0, c1, c2⟩, f0, f1, f2⟩ := three G3
  go_wp2_with fail
  refine (HE.out _).mono ?_; rintro e w4 ⟨rfl, g4⟩
  have G4 := kept_trans G3 g4
  clear c0 c1 c2 f0 f1 f2
  have G5 := G4
  go_wp2_with fail
  refine (HR2.out _).mono ?_; rintro e w6 ⟨rfl, g6⟩
  go_wp2_with fail
  refine (HM2.out _).mono ?_; rintro e w7 ⟨rfl, g7⟩
  go_wp2_with fail
  go_ret
  exact ⟨ret_bool (by simp), kept_trans ((Kept.refl _).alloc _) (kept_trans G5 (kept_trans g6 (kept_trans ((Kept.refl _).alloc _) g7)))⟩
set_option maxRecDepth 100000 in
theorem back_3b (c : Int) (s : ByteArray) (t : Int) (a : ByteArray) (z : Int) 
    (HM : Hid (∀ w, Calls Try.prog 11 #[.agg #[.int .i64 c, .string s, .int .u64 t]] w fun e w' => e = .returned (.tuple #[.string (bs []), .int .i64 z]) ∧ Kept w w')) (hz : (z == 0) = false) (hE : ((bs []).toList == []) = true)
    (HE : Hid (∀ w, Calls Try.prog 20 #[.string s] w fun e w' => e = .returned (.tuple #[.string (bs []), .int .i64 20]) ∧ Kept w w'))
    (HR2 : Hid (∀ w, Calls Try.prog 22 #[.string a] w fun e w' => e = .returned (.tuple #[.agg #[.int .i64 0, .string (bs []), .int .u64 0], .int .i64 2]) ∧ Kept w w')) (hE2 : ((bs []).toList == []) = true)
    (d1 : decide (1024 < (s.size : Int)) = false) (d2 : decide (1024 < (a.size : Int)) = false) (z2 : a.size ≤ 1024) (w : World) :
    Calls Try.prog 5 #[.agg #[.int .i64 c, .string s, .int .u64 t], .string a] w fun e w' => e = .returned (.bool true) ∧ Kept w w' := by
  go_enter Try.func5, Try.ntmps5
  go_wp2_with fail
  refine (kawake_any _).mono ?_; rintro e w1 ⟨rfl, g1⟩
  obtain ⟨⟨c0, c1, c2⟩, f0, f1, f2⟩ := three g1
  go_wp2_with fail
  refine (HM.out _).mono ?_; rintro e w2 ⟨rfl, g2⟩
  have G3 := kept_trans g1 g2
  clear c0 c1 c2 f0 f1 f2
  obtain ⟨⟨c0, c1, c2⟩, f0, f1, f2⟩ := three G3
  go_wp2_with fail
  refine (HE.out _).mono ?_; rintro e w4 ⟨rfl, g4⟩
  have G4 := kept_trans G3 g4
  clear c0 c1 c2 f0 f1 f2
  have G5 := G4
  go_wp2_with fail
  refine (HR2.out _).mono ?_; rintro e w6 ⟨rfl, g6⟩
  go_wp2_with fail
  go_ret
  exact ⟨ret_bool (by simp), kept_trans ((Kept.refl _).alloc _) (kept_trans G5 (kept_trans g6 ((Kept.refl _).alloc _)))⟩
theorem KeyBack_walk (c : Int) (s : ByteArray) (t : Int) (a : ByteArray) (w0 : (Lit.int .i64 c).wf = true) (w1 : s.size ≤ maxLen) (w2 : (Lit.int .u64 t).wf = true) (w3 : a.size ≤ maxLen) (w : World) :
    Calls Try.prog 5 #[.agg #[.int .i64 c, .string s, .int .u64 t], .string a] w fun e w' => e = .returned (.bool true) ∧ Kept w w' := by
  obtain ⟨t0, t1⟩ := bounds_u64 w2
  have hE : ((bs []).toList == []) = true := by rw [Lib.toList_data]; rfl
  by_cases hsz : s.size ≤ 1024 ∧ a.size ≤ 1024
  · obtain ⟨hs, hr⟩ := hsz
    have d1 : decide (1024 < (s.size : Int)) = false := by simp; omega
    have d2 : decide (1024 < (a.size : Int)) = false := by simp; omega
    have HM := kmake_any c s t w1 t0 t1
    have hU : Ky.may s.data.toList = true → (bs (Ky.esc s.data.toList)).size ≤ 50 ∧ ∀ w, Calls Try.prog 24 #[.string (bs (Ky.esc s.data.toList) ++ a)] w fun e w' => e = .returned (.tuple #[.string s, .string a, .int .i64 0]) ∧ Kept w w' := by
      intro hm
      have hl := (Ky.esc_len_may _ hm).2
      rw [← bs_size] at hl
      refine ⟨hl, fun w => ?_⟩
      have h := kunescape_yes (bs (Ky.esc s.data.toList) ++ a) s.data.toList a.data.toList (by rw [ByteArray.size_append]; omega) (by simp [ByteArray.data_append, bs]) hm w
      rw [bs_self, bs_self] at h
      exact h
    have hz : ∀ {d : Int} {v : List UInt8} {u : Int}, Ky.Ok d v u → (bs (Ky.mk d v u)).size ≤ 4096 := by
      intro d v u h
      have := (Ky.esc_len_may _ h.2.1).2
      rw [bs_size, Ky.mk, Ky.fst, List.length_append, List.length_cons, Ky.tail_len]; split <;> omega
    by_cases hK : IsKey a.data.toList
    · obtain ⟨d, v, u, hk, he⟩ := hK
      have HR2 := kread_yes a d v u (by omega) hk he
      have bd := hk.bd
      have HM2 := kmake_any d (bs v) u (by rw [bs_size]; unfold maxLen; omega) bd.2.2.2.2.1 (by omega)
      rw [bs_data, Ky.makeS_ok hk, Ky.makeE_ok hk, ← he, bs_self] at HM2
      by_cases h : Ky.Ok c s.data.toList t
      · rw [Ky.makeS_ok h, Ky.makeE_ok h] at HM
        have HR := kread_yes (bs (Ky.mk c s.data.toList t)) c s.data.toList t (hz h) h rfl
        unfold parts at HR
        rw [bs_self] at HR
        obtain ⟨z1, HU⟩ := hU h.2.1
        exact back_1a c s t a _ _ d v u HM HR (kescape_yes s h.2.1) HU z1 HR2 HM2 d1 d2 hr w
      · have hz0 : (Ky.makeE c s.data.toList t == 0) = false := by rw [beq_eq_false_iff_ne]; exact Ky.makeE_no t0 h
        rw [Ky.makeS_no t0 h] at HM
        rcases Bool.eq_false_or_eq_true (Ky.may s.data.toList) with hm | hm
        · obtain ⟨z1, HU⟩ := hU hm
          exact back_2a c s t a _ _ d v u HM hz0 hE (kescape_yes s hm) HU z1 HR2 HM2 d1 d2 hr w
        · exact back_3a c s t a _ d v u HM hz0 hE (kescape_no s w1 hm) HR2 HM2 d1 d2 hr w
    · have HR2 := kread_no a (by omega) hK
      by_cases h : Ky.Ok c s.data.toList t
      · rw [Ky.makeS_ok h, Ky.makeE_ok h] at HM
        have HR := kread_yes (bs (Ky.mk c s.data.toList t)) c s.data.toList t (hz h) h rfl
        unfold parts at HR
        rw [bs_self] at HR
        obtain ⟨z1, HU⟩ := hU h.2.1
        exact back_1b c s t a _ _ HM HR (kescape_yes s h.2.1) HU z1 HR2 hE d1 d2 hr w
      · have hz0 : (Ky.makeE c s.data.toList t == 0) = false := by rw [beq_eq_false_iff_ne]; exact Ky.makeE_no t0 h
        rw [Ky.makeS_no t0 h] at HM
        rcases Bool.eq_false_or_eq_true (Ky.may s.data.toList) with hm | hm
        · obtain ⟨z1, HU⟩ := hU hm
          exact back_2b c s t a _ _ HM hz0 hE (kescape_yes s hm) HU z1 HR2 hE d1 d2 hr w
        · exact back_3b c s t a _ HM hz0 hE (kescape_no s w1 hm) HR2 hE d1 d2 hr w
  · exact back_big c s t a w1 w3 hsz w
end Go.Proofs.Ytfllijckoabnmaa
