/-
  The walk of the statement KeyOrder: it answers true for every two parts.
-/
import Derived.Test.YtfllijckoabnmaaKeyLawEscapes
import Derived.OpenShut
namespace Go.Proofs.Ytfllijckoabnmaa
open Go.ChangeShapes Go.WideShapes Go.ChangeAt Go.RowKit
set_option linter.unusedVariables false
set_option maxHeartbeats 400000
/-- two blocks of three cells that were there stay -/
theorem six {w w1 : World} {a b c a' b' c' : Value} {t : TypeId} (g : Kept ((w.alloc (.cells #[a, b, c] t)).alloc (.cells #[a', b', c'] t)) w1) :
    (w1.cell? ⟨w.heap.size, 0, none⟩ = some a ∧ w1.cell? ⟨w.heap.size, 1, none⟩ = some b ∧ w1.cell? ⟨w.heap.size, 2, none⟩ = some c) ∧
    (w1.cell? ⟨w.heap.size + 1, 0, none⟩ = some a' ∧ w1.cell? ⟨w.heap.size + 1, 1, none⟩ = some b' ∧ w1.cell? ⟨w.heap.size + 1, 2, none⟩ = some c') := by
  refine ⟨⟨?_, ?_, ?_⟩, ?_, ?_, ?_⟩
  all_goals rw [kept_cell g (by simp <;> omega)]; simp
theorem kept_two (w : World) (a b : Obj) : Kept w ((w.alloc a).alloc b) := ((Kept.refl _).alloc _).alloc _
theorem order_big (c : Int) (s : ByteArray) (t : Int) (d : Int) (r : ByteArray) (u : Int) (hs : s.size ≤ maxLen) (hr : r.size ≤ maxLen) (h : ¬ (s.size ≤ 1024 ∧ r.size ≤ 1024)) (w : World) :
    Calls Try.prog 6 #[.agg #[.int .i64 c, .string s, .int .u64 t], .agg #[.int .i64 d, .string r, .int .u64 u]] w fun e w' => e = .returned (.bool true) ∧ Kept w w' := by
  unfold maxLen at hs hr
  by_cases h0 : s.size ≤ 1024
  · have h1 : ¬ r.size ≤ 1024 := fun h1 => h ⟨h0, h1⟩
    clear h
    go_enter Try.func6, Try.ntmps6
    go_wp2_with fail
    refine (kawake_any _).mono ?_; rintro e w1 ⟨rfl, g1⟩
    obtain ⟨⟨c0, c1, c2⟩, b0, b1, b2⟩ := six g1
    go_wp2_with fail
    go_ret
    exact ⟨rfl, kept_trans (kept_two _ _ _) g1⟩
  · clear h
    go_enter Try.func6, Try.ntmps6
    go_wp2_with fail
    refine (kawake_any _).mono ?_; rintro e w1 ⟨rfl, g1⟩
    obtain ⟨⟨c0, c1, c2⟩, b0, b1, b2⟩ := six g1
    go_wp2_with fail
    go_ret
    exact ⟨rfl, kept_trans (kept_two _ _ _) g1⟩
theorem order_no (c : Int) (s : ByteArray) (t : Int) (d : Int) (r : ByteArray) (u : Int) (hs : s.size ≤ 1024) (hr : r.size ≤ 1024) (t0 : 0 ≤ t) (t1 : t ≤ 18446744073709551615) (u0 : 0 ≤ u) (u1 : u ≤ 18446744073709551615)
    (h : ¬ (Ky.Ok c s.data.toList t ∧ Ky.Ok d r.data.toList u)) (w : World) :
    Calls Try.prog 6 #[.agg #[.int .i64 c, .string s, .int .u64 t], .agg #[.int .i64 d, .string r, .int .u64 u]] w fun e w' => e = .returned (.bool true) ∧ Kept w w' := by
  have HM := Lib.hid (kmake_any c s t (by unfold maxLen; omega) t0 t1)
  have HN := Lib.hid (kmake_any d r u (by unfold maxLen; omega) u0 u1)
  have e1 : (Ky.makeE c s.data.toList t != 0) = true ∨ ((Ky.makeE c s.data.toList t != 0) = false ∧ (Ky.makeE d r.data.toList u != 0) = true) := by
    by_cases h1 : Ky.Ok c s.data.toList t
    · refine .inr ⟨by rw [Ky.makeE_ok h1]; rfl, ?_⟩
      rw [bne_iff_ne]; exact Ky.makeE_no u0 (fun h2 => h ⟨h1, h2⟩)
    · left; rw [bne_iff_ne]; exact Ky.makeE_no t0 h1
  clear h
  generalize Ky.makeE c s.data.toList t = x at *
  generalize Ky.makeE d r.data.toList u = y at *
  generalize Ky.makeS c s.data.toList t = X at *
  generalize Ky.makeS d r.data.toList u = Y at *
  rcases e1 with e1 | ⟨e1, e2⟩
  all_goals
    go_enter Try.func6, Try.ntmps6
    go_wp2_with fail
    refine (kawake_any _).mono ?_; rintro e w1 ⟨rfl, g1⟩
    obtain ⟨⟨c0, c1, c2⟩, b0, b1, b2⟩ := six g1
    go_wp2_with fail
    refine (HM.out _).mono ?_; rintro e w2 ⟨rfl, g2⟩
    clear c0 c1 c2 b0 b1 b2
    obtain ⟨⟨c0, c1, c2⟩, b0, b1, b2⟩ := six (kept_trans g1 g2)
    go_wp2_with fail
    refine (HN.out _).mono ?_; rintro e w3 ⟨rfl, g3⟩
    go_wp2_with fail
    go_ret
    exact ⟨rfl, kept_trans (kept_two _ _ _) (kept_trans g1 (kept_trans g2 g3))⟩
set_option maxRecDepth 100000 in
theorem order_c1 (c : Int) (s : ByteArray) (t : Int) (d : Int) (r : ByteArray) (u : Int) (X Y : List UInt8) (HM : Hid (∀ w, Calls Try.prog 11 #[.agg #[.int .i64 c, .string s, .int .u64 t]] w fun e w' => e = .returned (.tuple #[.string (bs X), .int .i64 0]) ∧ Kept w w'))
    (HN : Hid (∀ w, Calls Try.prog 11 #[.agg #[.int .i64 d, .string r, .int .u64 u]] w fun e w' => e = .returned (.tuple #[.string (bs Y), .int .i64 0]) ∧ Kept w w'))
    (z1 : (bs X).size ≤ 4096) (z2 : (bs Y).size ≤ 4096) (HA : Hid (X.take (min X.length Y.length) = Y.take (min X.length Y.length) → False)) (e1 : ((bs X).toList == (bs Y).toList) = false)
    (d1 : decide (1024 < (s.size : Int)) = false) (d2 : decide (1024 < (r.size : Int)) = false)
    (q1 : decide (c < d) = true) (q2 : (c == d) = false) (hl : Op.bytesLess (bs X).toList (bs Y).toList = true) (w : World) :
    Calls Try.prog 6 #[.agg #[.int .i64 c, .string s, .int .u64 t], .agg #[.int .i64 d, .string r, .int .u64 u]] w fun e w' => e = .returned (.bool true) ∧ Kept w w' := by
    go_enter Try.func6, Try.ntmps6
    go_wp2_with fail
    refine (kawake_any _).mono ?_; rintro e w1 ⟨rfl, g1⟩
    obtain ⟨⟨c0, c1, c2⟩, b0, b1, b2⟩ := six g1
    go_wp2_with fail
    refine (HM.out _).mono ?_; rintro e w2 ⟨rfl, g2⟩
    clear c0 c1 c2 b0 b1 b2
    obtain ⟨⟨c0, c1, c2⟩, b0, b1, b2⟩ := six (kept_trans g1 g2)
    go_wp2_with fail
    refine (HN.out _).mono ?_; rintro e w3 ⟨rfl, g3⟩
    clear c0 c1 c2 b0 b1 b2
    obtain ⟨⟨c0, c1, c2⟩, b0, b1, b2⟩ := six (kept_trans g1 (kept_trans g2 g3))
    go_wp2_with fail
    all_goals
      go_quiet (fail)
      go_wp2_with fail
      go_ret
      refine ⟨ret_bool ?_, kept_trans (kept_two _ _ _) (kept_trans g1 (kept_trans g2 (kept_trans g3 (kept_drewN _ _))))⟩
      first | exact (apart_end HA.out).1 (by assumption) | exact (apart_end HA.out).2 (by assumption)
set_option maxRecDepth 100000 in
theorem order_c2 (c : Int) (s : ByteArray) (t : Int) (d : Int) (r : ByteArray) (u : Int) (X Y : List UInt8) (HM : Hid (∀ w, Calls Try.prog 11 #[.agg #[.int .i64 c, .string s, .int .u64 t]] w fun e w' => e = .returned (.tuple #[.string (bs X), .int .i64 0]) ∧ Kept w w'))
    (HN : Hid (∀ w, Calls Try.prog 11 #[.agg #[.int .i64 d, .string r, .int .u64 u]] w fun e w' => e = .returned (.tuple #[.string (bs Y), .int .i64 0]) ∧ Kept w w'))
    (z1 : (bs X).size ≤ 4096) (z2 : (bs Y).size ≤ 4096) (HA : Hid (X.take (min X.length Y.length) = Y.take (min X.length Y.length) → False)) (e1 : ((bs X).toList == (bs Y).toList) = false)
    (d1 : decide (1024 < (s.size : Int)) = false) (d2 : decide (1024 < (r.size : Int)) = false)
    (q1 : decide (c < d) = false) (q2 : (c == d) = false) (hl : Op.bytesLess (bs X).toList (bs Y).toList = false) (w : World) :
    Calls Try.prog 6 #[.agg #[.int .i64 c, .string s, .int .u64 t], .agg #[.int .i64 d, .string r, .int .u64 u]] w fun e w' => e = .returned (.bool true) ∧ Kept w w' := by
    go_enter Try.func6, Try.ntmps6
    go_wp2_with fail
    refine (kawake_any _).mono ?_; rintro e w1 ⟨rfl, g1⟩
    obtain ⟨⟨c0, c1, c2⟩, b0, b1, b2⟩ := six g1
    go_wp2_with fail
    refine (HM.out _).mono ?_; rintro e w2 ⟨rfl, g2⟩
    clear c0 c1 c2 b0 b1 b2
    obtain ⟨⟨c0, c1, c2⟩, b0, b1, b2⟩ := six (kept_trans g1 g2)
    go_wp2_with fail
    refine (HN.out _).mono ?_; rintro e w3 ⟨rfl, g3⟩
    clear c0 c1 c2 b0 b1 b2
    obtain ⟨⟨c0, c1, c2⟩, b0, b1, b2⟩ := six (kept_trans g1 (kept_trans g2 g3))
    go_wp2_with fail
    all_goals
      go_quiet (fail)
      go_wp2_with fail
      go_ret
      refine ⟨ret_bool ?_, kept_trans (kept_two _ _ _) (kept_trans g1 (kept_trans g2 (kept_trans g3 (kept_drewN _ _))))⟩
      first | exact (apart_end HA.out).1 (by assumption) | exact (apart_end HA.out).2 (by assumption)
set_option maxRecDepth 100000 in
theorem order_u1 (c : Int) (s : ByteArray) (t : Int) (r : ByteArray) (u : Int) (X Y : List UInt8) (HM : Hid (∀ w, Calls Try.prog 11 #[.agg #[.int .i64 c, .string s, .int .u64 t]] w fun e w' => e = .returned (.tuple #[.string (bs X), .int .i64 0]) ∧ Kept w w'))
    (HN : Hid (∀ w, Calls Try.prog 11 #[.agg #[.int .i64 c, .string r, .int .u64 u]] w fun e w' => e = .returned (.tuple #[.string (bs Y), .int .i64 0]) ∧ Kept w w'))
    (z1 : (bs X).size ≤ 4096) (z2 : (bs Y).size ≤ 4096) (HA : Hid (X.take (min X.length Y.length) = Y.take (min X.length Y.length) → False)) (e1 : ((bs X).toList == (bs Y).toList) = false)
    (d1 : decide (1024 < (s.size : Int)) = false) (d2 : decide (1024 < (r.size : Int)) = false)
    (q3 : Op.bytesLess s.toList r.toList = true) (q4 : (s.toList == r.toList) = false) (hl : Op.bytesLess (bs X).toList (bs Y).toList = true) (w : World) :
    Calls Try.prog 6 #[.agg #[.int .i64 c, .string s, .int .u64 t], .agg #[.int .i64 c, .string r, .int .u64 u]] w fun e w' => e = .returned (.bool true) ∧ Kept w w' := by
    go_enter Try.func6, Try.ntmps6
    go_wp2_with fail
    refine (kawake_any _).mono ?_; rintro e w1 ⟨rfl, g1⟩
    obtain ⟨⟨c0, c1, c2⟩, b0, b1, b2⟩ := six g1
    go_wp2_with fail
    refine (HM.out _).mono ?_; rintro e w2 ⟨rfl, g2⟩
    clear c0 c1 c2 b0 b1 b2
    obtain ⟨⟨c0, c1, c2⟩, b0, b1, b2⟩ := six (kept_trans g1 g2)
    go_wp2_with fail
    refine (HN.out _).mono ?_; rintro e w3 ⟨rfl, g3⟩
    clear c0 c1 c2 b0 b1 b2
    obtain ⟨⟨c0, c1, c2⟩, b0, b1, b2⟩ := six (kept_trans g1 (kept_trans g2 g3))
    go_wp2_with fail
    all_goals
      go_quiet (fail)
      go_wp2_with fail
      go_ret
      refine ⟨ret_bool ?_, kept_trans (kept_two _ _ _) (kept_trans g1 (kept_trans g2 (kept_trans g3 (kept_drewN _ _))))⟩
      first | exact (apart_end HA.out).1 (by assumption) | exact (apart_end HA.out).2 (by assumption)
set_option maxRecDepth 100000 in
theorem order_u2 (c : Int) (s : ByteArray) (t : Int) (r : ByteArray) (u : Int) (X Y : List UInt8) (HM : Hid (∀ w, Calls Try.prog 11 #[.agg #[.int .i64 c, .string s, .int .u64 t]] w fun e w' => e = .returned (.tuple #[.string (bs X), .int .i64 0]) ∧ Kept w w'))
    (HN : Hid (∀ w, Calls Try.prog 11 #[.agg #[.int .i64 c, .string r, .int .u64 u]] w fun e w' => e = .returned (.tuple #[.string (bs Y), .int .i64 0]) ∧ Kept w w'))
    (z1 : (bs X).size ≤ 4096) (z2 : (bs Y).size ≤ 4096) (HA : Hid (X.take (min X.length Y.length) = Y.take (min X.length Y.length) → False)) (e1 : ((bs X).toList == (bs Y).toList) = false)
    (d1 : decide (1024 < (s.size : Int)) = false) (d2 : decide (1024 < (r.size : Int)) = false)
    (q3 : Op.bytesLess s.toList r.toList = false) (q4 : (s.toList == r.toList) = false) (hl : Op.bytesLess (bs X).toList (bs Y).toList = false) (w : World) :
    Calls Try.prog 6 #[.agg #[.int .i64 c, .string s, .int .u64 t], .agg #[.int .i64 c, .string r, .int .u64 u]] w fun e w' => e = .returned (.bool true) ∧ Kept w w' := by
    go_enter Try.func6, Try.ntmps6
    go_wp2_with fail
    refine (kawake_any _).mono ?_; rintro e w1 ⟨rfl, g1⟩
    obtain ⟨⟨c0, c1, c2⟩, b0, b1, b2⟩ := six g1
    go_wp2_with fail
    refine (HM.out _).mono ?_; rintro e w2 ⟨rfl, g2⟩
    clear c0 c1 c2 b0 b1 b2
    obtain ⟨⟨c0, c1, c2⟩, b0, b1, b2⟩ := six (kept_trans g1 g2)
    go_wp2_with fail
    refine (HN.out _).mono ?_; rintro e w3 ⟨rfl, g3⟩
    clear c0 c1 c2 b0 b1 b2
    obtain ⟨⟨c0, c1, c2⟩, b0, b1, b2⟩ := six (kept_trans g1 (kept_trans g2 g3))
    go_wp2_with fail
    all_goals
      go_quiet (fail)
      go_wp2_with fail
      go_ret
      refine ⟨ret_bool ?_, kept_trans (kept_two _ _ _) (kept_trans g1 (kept_trans g2 (kept_trans g3 (kept_drewN _ _))))⟩
      first | exact (apart_end HA.out).1 (by assumption) | exact (apart_end HA.out).2 (by assumption)
set_option maxRecDepth 100000 in
theorem order_t1 (c : Int) (s : ByteArray) (t : Int) (u : Int) (X Y : List UInt8) (HM : Hid (∀ w, Calls Try.prog 11 #[.agg #[.int .i64 c, .string s, .int .u64 t]] w fun e w' => e = .returned (.tuple #[.string (bs X), .int .i64 0]) ∧ Kept w w'))
    (HN : Hid (∀ w, Calls Try.prog 11 #[.agg #[.int .i64 c, .string s, .int .u64 u]] w fun e w' => e = .returned (.tuple #[.string (bs Y), .int .i64 0]) ∧ Kept w w'))
    (z1 : (bs X).size ≤ 4096) (z2 : (bs Y).size ≤ 4096) (HA : Hid (X.take (min X.length Y.length) = Y.take (min X.length Y.length) → False)) (e1 : ((bs X).toList == (bs Y).toList) = false)
    (d1 : decide (1024 < (s.size : Int)) = false) (d2 : decide (1024 < (s.size : Int)) = false)
    (q3 : Op.bytesLess s.toList s.toList = false) (q5 : decide (u < t) = true) (q6 : (t == u) = false) (hl : Op.bytesLess (bs X).toList (bs Y).toList = true) (w : World) :
    Calls Try.prog 6 #[.agg #[.int .i64 c, .string s, .int .u64 t], .agg #[.int .i64 c, .string s, .int .u64 u]] w fun e w' => e = .returned (.bool true) ∧ Kept w w' := by
    go_enter Try.func6, Try.ntmps6
    go_wp2_with fail
    refine (kawake_any _).mono ?_; rintro e w1 ⟨rfl, g1⟩
    obtain ⟨⟨c0, c1, c2⟩, b0, b1, b2⟩ := six g1
    go_wp2_with fail
    refine (HM.out _).mono ?_; rintro e w2 ⟨rfl, g2⟩
    clear c0 c1 c2 b0 b1 b2
    obtain ⟨⟨c0, c1, c2⟩, b0, b1, b2⟩ := six (kept_trans g1 g2)
    go_wp2_with fail
    refine (HN.out _).mono ?_; rintro e w3 ⟨rfl, g3⟩
    clear c0 c1 c2 b0 b1 b2
    obtain ⟨⟨c0, c1, c2⟩, b0, b1, b2⟩ := six (kept_trans g1 (kept_trans g2 g3))
    go_wp2_with fail
    all_goals
      go_quiet (fail)
      go_wp2_with fail
      go_ret
      refine ⟨ret_bool ?_, kept_trans (kept_two _ _ _) (kept_trans g1 (kept_trans g2 (kept_trans g3 (kept_drewN _ _))))⟩
      first | exact (apart_end HA.out).1 (by assumption) | exact (apart_end HA.out).2 (by assumption)
set_option maxRecDepth 100000 in
theorem order_t2 (c : Int) (s : ByteArray) (t : Int) (u : Int) (X Y : List UInt8) (HM : Hid (∀ w, Calls Try.prog 11 #[.agg #[.int .i64 c, .string s, .int .u64 t]] w fun e w' => e = .returned (.tuple #[.string (bs X), .int .i64 0]) ∧ Kept w w'))
    (HN : Hid (∀ w, Calls Try.prog 11 #[.agg #[.int .i64 c, .string s, .int .u64 u]] w fun e w' => e = .returned (.tuple #[.string (bs Y), .int .i64 0]) ∧ Kept w w'))
    (z1 : (bs X).size ≤ 4096) (z2 : (bs Y).size ≤ 4096) (HA : Hid (X.take (min X.length Y.length) = Y.take (min X.length Y.length) → False)) (e1 : ((bs X).toList == (bs Y).toList) = false)
    (d1 : decide (1024 < (s.size : Int)) = false) (d2 : decide (1024 < (s.size : Int)) = false)
    (q3 : Op.bytesLess s.toList s.toList = false) (q5 : decide (u < t) = false) (q6 : (t == u) = false) (hl : Op.bytesLess (bs X).toList (bs Y).toList = false) (w : World) :
    Calls Try.prog 6 #[.agg #[.int .i64 c, .string s, .int .u64 t], .agg #[.int .i64 c, .string s, .int .u64 u]] w fun e w' => e = .returned (.bool true) ∧ Kept w w' := by
    go_enter Try.func6, Try.ntmps6
    go_wp2_with fail
    refine (kawake_any _).mono ?_; rintro e w1 ⟨rfl, g1⟩
    obtain ⟨⟨c0, c1, c2⟩, b0, b1, b2⟩ := six g1
    go_wp2_with fail
    refine (HM.out _).mono ?_; rintro e w2 ⟨rfl, g2⟩
    clear c0 c1 c2 b0 b1 b2
    obtain ⟨⟨c0, c1, c2⟩, b0, b1, b2⟩ := six (kept_trans g1 g2)
    go_wp2_with fail
    refine (HN.out _).mono ?_; rintro e w3 ⟨rfl, g3⟩
    clear c0 c1 c2 b0 b1 b2
    obtain ⟨⟨c0, c1, c2⟩, b0, b1, b2⟩ := six (kept_trans g1 (kept_trans g2 g3))
    go_wp2_with fail
    all_goals
      go_quiet (fail)
      go_wp2_with fail
      go_ret
      refine ⟨ret_bool ?_, kept_trans (kept_two _ _ _) (kept_trans g1 (kept_trans g2 (kept_trans g3 (kept_drewN _ _))))⟩
      first | exact (apart_end HA.out).1 (by assumption) | exact (apart_end HA.out).2 (by assumption)
set_option maxRecDepth 100000 in
theorem order_eq (c : Int) (s : ByteArray) (t : Int) (X : List UInt8) (HM : Hid (∀ w, Calls Try.prog 11 #[.agg #[.int .i64 c, .string s, .int .u64 t]] w fun e w' => e = .returned (.tuple #[.string (bs X), .int .i64 0]) ∧ Kept w w'))
    (z1 : (bs X).size ≤ 4096) (d1 : decide (1024 < (s.size : Int)) = false)
    (q3 : Op.bytesLess s.toList s.toList = false) (hl : Op.bytesLess (bs X).toList (bs X).toList = false) (w : World) :
    Calls Try.prog 6 #[.agg #[.int .i64 c, .string s, .int .u64 t], .agg #[.int .i64 c, .string s, .int .u64 t]] w fun e w' => e = .returned (.bool true) ∧ Kept w w' := by
    go_enter Try.func6, Try.ntmps6
    go_wp2_with fail
    refine (kawake_any _).mono ?_; rintro e w1 ⟨rfl, g1⟩
    obtain ⟨⟨c0, c1, c2⟩, b0, b1, b2⟩ := six g1
    go_wp2_with fail
    refine (HM.out _).mono ?_; rintro e w2 ⟨rfl, g2⟩
    clear c0 c1 c2 b0 b1 b2
    obtain ⟨⟨c0, c1, c2⟩, b0, b1, b2⟩ := six (kept_trans g1 g2)
    go_wp2_with fail
    refine (HM.out _).mono ?_; rintro e w3 ⟨rfl, g3⟩
    clear c0 c1 c2 b0 b1 b2
    obtain ⟨⟨c0, c1, c2⟩, b0, b1, b2⟩ := six (kept_trans g1 (kept_trans g2 g3))
    go_wp2_with fail
    all_goals
      go_quiet (fail)
      go_wp2_with fail
      go_ret
      refine ⟨ret_bool ?_, kept_trans (kept_two _ _ _) (kept_trans g1 (kept_trans g2 (kept_trans g3 (kept_drewN _ _))))⟩
      simp
theorem KeyOrder_walk (c : Int) (s : ByteArray) (t : Int) (d : Int) (r : ByteArray) (u : Int) (w0 : (Lit.int .i64 c).wf = true) (w1 : s.size ≤ maxLen) (w2 : (Lit.int .u64 t).wf = true) (w3 : (Lit.int .i64 d).wf = true) (w4 : r.size ≤ maxLen) (w5 : (Lit.int .u64 u).wf = true) (w : World) :
    Calls Try.prog 6 #[.agg #[.int .i64 c, .string s, .int .u64 t], .agg #[.int .i64 d, .string r, .int .u64 u]] w fun e w' => e = .returned (.bool true) ∧ Kept w w' := by
  obtain ⟨t0, t1⟩ := bounds_u64 w2
  obtain ⟨u0, u1⟩ := bounds_u64 w5
  by_cases hsz : s.size ≤ 1024 ∧ r.size ≤ 1024
  · obtain ⟨hs, hr⟩ := hsz
    by_cases hk : Ky.Ok c s.data.toList t ∧ Ky.Ok d r.data.toList u
    · obtain ⟨h, k⟩ := hk
      have d1 : decide (1024 < (s.size : Int)) = false := by simp; omega
      have d2 : decide (1024 < (r.size : Int)) = false := by simp; omega
      have z1 : (bs (Ky.mk c s.data.toList t)).size ≤ 4096 := by
        have := (Ky.esc_len_may _ h.2.1).2
        rw [bs_size, Ky.mk, Ky.fst, List.length_append, List.length_cons, Ky.tail_len]; split <;> omega
      have z2 : (bs (Ky.mk d r.data.toList u)).size ≤ 4096 := by
        have := (Ky.esc_len_may _ k.2.1).2
        rw [bs_size, Ky.mk, Ky.fst, List.length_append, List.length_cons, Ky.tail_len]; split <;> omega
      have HM := kmake_any c s t w1 t0 t1
      have HN := kmake_any d r u w4 u0 u1
      rw [Ky.makeS_ok h, Ky.makeE_ok h] at HM
      rw [Ky.makeS_ok k, Ky.makeE_ok k] at HN
      have hl : Op.bytesLess (bs (Ky.mk c s.data.toList t)).toList (bs (Ky.mk d r.data.toList u)).toList = Ky.less c s.data.toList t d r.data.toList u := by
        rw [bs_toList, bs_toList]; exact Ky.mk_less h k
      unfold Ky.less at hl
      by_cases hne : c = d ∧ s.data.toList = r.data.toList ∧ t = u
      · obtain ⟨rfl, hsr, rfl⟩ := hne
        obtain rfl := data_inj hsr
        exact order_eq c s t _ HM z1 d1 (Ky.bytesLess_irrefl _) (Ky.bytesLess_irrefl _) w
      · have HA : Hid ((Ky.mk c s.data.toList t).take (min (Ky.mk c s.data.toList t).length (Ky.mk d r.data.toList u).length) = (Ky.mk d r.data.toList u).take (min (Ky.mk c s.data.toList t).length (Ky.mk d r.data.toList u).length) → False) := fun e => hne (Ky.mk_apart h k e)
        have e1 : ((bs (Ky.mk c s.data.toList t)).toList == (bs (Ky.mk d r.data.toList u)).toList) = false := by
          rw [bs_toList, bs_toList, beq_eq_false_iff_ne]
          exact fun e => hne (Ky.mk_inj h k e.symm)
        by_cases hc : c = d
        · subst hc
          by_cases hu : s.data.toList = r.data.toList
          · obtain rfl := data_inj hu
            have htu : t ≠ u := fun e => hne ⟨rfl, rfl, e⟩
            have q6 : (t == u) = false := by rw [beq_eq_false_iff_ne]; exact htu
            rw [Ky.bytesLess_irrefl] at hl
            simp only [Int.lt_irrefl, decide_false, decide_true, Bool.false_or, Bool.true_and] at hl
            by_cases hlt : u < t
            · rw [decide_eq_true hlt] at hl
              exact order_t1 c s t u _ _ HM HN z1 z2 HA e1 d1 d2 (Ky.bytesLess_irrefl _) (decide_eq_true hlt) q6 hl w
            · rw [decide_eq_false hlt] at hl
              exact order_t2 c s t u _ _ HM HN z1 z2 HA e1 d1 d2 (Ky.bytesLess_irrefl _) (decide_eq_false hlt) q6 hl w
          · have q4 : (s.toList == r.toList) = false := by rw [Lib.toList_data, Lib.toList_data, beq_eq_false_iff_ne]; exact hu
            simp only [Int.lt_irrefl, decide_false, decide_true, Bool.false_or, Bool.true_and, hu, Bool.false_and, Bool.or_false] at hl
            rcases Bool.eq_false_or_eq_true (Op.bytesLess s.data.toList r.data.toList) with q3 | q3
            · rw [q3] at hl
              exact order_u1 c s t r u _ _ HM HN z1 z2 HA e1 d1 d2 (by rw [Lib.toList_data, Lib.toList_data]; exact q3) q4 hl w
            · rw [q3] at hl
              exact order_u2 c s t r u _ _ HM HN z1 z2 HA e1 d1 d2 (by rw [Lib.toList_data, Lib.toList_data]; exact q3) q4 hl w
        · have q2 : (c == d) = false := by rw [beq_eq_false_iff_ne]; exact hc
          rw [decide_eq_false hc, Bool.false_and, Bool.or_false] at hl
          by_cases hlt : c < d
          · rw [decide_eq_true hlt] at hl
            exact order_c1 c s t d r u _ _ HM HN z1 z2 HA e1 d1 d2 (decide_eq_true hlt) q2 hl w
          · rw [decide_eq_false hlt] at hl
            exact order_c2 c s t d r u _ _ HM HN z1 z2 HA e1 d1 d2 (decide_eq_false hlt) q2 hl w
    · exact order_no c s t d r u hs hr t0 t1 u0 u1 hk w
  · exact order_big c s t d r u w1 w4 hsz w
end Go.Proofs.Ytfllijckoabnmaa
