/-
  The walk of the statement KeyBounds: it answers true for every two parts.
-/
import Derived.Test.YtfllijckoabnmaaKeyLawOrder
import Derived.OpenShut
namespace Go.Proofs.Ytfllijckoabnmaa
open Go.ChangeShapes Go.WideShapes Go.ChangeAt Go.RowKit
set_option linter.unusedVariables false
set_option maxHeartbeats 400000
set_option maxRecDepth 100000 in
theorem bounds_big (c : Int) (s : ByteArray) (t : Int) (d : Int) (r : ByteArray) (u : Int) (hs : s.size ≤ maxLen) (hr : r.size ≤ maxLen) (h : ¬ (s.size ≤ 1024 ∧ r.size ≤ 1024)) (w : World) :
    Calls Try.prog 7 #[.agg #[.int .i64 c, .string s, .int .u64 t], .agg #[.int .i64 d, .string r, .int .u64 u]] w fun e w' => e = .returned (.bool true) ∧ Kept w w' := by
  unfold maxLen at hs hr
  by_cases h0 : s.size ≤ 1024
  · have h1 : ¬ r.size ≤ 1024 := fun h1 => h ⟨h0, h1⟩
    clear h
    go_enter Try.func7, Try.ntmps7
    go_wp2_with fail
    refine (kawake_any _).mono ?_; rintro e w1 ⟨rfl, g1⟩
    obtain ⟨⟨c0, c1, c2⟩, b0, b1, b2⟩ := six g1
    go_wp2_with fail
    go_ret
    exact ⟨rfl, kept_trans (kept_two _ _ _) g1⟩
  · clear h
    go_enter Try.func7, Try.ntmps7
    go_wp2_with fail
    refine (kawake_any _).mono ?_; rintro e w1 ⟨rfl, g1⟩
    obtain ⟨⟨c0, c1, c2⟩, b0, b1, b2⟩ := six g1
    go_wp2_with fail
    go_ret
    exact ⟨rfl, kept_trans (kept_two _ _ _) g1⟩
set_option maxRecDepth 100000 in
theorem bounds_fam1 (c : Int) (s : ByteArray) (t : Int) (d : Int) (r : ByteArray) (u : Int) (L M S : List UInt8) (z : Int)
    (HF : Hid (∀ w, Calls Try.prog 16 #[.int .i64 c, .string s] w fun e w' => e = .returned (.tuple #[.string (bs []), .int .i64 1]) ∧ Kept w w'))
    (HB : Hid (∀ w, Calls Try.prog 18 #[.int .i64 c, .string s] w fun e w' => e = .returned (.tuple #[.string (bs []), .int .i64 1]) ∧ Kept w w'))
    (HL : Hid (∀ w, Calls Try.prog 26 #[.int .i64 c] w fun e w' => e = .returned (.tuple #[.string (bs L), .string (bs M), .int .i64 1]) ∧ Kept w w'))
    (HM : Hid (∀ w, Calls Try.prog 11 #[.agg #[.int .i64 d, .string r, .int .u64 u]] w fun e w' => e = .returned (.tuple #[.string (bs S), .int .i64 z]) ∧ Kept w w'))
    (d1 : decide (1024 < (s.size : Int)) = false) (d2 : decide (1024 < (r.size : Int)) = false) (hE : ((bs []).toList == []) = true) (q1 : decide (1 ≤ c) = false) (w : World) :
    Calls Try.prog 7 #[.agg #[.int .i64 c, .string s, .int .u64 t], .agg #[.int .i64 d, .string r, .int .u64 u]] w fun e w' => e = .returned (.bool true) ∧ Kept w w' := by
  go_enter Try.func7, Try.ntmps7
  go_wp2_with fail
  refine (kawake_any _).mono ?_; rintro e w1 ⟨rfl, g1⟩
  obtain ⟨⟨c0, c1, c2⟩, b0, b1, b2⟩ := six g1
  go_wp2_with fail
  refine (HF.out _).mono ?_; rintro e w2 ⟨rfl, g2⟩
  clear c0 c1 c2 b0 b1 b2
  obtain ⟨⟨c0, c1, c2⟩, b0, b1, b2⟩ := six (kept_trans g1 g2)
  go_wp2_with fail
  refine (HB.out _).mono ?_; rintro e w3 ⟨rfl, g3⟩
  clear c0 c1 c2 b0 b1 b2
  obtain ⟨⟨c0, c1, c2⟩, b0, b1, b2⟩ := six (kept_trans g1 (kept_trans g2 g3))
  go_wp2_with fail
  refine (HL.out _).mono ?_; rintro e w4 ⟨rfl, g4⟩
  clear c0 c1 c2 b0 b1 b2
  obtain ⟨⟨c0, c1, c2⟩, b0, b1, b2⟩ := six (kept_trans g1 (kept_trans g2 (kept_trans g3 g4)))
  go_wp2_with fail
  refine (HM.out _).mono ?_; rintro e w5 ⟨rfl, g5⟩
  clear c0 c1 c2 b0 b1 b2
  obtain ⟨⟨c0, c1, c2⟩, b0, b1, b2⟩ := six (kept_trans g1 (kept_trans g2 (kept_trans g3 (kept_trans g4 g5))))
  go_wp2_with fail
  go_ret
  exact ⟨rfl, kept_trans (kept_two _ _ _) (kept_trans g1 (kept_trans g2 (kept_trans g3 (kept_trans g4 g5))))⟩
set_option maxRecDepth 100000 in
theorem bounds_fam2 (c : Int) (s : ByteArray) (t : Int) (d : Int) (r : ByteArray) (u : Int) (L M S : List UInt8) (z : Int)
    (HF : Hid (∀ w, Calls Try.prog 16 #[.int .i64 c, .string s] w fun e w' => e = .returned (.tuple #[.string (bs []), .int .i64 1]) ∧ Kept w w'))
    (HB : Hid (∀ w, Calls Try.prog 18 #[.int .i64 c, .string s] w fun e w' => e = .returned (.tuple #[.string (bs []), .int .i64 1]) ∧ Kept w w'))
    (HL : Hid (∀ w, Calls Try.prog 26 #[.int .i64 c] w fun e w' => e = .returned (.tuple #[.string (bs L), .string (bs M), .int .i64 1]) ∧ Kept w w'))
    (HM : Hid (∀ w, Calls Try.prog 11 #[.agg #[.int .i64 d, .string r, .int .u64 u]] w fun e w' => e = .returned (.tuple #[.string (bs S), .int .i64 z]) ∧ Kept w w'))
    (d1 : decide (1024 < (s.size : Int)) = false) (d2 : decide (1024 < (r.size : Int)) = false) (hE : ((bs []).toList == []) = true) (q1 : decide (1 ≤ c) = true) (q2 : decide (c ≤ 4) = false) (w : World) :
    Calls Try.prog 7 #[.agg #[.int .i64 c, .string s, .int .u64 t], .agg #[.int .i64 d, .string r, .int .u64 u]] w fun e w' => e = .returned (.bool true) ∧ Kept w w' := by
  go_enter Try.func7, Try.ntmps7
  go_wp2_with fail
  refine (kawake_any _).mono ?_; rintro e w1 ⟨rfl, g1⟩
  obtain ⟨⟨c0, c1, c2⟩, b0, b1, b2⟩ := six g1
  go_wp2_with fail
  refine (HF.out _).mono ?_; rintro e w2 ⟨rfl, g2⟩
  clear c0 c1 c2 b0 b1 b2
  obtain ⟨⟨c0, c1, c2⟩, b0, b1, b2⟩ := six (kept_trans g1 g2)
  go_wp2_with fail
  refine (HB.out _).mono ?_; rintro e w3 ⟨rfl, g3⟩
  clear c0 c1 c2 b0 b1 b2
  obtain ⟨⟨c0, c1, c2⟩, b0, b1, b2⟩ := six (kept_trans g1 (kept_trans g2 g3))
  go_wp2_with fail
  refine (HL.out _).mono ?_; rintro e w4 ⟨rfl, g4⟩
  clear c0 c1 c2 b0 b1 b2
  obtain ⟨⟨c0, c1, c2⟩, b0, b1, b2⟩ := six (kept_trans g1 (kept_trans g2 (kept_trans g3 g4)))
  go_wp2_with fail
  refine (HM.out _).mono ?_; rintro e w5 ⟨rfl, g5⟩
  clear c0 c1 c2 b0 b1 b2
  obtain ⟨⟨c0, c1, c2⟩, b0, b1, b2⟩ := six (kept_trans g1 (kept_trans g2 (kept_trans g3 (kept_trans g4 g5))))
  go_wp2_with fail
  go_ret
  exact ⟨rfl, kept_trans (kept_two _ _ _) (kept_trans g1 (kept_trans g2 (kept_trans g3 (kept_trans g4 g5))))⟩
set_option maxRecDepth 100000 in
theorem bounds_key (c : Int) (s : ByteArray) (t : Int) (d : Int) (r : ByteArray) (u : Int) (L M S : List UInt8) (z : Int)
    (HF : Hid (∀ w, Calls Try.prog 16 #[.int .i64 c, .string s] w fun e w' => e = .returned (.tuple #[.string (bs []), .int .i64 20]) ∧ Kept w w'))
    (HB : Hid (∀ w, Calls Try.prog 18 #[.int .i64 c, .string s] w fun e w' => e = .returned (.tuple #[.string (bs []), .int .i64 20]) ∧ Kept w w'))
    (HL : Hid (∀ w, Calls Try.prog 26 #[.int .i64 c] w fun e w' => e = .returned (.tuple #[.string (bs L), .string (bs M), .int .i64 0]) ∧ Kept w w'))
    (HM : Hid (∀ w, Calls Try.prog 11 #[.agg #[.int .i64 d, .string r, .int .u64 u]] w fun e w' => e = .returned (.tuple #[.string (bs S), .int .i64 z]) ∧ Kept w w'))
    (d1 : decide (1024 < (s.size : Int)) = false) (d2 : decide (1024 < (r.size : Int)) = false) (hE : ((bs []).toList == []) = true) (q1 : decide (1 ≤ c) = true) (q2 : decide (c ≤ 4) = true) (w : World) :
    Calls Try.prog 7 #[.agg #[.int .i64 c, .string s, .int .u64 t], .agg #[.int .i64 d, .string r, .int .u64 u]] w fun e w' => e = .returned (.bool true) ∧ Kept w w' := by
  go_enter Try.func7, Try.ntmps7
  go_wp2_with fail
  refine (kawake_any _).mono ?_; rintro e w1 ⟨rfl, g1⟩
  obtain ⟨⟨c0, c1, c2⟩, b0, b1, b2⟩ := six g1
  go_wp2_with fail
  refine (HF.out _).mono ?_; rintro e w2 ⟨rfl, g2⟩
  clear c0 c1 c2 b0 b1 b2
  obtain ⟨⟨c0, c1, c2⟩, b0, b1, b2⟩ := six (kept_trans g1 g2)
  go_wp2_with fail
  refine (HB.out _).mono ?_; rintro e w3 ⟨rfl, g3⟩
  clear c0 c1 c2 b0 b1 b2
  obtain ⟨⟨c0, c1, c2⟩, b0, b1, b2⟩ := six (kept_trans g1 (kept_trans g2 g3))
  go_wp2_with fail
  refine (HL.out _).mono ?_; rintro e w4 ⟨rfl, g4⟩
  clear c0 c1 c2 b0 b1 b2
  obtain ⟨⟨c0, c1, c2⟩, b0, b1, b2⟩ := six (kept_trans g1 (kept_trans g2 (kept_trans g3 g4)))
  go_wp2_with fail
  refine (HM.out _).mono ?_; rintro e w5 ⟨rfl, g5⟩
  clear c0 c1 c2 b0 b1 b2
  obtain ⟨⟨c0, c1, c2⟩, b0, b1, b2⟩ := six (kept_trans g1 (kept_trans g2 (kept_trans g3 (kept_trans g4 g5))))
  go_wp2_with fail
  go_ret
  exact ⟨rfl, kept_trans (kept_two _ _ _) (kept_trans g1 (kept_trans g2 (kept_trans g3 (kept_trans g4 g5))))⟩
set_option maxRecDepth 100000 in
theorem bounds_q (c : Int) (s : ByteArray) (t : Int) (d : Int) (r : ByteArray) (u : Int) (F B L M S : List UInt8) (z : Int)
    (HF : Hid (∀ w, Calls Try.prog 16 #[.int .i64 c, .string s] w fun e w' => e = .returned (.tuple #[.string (bs F), .int .i64 0]) ∧ Kept w w'))
    (HB : Hid (∀ w, Calls Try.prog 18 #[.int .i64 c, .string s] w fun e w' => e = .returned (.tuple #[.string (bs B), .int .i64 0]) ∧ Kept w w'))
    (HL : Hid (∀ w, Calls Try.prog 26 #[.int .i64 c] w fun e w' => e = .returned (.tuple #[.string (bs L), .string (bs M), .int .i64 0]) ∧ Kept w w'))
    (HM : Hid (∀ w, Calls Try.prog 11 #[.agg #[.int .i64 d, .string r, .int .u64 u]] w fun e w' => e = .returned (.tuple #[.string (bs S), .int .i64 z]) ∧ Kept w w'))
    (d1 : decide (1024 < (s.size : Int)) = false) (d2 : decide (1024 < (r.size : Int)) = false) (q1 : decide (1 ≤ c) = true) (q2 : decide (c ≤ 4) = true) (hz : (z != 0) = true) (w : World) :
    Calls Try.prog 7 #[.agg #[.int .i64 c, .string s, .int .u64 t], .agg #[.int .i64 d, .string r, .int .u64 u]] w fun e w' => e = .returned (.bool true) ∧ Kept w w' := by
  go_enter Try.func7, Try.ntmps7
  go_wp2_with fail
  refine (kawake_any _).mono ?_; rintro e w1 ⟨rfl, g1⟩
  obtain ⟨⟨c0, c1, c2⟩, b0, b1, b2⟩ := six g1
  go_wp2_with fail
  refine (HF.out _).mono ?_; rintro e w2 ⟨rfl, g2⟩
  clear c0 c1 c2 b0 b1 b2
  obtain ⟨⟨c0, c1, c2⟩, b0, b1, b2⟩ := six (kept_trans g1 g2)
  go_wp2_with fail
  refine (HB.out _).mono ?_; rintro e w3 ⟨rfl, g3⟩
  clear c0 c1 c2 b0 b1 b2
  obtain ⟨⟨c0, c1, c2⟩, b0, b1, b2⟩ := six (kept_trans g1 (kept_trans g2 g3))
  go_wp2_with fail
  refine (HL.out _).mono ?_; rintro e w4 ⟨rfl, g4⟩
  clear c0 c1 c2 b0 b1 b2
  obtain ⟨⟨c0, c1, c2⟩, b0, b1, b2⟩ := six (kept_trans g1 (kept_trans g2 (kept_trans g3 g4)))
  go_wp2_with fail
  refine (HM.out _).mono ?_; rintro e w5 ⟨rfl, g5⟩
  clear c0 c1 c2 b0 b1 b2
  obtain ⟨⟨c0, c1, c2⟩, b0, b1, b2⟩ := six (kept_trans g1 (kept_trans g2 (kept_trans g3 (kept_trans g4 g5))))
  go_wp2_with fail
  go_ret
  exact ⟨rfl, kept_trans (kept_two _ _ _) (kept_trans g1 (kept_trans g2 (kept_trans g3 (kept_trans g4 g5))))⟩
set_option maxRecDepth 100000 in
theorem bounds_c1 (c : Int) (s : ByteArray) (t : Int) (d : Int) (r : ByteArray) (u : Int) (F B L M S : List UInt8)
    (HF : Hid (∀ w, Calls Try.prog 16 #[.int .i64 c, .string s] w fun e w' => e = .returned (.tuple #[.string (bs F), .int .i64 0]) ∧ Kept w w'))
    (HB : Hid (∀ w, Calls Try.prog 18 #[.int .i64 c, .string s] w fun e w' => e = .returned (.tuple #[.string (bs B), .int .i64 0]) ∧ Kept w w'))
    (HL : Hid (∀ w, Calls Try.prog 26 #[.int .i64 c] w fun e w' => e = .returned (.tuple #[.string (bs L), .string (bs M), .int .i64 0]) ∧ Kept w w'))
    (HM : Hid (∀ w, Calls Try.prog 11 #[.agg #[.int .i64 d, .string r, .int .u64 u]] w fun e w' => e = .returned (.tuple #[.string (bs S), .int .i64 0]) ∧ Kept w w'))
    (d1 : decide (1024 < (s.size : Int)) = false) (d2 : decide (1024 < (r.size : Int)) = false) (q1 : decide (1 ≤ c) = true) (q2 : decide (c ≤ 4) = true)
    (l1 : Op.bytesLess (bs S).toList (bs F).toList = true) (l2 : Op.bytesLess (bs S).toList (bs B).toList = true) (l3 : Op.bytesLess (bs S).toList (bs L).toList = true) (l4 : Op.bytesLess (bs S).toList (bs M).toList = true) (q3 : (d == c) = false) (w : World) :
    Calls Try.prog 7 #[.agg #[.int .i64 c, .string s, .int .u64 t], .agg #[.int .i64 d, .string r, .int .u64 u]] w fun e w' => e = .returned (.bool true) ∧ Kept w w' := by
  go_enter Try.func7, Try.ntmps7
  go_wp2_with fail
  refine (kawake_any _).mono ?_; rintro e w1 ⟨rfl, g1⟩
  obtain ⟨⟨c0, c1, c2⟩, b0, b1, b2⟩ := six g1
  go_wp2_with fail
  refine (HF.out _).mono ?_; rintro e w2 ⟨rfl, g2⟩
  clear c0 c1 c2 b0 b1 b2
  obtain ⟨⟨c0, c1, c2⟩, b0, b1, b2⟩ := six (kept_trans g1 g2)
  go_wp2_with fail
  refine (HB.out _).mono ?_; rintro e w3 ⟨rfl, g3⟩
  clear c0 c1 c2 b0 b1 b2
  obtain ⟨⟨c0, c1, c2⟩, b0, b1, b2⟩ := six (kept_trans g1 (kept_trans g2 g3))
  go_wp2_with fail
  refine (HL.out _).mono ?_; rintro e w4 ⟨rfl, g4⟩
  clear c0 c1 c2 b0 b1 b2
  obtain ⟨⟨c0, c1, c2⟩, b0, b1, b2⟩ := six (kept_trans g1 (kept_trans g2 (kept_trans g3 g4)))
  go_wp2_with fail
  refine (HM.out _).mono ?_; rintro e w5 ⟨rfl, g5⟩
  clear c0 c1 c2 b0 b1 b2
  obtain ⟨⟨c0, c1, c2⟩, b0, b1, b2⟩ := six (kept_trans g1 (kept_trans g2 (kept_trans g3 (kept_trans g4 g5))))
  go_wp2_with fail
  go_ret
  exact ⟨rfl, kept_trans (kept_two _ _ _) (kept_trans g1 (kept_trans g2 (kept_trans g3 (kept_trans g4 g5))))⟩
set_option maxRecDepth 100000 in
theorem bounds_c2 (c : Int) (s : ByteArray) (t : Int) (d : Int) (r : ByteArray) (u : Int) (F B L M S : List UInt8)
    (HF : Hid (∀ w, Calls Try.prog 16 #[.int .i64 c, .string s] w fun e w' => e = .returned (.tuple #[.string (bs F), .int .i64 0]) ∧ Kept w w'))
    (HB : Hid (∀ w, Calls Try.prog 18 #[.int .i64 c, .string s] w fun e w' => e = .returned (.tuple #[.string (bs B), .int .i64 0]) ∧ Kept w w'))
    (HL : Hid (∀ w, Calls Try.prog 26 #[.int .i64 c] w fun e w' => e = .returned (.tuple #[.string (bs L), .string (bs M), .int .i64 0]) ∧ Kept w w'))
    (HM : Hid (∀ w, Calls Try.prog 11 #[.agg #[.int .i64 d, .string r, .int .u64 u]] w fun e w' => e = .returned (.tuple #[.string (bs S), .int .i64 0]) ∧ Kept w w'))
    (d1 : decide (1024 < (s.size : Int)) = false) (d2 : decide (1024 < (r.size : Int)) = false) (q1 : decide (1 ≤ c) = true) (q2 : decide (c ≤ 4) = true)
    (l1 : Op.bytesLess (bs S).toList (bs F).toList = false) (l2 : Op.bytesLess (bs S).toList (bs B).toList = false) (l3 : Op.bytesLess (bs S).toList (bs L).toList = false) (l4 : Op.bytesLess (bs S).toList (bs M).toList = false) (q3 : (d == c) = false) (w : World) :
    Calls Try.prog 7 #[.agg #[.int .i64 c, .string s, .int .u64 t], .agg #[.int .i64 d, .string r, .int .u64 u]] w fun e w' => e = .returned (.bool true) ∧ Kept w w' := by
  go_enter Try.func7, Try.ntmps7
  go_wp2_with fail
  refine (kawake_any _).mono ?_; rintro e w1 ⟨rfl, g1⟩
  obtain ⟨⟨c0, c1, c2⟩, b0, b1, b2⟩ := six g1
  go_wp2_with fail
  refine (HF.out _).mono ?_; rintro e w2 ⟨rfl, g2⟩
  clear c0 c1 c2 b0 b1 b2
  obtain ⟨⟨c0, c1, c2⟩, b0, b1, b2⟩ := six (kept_trans g1 g2)
  go_wp2_with fail
  refine (HB.out _).mono ?_; rintro e w3 ⟨rfl, g3⟩
  clear c0 c1 c2 b0 b1 b2
  obtain ⟨⟨c0, c1, c2⟩, b0, b1, b2⟩ := six (kept_trans g1 (kept_trans g2 g3))
  go_wp2_with fail
  refine (HL.out _).mono ?_; rintro e w4 ⟨rfl, g4⟩
  clear c0 c1 c2 b0 b1 b2
  obtain ⟨⟨c0, c1, c2⟩, b0, b1, b2⟩ := six (kept_trans g1 (kept_trans g2 (kept_trans g3 g4)))
  go_wp2_with fail
  refine (HM.out _).mono ?_; rintro e w5 ⟨rfl, g5⟩
  clear c0 c1 c2 b0 b1 b2
  obtain ⟨⟨c0, c1, c2⟩, b0, b1, b2⟩ := six (kept_trans g1 (kept_trans g2 (kept_trans g3 (kept_trans g4 g5))))
  go_wp2_with fail
  go_ret
  exact ⟨rfl, kept_trans (kept_two _ _ _) (kept_trans g1 (kept_trans g2 (kept_trans g3 (kept_trans g4 g5))))⟩
set_option maxRecDepth 100000 in
theorem bounds_u1 (c : Int) (s : ByteArray) (t : Int) (r : ByteArray) (u : Int) (F B L M S : List UInt8)
    (HF : Hid (∀ w, Calls Try.prog 16 #[.int .i64 c, .string s] w fun e w' => e = .returned (.tuple #[.string (bs F), .int .i64 0]) ∧ Kept w w'))
    (HB : Hid (∀ w, Calls Try.prog 18 #[.int .i64 c, .string s] w fun e w' => e = .returned (.tuple #[.string (bs B), .int .i64 0]) ∧ Kept w w'))
    (HL : Hid (∀ w, Calls Try.prog 26 #[.int .i64 c] w fun e w' => e = .returned (.tuple #[.string (bs L), .string (bs M), .int .i64 0]) ∧ Kept w w'))
    (HM : Hid (∀ w, Calls Try.prog 11 #[.agg #[.int .i64 c, .string r, .int .u64 u]] w fun e w' => e = .returned (.tuple #[.string (bs S), .int .i64 0]) ∧ Kept w w'))
    (d1 : decide (1024 < (s.size : Int)) = false) (d2 : decide (1024 < (r.size : Int)) = false) (q1 : decide (1 ≤ c) = true) (q2 : decide (c ≤ 4) = true)
    (l1 : Op.bytesLess (bs S).toList (bs F).toList = true) (l2 : Op.bytesLess (bs S).toList (bs B).toList = true) (l3 : Op.bytesLess (bs S).toList (bs L).toList = false) (l4 : Op.bytesLess (bs S).toList (bs M).toList = true) (q3 : (r.toList == s.toList) = false) (w : World) :
    Calls Try.prog 7 #[.agg #[.int .i64 c, .string s, .int .u64 t], .agg #[.int .i64 c, .string r, .int .u64 u]] w fun e w' => e = .returned (.bool true) ∧ Kept w w' := by
  go_enter Try.func7, Try.ntmps7
  go_wp2_with fail
  refine (kawake_any _).mono ?_; rintro e w1 ⟨rfl, g1⟩
  obtain ⟨⟨c0, c1, c2⟩, b0, b1, b2⟩ := six g1
  go_wp2_with fail
  refine (HF.out _).mono ?_; rintro e w2 ⟨rfl, g2⟩
  clear c0 c1 c2 b0 b1 b2
  obtain ⟨⟨c0, c1, c2⟩, b0, b1, b2⟩ := six (kept_trans g1 g2)
  go_wp2_with fail
  refine (HB.out _).mono ?_; rintro e w3 ⟨rfl, g3⟩
  clear c0 c1 c2 b0 b1 b2
  obtain ⟨⟨c0, c1, c2⟩, b0, b1, b2⟩ := six (kept_trans g1 (kept_trans g2 g3))
  go_wp2_with fail
  refine (HL.out _).mono ?_; rintro e w4 ⟨rfl, g4⟩
  clear c0 c1 c2 b0 b1 b2
  obtain ⟨⟨c0, c1, c2⟩, b0, b1, b2⟩ := six (kept_trans g1 (kept_trans g2 (kept_trans g3 g4)))
  go_wp2_with fail
  refine (HM.out _).mono ?_; rintro e w5 ⟨rfl, g5⟩
  clear c0 c1 c2 b0 b1 b2
  obtain ⟨⟨c0, c1, c2⟩, b0, b1, b2⟩ := six (kept_trans g1 (kept_trans g2 (kept_trans g3 (kept_trans g4 g5))))
  go_wp2_with fail
  go_ret
  exact ⟨rfl, kept_trans (kept_two _ _ _) (kept_trans g1 (kept_trans g2 (kept_trans g3 (kept_trans g4 g5))))⟩
set_option maxRecDepth 100000 in
theorem bounds_u2 (c : Int) (s : ByteArray) (t : Int) (r : ByteArray) (u : Int) (F B L M S : List UInt8)
    (HF : Hid (∀ w, Calls Try.prog 16 #[.int .i64 c, .string s] w fun e w' => e = .returned (.tuple #[.string (bs F), .int .i64 0]) ∧ Kept w w'))
    (HB : Hid (∀ w, Calls Try.prog 18 #[.int .i64 c, .string s] w fun e w' => e = .returned (.tuple #[.string (bs B), .int .i64 0]) ∧ Kept w w'))
    (HL : Hid (∀ w, Calls Try.prog 26 #[.int .i64 c] w fun e w' => e = .returned (.tuple #[.string (bs L), .string (bs M), .int .i64 0]) ∧ Kept w w'))
    (HM : Hid (∀ w, Calls Try.prog 11 #[.agg #[.int .i64 c, .string r, .int .u64 u]] w fun e w' => e = .returned (.tuple #[.string (bs S), .int .i64 0]) ∧ Kept w w'))
    (d1 : decide (1024 < (s.size : Int)) = false) (d2 : decide (1024 < (r.size : Int)) = false) (q1 : decide (1 ≤ c) = true) (q2 : decide (c ≤ 4) = true)
    (l1 : Op.bytesLess (bs S).toList (bs F).toList = false) (l2 : Op.bytesLess (bs S).toList (bs B).toList = false) (l3 : Op.bytesLess (bs S).toList (bs L).toList = false) (l4 : Op.bytesLess (bs S).toList (bs M).toList = true) (q3 : (r.toList == s.toList) = false) (w : World) :
    Calls Try.prog 7 #[.agg #[.int .i64 c, .string s, .int .u64 t], .agg #[.int .i64 c, .string r, .int .u64 u]] w fun e w' => e = .returned (.bool true) ∧ Kept w w' := by
  go_enter Try.func7, Try.ntmps7
  go_wp2_with fail
  refine (kawake_any _).mono ?_; rintro e w1 ⟨rfl, g1⟩
  obtain ⟨⟨c0, c1, c2⟩, b0, b1, b2⟩ := six g1
  go_wp2_with fail
  refine (HF.out _).mono ?_; rintro e w2 ⟨rfl, g2⟩
  clear c0 c1 c2 b0 b1 b2
  obtain ⟨⟨c0, c1, c2⟩, b0, b1, b2⟩ := six (kept_trans g1 g2)
  go_wp2_with fail
  refine (HB.out _).mono ?_; rintro e w3 ⟨rfl, g3⟩
  clear c0 c1 c2 b0 b1 b2
  obtain ⟨⟨c0, c1, c2⟩, b0, b1, b2⟩ := six (kept_trans g1 (kept_trans g2 g3))
  go_wp2_with fail
  refine (HL.out _).mono ?_; rintro e w4 ⟨rfl, g4⟩
  clear c0 c1 c2 b0 b1 b2
  obtain ⟨⟨c0, c1, c2⟩, b0, b1, b2⟩ := six (kept_trans g1 (kept_trans g2 (kept_trans g3 g4)))
  go_wp2_with fail
  refine (HM.out _).mono ?_; rintro e w5 ⟨rfl, g5⟩
  clear c0 c1 c2 b0 b1 b2
  obtain ⟨⟨c0, c1, c2⟩, b0, b1, b2⟩ := six (kept_trans g1 (kept_trans g2 (kept_trans g3 (kept_trans g4 g5))))
  go_wp2_with fail
  go_ret
  exact ⟨rfl, kept_trans (kept_two _ _ _) (kept_trans g1 (kept_trans g2 (kept_trans g3 (kept_trans g4 g5))))⟩
set_option maxRecDepth 100000 in
theorem bounds_eq (c : Int) (s : ByteArray) (t : Int) (u : Int) (F B L M S : List UInt8)
    (HF : Hid (∀ w, Calls Try.prog 16 #[.int .i64 c, .string s] w fun e w' => e = .returned (.tuple #[.string (bs F), .int .i64 0]) ∧ Kept w w'))
    (HB : Hid (∀ w, Calls Try.prog 18 #[.int .i64 c, .string s] w fun e w' => e = .returned (.tuple #[.string (bs B), .int .i64 0]) ∧ Kept w w'))
    (HL : Hid (∀ w, Calls Try.prog 26 #[.int .i64 c] w fun e w' => e = .returned (.tuple #[.string (bs L), .string (bs M), .int .i64 0]) ∧ Kept w w'))
    (HM : Hid (∀ w, Calls Try.prog 11 #[.agg #[.int .i64 c, .string s, .int .u64 u]] w fun e w' => e = .returned (.tuple #[.string (bs S), .int .i64 0]) ∧ Kept w w'))
    (d1 : decide (1024 < (s.size : Int)) = false) (d2 : decide (1024 < (s.size : Int)) = false) (q1 : decide (1 ≤ c) = true) (q2 : decide (c ≤ 4) = true)
    (l1 : Op.bytesLess (bs S).toList (bs F).toList = false) (l2 : Op.bytesLess (bs S).toList (bs B).toList = true) (l3 : Op.bytesLess (bs S).toList (bs L).toList = false) (l4 : Op.bytesLess (bs S).toList (bs M).toList = true) (w : World) :
    Calls Try.prog 7 #[.agg #[.int .i64 c, .string s, .int .u64 t], .agg #[.int .i64 c, .string s, .int .u64 u]] w fun e w' => e = .returned (.bool true) ∧ Kept w w' := by
  go_enter Try.func7, Try.ntmps7
  go_wp2_with fail
  refine (kawake_any _).mono ?_; rintro e w1 ⟨rfl, g1⟩
  obtain ⟨⟨c0, c1, c2⟩, b0, b1, b2⟩ := six g1
  go_wp2_with fail
  refine (HF.out _).mono ?_; rintro e w2 ⟨rfl, g2⟩
  clear c0 c1 c2 b0 b1 b2
  obtain ⟨⟨c0, c1, c2⟩, b0, b1, b2⟩ := six (kept_trans g1 g2)
  go_wp2_with fail
  refine (HB.out _).mono ?_; rintro e w3 ⟨rfl, g3⟩
  clear c0 c1 c2 b0 b1 b2
  obtain ⟨⟨c0, c1, c2⟩, b0, b1, b2⟩ := six (kept_trans g1 (kept_trans g2 g3))
  go_wp2_with fail
  refine (HL.out _).mono ?_; rintro e w4 ⟨rfl, g4⟩
  clear c0 c1 c2 b0 b1 b2
  obtain ⟨⟨c0, c1, c2⟩, b0, b1, b2⟩ := six (kept_trans g1 (kept_trans g2 (kept_trans g3 g4)))
  go_wp2_with fail
  refine (HM.out _).mono ?_; rintro e w5 ⟨rfl, g5⟩
  clear c0 c1 c2 b0 b1 b2
  obtain ⟨⟨c0, c1, c2⟩, b0, b1, b2⟩ := six (kept_trans g1 (kept_trans g2 (kept_trans g3 (kept_trans g4 g5))))
  go_wp2_with fail
  go_ret
  exact ⟨rfl, kept_trans (kept_two _ _ _) (kept_trans g1 (kept_trans g2 (kept_trans g3 (kept_trans g4 g5))))⟩
theorem KeyBounds_walk (c : Int) (s : ByteArray) (t : Int) (d : Int) (r : ByteArray) (u : Int) (w0 : (Lit.int .i64 c).wf = true) (w1 : s.size ≤ maxLen) (w2 : (Lit.int .u64 t).wf = true) (w3 : (Lit.int .i64 d).wf = true) (w4 : r.size ≤ maxLen) (w5 : (Lit.int .u64 u).wf = true) (w : World) :
    Calls Try.prog 7 #[.agg #[.int .i64 c, .string s, .int .u64 t], .agg #[.int .i64 d, .string r, .int .u64 u]] w fun e w' => e = .returned (.bool true) ∧ Kept w w' := by
  obtain ⟨t0, t1⟩ := bounds_u64 w2
  obtain ⟨u0, u1⟩ := bounds_u64 w5
  have hE : ((bs []).toList == []) = true := by rw [Lib.toList_data]; rfl
  by_cases hsz : s.size ≤ 1024 ∧ r.size ≤ 1024
  · obtain ⟨hs, hr⟩ := hsz
    have d1 : decide (1024 < (s.size : Int)) = false := by simp; omega
    have d2 : decide (1024 < (r.size : Int)) = false := by simp; omega
    have HM := kmake_any d r u w4 u0 u1
    have HF := kfirst_any c s w1
    have HB := kbehind_any c s w1
    rcases Bool.eq_false_or_eq_true (Ky.okF c) with hc | hc
    · obtain ⟨c1, c4⟩ := Ky.okF_bd hc
      have q1 : decide (1 ≤ c) = true := decide_eq_true c1
      have q2 : decide (c ≤ 4) = true := decide_eq_true c4
      have HL := kfamily_yes c hc
      rcases Bool.eq_false_or_eq_true (Ky.may s.data.toList) with hm | hm
      · rw [show Ky.firstS c s.data.toList = Ky.fst c s.data.toList from by unfold Ky.firstS; rw [hc, hm]; rfl, show Ky.firstE c s.data.toList = 0 from by unfold Ky.firstE; rw [hc, hm]; rfl] at HF
        rw [show Ky.behS c s.data.toList = Ky.beh c s.data.toList from by unfold Ky.behS; rw [hc, hm]; rfl, show Ky.firstE c s.data.toList = 0 from by unfold Ky.firstE; rw [hc, hm]; rfl] at HB
        by_cases hk : Ky.Ok d r.data.toList u
        · rw [Ky.makeS_ok hk, Ky.makeE_ok hk] at HM
          have l1 := Ky.mk_first (c := c) (d := d) (u := s.data.toList) (v := r.data.toList) (t := u) hc hk.1
          have l2 := Ky.mk_behind (c := c) (d := d) (u := s.data.toList) (v := r.data.toList) (t := u) hc hk.1
          have l3 := Ky.mk_famA (c := c) (d := d) (v := r.data.toList) (t := u) hc hk.1
          have l4 := Ky.mk_famZ (c := c) (d := d) (v := r.data.toList) (t := u) hc hk.1
          rw [← bs_toList (Ky.mk d r.data.toList u)] at l1 l2 l3 l4
          rw [← bs_toList (Ky.fst c s.data.toList)] at l1
          rw [← bs_toList (Ky.beh c s.data.toList)] at l2
          rw [← bs_toList [Ky.cfb c]] at l3
          rw [← bs_toList [Ky.cfn c]] at l4
          by_cases hdc : d = c
          · subst hdc
            rw [if_pos rfl] at l1 l2
            rw [decide_eq_false (by omega)] at l3
            rw [decide_eq_true (by omega)] at l4
            by_cases hu : r.data.toList = s.data.toList
            · obtain rfl := data_inj hu
              rw [if_pos rfl] at l1 l2
              exact bounds_eq d r t u _ _ _ _ _ HF HB HL HM d1 d2 q1 q2 l1 l2 l3 l4 w
            · rw [if_neg hu] at l1 l2
              have q3 : (r.toList == s.toList) = false := by rw [Lib.toList_data, Lib.toList_data, beq_eq_false_iff_ne]; exact hu
              rcases Bool.eq_false_or_eq_true (Op.bytesLess r.data.toList s.data.toList) with hl | hl
              · rw [hl] at l1 l2
                exact bounds_u1 d s t r u _ _ _ _ _ HF HB HL HM d1 d2 q1 q2 l1 l2 l3 l4 q3 w
              · rw [hl] at l1 l2
                exact bounds_u2 d s t r u _ _ _ _ _ HF HB HL HM d1 d2 q1 q2 l1 l2 l3 l4 q3 w
          · rw [if_neg hdc] at l1 l2
            have q3 : (d == c) = false := by rw [beq_eq_false_iff_ne]; exact hdc
            by_cases hlt : d < c
            · rw [decide_eq_true hlt] at l1 l2 l3
              rw [decide_eq_true (by omega)] at l4
              exact bounds_c1 c s t d r u _ _ _ _ _ HF HB HL HM d1 d2 q1 q2 l1 l2 l3 l4 q3 w
            · rw [decide_eq_false hlt] at l1 l2 l3
              rw [decide_eq_false (by omega)] at l4
              exact bounds_c2 c s t d r u _ _ _ _ _ HF HB HL HM d1 d2 q1 q2 l1 l2 l3 l4 q3 w
        · exact bounds_q c s t d r u _ _ _ _ _ _ HF HB HL HM d1 d2 q1 q2 (by rw [bne_iff_ne]; exact Ky.makeE_no u0 hk) w
      · rw [show Ky.firstS c s.data.toList = [] from by unfold Ky.firstS; rw [hc, hm]; rfl, show Ky.firstE c s.data.toList = 20 from by unfold Ky.firstE; rw [hc, hm]; rfl] at HF
        rw [show Ky.behS c s.data.toList = [] from by unfold Ky.behS; rw [hc, hm]; rfl, show Ky.firstE c s.data.toList = 20 from by unfold Ky.firstE; rw [hc, hm]; rfl] at HB
        exact bounds_key c s t d r u _ _ _ _ HF HB HL HM d1 d2 hE q1 q2 w
    · have HL := kfamily_no c hc
      rw [show Ky.firstS c s.data.toList = [] from by unfold Ky.firstS; rw [hc]; rfl, show Ky.firstE c s.data.toList = 1 from by unfold Ky.firstE; rw [hc]; rfl] at HF
      rw [show Ky.behS c s.data.toList = [] from by unfold Ky.behS; rw [hc]; rfl, show Ky.firstE c s.data.toList = 1 from by unfold Ky.firstE; rw [hc]; rfl] at HB
      have hn : ¬ (1 ≤ c ∧ c ≤ 4) := by unfold Ky.okF at hc; simpa using hc
      by_cases h1 : 1 ≤ c
      · exact bounds_fam2 c s t d r u _ _ _ _ HF HB HL HM d1 d2 hE (decide_eq_true h1) (decide_eq_false (by omega)) w
      · exact bounds_fam1 c s t d r u _ _ _ _ HF HB HL HM d1 d2 hE (decide_eq_false h1) w
  · exact bounds_big c s t d r u w1 w4 hsz w
end Go.Proofs.Ytfllijckoabnmaa
