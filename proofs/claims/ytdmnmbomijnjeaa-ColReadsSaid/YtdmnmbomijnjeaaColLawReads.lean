/-
  ColReads: which lock, write and leases any bytes are, or that they are none, is as the document says.
-/
import Derived.Test.YtdmnmbomijnjeaaColRefLse
import Derived.Test.YtdmnmbomijnjeaaColLawBack
namespace Go.Proofs.Ytdmnmbomijnjeaa
open Go.ChangeShapes Go.WideShapes Go.ChangeAt Go.RowKit
set_option linter.unusedVariables false
set_option maxRecDepth 100000
set_option maxHeartbeats 8000000
open Co
theorem ColReads_walk {w : World} (s : ByteArray) (hs : s.size ≤ maxLen) :
    Calls Try.prog 4 #[.string s] w fun e w' => e = .returned (.bool true) ∧ Kept w w' := by
  obtain ⟨s, rfl, hs⟩ := list_of hs
  unfold maxLen at hs
  have zs := clbs_size s
  by_cases hm : 1024 < s.length
  · have d3 : decide ((1024 : Int) < ((bs s).size : Int)) = true := decide_eq_true (by omega)
    generalize bs s = S at *
    clear zs hm
    go_enter Try.func4, Try.ntmps4
    go_wp2_with fail
    refine (clawake_any _).mono ?_
    rintro e w1 ⟨rfl, g1⟩
    go_wp2_with fail
    go_ret
    exact ⟨rfl, g1⟩
  have d3 : decide ((1024 : Int) < ((bs s).size : Int)) = false := decide_eq_false (by omega)
  have HK := Lib.hid (clunlock_any s (by omega))
  have HRK := Lib.hid (clrunlock_any s (by omega))
  have HW := Lib.hid (clunwrite_any s (by omega))
  have HRW := Lib.hid (clrunwrite_any s (by omega))
  have HL := Lib.hid (clunlease_any s (by omega))
  have HRL := Lib.hid (clrunlease_any s (by omega))
  have hq1 := lk_neq (dK s); have hq2 := wr_neq (dW s)
  have HL5 := Lib.hid (thereL s).2.2
  obtain ⟨P, x1, x2, x3, hP⟩ : ∃ P x1 x2 x3, lkv (dK s) = .agg #[.string P, .int .u64 x1, .int .i64 x2, .int .u64 x3] := ⟨_, _, _, _, rfl⟩
  obtain ⟨y1, y2, hP2⟩ : ∃ y1 y2, wrv (dW s) = .agg #[.int .u64 y1, .int .i64 y2] := ⟨_, _, rfl⟩
  rw [hP] at HK HRK hq1
  rw [hP2] at HW HRW hq2
  generalize dKC s = C1 at *
  generalize dWC s = C2 at *
  generalize dLC s = C3 at *
  generalize dL s = L at *
  generalize bs s = S at *
  clear hP hP2 zs hm hs
  go_enter Try.func4, Try.ntmps4
  go_wp2_with fail
  refine (clawake_any _).mono ?_
  rintro e w1 ⟨rfl, g1⟩
  have K1 := Lib.hid g1
  clear g1
  go_wp2_with fail
  refine (HK.out _).mono ?_
  rintro e w2 ⟨rfl, g1⟩
  have I2 := Lib.hid (clnew w2 (.cells #[.string P, .int .u64 x1, .int .i64 x2, .int .u64 x3] 24))
  have K2 := Lib.hid ((kept_trans K1.out g1).alloc (.cells #[.string P, .int .u64 x1, .int .i64 x2, .int .u64 x3] 24))
  clear g1 K1
  go_wp2_with fail
  refine (HRK.out _).mono ?_
  rintro e w3 ⟨rfl, g1⟩
  have i3 := clhp (clhp I2.out g1) ((Kept.refl w3).alloc (.cells #[.string P, .int .u64 x1, .int .i64 x2, .int .u64 x3] 24))
  have K3 := Lib.hid ((kept_trans K2.out g1).alloc (.cells #[.string P, .int .u64 x1, .int .i64 x2, .int .u64 x3] 24))
  have c0 := clcell i3 0 rfl; have c1 := clcell i3 1 rfl; have c2 := clcell i3 2 rfl; have c3 := clcell i3 3 rfl
  clear g1 i3 I2 K2
  go_wp2_with fail
  refine (HW.out _).mono ?_
  rintro e w4 ⟨rfl, g1⟩
  have I4 := Lib.hid (clnew w4 (.cells #[.int .u64 y1, .int .i64 y2] 26))
  have K4 := Lib.hid ((kept_trans K3.out g1).alloc (.cells #[.int .u64 y1, .int .i64 y2] 26))
  clear g1 K3 c0 c1 c2 c3
  go_wp2_with fail
  refine (HRW.out _).mono ?_
  rintro e w5 ⟨rfl, g1⟩
  have i5 := clhp (clhp I4.out g1) ((Kept.refl w5).alloc (.cells #[.int .u64 y1, .int .i64 y2] 26))
  have K5 := Lib.hid ((kept_trans K4.out g1).alloc (.cells #[.int .u64 y1, .int .i64 y2] 26))
  have c0 := clcell i5 0 rfl; have c1 := clcell i5 1 rfl
  clear g1 i5 I4 K4
  go_wp2_with fail
  refine (HL.out _).mono ?_
  rintro e w6 ⟨A6, c6, rfl, hl6, _, _, g1⟩
  have K6 := Lib.hid (kept_trans K5.out g1)
  have L6 := Lib.hid hl6
  clear g1 K5 hl6 c0 c1
  go_wp2_with fail
  refine (HRL.out _).mono ?_
  rintro e w7 ⟨A7, c7, rfl, hl7, g1⟩
  have K7 := Lib.hid (kept_trans K6.out g1)
  have L7 := Lib.hid hl7
  have L6' := Lib.hid (L6.out.kept g1)
  clear g1 K6 hl7 L6
  go_wp2_with fail
  refine (clown_any L6'.out (by have := HL5.out; omega) c6).mono ?_
  rintro e w8 ⟨B8, c8, rfl, hb8, _, _, g1⟩
  have K8 := Lib.hid (kept_trans K7.out g1)
  have L8 := Lib.hid (L7.out.kept g1)
  have B8' := Lib.hid hb8
  clear g1 K7 L7 hb8
  go_wp2_with fail
  refine (clsame2_any B8'.out L8.out (by have := HL5.out; omega) c8 c7).mono ?_
  rintro e w9 ⟨rfl, g1⟩
  have K9 := Lib.hid (kept_trans K8.out g1)
  clear g1
  go_wp2_with fail
  go_ret
  exact ⟨rfl, K9.out⟩
end Go.Proofs.Ytdmnmbomijnjeaa
