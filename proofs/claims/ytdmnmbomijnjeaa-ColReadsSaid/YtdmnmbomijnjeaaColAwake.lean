/-
  The statements of layer 15: awake's calls, and what they ask.
-/
import Derived.Test.YtdmnmbomijnjeaaColDec
namespace Go.Proofs.Ytdmnmbomijnjeaa
open Go.ChangeShapes Go.WideShapes Go.ChangeAt Go.RowKit
set_option linter.unusedVariables false
set_option maxRecDepth 100000
set_option maxHeartbeats 8000000
open Co
def aw1 : Lk := ⟨[97, 98], 300, 1, 7⟩
def aw2 : Wr := ⟨5, 3⟩
def aw3 : List Ls := [⟨1, 2, 3⟩, ⟨4, 2, 300⟩]
theorem aw1_is : isK aw1 = true := by decide +kernel
theorem aw1_enc : encK aw1 = [1, 172, 2, 7, 97, 98] := by decide +kernel
theorem aw2_is : isW aw2 = true := by decide +kernel
theorem aw2_enc : encW aw2 = [3, 5] := by decide +kernel
theorem aw3_is : isL aw3 = true := by decide +kernel
theorem aw3_enc : encL aw3 = [1, 2, 3, 4, 2, 172, 2] := by decide +kernel
theorem aw_lit (w : World) : Lss (w.alloc (.cells #[.int .u64 1, .int .u64 2, .int .u64 3, .int .u64 4, .int .u64 2, .int .u64 300] 51)) (some ⟨w.heap.size, 0, none⟩) aw3 := fun j x hx => by
  have hn := clnew w (.cells #[.int .u64 1, .int .u64 2, .int .u64 3, .int .u64 4, .int .u64 2, .int .u64 300] 51)
  unfold aw3 at hx
  refine ⟨w.heap.size, 0, rfl, cllt hn, ?_⟩
  match j, hx with
  | 0, hx => simp at hx; subst hx; exact ⟨clcell hn 0 rfl, clcell hn 1 rfl, clcell hn 2 rfl⟩
  | 1, hx => simp at hx; subst hx; exact ⟨clcell hn 3 rfl, clcell hn 4 rfl, clcell hn 5 rfl⟩
  | j + 2, hx => simp at hx
theorem clawake_any (w : World) : Calls Try.prog 10 #[] w fun e w' => e = .returned (.bool true) ∧ Kept w w' := by
  have C1 := cllock_any aw1 (by decide) (by decide)
  rw [show encKS aw1 = [1, 172, 2, 7, 97, 98] from by unfold encKS; rw [if_pos aw1_is, aw1_enc], show encKC aw1 = 0 from by unfold encKC; rw [if_pos aw1_is], show bs [1, 172, 2, 7, 97, 98] = ⟨#[1, 172, 2, 7, 97, 98]⟩ from rfl, show lkv aw1 = .agg #[.string ⟨#[97, 98]⟩, .int .u64 300, .int .i64 1, .int .u64 7] from rfl] at C1
  have C2 := clunlock_any [1, 172, 2, 7, 97, 98] (by decide)
  rw [← aw1_enc, (bK_enc aw1_is).2.1, (bK_enc aw1_is).2.2, aw1_enc, show bs [1, 172, 2, 7, 97, 98] = ⟨#[1, 172, 2, 7, 97, 98]⟩ from rfl, show lkv aw1 = .agg #[.string ⟨#[97, 98]⟩, .int .u64 300, .int .i64 1, .int .u64 7] from rfl] at C2
  have C3 := clwrite_any aw2
  rw [show encWS aw2 = [3, 5] from by unfold encWS; rw [if_pos aw2_is, aw2_enc], show encWC aw2 = 0 from by unfold encWC; rw [if_pos aw2_is], show bs [3, 5] = ⟨#[3, 5]⟩ from rfl, show wrv aw2 = .agg #[.int .u64 5, .int .i64 3] from rfl] at C3
  have C4 := clunwrite_any [3, 5] (by decide)
  rw [← aw2_enc, (bW_enc aw2_is).2.1, (bW_enc aw2_is).2.2, aw2_enc, show bs [3, 5] = ⟨#[3, 5]⟩ from rfl, show wrv aw2 = .agg #[.int .u64 5, .int .i64 3] from rfl] at C4
  have C5 := fun W => clleases_any (aw_lit W) (by decide) 2
  rw [show encLS aw3 = [1, 2, 3, 4, 2, 172, 2] from by unfold encLS; rw [if_pos aw3_is, aw3_enc], show encLC aw3 = 0 from by unfold encLC; rw [if_pos aw3_is], show bs [1, 2, 3, 4, 2, 172, 2] = ⟨#[1, 2, 3, 4, 2, 172, 2]⟩ from rfl, show aw3.length = 2 from rfl] at C5
  have C6 := clunlease_any [1, 2, 3, 4, 2, 172, 2] (by decide)
  rw [← aw3_enc, (bL_enc aw3_is).2.1, (bL_enc aw3_is).2.2, aw3_enc, show bs [1, 2, 3, 4, 2, 172, 2] = ⟨#[1, 2, 3, 4, 2, 172, 2]⟩ from rfl, show aw3.length = 2 from rfl] at C6
  have C7 := cllock_any zK (by decide) (by decide)
  rw [show encKS zK = [] from by decide +kernel, show encKC zK = 2 from by decide +kernel, show bs [] = ⟨#[]⟩ from rfl, show lkv zK = .agg #[.string ⟨#[]⟩, .int .u64 0, .int .i64 0, .int .u64 0] from rfl] at C7
  have C8 := clunwrite_any [] (by decide)
  rw [show dW [] = zW from by unfold dW; rw [if_neg (by decide +kernel)], show dWC [] = 2 from by decide +kernel, show bs [] = ⟨#[]⟩ from rfl, show wrv zW = .agg #[.int .u64 0, .int .i64 0] from rfl] at C8
  have hq1 : ∀ W, Sem.run Try.prog (binOp .eql 24 (.agg #[.string ⟨#[97, 98]⟩, .int .u64 300, .int .i64 1, .int .u64 7]) (.agg #[.string ⟨#[97, 98]⟩, .int .u64 300, .int .i64 1, .int .u64 7])) W = .ok (.bool true) W := fun W => by
    rw [run_eql_struct, run_equalIn_struct _ _ _ _ _ (by kernel_rfl) (by kernel_rfl)]
    simp [go_sem]
  have hq2 : ∀ W, Sem.run Try.prog (binOp .eql 51 (.agg #[.int .u64 4, .int .u64 2, .int .u64 300]) (.agg #[.int .u64 4, .int .u64 2, .int .u64 300])) W = .ok (.bool true) W := fun W => by
    rw [run_eql_struct, run_equalIn_struct _ _ _ _ _ (by kernel_rfl) (by kernel_rfl)]
    simp [go_sem]
  have HC1 := Lib.hid C1; have HC2 := Lib.hid C2; have HC3 := Lib.hid C3; have HC4 := Lib.hid C4; have HC5 := Lib.hid C5; have HC6 := Lib.hid C6; have HC7 := Lib.hid C7; have HC8 := Lib.hid C8
  clear C1 C2 C3 C4 C5 C6 C7 C8
  go_enter Try.func10, Try.ntmps10
  go_wp2_with fail
  refine (HC1.out _).mono ?_
  rintro e w1 ⟨rfl, g1⟩
  have b1 := clhp (clnew w (.cells #[.string ⟨#[97, 98]⟩, .int .u64 300, .int .i64 1, .int .u64 7] 24)) g1
  have K1 := Lib.hid (kept_trans ((Kept.refl w).alloc (.cells #[.string ⟨#[97, 98]⟩, .int .u64 300, .int .i64 1, .int .u64 7] 24)) g1)
  have B1 := Lib.hid b1
  clear g1 b1 HC1
  go_wp2_with fail
  refine (HC2.out _).mono ?_
  rintro e w2 ⟨rfl, g1⟩
  have B2 := Lib.hid (clhp B1.out g1)
  have K2 := Lib.hid (kept_trans K1.out g1)
  clear g1 B1 K1 HC2
  go_wp2_with fail
  refine (HC3.out _).mono ?_
  rintro e w3 ⟨rfl, g1⟩
  have B3 := Lib.hid (clhp (clhp B2.out ((Kept.refl w2).alloc (.cells #[.string ⟨#[97, 98]⟩, .int .u64 300, .int .i64 1, .int .u64 7] 24))) g1)
  have D3 := Lib.hid (clhp (clnew w2 (.cells #[.string ⟨#[97, 98]⟩, .int .u64 300, .int .i64 1, .int .u64 7] 24)) g1)
  have K3 := Lib.hid (kept_trans (kept_trans K2.out ((Kept.refl w2).alloc (.cells #[.string ⟨#[97, 98]⟩, .int .u64 300, .int .i64 1, .int .u64 7] 24))) g1)
  clear g1 B2 K2 HC3
  go_wp2_with fail
  refine (HC4.out _).mono ?_
  rintro e w4 ⟨rfl, g1⟩
  have B4 := Lib.hid (clhp B3.out g1)
  have D4 := Lib.hid (clhp D3.out g1)
  have K4 := Lib.hid (kept_trans K3.out g1)
  clear g1 B3 D3 K3 HC4
  have HC5w := Lib.hid (HC5.out (w4.alloc (.cells #[.int .u64 5, .int .i64 3] 26)))
  rw [World.size_alloc] at HC5w
  clear HC5
  go_wp2_with fail
  refine HC5w.out.mono ?_
  rintro e w5 ⟨rfl, g1⟩
  have q1 : Kept w4 ((w4.alloc (.cells #[.int .u64 5, .int .i64 3] 26)).alloc (.cells #[.int .u64 1, .int .u64 2, .int .u64 3, .int .u64 4, .int .u64 2, .int .u64 300] 51)) := ((Kept.refl w4).alloc _).alloc _
  have B5 := Lib.hid (clhp (clhp B4.out q1) g1)
  have D5 := Lib.hid (clhp (clhp D4.out q1) g1)
  have E5 := Lib.hid (clhp (clhp (clnew w4 (.cells #[.int .u64 5, .int .i64 3] 26)) ((Kept.refl (w4.alloc (.cells #[.int .u64 5, .int .i64 3] 26))).alloc (.cells #[.int .u64 1, .int .u64 2, .int .u64 3, .int .u64 4, .int .u64 2, .int .u64 300] 51))) g1)
  have f5 := clhp (clnew (w4.alloc (.cells #[.int .u64 5, .int .i64 3] 26)) (.cells #[.int .u64 1, .int .u64 2, .int .u64 3, .int .u64 4, .int .u64 2, .int .u64 300] 51)) g1
  rw [World.size_alloc] at f5
  have F5 := Lib.hid f5
  have K5 := Lib.hid (kept_trans (kept_trans K4.out q1) g1)
  clear g1 q1 f5 B4 D4 K4 HC5w
  go_wp2_with fail
  refine (HC6.out _).mono ?_
  rintro e w6 ⟨A, c, rfl, hls, hlc, hlm, g1⟩
  have B6 := Lib.hid (clhp B5.out g1)
  have D6 := Lib.hid (clhp D5.out g1)
  have E6 := Lib.hid (clhp E5.out g1)
  have F6 := Lib.hid (clhp F5.out g1)
  have K6 := Lib.hid (kept_trans K5.out g1)
  have L6 := Lib.hid hls
  clear g1 hls B5 D5 E5 F5 K5 HC6
  go_wp2_with fail
  refine (HC7.out _).mono ?_
  rintro e w7 ⟨rfl, g1⟩
  have B7 := Lib.hid (clhp B6.out g1)
  have D7 := Lib.hid (clhp D6.out g1)
  have E7 := Lib.hid (clhp E6.out g1)
  have F7 := Lib.hid (clhp F6.out g1)
  have K7 := Lib.hid (kept_trans K6.out g1)
  have L7 := Lib.hid (L6.out.kept g1)
  clear g1 B6 D6 E6 F6 K6 L6 HC7
  go_wp2_with fail
  refine (HC8.out _).mono ?_
  rintro e w8 ⟨rfl, g1⟩
  have q1 := (Kept.refl w8).alloc (.cells #[.int .u64 0, .int .i64 0] 26)
  have b8 := clhp (clhp B7.out g1) q1
  have d8 := clhp (clhp D7.out g1) q1
  have e8 := clhp (clhp E7.out g1) q1
  have f8 := clhp (clhp F7.out g1) q1
  have l8 := (L7.out.kept g1).kept q1
  have K8 := Lib.hid (kept_trans (kept_trans K7.out g1) q1)
  obtain ⟨lb, lo, rfl, hlb, l3, l4, l5⟩ := l8 1 ⟨4, 2, 300⟩ rfl
  have x0 := clcell b8 0 rfl; have x1 := clcell b8 1 rfl; have x2 := clcell b8 2 rfl; have x3 := clcell b8 3 rfl
  have y0 := clcell d8 0 rfl; have y1 := clcell d8 1 rfl; have y2 := clcell d8 2 rfl; have y3 := clcell d8 3 rfl
  have z0 := clcell e8 0 rfl; have z1 := clcell e8 1 rfl
  have u3 := clcell f8 3 rfl; have u4 := clcell f8 4 rfl; have u5 := clcell f8 5 rfl
  clear g1 q1 b8 d8 e8 f8 l8 B7 D7 E7 F7 K7 L7 HC8 hlb hlc hlm
  go_upto_region 11 with fail
  refine wp_region_quiet_lit (by kernel_rfl) (by kernel_rfl) ?_
  simp only [List.append]
  repeat (go_big_quiet_step (fail))
  refine wpQuiet_nil ?_
  intro _ hw
  obtain ⟨nq, hw2⟩ := hw
  subst hw2
  go_wp2_with fail
  go_ret
  exact ⟨rfl, kept_trans K8.out (kept_drewN _ _)⟩
end Go.Proofs.Ytdmnmbomijnjeaa
