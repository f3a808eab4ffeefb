/-
  The walk of screelaw11.TableReads.
-/
import Derived.Test.YtecjnebfhbdnaaaTableRefOpen
import Derived.Test.YtecjnebfhbdnaaaTableAwake
import Derived.Test.YtecjnebfhbdnaaaBlockArgs
import Derived.Test.YtecjnebfhbdnaaaTableLawWrites
import Derived.RegionTactic
import Derived.Deep.RegionHeld3
namespace Go.Proofs.Ytecjnebfhbdnaaa
open Go.ChangeShapes Go.WideShapes Go.ChangeAt Go.RowKit
set_option linter.unusedVariables false
set_option maxRecDepth 100000
set_option maxHeartbeats 20000000

structure KRD (a b : World) : Prop where
  k : Kept a b
theorem topen_some {s : List UInt8} {l : List Mm.Ent} (hs : s.length ≤ 1048576) (h : Tb.dec s = some l) (w : World) :
    Calls Try.prog 12 #[.string (bs s)] w fun e w' => ∃ p, e = .returned (.tuple #[.pointer (some ⟨p, 0, none⟩), .int .i64 0]) ∧ IsTb w' p (Tb.tv l) ∧ Kept w w' := by
  refine (topen_any s hs w).mono ?_
  rintro e w' (⟨m, p, hd, rfl, h1, h2, h3⟩ | ⟨hd, _⟩)
  · rw [h] at hd
    injection hd with hd
    subst hd
    exact ⟨p, rfl, h1, h3⟩
  · rw [h] at hd; cases hd
theorem rtopen_some {s : List UInt8} {l : List Mm.Ent} (hs : s.length ≤ 16384) (h : Tb.dec s = some l) (w : World) :
    Calls Try.prog 13 #[.string (bs s)] w fun e w' => ∃ p, e = .returned (.tuple #[.pointer (some ⟨p, 0, none⟩), .int .i64 0]) ∧ RTb w' p l ∧ Kept w w' := by
  refine (rtopen_any s hs w).mono ?_
  rintro e w' (⟨m, p, hd, rfl, h1, h3⟩ | ⟨hd, _⟩)
  · rw [h] at hd
    injection hd with hd
    subst hd
    exact ⟨p, rfl, h1, h3⟩
  · rw [h] at hd; cases hd
theorem rtopen_none {s : List UInt8} (hs : s.length ≤ 16384) (h : Tb.dec s = none) (w : World) :
    Calls Try.prog 13 #[.string (bs s)] w fun e w' => e = .returned (.tuple #[.pointer none, .int .i64 2]) ∧ Kept w w' := by
  refine (rtopen_any s hs w).mono ?_
  rintro e w' (⟨m, p, hd, _⟩ | ⟨_, rfl, g⟩)
  · rw [h] at hd; cases hd
  · exact ⟨rfl, g⟩
theorem TableReads_main (s k : List UInt8) (sq : Nat) (a3 : Int) {w : World} {l : List Mm.Ent} (hs : s.length ≤ 16384) (hk : k.length ≤ 300) (hsq : sq ≤ 18446744073709551615) (b1 : -9223372036854775808 ≤ a3) (b2 : a3 ≤ 9223372036854775807) (hd : Tb.dec s = some l) :
    Calls Try.prog 4 #[.string (bs s), .string (bs k), .int .u64 (sq : Nat), .int .i64 a3] w fun e w' => e = .returned (.bool true) ∧ Kept w w' := by
  have HAW := Lib.hid (tawake_any w)
  have d1 : decide ((16384 : Int) < ((bs s).size : Int)) = false := by rw [fbs_size]; exact decide_eq_false (by omega)
  have d2 : decide ((300 : Int) < ((bs k).size : Int)) = false := by rw [fbs_size]; exact decide_eq_false (by omega)
  have HOP := Lib.hid (fun W => topen_some (by omega) hd W)
  have HRO := Lib.hid (fun W => rtopen_some hs hd W)
  have hT := (Tb.dec_back hd).1
  have HT := Lib.hid hT
  have hl1 := (Tb.isT_iff.1 hT).1
  have hl5 := (Tb.isT_iff.1 hT).2.1
  have HKL := Lib.hid (show k.length ≤ maxLen by unfold maxLen; omega)
  obtain ⟨x0, hx0⟩ : ∃ x, l[0]? = some x := ⟨_, List.getElem?_eq_getElem (by omega)⟩
  obtain ⟨y0, hy0⟩ : ∃ y, l[l.length - 1]? = some y := ⟨_, List.getElem?_eq_getElem (by omega)⟩
  have HX0 := Lib.hid hx0; have HY0 := Lib.hid hy0
  obtain ⟨Y, hY⟩ : ∃ Y : Mm.Ent, tgV (l.find? (Mm.mt k sq)) = .tuple #[.agg #[.string (bs Y.key), .int .u64 (Y.seq : Nat), .bool Y.del, .string (bs Y.val)], .bool (l.find? (Mm.mt k sq)).isSome] := ⟨(l.find? (Mm.mt k sq)).getD Mm.zent, rfl⟩
  have HG := Lib.hid (fun (W : World) p (h : IsTb W p (Tb.tv l)) => (by have := tget_any h hT k HKL.out sq; rw [hY] at this; exact this))
  have HRG := Lib.hid (fun (W : World) p (h : RTb W p l) => (by have := rtget_any h hT k sq; rw [hY] at this; exact this))
  generalize (l.find? (Mm.mt k sq)).isSome = J at *
  clear hd hT hx0 hy0 hY hs hk
  generalize bs s = ES at *
  go_enter Try.func4, Try.ntmps4
  go_wp2_with fail
  refine HAW.out.mono ?_
  rintro e w1 ⟨rfl, g1⟩
  have G1 := Lib.hid g1
  clear g1
  go_wp2_with fail
  refine (HOP.out _).mono ?_
  rintro e w3 ⟨p, rfl, hT3, g3⟩
  have HT3 := Lib.hid hT3
  have K3 := Lib.hid (kept_trans G1.out g3)
  clear hT3 g3
  go_wp2_with fail
  refine (HRO.out _).mono ?_
  rintro e w4 ⟨r, rfl, hR4, g4⟩
  have HR4 := Lib.hid hR4
  have HT4 := Lib.hid (HT3.out.kept g4)
  have K4 := Lib.hid (kept_trans K3.out g4)
  have HG4 := Lib.hid (HG.out w4 p HT4.out)
  clear hR4 g4 HOP HRO HAW HG
  go_wp2_with fail
  refine HG4.out.mono ?_
  rintro e w5 ⟨rfl, g5⟩
  obtain ⟨w6, hw6⟩ : ∃ w6, w6 = w5.alloc (.cells #[.string (bs Y.key), .int .u64 (Y.seq : Nat), .bool Y.del, .string (bs Y.val)] 37) := ⟨_, rfl⟩
  have k46 : Kept w4 w6 := by rw [hw6]; exact g5.alloc _
  have bx : w6.heap[w5.heap.size]? = some (.cells #[.string (bs Y.key), .int .u64 (Y.seq : Nat), .bool Y.del, .string (bs Y.val)] 37 (0, 0)) := by rw [hw6]; exact malloc_new w5 _
  have HX6 := Lib.hid (tw_box (x := Y) bx)
  have HR6 := Lib.hid (HR4.out.kept k46)
  have HT6 := Lib.hid (HT4.out.kept k46)
  have K6 := Lib.hid (kept_trans K4.out k46)
  have HRG6 := Lib.hid (HRG.out w6 r HR6.out)
  obtain ⟨zx, hzx⟩ : ∃ zx, zx = w5.heap.size := ⟨_, rfl⟩
  rw [← hzx] at HX6
  have HW6 := Lib.hid hw6; have HZX := Lib.hid hzx
  clear g5 hw6 k46 bx HRG HG4 hzx
  go_wp2_with fail
  rw [← HW6.out, ← HZX.out]
  refine HRG6.out.mono ?_
  rintro e w7 ⟨rfl, g7⟩
  obtain ⟨w8, hw8⟩ : ∃ w8, w8 = w7.alloc (.cells #[.string (bs Y.key), .int .u64 (Y.seq : Nat), .bool Y.del, .string (bs Y.val)] 37) := ⟨_, rfl⟩
  have k68 : Kept w6 w8 := by rw [hw8]; exact g7.alloc _
  have by8 : w8.heap[w7.heap.size]? = some (.cells #[.string (bs Y.key), .int .u64 (Y.seq : Nat), .bool Y.del, .string (bs Y.val)] 37 (0, 0)) := by rw [hw8]; exact malloc_new w7 _
  have HYY8 := Lib.hid (tw_box (x := Y) by8)
  have HX8 := Lib.hid (fun (W : World) (g : Kept w8 W) => HX6.out W (kept_trans k68 g))
  have HR8 := Lib.hid (HR6.out.kept k68)
  have HT8 := Lib.hid (HT6.out.kept k68)
  have K8 := Lib.hid (kept_trans K6.out k68)
  have he := tends_any HT8.out HT.out HX0.out HY0.out
  unfold entV at he
  have HEN := Lib.hid he
  obtain ⟨zy, hzy⟩ : ∃ zy, zy = w7.heap.size := ⟨_, rfl⟩
  rw [← hzy] at HYY8
  have HW8 := Lib.hid hw8; have HZY := Lib.hid hzy
  clear g7 hw8 k68 by8 he HRG6 HX6 HZX HW6 hzy
  go_wp2_with fail
  rw [← HW8.out, ← HZY.out]
  refine HEN.out.mono ?_
  rintro e w10 ⟨rfl, g10⟩
  obtain ⟨w9, hw9⟩ : ∃ w9, w9 = (w10.alloc (.cells #[.string (bs x0.key), .int .u64 (x0.seq : Nat), .bool x0.del, .string (bs x0.val)] 37)).alloc (.cells #[.string (bs y0.key), .int .u64 (y0.seq : Nat), .bool y0.del, .string (bs y0.val)] 37) := ⟨_, rfl⟩
  have k89 : Kept w8 w9 := by rw [hw9]; exact (g10.alloc _).alloc _
  have ba9 : w9.heap[w10.heap.size]? = some (.cells #[.string (bs x0.key), .int .u64 (x0.seq : Nat), .bool x0.del, .string (bs x0.val)] 37 (0, 0)) := by rw [hw9]; exact mblk_kept (malloc_new w10 (.cells #[.string (bs x0.key), .int .u64 (x0.seq : Nat), .bool x0.del, .string (bs x0.val)] 37)) ((Kept.refl _).alloc _)
  have bb9 : w9.heap[w10.heap.size + 1]? = some (.cells #[.string (bs y0.key), .int .u64 (y0.seq : Nat), .bool y0.del, .string (bs y0.val)] 37 (0, 0)) := by
    rw [hw9]; have := malloc_new (w10.alloc (.cells #[.string (bs x0.key), .int .u64 (x0.seq : Nat), .bool x0.del, .string (bs x0.val)] 37)) (.cells #[.string (bs y0.key), .int .u64 (y0.seq : Nat), .bool y0.del, .string (bs y0.val)] 37); rwa [malloc_size] at this
  have HA := Lib.hid (tw_box (x := x0) ba9); have HB := Lib.hid (tw_box (x := y0) bb9)
  have HX := Lib.hid (fun (W : World) (g : Kept w9 W) => HX8.out W (kept_trans k89 g))
  have HYY := Lib.hid (fun (W : World) (g : Kept w9 W) => HYY8.out W (kept_trans k89 g))
  have HT9 := Lib.hid (HT8.out.kept k89)
  have HR9 := Lib.hid (HR8.out.kept k89)
  have K9 := Lib.hid (kept_trans K8.out k89)
  obtain ⟨za, hza⟩ : ∃ za, za = w10.heap.size := ⟨_, rfl⟩
  rw [← hza] at HA HB
  have HW9 := Lib.hid hw9; have HZA := Lib.hid hza
  clear g10 hw9 k89 ba9 bb9 hza HX8 HYY8 HR8 HT8 HEN HW8 HZY
  obtain ⟨B, c, hbr, hEr⟩ := HR9.out
  obtain ⟨b, o, rfl, _⟩ := hEr 0 x0 HX0.out
  have HL0 := Lib.hid (fun (W : World) (g : Kept w9 W) => te_cells2 hEr HX0.out (show o = o + 0 * 4 by omega) W g)
  have HLL := Lib.hid (fun (W : World) (g : Kept w9 W) => te_cells2 hEr HY0.out (show o + 4 * (l.length - 1) = o + (l.length - 1) * 4 by omega) W g)
  have HSL := Lib.hid (fun (W : World) (g : Kept w9 W) => mcell (v := .slice (some ⟨b, o, none⟩) l.length c) (mblk_kept hbr g) 0 rfl)
  have HSM := Lib.hid (fun (W : World) (B : Option Addr) (c' : Nat) (g : Kept w9 W) (h : Els W B l) => msame_long (c1 := c') (c2 := c) (a := l.length) (b := l.length) rfl rfl (by omega) h (hEr.kept g))
  have HALL := Lib.hid (fun (W : World) (g : Kept w9 W) => (by have := tall_any (HT9.out.kept g); rw [Tb.tv_all HT.out] at this; exact this : Calls Try.prog 19 #[.pointer (some ⟨p, 0, none⟩)] W fun e w' => ∃ B c, e = .returned (.slice B l.length c) ∧ Elr W.heap.size w' B c l ∧ Kept W w'))
  have HLEN := Lib.hid (fun (W : World) (g : Kept w9 W) => tlen_any (HT9.out.kept g))
  obtain ⟨NB, hNB⟩ : ∃ NB, NB = Tb.nb l := ⟨_, rfl⟩
  have HBLK := Lib.hid (fun (W : World) (g : Kept w9 W) => (by have := tblocks_any (HT9.out.kept g); rw [← hNB] at this; exact this : Calls Try.prog 23 #[.pointer (some ⟨p, 0, none⟩)] W fun e w' => e = .returned (.int .i64 (NB : Nat)) ∧ W = w'))
  obtain ⟨CO, hCO⟩ : ∃ CO, CO = Tb.cost l k sq := ⟨_, rfl⟩
  have HC1 := Lib.hid (fun (W : World) (g : Kept w9 W) => (by have := tcost_any (HT9.out.kept g) HT.out k HKL.out sq; rw [← hCO] at this; exact this : Calls Try.prog 17 #[.pointer (some ⟨p, 0, none⟩), .string (bs k), .int .u64 (sq : Nat)] W fun e w' => e = .returned (.int .i64 (CO : Nat)) ∧ Kept W w'))
  have HC2 := Lib.hid (fun (W : World) (g : Kept w9 W) => (by have := rtcost_any (HR9.out.kept g) HT.out k HKL.out sq; rw [← hCO] at this; exact this : Calls Try.prog 18 #[.pointer (some ⟨r, 0, none⟩), .string (bs k), .int .u64 (sq : Nat)] W fun e w' => e = .returned (.int .i64 (CO : Nat)) ∧ Kept W w'))
  have hfl : (Tb.frm l k a3.toNat).length ≤ 500 := by
    unfold Tb.frm
    rw [List.length_take]
    have := List.length_filter_le (Tb.keyP k) l
    omega
  have HF1 := Lib.hid (fun (W : World) (g : Kept w9 W) => tfrom_any (HT9.out.kept g) HT.out k a3 b1 b2)
  have HF2 := Lib.hid (fun (W : World) (g : Kept w9 W) => rtfrom_any (HR9.out.kept g) HT.out k a3 b1 b2)
  generalize Tb.frm l k a3.toNat = M at *
  have HSF := Lib.hid (fun (W : World) (B : Option Addr) (c1 : Nat) (B' : Option Addr) (c2 : Nat) (h1 : Els W B M) (h2 : Els W B' M) => msame_long (c1 := c1) (c2 := c2) (a := M.length) (b := M.length) rfl rfl (by omega) h1 h2)
  generalize M.length = m at *
  obtain ⟨n7, hn7⟩ : ∃ n7, n7 = l.length + 7 := ⟨_, rfl⟩
  have hq1 : IntKind.i64.wrap ((l.length : Int) + 7) = (n7 : Int) := by rw [IntKind.wrap_i64]; omega
  have hq3 : ((n7 : Int).tdiv 8) = (NB : Int) := by rw [Int.tdiv_eq_ediv_of_nonneg (by omega), hNB]; unfold Tb.nb; omega
  have hq4 : IntKind.i64.wrap (NB : Int) = (NB : Int) := by rw [IntKind.wrap_i64]; unfold Tb.nb at hNB; omega
  have hwl : IntKind.i64.wrap ((l.length : Int) - 1) = ((l.length - 1 : Nat) : Int) := by rw [IntKind.wrap_i64]; omega
  clear hbr hEr hNB hCO hn7 hfl HR9 HT9
  go_upto_region 14 with fail
  rw [← HW9.out, ← HZA.out]
  clear HW9 HZA
  generalize l.length = n at *
  have hn0 : (0 : Int) < (n : Int) := by omega
  have hn2 : n - 1 < n := by omega
  have hn3 : n ≠ 0 := by omega
  refine wp_region_held_drew (S := fun W => KRD w9 W) (by kernel_rfl) ⟨kept_drewN w9 1⟩ (fun hHeld => ?_)
  refine wpAnyH_take (i := 0) (v := (.agg #[.string (bs Y.key), .int .u64 (Y.seq : Nat), .bool Y.del, .string (bs Y.val)])) (List.getElem?_toArray.trans rfl) (by kernel_rfl) (by kernel_rfl) (by kernel_rfl) (fun _ _ _ h => h) (Or.inl ⟨by rfl, ?_⟩) (by assumption) ?_
  · intro W hSw
    obtain ⟨q0, q1, q2, q3⟩ := HX.out W hSw.k
    first | (go_simp; done) | (go_simp; rfl)
  simp only [Act.put, List.setIfInBounds_toArray, List.set_cons_zero, List.set_cons_succ]
  refine wpAnyH_take (i := 1) (v := (.agg #[.string (bs Y.key), .int .u64 (Y.seq : Nat), .bool Y.del, .string (bs Y.val)])) (List.getElem?_toArray.trans rfl) (by kernel_rfl) (by kernel_rfl) (by kernel_rfl) (fun _ _ _ h => h) (Or.inl ⟨by rfl, ?_⟩) (by assumption) ?_
  · intro W hSw
    obtain ⟨q0, q1, q2, q3⟩ := HYY.out W hSw.k
    first | (go_simp; done) | (go_simp; rfl)
  simp only [Act.put, List.setIfInBounds_toArray, List.set_cons_zero, List.set_cons_succ]
  refine wpAnyH_take (i := 2) (v := (.bool true)) (List.getElem?_toArray.trans rfl) (by kernel_rfl) (by kernel_rfl) (by kernel_rfl) (fun _ _ _ h => h) (Or.inl ⟨by rfl, ?_⟩) (by assumption) ?_
  · intro W hSw
    first | rfl | (go_simp; done) | (go_simp; rfl)
  simp only [Act.put, List.setIfInBounds_toArray, List.set_cons_zero, List.set_cons_succ]
  refine wpAnyH_take (i := 3) (v := (.bool true)) (List.getElem?_toArray.trans rfl) (by kernel_rfl) (by kernel_rfl) (by kernel_rfl) (fun _ _ _ h => h) (Or.inl ⟨by rfl, ?_⟩) (by assumption) ?_
  · intro W hSw
    first | rfl | (go_simp; done) | (go_simp; rfl)
  simp only [Act.put, List.setIfInBounds_toArray, List.set_cons_zero, List.set_cons_succ]
  refine wpAnyH_take (i := 4) (v := (.bool J)) (List.getElem?_toArray.trans rfl) (by kernel_rfl) (by kernel_rfl) (by kernel_rfl) (fun _ _ _ h => h) (Or.inl ⟨by rfl, ?_⟩) (by assumption) ?_
  · intro W hSw
    first | rfl | (go_simp; done) | (go_simp; rfl)
  simp only [Act.put, List.setIfInBounds_toArray, List.set_cons_zero, List.set_cons_succ]
  refine wpAnyH_take (i := 5) (v := (.bool J)) (List.getElem?_toArray.trans rfl) (by kernel_rfl) (by kernel_rfl) (by kernel_rfl) (fun _ _ _ h => h) (Or.inl ⟨by rfl, ?_⟩) (by assumption) ?_
  · intro W hSw
    first | rfl | (go_simp; done) | (go_simp; rfl)
  simp only [Act.put, List.setIfInBounds_toArray, List.set_cons_zero, List.set_cons_succ]
  refine wpAnyH_take (i := 6) (v := (.bool true)) (List.getElem?_toArray.trans rfl) (by kernel_rfl) (by kernel_rfl) (by kernel_rfl) (fun _ _ _ h => h) (Or.inl ⟨by rfl, ?_⟩) (by assumption) ?_
  · intro W hSw
    first | rfl | (go_simp; done) | (go_simp; rfl)
  simp only [Act.put, List.setIfInBounds_toArray, List.set_cons_zero, List.set_cons_succ]
  refine wpAnyH_take (i := 7) (v := (.bool true)) (List.getElem?_toArray.trans rfl) (by kernel_rfl) (by kernel_rfl) (by kernel_rfl) (fun _ _ _ h => h) (Or.inl ⟨by rfl, ?_⟩) (by assumption) ?_
  · intro W hSw
    first | rfl | (go_simp; done) | (go_simp; rfl)
  simp only [Act.put, List.setIfInBounds_toArray, List.set_cons_zero, List.set_cons_succ]
  refine wpAnyH_take (i := 8) (v := (.bool true)) (List.getElem?_toArray.trans rfl) (by kernel_rfl) (by kernel_rfl) (by kernel_rfl) (fun _ _ _ h => h) (Or.inl ⟨by rfl, ?_⟩) (by assumption) ?_
  · intro W hSw
    first | rfl | (go_simp; done) | (go_simp; rfl)
  simp only [Act.put, List.setIfInBounds_toArray, List.set_cons_zero, List.set_cons_succ]
  refine wpAnyH_take (i := 9) (v := (.pointer (some ⟨p, 0, none⟩))) (List.getElem?_toArray.trans rfl) (by kernel_rfl) (by kernel_rfl) (by kernel_rfl) (fun _ _ _ h => h) (Or.inl ⟨by rfl, ?_⟩) (by assumption) ?_
  · intro W hSw
    first | rfl | (go_simp; done) | (go_simp; rfl)
  simp only [Act.put, List.setIfInBounds_toArray, List.set_cons_zero, List.set_cons_succ]
  refine wpAnyH_take (i := 10) (v := (.string (bs k))) (List.getElem?_toArray.trans rfl) (by kernel_rfl) (by kernel_rfl) (by kernel_rfl) (fun _ _ _ h => h) (Or.inl ⟨by rfl, ?_⟩) (by assumption) ?_
  · intro W hSw
    first | rfl | (go_simp; done) | (go_simp; rfl)
  simp only [Act.put, List.setIfInBounds_toArray, List.set_cons_zero, List.set_cons_succ]
  refine wpAnyH_take (i := 11) (v := (.int .u64 (sq : Nat))) (List.getElem?_toArray.trans rfl) (by kernel_rfl) (by kernel_rfl) (by kernel_rfl) (fun _ _ _ h => h) (Or.inl ⟨by rfl, ?_⟩) (by assumption) ?_
  · intro W hSw
    first | rfl | (go_simp; done) | (go_simp; rfl)
  simp only [Act.put, List.setIfInBounds_toArray, List.set_cons_zero, List.set_cons_succ]
  refine wpAnyH_take (i := 13) (v := (.pointer (some ⟨r, 0, none⟩))) (List.getElem?_toArray.trans rfl) (by kernel_rfl) (by kernel_rfl) (by kernel_rfl) (fun _ _ _ h => h) (Or.inl ⟨by rfl, ?_⟩) (by assumption) ?_
  · intro W hSw
    first | rfl | (go_simp; done) | (go_simp; rfl)
  simp only [Act.put, List.setIfInBounds_toArray, List.set_cons_zero, List.set_cons_succ]
  refine wpAnyH_take (i := 14) (v := (.string (bs k))) (List.getElem?_toArray.trans rfl) (by kernel_rfl) (by kernel_rfl) (by kernel_rfl) (fun _ _ _ h => h) (Or.inl ⟨by rfl, ?_⟩) (by assumption) ?_
  · intro W hSw
    first | rfl | (go_simp; done) | (go_simp; rfl)
  simp only [Act.put, List.setIfInBounds_toArray, List.set_cons_zero, List.set_cons_succ]
  refine wpAnyH_take (i := 15) (v := (.int .u64 (sq : Nat))) (List.getElem?_toArray.trans rfl) (by kernel_rfl) (by kernel_rfl) (by kernel_rfl) (fun _ _ _ h => h) (Or.inl ⟨by rfl, ?_⟩) (by assumption) ?_
  · intro W hSw
    first | rfl | (go_simp; done) | (go_simp; rfl)
  simp only [Act.put, List.setIfInBounds_toArray, List.set_cons_zero, List.set_cons_succ]
  refine wpAnyH_ready (rs := [12]) (by kernel_rfl) (by simp) ?_
  refine AllReadyH.cons (List.getElem?_toArray.trans rfl) (fun K hK => ?_) AllReadyH.nil
  go_simp
  refine (HC1.out _ hHeld.k).mono ?_
  rintro e w20 ⟨rfl, g20⟩
  go_wp2_with fail
  refine hK.out _ _ ⟨kept_trans hHeld.k g20⟩ (fun hHeld => ?_)
  clear hK K
  refine wpAnyH_ready (rs := [16]) (by kernel_rfl) (by simp) ?_
  refine AllReadyH.cons (List.getElem?_toArray.trans rfl) (fun K hK => ?_) AllReadyH.nil
  go_simp
  refine (HC2.out _ hHeld.k).mono ?_
  rintro e w21 ⟨rfl, g21⟩
  go_wp2_with fail
  refine hK.out _ _ ⟨kept_trans hHeld.k g21⟩ (fun hHeld => ?_)
  clear hK K
  refine wpAnyH_take (i := 17) (v := (.bool true)) (List.getElem?_toArray.trans rfl) (by kernel_rfl) (by kernel_rfl) (by kernel_rfl) (fun _ _ _ h => h) (Or.inl ⟨by rfl, ?_⟩) (by assumption) ?_
  · intro W hSw
    first | rfl | (go_simp; done) | (go_simp; rfl)
  simp only [Act.put, List.setIfInBounds_toArray, List.set_cons_zero, List.set_cons_succ]
  refine wpAnyH_take (i := 18) (v := (.bool true)) (List.getElem?_toArray.trans rfl) (by kernel_rfl) (by kernel_rfl) (by kernel_rfl) (fun _ _ _ h => h) (Or.inl ⟨by rfl, ?_⟩) (by assumption) ?_
  · intro W hSw
    first | rfl | (go_simp; done) | (go_simp; rfl)
  simp only [Act.put, List.setIfInBounds_toArray, List.set_cons_zero, List.set_cons_succ]
  refine wpAnyH_take (i := 19) (v := (.bool true)) (List.getElem?_toArray.trans rfl) (by kernel_rfl) (by kernel_rfl) (by kernel_rfl) (fun _ _ _ h => h) (Or.inl ⟨by rfl, ?_⟩) (by assumption) ?_
  · intro W hSw
    first | rfl | (go_simp; done) | (go_simp; rfl)
  simp only [Act.put, List.setIfInBounds_toArray, List.set_cons_zero, List.set_cons_succ]
  refine wpAnyH_take (i := 20) (v := (.pointer (some ⟨p, 0, none⟩))) (List.getElem?_toArray.trans rfl) (by kernel_rfl) (by kernel_rfl) (by kernel_rfl) (fun _ _ _ h => h) (Or.inl ⟨by rfl, ?_⟩) (by assumption) ?_
  · intro W hSw
    first | rfl | (go_simp; done) | (go_simp; rfl)
  simp only [Act.put, List.setIfInBounds_toArray, List.set_cons_zero, List.set_cons_succ]
  refine wpAnyH_take (i := 22) (v := (.pointer (some ⟨r, 0, none⟩))) (List.getElem?_toArray.trans rfl) (by kernel_rfl) (by kernel_rfl) (by kernel_rfl) (fun _ _ _ h => h) (Or.inl ⟨by rfl, ?_⟩) (by assumption) ?_
  · intro W hSw
    first | rfl | (go_simp; done) | (go_simp; rfl)
  simp only [Act.put, List.setIfInBounds_toArray, List.set_cons_zero, List.set_cons_succ]
  refine wpAnyH_take (i := 23) (v := (.pointer (some ⟨r, 0, none⟩))) (List.getElem?_toArray.trans rfl) (by kernel_rfl) (by kernel_rfl) (by kernel_rfl) (fun _ _ _ h => h) (Or.inl ⟨by rfl, ?_⟩) (by assumption) ?_
  · intro W hSw
    first | rfl | (go_simp; done) | (go_simp; rfl)
  simp only [Act.put, List.setIfInBounds_toArray, List.set_cons_zero, List.set_cons_succ]
  refine wpAnyH_take (i := 24) (v := (.pointer (some ⟨r, 0, none⟩))) (List.getElem?_toArray.trans rfl) (by kernel_rfl) (by kernel_rfl) (by kernel_rfl) (fun _ _ _ h => h) (Or.inl ⟨by rfl, ?_⟩) (by assumption) ?_
  · intro W hSw
    first | rfl | (go_simp; done) | (go_simp; rfl)
  simp only [Act.put, List.setIfInBounds_toArray, List.set_cons_zero, List.set_cons_succ]
  refine wpAnyH_take (i := 25) (v := (.slice (some ⟨b, o, none⟩) n c)) (List.getElem?_toArray.trans rfl) (by kernel_rfl) (by kernel_rfl) (by kernel_rfl) (fun _ _ _ h => h) (Or.inl ⟨by rfl, ?_⟩) (by assumption) ?_
  · intro W hSw
    have q0 := HSL.out W hSw.k
    first | (go_simp; done) | (go_simp; rfl)
  simp only [Act.put, List.setIfInBounds_toArray, List.set_cons_zero, List.set_cons_succ]
  refine wpAnyH_ready (rs := [21]) (by kernel_rfl) (by simp) ?_
  refine AllReadyH.cons (List.getElem?_toArray.trans rfl) (fun K hK => ?_) AllReadyH.nil
  go_simp
  refine (HALL.out _ hHeld.k).mono ?_
  rintro e w22 ⟨B22, c22, rfl, hel22, g22⟩
  have HE22 := Lib.hid hel22.els
  have HK22 := Lib.hid (kept_trans hHeld.k g22)
  clear hel22
  go_wp2_with fail
  refine hK.out _ _ ⟨kept_trans hHeld.k g22⟩ (fun hHeld => ?_)
  clear hK K
  refine wpAnyH_ready (rs := [26]) (by kernel_rfl) (by simp) ?_
  refine AllReadyH.cons (List.getElem?_toArray.trans rfl) (fun K hK => ?_) AllReadyH.nil
  go_simp
  refine (HSM.out _ _ _ HK22.out HE22.out).mono ?_
  rintro e w23 ⟨rfl, g23⟩
  go_wp2_with fail
  refine hK.out _ _ ⟨kept_trans HK22.out g23⟩ (fun hHeld => ?_)
  clear hK K
  refine wpAnyH_take (i := 27) (v := (.bool true)) (List.getElem?_toArray.trans rfl) (by kernel_rfl) (by kernel_rfl) (by kernel_rfl) (fun _ _ _ h => h) (Or.inl ⟨by rfl, ?_⟩) (by assumption) ?_
  · intro W hSw
    first | rfl | (go_simp; done) | (go_simp; rfl)
  simp only [Act.put, List.setIfInBounds_toArray, List.set_cons_zero, List.set_cons_succ]
  refine wpAnyH_take (i := 28) (v := (.bool true)) (List.getElem?_toArray.trans rfl) (by kernel_rfl) (by kernel_rfl) (by kernel_rfl) (fun _ _ _ h => h) (Or.inl ⟨by rfl, ?_⟩) (by assumption) ?_
  · intro W hSw
    first | rfl | (go_simp; done) | (go_simp; rfl)
  simp only [Act.put, List.setIfInBounds_toArray, List.set_cons_zero, List.set_cons_succ]
  refine wpAnyH_take (i := 29) (v := (.pointer (some ⟨p, 0, none⟩))) (List.getElem?_toArray.trans rfl) (by kernel_rfl) (by kernel_rfl) (by kernel_rfl) (fun _ _ _ h => h) (Or.inl ⟨by rfl, ?_⟩) (by assumption) ?_
  · intro W hSw
    first | rfl | (go_simp; done) | (go_simp; rfl)
  simp only [Act.put, List.setIfInBounds_toArray, List.set_cons_zero, List.set_cons_succ]
  refine wpAnyH_take (i := 30) (v := (.string (bs k))) (List.getElem?_toArray.trans rfl) (by kernel_rfl) (by kernel_rfl) (by kernel_rfl) (fun _ _ _ h => h) (Or.inl ⟨by rfl, ?_⟩) (by assumption) ?_
  · intro W hSw
    first | rfl | (go_simp; done) | (go_simp; rfl)
  simp only [Act.put, List.setIfInBounds_toArray, List.set_cons_zero, List.set_cons_succ]
  refine wpAnyH_take (i := 31) (v := (.int .i64 a3)) (List.getElem?_toArray.trans rfl) (by kernel_rfl) (by kernel_rfl) (by kernel_rfl) (fun _ _ _ h => h) (Or.inl ⟨by rfl, ?_⟩) (by assumption) ?_
  · intro W hSw
    first | rfl | (go_simp; done) | (go_simp; rfl)
  simp only [Act.put, List.setIfInBounds_toArray, List.set_cons_zero, List.set_cons_succ]
  refine wpAnyH_take (i := 33) (v := (.pointer (some ⟨r, 0, none⟩))) (List.getElem?_toArray.trans rfl) (by kernel_rfl) (by kernel_rfl) (by kernel_rfl) (fun _ _ _ h => h) (Or.inl ⟨by rfl, ?_⟩) (by assumption) ?_
  · intro W hSw
    first | rfl | (go_simp; done) | (go_simp; rfl)
  simp only [Act.put, List.setIfInBounds_toArray, List.set_cons_zero, List.set_cons_succ]
  refine wpAnyH_take (i := 34) (v := (.string (bs k))) (List.getElem?_toArray.trans rfl) (by kernel_rfl) (by kernel_rfl) (by kernel_rfl) (fun _ _ _ h => h) (Or.inl ⟨by rfl, ?_⟩) (by assumption) ?_
  · intro W hSw
    first | rfl | (go_simp; done) | (go_simp; rfl)
  simp only [Act.put, List.setIfInBounds_toArray, List.set_cons_zero, List.set_cons_succ]
  refine wpAnyH_take (i := 35) (v := (.int .i64 a3)) (List.getElem?_toArray.trans rfl) (by kernel_rfl) (by kernel_rfl) (by kernel_rfl) (fun _ _ _ h => h) (Or.inl ⟨by rfl, ?_⟩) (by assumption) ?_
  · intro W hSw
    first | rfl | (go_simp; done) | (go_simp; rfl)
  simp only [Act.put, List.setIfInBounds_toArray, List.set_cons_zero, List.set_cons_succ]
  refine wpAnyH_ready (rs := [32]) (by kernel_rfl) (by simp) ?_
  refine AllReadyH.cons (List.getElem?_toArray.trans rfl) (fun K hK => ?_) AllReadyH.nil
  go_simp
  refine (HF1.out _ hHeld.k).mono ?_
  rintro e w24 ⟨B24, c24, rfl, hel24, g24⟩
  have HE24 := Lib.hid hel24.els
  have HK24 := Lib.hid (kept_trans hHeld.k g24)
  clear hel24
  go_wp2_with fail
  refine hK.out _ _ ⟨kept_trans hHeld.k g24⟩ (fun hHeld => ?_)
  clear hK K
  refine wpAnyH_ready (rs := [36]) (by kernel_rfl) (by simp) ?_
  refine AllReadyH.cons (List.getElem?_toArray.trans rfl) (fun K hK => ?_) AllReadyH.nil
  go_simp
  refine (HF2.out _ HK24.out).mono ?_
  rintro e w25 ⟨B25, c25, rfl, hel25, g25⟩
  have HE25 := Lib.hid hel25
  have HE24b := Lib.hid (HE24.out.kept g25)
  have HK25 := Lib.hid (kept_trans HK24.out g25)
  clear hel25
  go_wp2_with fail
  refine hK.out _ _ ⟨kept_trans HK24.out g25⟩ (fun hHeld => ?_)
  clear hK K
  refine wpAnyH_ready (rs := [37]) (by kernel_rfl) (by simp) ?_
  refine AllReadyH.cons (List.getElem?_toArray.trans rfl) (fun K hK => ?_) AllReadyH.nil
  go_simp
  refine (HSF.out _ _ _ _ _ HE24b.out HE25.out).mono ?_
  rintro e w26 ⟨rfl, g26⟩
  go_wp2_with fail
  refine hK.out _ _ ⟨kept_trans HK25.out g26⟩ (fun hHeld => ?_)
  clear hK K
  refine wpAnyH_take (i := 38) (v := (.bool true)) (List.getElem?_toArray.trans rfl) (by kernel_rfl) (by kernel_rfl) (by kernel_rfl) (fun _ _ _ h => h) (Or.inl ⟨by rfl, ?_⟩) (by assumption) ?_
  · intro W hSw
    first | rfl | (go_simp; done) | (go_simp; rfl)
  simp only [Act.put, List.setIfInBounds_toArray, List.set_cons_zero, List.set_cons_succ]
  refine wpAnyH_take (i := 39) (v := (.bool true)) (List.getElem?_toArray.trans rfl) (by kernel_rfl) (by kernel_rfl) (by kernel_rfl) (fun _ _ _ h => h) (Or.inl ⟨by rfl, ?_⟩) (by assumption) ?_
  · intro W hSw
    first | rfl | (go_simp; done) | (go_simp; rfl)
  simp only [Act.put, List.setIfInBounds_toArray, List.set_cons_zero, List.set_cons_succ]
  refine wpAnyH_take (i := 40) (v := (.agg #[.string (bs x0.key), .int .u64 (x0.seq : Nat), .bool x0.del, .string (bs x0.val)])) (List.getElem?_toArray.trans rfl) (by kernel_rfl) (by kernel_rfl) (by kernel_rfl) (fun _ _ _ h => h) (Or.inl ⟨by rfl, ?_⟩) (by assumption) ?_
  · intro W hSw
    obtain ⟨q0, q1, q2, q3⟩ := HA.out W hSw.k
    first | (go_simp; done) | (go_simp; rfl)
  simp only [Act.put, List.setIfInBounds_toArray, List.set_cons_zero, List.set_cons_succ]
  refine wpAnyH_take (i := 41) (v := (.pointer (some ⟨r, 0, none⟩))) (List.getElem?_toArray.trans rfl) (by kernel_rfl) (by kernel_rfl) (by kernel_rfl) (fun _ _ _ h => h) (Or.inl ⟨by rfl, ?_⟩) (by assumption) ?_
  · intro W hSw
    first | rfl | (go_simp; done) | (go_simp; rfl)
  simp only [Act.put, List.setIfInBounds_toArray, List.set_cons_zero, List.set_cons_succ]
  refine wpAnyH_take (i := 42) (v := (.pointer (some ⟨r, 0, none⟩))) (List.getElem?_toArray.trans rfl) (by kernel_rfl) (by kernel_rfl) (by kernel_rfl) (fun _ _ _ h => h) (Or.inl ⟨by rfl, ?_⟩) (by assumption) ?_
  · intro W hSw
    first | rfl | (go_simp; done) | (go_simp; rfl)
  simp only [Act.put, List.setIfInBounds_toArray, List.set_cons_zero, List.set_cons_succ]
  refine wpAnyH_take (i := 43) (v := (.pointer (some ⟨r, 0, none⟩))) (List.getElem?_toArray.trans rfl) (by kernel_rfl) (by kernel_rfl) (by kernel_rfl) (fun _ _ _ h => h) (Or.inl ⟨by rfl, ?_⟩) (by assumption) ?_
  · intro W hSw
    first | rfl | (go_simp; done) | (go_simp; rfl)
  simp only [Act.put, List.setIfInBounds_toArray, List.set_cons_zero, List.set_cons_succ]
  refine wpAnyH_take (i := 44) (v := (.slice (some ⟨b, o, none⟩) n c)) (List.getElem?_toArray.trans rfl) (by kernel_rfl) (by kernel_rfl) (by kernel_rfl) (fun _ _ _ h => h) (Or.inl ⟨by rfl, ?_⟩) (by assumption) ?_
  · intro W hSw
    have q0 := HSL.out W hSw.k
    first | (go_simp; done) | (go_simp; rfl)
  simp only [Act.put, List.setIfInBounds_toArray, List.set_cons_zero, List.set_cons_succ]
  refine wpAnyH_take (i := 45) (v := (.pointer (some ⟨b, o, none⟩))) (List.getElem?_toArray.trans rfl) (by kernel_rfl) (by kernel_rfl) (by kernel_rfl) (fun _ _ _ h => h) (Or.inl ⟨by rfl, ?_⟩) (by assumption) ?_
  · intro W hSw
    first | rfl | (go_simp; done) | (go_simp; rfl)
  simp only [Act.put, List.setIfInBounds_toArray, List.set_cons_zero, List.set_cons_succ]
  refine wpAnyH_take (i := 46) (v := (.agg #[.string (bs x0.key), .int .u64 (x0.seq : Nat), .bool x0.del, .string (bs x0.val)])) (List.getElem?_toArray.trans rfl) (by kernel_rfl) (by kernel_rfl) (by kernel_rfl) (fun _ _ _ h => h) (Or.inl ⟨by rfl, ?_⟩) (by assumption) ?_
  · intro W hSw
    obtain ⟨q0, q1, q2, q3⟩ := HL0.out W hSw.k
    first | (go_simp; done) | (go_simp; rfl)
  simp only [Act.put, List.setIfInBounds_toArray, List.set_cons_zero, List.set_cons_succ]
  refine wpAnyH_take (i := 47) (v := (.bool true)) (List.getElem?_toArray.trans rfl) (by kernel_rfl) (by kernel_rfl) (by kernel_rfl) (fun _ _ _ h => h) (Or.inl ⟨by rfl, ?_⟩) (by assumption) ?_
  · intro W hSw
    first | rfl | (go_simp; done) | (go_simp; rfl)
  simp only [Act.put, List.setIfInBounds_toArray, List.set_cons_zero, List.set_cons_succ]
  refine wpAnyH_take (i := 48) (v := (.bool true)) (List.getElem?_toArray.trans rfl) (by kernel_rfl) (by kernel_rfl) (by kernel_rfl) (fun _ _ _ h => h) (Or.inl ⟨by rfl, ?_⟩) (by assumption) ?_
  · intro W hSw
    first | rfl | (go_simp; done) | (go_simp; rfl)
  simp only [Act.put, List.setIfInBounds_toArray, List.set_cons_zero, List.set_cons_succ]
  refine wpAnyH_take (i := 49) (v := (.bool true)) (List.getElem?_toArray.trans rfl) (by kernel_rfl) (by kernel_rfl) (by kernel_rfl) (fun _ _ _ h => h) (Or.inl ⟨by rfl, ?_⟩) (by assumption) ?_
  · intro W hSw
    first | rfl | (go_simp; done) | (go_simp; rfl)
  simp only [Act.put, List.setIfInBounds_toArray, List.set_cons_zero, List.set_cons_succ]
  refine wpAnyH_take (i := 50) (v := (.agg #[.string (bs y0.key), .int .u64 (y0.seq : Nat), .bool y0.del, .string (bs y0.val)])) (List.getElem?_toArray.trans rfl) (by kernel_rfl) (by kernel_rfl) (by kernel_rfl) (fun _ _ _ h => h) (Or.inl ⟨by rfl, ?_⟩) (by assumption) ?_
  · intro W hSw
    obtain ⟨q0, q1, q2, q3⟩ := HB.out W hSw.k
    first | (go_simp; done) | (go_simp; rfl)
  simp only [Act.put, List.setIfInBounds_toArray, List.set_cons_zero, List.set_cons_succ]
  refine wpAnyH_take (i := 51) (v := (.pointer (some ⟨r, 0, none⟩))) (List.getElem?_toArray.trans rfl) (by kernel_rfl) (by kernel_rfl) (by kernel_rfl) (fun _ _ _ h => h) (Or.inl ⟨by rfl, ?_⟩) (by assumption) ?_
  · intro W hSw
    first | rfl | (go_simp; done) | (go_simp; rfl)
  simp only [Act.put, List.setIfInBounds_toArray, List.set_cons_zero, List.set_cons_succ]
  refine wpAnyH_take (i := 52) (v := (.pointer (some ⟨r, 0, none⟩))) (List.getElem?_toArray.trans rfl) (by kernel_rfl) (by kernel_rfl) (by kernel_rfl) (fun _ _ _ h => h) (Or.inl ⟨by rfl, ?_⟩) (by assumption) ?_
  · intro W hSw
    first | rfl | (go_simp; done) | (go_simp; rfl)
  simp only [Act.put, List.setIfInBounds_toArray, List.set_cons_zero, List.set_cons_succ]
  refine wpAnyH_take (i := 53) (v := (.pointer (some ⟨r, 0, none⟩))) (List.getElem?_toArray.trans rfl) (by kernel_rfl) (by kernel_rfl) (by kernel_rfl) (fun _ _ _ h => h) (Or.inl ⟨by rfl, ?_⟩) (by assumption) ?_
  · intro W hSw
    first | rfl | (go_simp; done) | (go_simp; rfl)
  simp only [Act.put, List.setIfInBounds_toArray, List.set_cons_zero, List.set_cons_succ]
  refine wpAnyH_take (i := 54) (v := (.slice (some ⟨b, o, none⟩) n c)) (List.getElem?_toArray.trans rfl) (by kernel_rfl) (by kernel_rfl) (by kernel_rfl) (fun _ _ _ h => h) (Or.inl ⟨by rfl, ?_⟩) (by assumption) ?_
  · intro W hSw
    have q0 := HSL.out W hSw.k
    first | (go_simp; done) | (go_simp; rfl)
  simp only [Act.put, List.setIfInBounds_toArray, List.set_cons_zero, List.set_cons_succ]
  refine wpAnyH_take (i := 55) (v := (.pointer (some ⟨r, 0, none⟩))) (List.getElem?_toArray.trans rfl) (by kernel_rfl) (by kernel_rfl) (by kernel_rfl) (fun _ _ _ h => h) (Or.inl ⟨by rfl, ?_⟩) (by assumption) ?_
  · intro W hSw
    first | rfl | (go_simp; done) | (go_simp; rfl)
  simp only [Act.put, List.setIfInBounds_toArray, List.set_cons_zero, List.set_cons_succ]
  refine wpAnyH_take (i := 56) (v := (.pointer (some ⟨r, 0, none⟩))) (List.getElem?_toArray.trans rfl) (by kernel_rfl) (by kernel_rfl) (by kernel_rfl) (fun _ _ _ h => h) (Or.inl ⟨by rfl, ?_⟩) (by assumption) ?_
  · intro W hSw
    first | rfl | (go_simp; done) | (go_simp; rfl)
  simp only [Act.put, List.setIfInBounds_toArray, List.set_cons_zero, List.set_cons_succ]
  refine wpAnyH_take (i := 57) (v := (.pointer (some ⟨r, 0, none⟩))) (List.getElem?_toArray.trans rfl) (by kernel_rfl) (by kernel_rfl) (by kernel_rfl) (fun _ _ _ h => h) (Or.inl ⟨by rfl, ?_⟩) (by assumption) ?_
  · intro W hSw
    first | rfl | (go_simp; done) | (go_simp; rfl)
  simp only [Act.put, List.setIfInBounds_toArray, List.set_cons_zero, List.set_cons_succ]
  refine wpAnyH_take (i := 58) (v := (.slice (some ⟨b, o, none⟩) n c)) (List.getElem?_toArray.trans rfl) (by kernel_rfl) (by kernel_rfl) (by kernel_rfl) (fun _ _ _ h => h) (Or.inl ⟨by rfl, ?_⟩) (by assumption) ?_
  · intro W hSw
    have q0 := HSL.out W hSw.k
    first | (go_simp; done) | (go_simp; rfl)
  simp only [Act.put, List.setIfInBounds_toArray, List.set_cons_zero, List.set_cons_succ]
  refine wpAnyH_take (i := 59) (v := (.int .i64 (n : Nat))) (List.getElem?_toArray.trans rfl) (by kernel_rfl) (by kernel_rfl) (by kernel_rfl) (fun _ _ _ h => h) (Or.inl ⟨by rfl, ?_⟩) (by assumption) ?_
  · intro W hSw
    first | rfl | (go_simp; done) | (go_simp; rfl)
  simp only [Act.put, List.setIfInBounds_toArray, List.set_cons_zero, List.set_cons_succ]
  refine wpAnyH_take (i := 60) (v := (.int .i64 (n - 1 : Nat))) (List.getElem?_toArray.trans rfl) (by kernel_rfl) (by kernel_rfl) (by kernel_rfl) (fun _ _ _ h => h) (Or.inl ⟨by rfl, ?_⟩) (by assumption) ?_
  · intro W hSw
    first | rfl | (go_simp; done) | (go_simp; rfl)
  simp only [Act.put, List.setIfInBounds_toArray, List.set_cons_zero, List.set_cons_succ]
  refine wpAnyH_take (i := 61) (v := (.pointer (some ⟨b, o + 4 * (n - 1), none⟩))) (List.getElem?_toArray.trans rfl) (by kernel_rfl) (by kernel_rfl) (by kernel_rfl) (fun _ _ _ h => h) (Or.inl ⟨by rfl, ?_⟩) (by assumption) ?_
  · intro W hSw
    first | rfl | (go_simp; done) | (go_simp; rfl)
  simp only [Act.put, List.setIfInBounds_toArray, List.set_cons_zero, List.set_cons_succ]
  refine wpAnyH_take (i := 62) (v := (.agg #[.string (bs y0.key), .int .u64 (y0.seq : Nat), .bool y0.del, .string (bs y0.val)])) (List.getElem?_toArray.trans rfl) (by kernel_rfl) (by kernel_rfl) (by kernel_rfl) (fun _ _ _ h => h) (Or.inl ⟨by rfl, ?_⟩) (by assumption) ?_
  · intro W hSw
    obtain ⟨q0, q1, q2, q3⟩ := HLL.out W hSw.k
    first | (go_simp; done) | (go_simp; rfl)
  simp only [Act.put, List.setIfInBounds_toArray, List.set_cons_zero, List.set_cons_succ]
  refine wpAnyH_take (i := 63) (v := (.bool true)) (List.getElem?_toArray.trans rfl) (by kernel_rfl) (by kernel_rfl) (by kernel_rfl) (fun _ _ _ h => h) (Or.inl ⟨by rfl, ?_⟩) (by assumption) ?_
  · intro W hSw
    first | rfl | (go_simp; done) | (go_simp; rfl)
  simp only [Act.put, List.setIfInBounds_toArray, List.set_cons_zero, List.set_cons_succ]
  refine wpAnyH_take (i := 64) (v := (.bool true)) (List.getElem?_toArray.trans rfl) (by kernel_rfl) (by kernel_rfl) (by kernel_rfl) (fun _ _ _ h => h) (Or.inl ⟨by rfl, ?_⟩) (by assumption) ?_
  · intro W hSw
    first | rfl | (go_simp; done) | (go_simp; rfl)
  simp only [Act.put, List.setIfInBounds_toArray, List.set_cons_zero, List.set_cons_succ]
  refine wpAnyH_take (i := 65) (v := (.bool true)) (List.getElem?_toArray.trans rfl) (by kernel_rfl) (by kernel_rfl) (by kernel_rfl) (fun _ _ _ h => h) (Or.inl ⟨by rfl, ?_⟩) (by assumption) ?_
  · intro W hSw
    first | rfl | (go_simp; done) | (go_simp; rfl)
  simp only [Act.put, List.setIfInBounds_toArray, List.set_cons_zero, List.set_cons_succ]
  refine wpAnyH_take (i := 66) (v := (.pointer (some ⟨p, 0, none⟩))) (List.getElem?_toArray.trans rfl) (by kernel_rfl) (by kernel_rfl) (by kernel_rfl) (fun _ _ _ h => h) (Or.inl ⟨by rfl, ?_⟩) (by assumption) ?_
  · intro W hSw
    first | rfl | (go_simp; done) | (go_simp; rfl)
  simp only [Act.put, List.setIfInBounds_toArray, List.set_cons_zero, List.set_cons_succ]
  refine wpAnyH_take (i := 68) (v := (.pointer (some ⟨r, 0, none⟩))) (List.getElem?_toArray.trans rfl) (by kernel_rfl) (by kernel_rfl) (by kernel_rfl) (fun _ _ _ h => h) (Or.inl ⟨by rfl, ?_⟩) (by assumption) ?_
  · intro W hSw
    first | rfl | (go_simp; done) | (go_simp; rfl)
  simp only [Act.put, List.setIfInBounds_toArray, List.set_cons_zero, List.set_cons_succ]
  refine wpAnyH_take (i := 69) (v := (.pointer (some ⟨r, 0, none⟩))) (List.getElem?_toArray.trans rfl) (by kernel_rfl) (by kernel_rfl) (by kernel_rfl) (fun _ _ _ h => h) (Or.inl ⟨by rfl, ?_⟩) (by assumption) ?_
  · intro W hSw
    first | rfl | (go_simp; done) | (go_simp; rfl)
  simp only [Act.put, List.setIfInBounds_toArray, List.set_cons_zero, List.set_cons_succ]
  refine wpAnyH_take (i := 70) (v := (.pointer (some ⟨r, 0, none⟩))) (List.getElem?_toArray.trans rfl) (by kernel_rfl) (by kernel_rfl) (by kernel_rfl) (fun _ _ _ h => h) (Or.inl ⟨by rfl, ?_⟩) (by assumption) ?_
  · intro W hSw
    first | rfl | (go_simp; done) | (go_simp; rfl)
  simp only [Act.put, List.setIfInBounds_toArray, List.set_cons_zero, List.set_cons_succ]
  refine wpAnyH_take (i := 71) (v := (.slice (some ⟨b, o, none⟩) n c)) (List.getElem?_toArray.trans rfl) (by kernel_rfl) (by kernel_rfl) (by kernel_rfl) (fun _ _ _ h => h) (Or.inl ⟨by rfl, ?_⟩) (by assumption) ?_
  · intro W hSw
    have q0 := HSL.out W hSw.k
    first | (go_simp; done) | (go_simp; rfl)
  simp only [Act.put, List.setIfInBounds_toArray, List.set_cons_zero, List.set_cons_succ]
  refine wpAnyH_take (i := 72) (v := (.int .i64 (n : Nat))) (List.getElem?_toArray.trans rfl) (by kernel_rfl) (by kernel_rfl) (by kernel_rfl) (fun _ _ _ h => h) (Or.inl ⟨by rfl, ?_⟩) (by assumption) ?_
  · intro W hSw
    first | rfl | (go_simp; done) | (go_simp; rfl)
  simp only [Act.put, List.setIfInBounds_toArray, List.set_cons_zero, List.set_cons_succ]
  refine wpAnyH_ready (rs := [67]) (by kernel_rfl) (by simp) ?_
  refine AllReadyH.cons (List.getElem?_toArray.trans rfl) (fun K hK => ?_) AllReadyH.nil
  go_simp
  refine (HLEN.out _ hHeld.k).mono ?_
  rintro e w27 ⟨rfl, rfl⟩
  go_wp2_with fail
  refine hK.out _ _ (by assumption) (fun hHeld => ?_)
  clear hK K
  refine wpAnyH_take (i := 73) (v := (.bool true)) (List.getElem?_toArray.trans rfl) (by kernel_rfl) (by kernel_rfl) (by kernel_rfl) (fun _ _ _ h => h) (Or.inl ⟨by rfl, ?_⟩) (by assumption) ?_
  · intro W hSw
    first | rfl | (go_simp; done) | (go_simp; rfl)
  simp only [Act.put, List.setIfInBounds_toArray, List.set_cons_zero, List.set_cons_succ]
  refine wpAnyH_take (i := 74) (v := (.bool true)) (List.getElem?_toArray.trans rfl) (by kernel_rfl) (by kernel_rfl) (by kernel_rfl) (fun _ _ _ h => h) (Or.inl ⟨by rfl, ?_⟩) (by assumption) ?_
  · intro W hSw
    first | rfl | (go_simp; done) | (go_simp; rfl)
  simp only [Act.put, List.setIfInBounds_toArray, List.set_cons_zero, List.set_cons_succ]
  refine wpAnyH_take (i := 75) (v := (.bool true)) (List.getElem?_toArray.trans rfl) (by kernel_rfl) (by kernel_rfl) (by kernel_rfl) (fun _ _ _ h => h) (Or.inl ⟨by rfl, ?_⟩) (by assumption) ?_
  · intro W hSw
    first | rfl | (go_simp; done) | (go_simp; rfl)
  simp only [Act.put, List.setIfInBounds_toArray, List.set_cons_zero, List.set_cons_succ]
  refine wpAnyH_take (i := 76) (v := (.pointer (some ⟨p, 0, none⟩))) (List.getElem?_toArray.trans rfl) (by kernel_rfl) (by kernel_rfl) (by kernel_rfl) (fun _ _ _ h => h) (Or.inl ⟨by rfl, ?_⟩) (by assumption) ?_
  · intro W hSw
    first | rfl | (go_simp; done) | (go_simp; rfl)
  simp only [Act.put, List.setIfInBounds_toArray, List.set_cons_zero, List.set_cons_succ]
  refine wpAnyH_take (i := 78) (v := (.pointer (some ⟨r, 0, none⟩))) (List.getElem?_toArray.trans rfl) (by kernel_rfl) (by kernel_rfl) (by kernel_rfl) (fun _ _ _ h => h) (Or.inl ⟨by rfl, ?_⟩) (by assumption) ?_
  · intro W hSw
    first | rfl | (go_simp; done) | (go_simp; rfl)
  simp only [Act.put, List.setIfInBounds_toArray, List.set_cons_zero, List.set_cons_succ]
  refine wpAnyH_take (i := 79) (v := (.pointer (some ⟨r, 0, none⟩))) (List.getElem?_toArray.trans rfl) (by kernel_rfl) (by kernel_rfl) (by kernel_rfl) (fun _ _ _ h => h) (Or.inl ⟨by rfl, ?_⟩) (by assumption) ?_
  · intro W hSw
    first | rfl | (go_simp; done) | (go_simp; rfl)
  simp only [Act.put, List.setIfInBounds_toArray, List.set_cons_zero, List.set_cons_succ]
  refine wpAnyH_take (i := 80) (v := (.pointer (some ⟨r, 0, none⟩))) (List.getElem?_toArray.trans rfl) (by kernel_rfl) (by kernel_rfl) (by kernel_rfl) (fun _ _ _ h => h) (Or.inl ⟨by rfl, ?_⟩) (by assumption) ?_
  · intro W hSw
    first | rfl | (go_simp; done) | (go_simp; rfl)
  simp only [Act.put, List.setIfInBounds_toArray, List.set_cons_zero, List.set_cons_succ]
  refine wpAnyH_take (i := 81) (v := (.slice (some ⟨b, o, none⟩) n c)) (List.getElem?_toArray.trans rfl) (by kernel_rfl) (by kernel_rfl) (by kernel_rfl) (fun _ _ _ h => h) (Or.inl ⟨by rfl, ?_⟩) (by assumption) ?_
  · intro W hSw
    have q0 := HSL.out W hSw.k
    first | (go_simp; done) | (go_simp; rfl)
  simp only [Act.put, List.setIfInBounds_toArray, List.set_cons_zero, List.set_cons_succ]
  refine wpAnyH_take (i := 82) (v := (.int .i64 (n : Nat))) (List.getElem?_toArray.trans rfl) (by kernel_rfl) (by kernel_rfl) (by kernel_rfl) (fun _ _ _ h => h) (Or.inl ⟨by rfl, ?_⟩) (by assumption) ?_
  · intro W hSw
    first | rfl | (go_simp; done) | (go_simp; rfl)
  simp only [Act.put, List.setIfInBounds_toArray, List.set_cons_zero, List.set_cons_succ]
  refine wpAnyH_take (i := 83) (v := (.int .i64 (n7 : Nat))) (List.getElem?_toArray.trans rfl) (by kernel_rfl) (by kernel_rfl) (by kernel_rfl) (fun _ _ _ h => h) (Or.inl ⟨by rfl, ?_⟩) (by assumption) ?_
  · intro W hSw
    first | rfl | (go_simp; done) | (go_simp; rfl)
  simp only [Act.put, List.setIfInBounds_toArray, List.set_cons_zero, List.set_cons_succ]
  refine wpAnyH_take (i := 84) (v := (.int .i64 (NB : Nat))) (List.getElem?_toArray.trans rfl) (by kernel_rfl) (by kernel_rfl) (by kernel_rfl) (fun _ _ _ h => h) (Or.inl ⟨by rfl, ?_⟩) (by assumption) ?_
  · intro W hSw
    first | rfl | (go_simp; done) | (go_simp; rfl)
  simp only [Act.put, List.setIfInBounds_toArray, List.set_cons_zero, List.set_cons_succ]
  refine wpAnyH_ready (rs := [77]) (by kernel_rfl) (by simp) ?_
  refine AllReadyH.cons (List.getElem?_toArray.trans rfl) (fun K hK => ?_) AllReadyH.nil
  go_simp
  refine (HBLK.out _ hHeld.k).mono ?_
  rintro e w28 ⟨rfl, rfl⟩
  go_wp2_with fail
  refine hK.out _ _ (by assumption) (fun hHeld => ?_)
  clear hK K
  refine wpAnyH_take (i := 85) (v := (.bool true)) (List.getElem?_toArray.trans rfl) (by kernel_rfl) (by kernel_rfl) (by kernel_rfl) (fun _ _ _ h => h) (Or.inl ⟨by rfl, ?_⟩) (by assumption) ?_
  · intro W hSw
    first | rfl | (go_simp; done) | (go_simp; rfl)
  simp only [Act.put, List.setIfInBounds_toArray, List.set_cons_zero, List.set_cons_succ]
  refine wpAnyH_take (i := 86) (v := (.bool true)) (List.getElem?_toArray.trans rfl) (by kernel_rfl) (by kernel_rfl) (by kernel_rfl) (fun _ _ _ h => h) (Or.inl ⟨by rfl, ?_⟩) (by assumption) ?_
  · intro W hSw
    first | rfl | (go_simp; done) | (go_simp; rfl)
  simp only [Act.put, List.setIfInBounds_toArray, List.set_cons_zero, List.set_cons_succ]
  refine wpAnyH_take (i := 87) (v := (.bool true)) (List.getElem?_toArray.trans rfl) (by kernel_rfl) (by kernel_rfl) (by kernel_rfl) (fun _ _ _ h => h) (Or.inl ⟨by rfl, ?_⟩) (by assumption) ?_
  · intro W hSw
    first | rfl | (go_simp; done) | (go_simp; rfl)
  simp only [Act.put, List.setIfInBounds_toArray]
  refine wpAnyH_done (by kernel_rfl) ?_ _
  go_wp2_with fail
  go_ret
  exact ⟨rfl, kept_trans K9.out hHeld.k⟩
theorem TableReads_walk (S1 S2 : ByteArray) (a2 a3 : Int) {w : World} (hS1 : S1.size ≤ maxLen) (hS2 : S2.size ≤ maxLen) (h2 : (Lit.int .u64 a2).wf = true) (h3 : (Lit.int .i64 a3).wf = true) :
    Calls Try.prog 4 #[.string S1, .string S2, .int .u64 a2, .int .i64 a3] w fun e w' => e = .returned (.bool true) ∧ Kept w w' := by
  obtain ⟨s, rfl, es⟩ := bs_back S1
  obtain ⟨k, rfl, ek⟩ := bs_back S2
  have b1 := (bounds_i64 h3).1
  have b2 := (bounds_i64 h3).2
  have b3 := bounds_u64 h2
  obtain ⟨sq, rfl⟩ : ∃ sq : Nat, a2 = (sq : Int) := ⟨a2.toNat, by omega⟩
  have zs := fbs_size s
  have zk := fbs_size k
  unfold maxLen at hS1 hS2
  have HAW := Lib.hid (tawake_any w)
  by_cases h16 : 16384 < s.length
  · have d1 : decide ((16384 : Int) < ((bs s).size : Int)) = true := decide_eq_true (by omega)
    clear es ek zs zk
    go_enter Try.func4, Try.ntmps4
    go_wp2_with fail
    refine HAW.out.mono ?_
    rintro e w1 ⟨rfl, g1⟩
    go_wp2_with fail
    go_ret
    exact ⟨rfl, g1⟩
  · by_cases h300 : 300 < k.length
    · have d1 : decide ((16384 : Int) < ((bs s).size : Int)) = false := decide_eq_false (by omega)
      have d2 : decide ((300 : Int) < ((bs k).size : Int)) = true := decide_eq_true (by omega)
      clear es ek zs zk
      go_enter Try.func4, Try.ntmps4
      go_wp2_with fail
      refine HAW.out.mono ?_
      rintro e w1 ⟨rfl, g1⟩
      go_wp2_with fail
      go_ret
      exact ⟨rfl, g1⟩
    · cases hd : Tb.dec s with
      | some l => exact TableReads_main s k sq a3 (by omega) (by omega) (by omega) b1 b2 hd
      | none =>
        have d1 : decide ((16384 : Int) < ((bs s).size : Int)) = false := decide_eq_false (by omega)
        have d2 : decide ((300 : Int) < ((bs k).size : Int)) = false := decide_eq_false (by omega)
        have HOP := Lib.hid (fun W => topen_none (by omega) hd W)
        have HRO := Lib.hid (fun W => rtopen_none (by omega) hd W)
        clear es ek zs zk hd
        go_enter Try.func4, Try.ntmps4
        go_wp2_with fail
        refine HAW.out.mono ?_
        rintro e w1 ⟨rfl, g1⟩
        go_wp2_with fail
        refine (HOP.out _).mono ?_
        rintro e w2 ⟨rfl, g2⟩
        go_wp2_with fail
        refine (HRO.out _).mono ?_
        rintro e w3 ⟨rfl, g3⟩
        go_wp2_with fail
        go_ret
        exact ⟨rfl, kept_trans g1 (kept_trans g2 g3)⟩
end Go.Proofs.Ytecjnebfhbdnaaa
