/-
  Statements of package level: awake.
-/
import Derived.Test.YtnnmalpnjlnnlaaGreatPackLvS
import Derived.Test.YtnnmalpnjlnnlaaGreatPackLvR
import Derived.Test.YtnnmalpnjlnnlaaGreatPackLvP
namespace Go.Proofs.YtnnmalpnjlnnlaaGreat
open Go.ChangeShapes Go.WideShapes Go.ChangeAt Go.RowKit
set_option linter.unusedVariables false
set_option maxRecDepth 100000
set_option maxHeartbeats 8000000
open Lv
namespace Lv
theorem Good.same {V V' : Ver} (h : Good V) (e : ∀ l, l < 4 → V'.t l = V.t l) (e1 : V'.nx = V.nx) (e2 : V'.lg = V.lg) (e3 : V'.sq = V.sq) : Good V' := by
  have hf : fl V'.t = fl V.t := by rw [fl_four, fl_four, e 0 (by omega), e 1 (by omega), e 2 (by omega), e 3 (by omega)]
  refine ⟨fun l hl => by rw [e l hl]; exact h.len l hl, fun l hl => by rw [e l hl]; exact h.may l hl, fun l hl => by rw [e l hl]; exact h.srt l hl, fun l hl => by rw [e l hl, e1, e3]; exact h.num l hl, by rw [hf]; exact h.once, fun l hl => by rw [e l hl]; exact h.apart l hl, by rw [e1]; exact h.nx, by rw [e2]; exact h.lg, by rw [e3]; exact h.sq⟩
end Lv
theorem apy_good {V : Ver} {E : Edt} {U : Nat → Lvl} (g : Lv.Good V) (hc : code V E = 0) (hU : ∀ l, l < 4 → (U l).l = res V E l) : Lv.Good (verV U (chg V.nx E.nx) (chg V.lg E.lg) (chg V.sq E.sq)) :=
  (good_next g hc).same (fun l hl => hU l hl) rfl rfl rfl
theorem mts_lit {W : World} {b : Nat} {c : Array Value} {t : TypeId} {z : Nat × Nat} {l : List Meta} (h : W.heap[b]? = some (.cells c t z)) (e : c.toList = mtl l) : Mts W (some ⟨b, 0, none⟩) l := fun j x hx => by
  have hg := mtl_get hx
  have hc : ∀ i u, (mtl l)[i]? = some u → W.cell? ⟨b, i, none⟩ = some u := fun i u hu => mcell h i (by rw [← e] at hu; simpa using hu)
  refine ⟨b, 0, rfl, mheap_lt h, ?_, ?_, ?_, ?_, ?_⟩
  · rw [Nat.zero_add]; exact hc _ _ (hg 0 _ rfl)
  · rw [Nat.zero_add]; exact hc _ _ (hg 1 _ rfl)
  · rw [Nat.zero_add]; exact hc _ _ (hg 2 _ rfl)
  · rw [Nat.zero_add]; exact hc _ _ (hg 3 _ rfl)
  · rw [Nat.zero_add]; exact hc _ _ (hg 4 _ rfl)
theorem lvm_any (n : Nat) (a b : List UInt8) (w : World) : Calls Tryz.prog 36 #[.int .u64 (n : Nat), .string (bs a), .string (bs b)] w fun e w' => e = .returned (.agg #[.int .u64 (n : Nat), .int .i64 5, .string (bs a), .string (bs b), .int .u64 1]) ∧ Kept w w' := by
  go_enter Tryz.func36, Tryz.ntmps36
  go_wp2_with fail
  refine bodyPost_ret (v := .agg #[.int .u64 (n : Nat), .int .i64 5, .string (bs a), .string (bs b), .int .u64 1]) (by simp [results, Tryz.results36, go_sem]) rfl ⟨rfl, (Kept.refl _).alloc _⟩
def am (n : Nat) (a b : UInt8) : Meta := ⟨n, 5, [a], [b], 1⟩
def aT (b0 b1 : Nat) : Nat → Lvl
  | 0 => ⟨some ⟨b0, 0, none⟩, 3, [am 7 99 102, am 9 97 99, am 8 102 103]⟩
  | 1 => ⟨some ⟨b1, 0, none⟩, 2, [am 1 98 98, am 2 122 122]⟩
  | _ => ⟨none, 0, []⟩
def aE (b0 b1 : Nat) : Ed := ⟨none, 0, [], aT b0 b1, 10, 0, 4⟩
def aNew : Nat → List Meta
  | 0 => [am 7 99 102, am 9 97 99, am 8 102 103]
  | 1 => [am 1 98 98, am 2 122 122]
  | _ => []
def aEdt : Edt := ⟨[], aNew, 10, 0, 4⟩
theorem aE_edt (b0 b1 : Nat) : Lv.Alike (aE b0 b1).edt aEdt := ⟨rfl, fun l hl => by
  have : l = 0 ∨ l = 1 ∨ l = 2 ∨ l = 3 := by omega
  rcases this with rfl | rfl | rfl | rfl <;> rfl, rfl, rfl, rfl⟩
theorem aE_eq (b0 b1 : Nat) : (aE b0 b1).edt = aEdt := by
  unfold aE Ed.edt aEdt
  congr 1
  funext l
  match l with
  | 0 => rfl
  | 1 => rfl
  | _ + 2 => rfl
theorem a_code : code vz aEdt = 0 := by decide +kernel
theorem a_res0 : res vz aEdt 0 = [am 9 97 99, am 8 102 103, am 7 99 102] := by decide +kernel
theorem a_res1 : res vz aEdt 1 = [am 1 98 98, am 2 122 122] := by decide +kernel
theorem a_res2 : res vz aEdt 2 = [] := by decide +kernel
theorem a_res3 : res vz aEdt 3 = [] := by decide +kernel
theorem a_isE : isE aEdt = true := by decide +kernel
def aL0 : List Meta := [am 9 97 99, am 8 102 103, am 7 99 102]
def aL1 : List Meta := [am 1 98 98, am 2 122 122]
theorem a_step1 : lstep aL0 ([97], [99]) = ([97], [102]) := by decide +kernel
theorem a_step2 : lstep aL0 ([97], [102]) = ([97], [103]) := by decide +kernel
theorem a_step3 : lstep aL0 ([97], [103]) = ([97], [103]) := by decide +kernel
theorem a_rch {t : List UInt8 × List UInt8} (h : Rch aL0 ([97], [99]) t) : t = ([97], [99]) ∨ t = ([97], [102]) ∨ t = ([97], [103]) := by
  induction h with
  | start => exact .inl rfl
  | more _ ih =>
    rcases ih with rfl | rfl | rfl
    · rw [a_step1]; exact .inr (.inl rfl)
    · rw [a_step2]; exact .inr (.inr rfl)
    · rw [a_step3]; exact .inr (.inr rfl)
theorem a_pick {t : List UInt8 × List UInt8} (h : Rch aL0 ([97], [99]) t) (f : lstep aL0 t = t) : t = ([97], [103]) := by
  rcases a_rch h with rfl | rfl | rfl
  · rw [a_step1] at f; exact absurd f (by decide +kernel)
  · rw [a_step2] at f; exact absurd f (by decide +kernel)
  · rfl
theorem a_meet0 : meet aL0 [97] [103] = aL0 := by decide +kernel
theorem a_meet1 : meet aL1 [97] [103] = [am 1 98 98] := by decide +kernel
theorem a_belw (t : Nat → List Meta) (h0 : t 0 = aL0) (h1 : t 1 = aL1) (h2 : t 2 = []) (h3 : t 3 = []) (a b : List UInt8) : belw t 1 a b = false := by
  rw [belw_iff]
  intro d h4 h5
  have : d = 2 ∨ d = 3 := by omega
  rcases this with rfl | rfl
  · rw [h2]; rfl
  · rw [h3]; rfl
theorem a_meetd : (meet aL0 [100] [100]).length = 1 := by decide +kernel
theorem a_code2 : code ⟨res vz aEdt, 10, 0, 4⟩ ⟨[77], fun _ => [], 0, 0, 0⟩ = 10 := by decide +kernel
theorem a_code3 : code ⟨res vz aEdt, 10, 0, 4⟩ ⟨[], fun _ => [], 9, 0, 0⟩ = 3 := by decide +kernel
theorem a_isB : isB (enc aEdt) = true ∧ isB (enc aEdt ++ [63]) = false := by decide +kernel
theorem a_may : may (am 1 97 98) = true ∧ may zmeta = false := by decide +kernel
theorem a_enclen : (enc aEdt).length ≤ 200 := by decide +kernel
theorem code_same {V V' : Ver} {E : Edt} (e : ∀ l, l < 4 → V'.t l = V.t l) (e1 : V'.nx = V.nx) (e2 : V'.lg = V.lg) (e3 : V'.sq = V.sq) : code V' E = code V E := by
  have hf : fl V'.t = fl V.t := by rw [fl_four, fl_four, e 0 (by omega), e 1 (by omega), e 2 (by omega), e 3 (by omega)]
  have hs : ∀ l, l < 4 → stay V'.t E.gone l = stay V.t E.gone l := fun l hl => by unfold stay; rw [e l hl]
  have hfs : fl (stay V'.t E.gone) = fl (stay V.t E.gone) := by rw [fl_four, fl_four, hs 0 (by omega), hs 1 (by omega), hs 2 (by omega), hs 3 (by omega)]
  have hr : ∀ l, l < 4 → res V' E l = res V E l := fun l hl => by unfold res; rw [hs l hl]
  unfold code
  rw [hf, hfs, show okR V' E = okR V E from by unfold okR; rw [e1, e2, e3], manyL_same hs, show apart3 (res V' E) = apart3 (res V E) from by unfold apart3; rw [hr 1 (by omega), hr 2 (by omega), hr 3 (by omega)]]
theorem kset1 {w w' : World} (h : Kept w w') {b : Nat} (hb : w.heap.size ≤ b) (j : Nat) (u : Value) : Kept w (w'.setCell ⟨b, j, none⟩ u) := Below.setCell h (p := ⟨b, j, none⟩) hb u
theorem aE_in {W : World} {b0 b1 : Nat} (h0 : W.heap[b0]? = some (.cells #[.int .u64 7, .int .i64 5, .string (bs [99]), .string (bs [102]), .int .u64 1, .int .u64 9, .int .i64 5, .string (bs [97]), .string (bs [99]), .int .u64 1, .int .u64 8, .int .i64 5, .string (bs [102]), .string (bs [103]), .int .u64 1] 43 (0, 0))) (h1 : W.heap[b1]? = some (.cells #[.int .u64 1, .int .i64 5, .string (bs [98]), .string (bs [98]), .int .u64 1, .int .u64 2, .int .i64 5, .string (bs [122]), .string (bs [122]), .int .u64 1] 43 (0, 0))) : (aE b0 b1).In W := by
  refine ⟨fun j x hx => by simp [aE] at hx, ⟨fun l hl => ?_, fun l hl => ?_, fun l hl => ?_, fun l hl => ?_⟩, by simp [aE], fun l hl => ?_, by simp [aE], by simp [aE], by simp [aE]⟩
  all_goals
    have h4 : l = 0 ∨ l = 1 ∨ l = 2 ∨ l = 3 := by omega
    rcases h4 with rfl | rfl | rfl | rfl
  · exact mts_lit h0 rfl
  · exact mts_lit h1 rfl
  · intro j x hx; simp [aE, aT] at hx
  · intro j x hx; simp [aE, aT] at hx
  · simp [aE, aT]
  · simp [aE, aT]
  · simp [aE, aT]
  · simp [aE, aT]
  · simp [aE, aT, maxLen]
  · simp [aE, aT, maxLen]
  · simp [aE, aT]
  · simp [aE, aT]
  · intro x hx; simp [aE, aT] at hx; rcases hx with rfl | rfl | rfl <;> simp [Sane, am, maxLen]
  · intro x hx; simp [aE, aT] at hx; rcases hx with rfl | rfl <;> simp [Sane, am, maxLen]
  · intro x hx; simp [aE, aT] at hx
  · intro x hx; simp [aE, aT] at hx
  · simp [aE, aT]
  · simp [aE, aT]
  · simp [aE, aT]
  · simp [aE, aT]
theorem lvawake_any (w : World) : Calls Tryz.prog 11 #[] w fun e w' => e = .returned (.bool true) ∧ Kept w w' := by
  have HM := Lib.hid lvm_any
  go_enter Tryz.func11, Tryz.ntmps11
  go_wp2_with fail
  refine (lvnew_any _).mono ?_
  rintro e w1 ⟨p, rfl, hv, hp, k1⟩
  have HV := Lib.hid (fun W (hW : Kept w1 W) => hv.kept hW); have K1 := Lib.hid k1
  clear hv hp k1
  go_upto_region 6 with fail
  have B2 := Lib.hid (malloc_new w1 (.cells #[.slice none 0 0, .slice none 0 0, .slice none 0 0, .slice none 0 0, .slice none 0 0, .int .u64 10, .int .u64 0, .int .u64 4] 34))
  have K2 := Lib.hid ((Kept.refl w1).alloc (.cells #[.slice none 0 0, .slice none 0 0, .slice none 0 0, .slice none 0 0, .slice none 0 0, .int .u64 10, .int .u64 0, .int .u64 4] 34))
  generalize w1.alloc (.cells #[.slice none 0 0, .slice none 0 0, .slice none 0 0, .slice none 0 0, .slice none 0 0, .int .u64 10, .int .u64 0, .int .u64 4] 34) = w2 at *
  generalize hbe : w1.heap.size = be at *
  have HBE := Lib.hid hbe
  clear hbe
  go_wp2_with fail
  refine (HM.out 7 [99] [102] _).mono ?_
  rintro e w3 ⟨rfl, g3⟩
  go_wp2_with fail
  refine (HM.out 9 [97] [99] _).mono ?_
  rintro e w4 ⟨rfl, g4⟩
  go_wp2_with fail
  refine (HM.out 8 [102] [103] _).mono ?_
  rintro e w5 ⟨rfl, g5⟩
  have g25 := Lib.hid (kept_trans (kept_trans g3 g4) g5)
  clear g3 g4 g5
  have k6 := Lib.hid ((Kept.refl w5).alloc (.cells #[.int .u64 7, .int .i64 5, .string (bs [99]), .string (bs [102]), .int .u64 1, .int .u64 9, .int .i64 5, .string (bs [97]), .string (bs [99]), .int .u64 1, .int .u64 8, .int .i64 5, .string (bs [102]), .string (bs [103]), .int .u64 1] 43))
  have hb := hp_kept B2.out (kept_trans g25.out k6.out)
  have h0 := malloc_new w5 (.cells #[.int .u64 7, .int .i64 5, .string (bs [99]), .string (bs [102]), .int .u64 1, .int .u64 9, .int .i64 5, .string (bs [97]), .string (bs [99]), .int .u64 1, .int .u64 8, .int .i64 5, .string (bs [102]), .string (bs [103]), .int .u64 1] 43)
  have z1 := mcell hb 1 (v := .slice none 0 0) (by rfl)
  have s1 := mfrozen hb 1
  have HB := Lib.hid hb; have H0 := Lib.hid h0
  clear hb h0
  go_upto_region 7 with fail
  clear z1 s1
  have hlt5 : be < w5.heap.size := Nat.lt_of_lt_of_le (mheap_lt B2.out) g25.out.size
  have K7 := Lib.hid (kset1 (kept_trans (kept_trans K2.out g25.out) k6.out) (b := be) (Nat.le_of_eq HBE.out) 1 (.slice (some ⟨w5.heap.size, 0, none⟩) 3 3))
  have B7 := Lib.hid (lvset HB.out 1 (.slice (some ⟨w5.heap.size, 0, none⟩) 3 3))
  have L7 := Lib.hid (lvset_ne H0.out (by omega : w5.heap.size ≠ be) 1 (.slice (some ⟨w5.heap.size, 0, none⟩) 3 3))
  clear k6 HB H0 g25 B2 K2
  generalize (w5.alloc (.cells #[.int .u64 7, .int .i64 5, .string (bs [99]), .string (bs [102]), .int .u64 1, .int .u64 9, .int .i64 5, .string (bs [97]), .string (bs [99]), .int .u64 1, .int .u64 8, .int .i64 5, .string (bs [102]), .string (bs [103]), .int .u64 1] 43)).setCell ⟨be, 1, none⟩ (.slice (some ⟨w5.heap.size, 0, none⟩) 3 3) = w7 at *
  generalize w5.heap.size = b0 at *
  go_wp2_with fail
  refine (HM.out 1 [98] [98] _).mono ?_
  rintro e w8 ⟨rfl, g8⟩
  go_wp2_with fail
  refine (HM.out 2 [122] [122] _).mono ?_
  rintro e w9 ⟨rfl, g9⟩
  have g79 := Lib.hid (kept_trans g8 g9)
  clear g8 g9
  have k10 := Lib.hid ((Kept.refl w9).alloc (.cells #[.int .u64 1, .int .i64 5, .string (bs [98]), .string (bs [98]), .int .u64 1, .int .u64 2, .int .i64 5, .string (bs [122]), .string (bs [122]), .int .u64 1] 43))
  have hb := hp_kept B7.out (kept_trans g79.out k10.out)
  have h0 := malloc_new w9 (.cells #[.int .u64 1, .int .i64 5, .string (bs [98]), .string (bs [98]), .int .u64 1, .int .u64 2, .int .i64 5, .string (bs [122]), .string (bs [122]), .int .u64 1] 43)
  have z2 := mcell hb 2 (v := .slice none 0 0) (by rfl)
  have s2 := mfrozen hb 2
  have HB := Lib.hid hb; have H0 := Lib.hid h0
  clear hb h0
  go_upto_region 8 with fail
  clear z2 s2
  have hlt9 : be < w9.heap.size := Nat.lt_of_lt_of_le (mheap_lt B7.out) g79.out.size
  have hlt90 : b0 < w9.heap.size := Nat.lt_of_lt_of_le (mheap_lt L7.out) g79.out.size
  have K10 := Lib.hid (kset1 (kept_trans (kept_trans K7.out g79.out) k10.out) (b := be) (Nat.le_of_eq HBE.out) 2 (.slice (some ⟨w9.heap.size, 0, none⟩) 2 2))
  have B10 := Lib.hid (lvset HB.out 2 (.slice (some ⟨w9.heap.size, 0, none⟩) 2 2))
  have L10 := Lib.hid (lvset_ne (hp_kept L7.out (kept_trans g79.out k10.out)) (by omega : b0 ≠ be) 2 (.slice (some ⟨w9.heap.size, 0, none⟩) 2 2))
  have M10 := Lib.hid (lvset_ne H0.out (by omega : w9.heap.size ≠ be) 2 (.slice (some ⟨w9.heap.size, 0, none⟩) 2 2))
  clear k10 HB H0 g79 B7 L7 K7
  generalize (w9.alloc (.cells #[.int .u64 1, .int .i64 5, .string (bs [98]), .string (bs [98]), .int .u64 1, .int .u64 2, .int .i64 5, .string (bs [122]), .string (bs [122]), .int .u64 1] 43)).setCell ⟨be, 2, none⟩ (.slice (some ⟨w9.heap.size, 0, none⟩) 2 2) = w10 at *
  generalize w9.heap.size = b1 at *
  have HEI := Lib.hid (aE_in L10.out M10.out)
  have HEL := Lib.hid (fun W (hW : Kept w10 W) => eight_cells (hp_kept B10.out hW))
  have HAP := Lib.hid (lvapply_any (HV.out _ K10.out) good_vz HEI.out)
  rw [aE_eq] at HAP
  obtain ⟨z0, z1, z2, z3, z4, z5, z6, z7⟩ := HEL.out _ (Kept.refl _)
  clear L10 M10 B10
  go_wp2_with fail
  refine HAP.out.mono ?_
  rintro e w11 ⟨ha, _, g11⟩
  obtain ⟨p2, U, rfl, hIV, hUl, hp2⟩ := ha a_code
  have HV2 := Lib.hid (fun W (hW : Kept w11 W) => show IsV W p2 U 10 0 4 from hIV.kept hW)
  have HU := Lib.hid (show (U 0).l = aL0 ∧ (U 1).l = aL1 ∧ (U 2).l = [] ∧ (U 3).l = [] from ⟨(hUl 0 (by omega)).trans a_res0, (hUl 1 (by omega)).trans a_res1, (hUl 2 (by omega)).trans a_res2, (hUl 3 (by omega)).trans a_res3⟩)
  have HG2 := Lib.hid (show Lv.Good (verV U 10 0 4) from apy_good good_vz a_code hUl)
  have HC := Lib.hid (fun E => show code (verV U 10 0 4) E = code ⟨res vz aEdt, 10, 0, 4⟩ E from code_same (fun l hl => hUl l hl) rfl rfl rfl)
  have G11 := Lib.hid g11
  have hlenU : ∀ l, l < 4 → (U l).l.length ≤ 100000 := fun l hl => Nat.le_trans (HG2.out.len l hl) (by omega)
  have HLU := Lib.hid hlenU
  have HPK := Lib.hid (lvpick_some (HV2.out w11 (Kept.refl _)) hlenU 0 0 (by omega) (by omega) (x := am 9 97 99) (by rw [HU.out.1]; rfl))
  clear ha hIV hUl hp2 g11 hlenU HAP z0 z1 z2 z3 z4 z5 z6 z7
  go_wp2_with fail
  refine HPK.out.mono ?_
  rintro e w12 ⟨f, i, t, rfl, hrch, hfix, hf, hi, g12⟩
  rw [HU.out.1] at hrch hfix
  have ht := a_pick hrch hfix
  subst ht
  rw [HU.out.1] at hf
  rw [HU.out.2.1] at hi
  rw [show meet aL0 (([97], [103]) : List UInt8 × List UInt8).1 (([97], [103]) : List UInt8 × List UInt8).2 = aL0 from a_meet0] at hf
  rw [show meet aL1 (([97], [103]) : List UInt8 × List UInt8).1 (([97], [103]) : List UInt8 × List UInt8).2 = [am 1 98 98] from a_meet1] at hi
  rw [a_belw (fun j => (U j).l) HU.out.1 HU.out.2.1 HU.out.2.2.1 HU.out.2.2.2]
  obtain ⟨Af, cf, rfl, _, hmf⟩ := mts_own hf
  obtain ⟨Ai, ci, rfl, _, hmi⟩ := mts_own hi
  obtain ⟨bf, of, rfl, hbf, cf9, _⟩ := hmf.mts 0 _ rfl
  obtain ⟨bi, oi, rfl, hbi, ci1, _⟩ := hmi.mts 0 _ rfl
  have CF := Lib.hid cf9; have CI := Lib.hid ci1; have G12 := Lib.hid g12
  have HBF := Lib.hid hbf; have HBI := Lib.hid hbi
  clear hrch hfix hf hi g12 hmf hmi cf9 ci1 hbf hbi HPK
  unfold pkv
  rw [show aL0.length = 3 from rfl, show ([am 1 98 98] : List Meta).length = 1 from rfl]
  go_upto_region 12 with fail
  have B13 := Lib.hid (malloc_new w12 (.cells #[.int .i64 0, .slice (some ⟨bf, of, none⟩) 3 cf, .slice (some ⟨bi, oi, none⟩) 1 ci, .bool true] 46))
  have K13 := Lib.hid ((Kept.refl w12).alloc (.cells #[.int .i64 0, .slice (some ⟨bf, of, none⟩) 3 cf, .slice (some ⟨bi, oi, none⟩) 1 ci, .bool true] 46))
  generalize w12.alloc (.cells #[.int .i64 0, .slice (some ⟨bf, of, none⟩) 3 cf, .slice (some ⟨bi, oi, none⟩) 1 ci, .bool true] 46) = w13 at *
  have H11 := Lib.hid (kept_trans G12.out K13.out)
  have H10 := Lib.hid (kept_trans G11.out H11.out)
  have CF13 := Lib.hid (fun W (hW : Kept w13 W) => (kept_cell (kept_trans K13.out hW) (p := ⟨bf, of + 0 * 5, none⟩) HBF.out).trans CF.out)
  have CI13 := Lib.hid (fun W (hW : Kept w13 W) => (kept_cell (kept_trans K13.out hW) (p := ⟨bi, oi + 0 * 5, none⟩) HBI.out).trans CI.out)
  have C613 := Lib.hid (fun W (hW : Kept w13 W) => four_cells (hp_kept B13.out hW))
  clear CF CI HBF HBI B13 G12 K13
  generalize w12.heap.size = b6 at *
  -- an edit that takes away what isn't there
  have I2 := Lib.hid (show (⟨some ⟨w13.heap.size, 0, none⟩, 1, [77], vT0, 0, 0, 0⟩ : Ed).In (w13.alloc (.cells #[.int .u64 77] 32)) from ⟨lit1n w13 77, tin_none _, by simp, fun l _ => by simp [vT0], by simp, by simp, by simp⟩)
  have K14 := Lib.hid ((Kept.refl w13).alloc (.cells #[.int .u64 77] 32))
  have HA2 := Lib.hid (lvapply_any (HV2.out _ (kept_trans H11.out K14.out)) HG2.out I2.out)
  go_wp2_with fail
  refine HA2.out.mono ?_
  rintro e w15 ⟨_, ha, g15⟩
  have hc2 : code (verV U 10 0 4) (⟨some ⟨w13.heap.size, 0, none⟩, 1, [77], vT0, 0, 0, 0⟩ : Ed).edt = 10 := (HC.out _).trans a_code2
  rw [hc2] at ha
  rw [ha (by omega)]
  have G15 := Lib.hid (kept_trans K14.out g15)
  clear ha g15 hc2 HA2 I2 K14
  have I3 := Lib.hid (show (⟨none, 0, [], vT0, 9, 0, 0⟩ : Ed).In w15 from ⟨fun j x hx => by simp at hx, tin_none _, by simp, fun l _ => by simp [vT0], by simp, by simp, by simp⟩)
  have HA3 := Lib.hid (lvapply_any (HV2.out _ (kept_trans H11.out G15.out)) HG2.out I3.out)
  go_wp2_with fail
  refine HA3.out.mono ?_
  rintro e w16 ⟨_, ha, g16⟩
  have hc3 : code (verV U 10 0 4) (⟨none, 0, [], vT0, 9, 0, 0⟩ : Ed).edt = 3 := (HC.out _).trans a_code3
  rw [hc3] at ha
  rw [ha (by omega)]
  have G16 := Lib.hid (kept_trans G15.out g16)
  clear ha g16 hc3 HA3 I3 G15 HC
  -- its bytes
  have HE4 := lvenc_any (HEI.out.kept (kept_trans H10.out G16.out))
  rw [aE_eq, show encS aEdt = enc aEdt from by unfold encS; rw [a_isE]; rfl, show encC aEdt = 0 from by unfold encC; rw [a_isE]; rfl] at HE4
  have HE5 := Lib.hid HE4
  have HB1 := Lib.hid a_isB
  have HAL := Lib.hid (isB_enc a_isE).2
  have hXl := a_enclen
  obtain ⟨z0, z1, z2, z3, z4, z5, z6, z7⟩ := HEL.out _ (kept_trans H10.out G16.out)
  clear HE4
  generalize enc aEdt = X at *
  go_wp2_with fail
  refine HE5.out.mono ?_
  rintro e w17 ⟨rfl, g17⟩
  have G17 := Lib.hid (kept_trans G16.out g17)
  clear g17 HE5 z0 z1 z2 z3 z4 z5 z6 z7
  go_wp2_with fail
  refine (lvdec_any X (by omega) _).mono ?_
  rintro e w18 ⟨hd, _, g18⟩
  obtain ⟨d, rfl, hdi, hda⟩ := hd HB1.out.1
  have HDI := Lib.hid (fun W (hW : Kept w18 W) => hdi.kept hW)
  have HDA := Lib.hid (show Lv.Alike (aE b0 b1).edt d.edt from by
    rw [aE_eq]
    exact ⟨HAL.out.1.symm.trans hda.1.symm, fun l hl => (HAL.out.2.1 l hl).symm.trans (hda.2.1 l hl).symm, HAL.out.2.2.1.symm.trans hda.2.2.1.symm, HAL.out.2.2.2.1.symm.trans hda.2.2.2.1.symm, HAL.out.2.2.2.2.symm.trans hda.2.2.2.2.symm⟩)
  have G18 := Lib.hid (kept_trans G17.out g18)
  obtain ⟨gA, gn, gc, hg⟩ : ∃ a n c, (Value.slice d.A d.gone.length d.c) = .slice a n c := ⟨_, _, _, rfl⟩
  obtain ⟨u0, m0, r0, e0⟩ : ∃ a n c, (d.T 0).v = .slice a n c := ⟨_, _, _, rfl⟩
  obtain ⟨u1, m1, r1, e1⟩ : ∃ a n c, (d.T 1).v = .slice a n c := ⟨_, _, _, rfl⟩
  obtain ⟨u2, m2, r2, e2⟩ : ∃ a n c, (d.T 2).v = .slice a n c := ⟨_, _, _, rfl⟩
  obtain ⟨u3, m3, r3', e3⟩ : ∃ a n c, (d.T 3).v = .slice a n c := ⟨_, _, _, rfl⟩
  have hv : d.v = .agg #[.slice gA gn gc, .slice u0 m0 r0, .slice u1 m1 r1, .slice u2 m2 r2, .slice u3 m3 r3', .int .u64 (d.nx : Nat), .int .u64 (d.lg : Nat), .int .u64 (d.sq : Nat)] := by
    unfold Ed.v edv; dsimp only; rw [e0, e1, e2, e3, hg]
  have HVD := Lib.hid hv
  rw [hv]
  clear hd hdi hda g18 hg e0 e1 e2 e3 hv
  generalize d.nx = dn at *
  generalize d.lg = dl at *
  generalize d.sq = dq at *
  have hr : ∀ W, (Op.stringOp .add (bs X) ⟨#[63]⟩).run Tryz.prog W = .ok (.string (bs (X ++ [63]))) W := fun W => by
    rw [run_string_add_sum W _ _ (by rw [lvbs_size]; show X.length + 1 ≤ _; omega)]
    rw [show bs X ++ (⟨#[63]⟩ : ByteArray) = bs (X ++ [63]) from by simp [bs, ByteArray.ext_iff]]
  go_upto_region 16 with fail
  have B19 := Lib.hid (malloc_new w18 (.cells #[.slice gA gn gc, .slice u0 m0 r0, .slice u1 m1 r1, .slice u2 m2 r2, .slice u3 m3 r3', .int .u64 (dn : Nat), .int .u64 (dl : Nat), .int .u64 (dq : Nat)] 34))
  have K19 := Lib.hid ((Kept.refl w18).alloc (.cells #[.slice gA gn gc, .slice u0 m0 r0, .slice u1 m1 r1, .slice u2 m2 r2, .slice u3 m3 r3', .int .u64 (dn : Nat), .int .u64 (dl : Nat), .int .u64 (dq : Nat)] 34))
  generalize w18.alloc (.cells #[.slice gA gn gc, .slice u0 m0 r0, .slice u1 m1 r1, .slice u2 m2 r2, .slice u3 m3 r3', .int .u64 (dn : Nat), .int .u64 (dl : Nat), .int .u64 (dq : Nat)] 34) = w19 at *
  have HDI19 := Lib.hid (fun W (hW : Kept w19 W) => HDI.out W (kept_trans K19.out hW))
  have G19 := Lib.hid (kept_trans G18.out K19.out)
  clear K19 HDI G18
  generalize w18.heap.size = b14 at *
  have HC14 := Lib.hid (fun W (hW : Kept w19 W) => eight_cells (hp_kept B19.out hW))
  clear B19
  go_wp2_with fail
  refine (lvdec_any (X ++ [63]) (by simp; omega) _).mono ?_
  rintro e w20 ⟨_, hd, g20⟩
  rw [hd HB1.out.2]
  have G20 := Lib.hid g20
  clear hd g20 hr
  unfold edz
  go_upto_region 17 with fail
  have K21 := Lib.hid (kept_trans G20.out ((Kept.refl w20).alloc (.cells #[.slice none 0 0, .slice none 0 0, .slice none 0 0, .slice none 0 0, .slice none 0 0, .int .u64 0, .int .u64 0, .int .u64 0] 34)))
  generalize w20.alloc (.cells #[.slice none 0 0, .slice none 0 0, .slice none 0 0, .slice none 0 0, .slice none 0 0, .int .u64 0, .int .u64 0, .int .u64 0] 34) = w21 at *
  clear G20
  have H13 := Lib.hid (kept_trans G19.out K21.out)
  have HNB := lvnums_any (HV2.out _ (kept_trans H11.out H13.out))
  have HNB2 := Lib.hid HNB
  clear HNB
  go_wp2_with fail
  refine HNB2.out.mono ?_
  rintro e w22 ⟨rfl, q, rfl⟩
  have K22 := Lib.hid (kept_trans K21.out (kept_drewN w21 q))
  generalize w21.drewN q = w22 at *
  have H1322 := Lib.hid (kept_trans G19.out K22.out)
  obtain ⟨z0, z1, z2, z3, z4, z5, z6, z7⟩ := HEL.out _ (kept_trans H10.out H1322.out)
  obtain ⟨y0, y1, y2, y3, y4, y5, y6, y7⟩ := HC14.out _ K22.out
  obtain ⟨x0, x1, x2, x3⟩ := C613.out _ H1322.out
  have cF := CF13.out _ H1322.out
  have cI := CI13.out _ H1322.out
  simp only [Nat.zero_mul, Nat.add_zero] at cF cI
  have HSM := lvrsame_any (HEI.out.kept (kept_trans H10.out H1322.out)) (HDI19.out _ K22.out)
  rw [HVD.out] at HSM
  have HSM2 := Lib.hid HSM
  clear HSM HNB2 K21 H13
  go_wp2_with fail
  refine HSM2.out.mono ?_
  rintro e w23 ⟨B, rfl, hB, g23⟩
  obtain rfl : B = true := hB.2 HDA.out
  have K23 := Lib.hid (kept_trans (kept_trans H11.out H1322.out) g23)
  have K23p := Lib.hid (kept_trans (kept_trans H10.out H1322.out) g23)
  clear hB g23 z0 z1 z2 z3 z4 z5 z6 z7 y0 y1 y2 y3 y4 y5 y6 y7 x0 x1 x2 x3 cF cI HSM2 K22 H1322
  have hfl : (fls U 4).length = 5 := by
    rw [fls_lists (L := fun l => (U l).l) (fun l _ => rfl), fl_four, HU.out.1, HU.out.2.1, HU.out.2.2.1, HU.out.2.2.2]
    rfl
  have HFL := Lib.hid hfl
  clear hfl
  go_wp2_with fail
  refine (lvfilesV_any (HV2.out _ K23.out) HLU.out).mono ?_
  rintro e w24 ⟨v4, rfl, ho4, g24⟩
  rw [HFL.out] at ho4
  obtain ⟨A4, c4, rfl⟩ := own_slice ho4
  have K24 := Lib.hid (kept_trans K23.out g24)
  have K24p := Lib.hid (kept_trans K23p.out g24)
  clear ho4 g24 HFL K23 K23p
  have HMT := lvmeet_any (HV2.out _ K24.out) 0 (by omega) (HLU.out 0 (by omega)) [100] [100]
  rw [HU.out.1, a_meetd] at HMT
  have HMT2 := Lib.hid HMT
  clear HMT
  go_wp2_with fail
  refine HMT2.out.mono ?_
  rintro e w25 ⟨v5, rfl, ho5, g25'⟩
  obtain ⟨A5, c5, rfl⟩ := own_slice ho5
  have K25p := Lib.hid (kept_trans K24p.out g25')
  clear ho5 g25' HMT2 K24 K24p
  have HFV := lvfilesV_any (HV.out _ (kept_trans K10.out K25p.out)) (fun l _ => by simp [vT0])
  rw [show (fls vT0 4).length = 0 from rfl] at HFV
  have HFV2 := Lib.hid HFV
  clear HFV
  go_wp2_with fail
  refine HFV2.out.mono ?_
  rintro e w26 ⟨v6, rfl, ho6, g26⟩
  obtain ⟨A6, c6, rfl⟩ := own_slice ho6
  have K26 := Lib.hid (kept_trans K25p.out g26)
  clear ho6 g26 HFV2 K25p
  go_wp2_with fail
  refine (HM.out 1 [97] [98] _).mono ?_
  rintro e w27 ⟨rfl, g27⟩
  have K27 := Lib.hid (kept_trans K26.out g27)
  clear g27 K26
  have HY1 := fun W => lvmay_any (am 1 97 98) (by simp [Sane, am, maxLen]) W
  rw [a_may.1] at HY1
  have HY := Lib.hid HY1
  have HZ1 := fun W => lvmay_any zmeta (by simp [Sane, zmeta, maxLen]) W
  rw [a_may.2] at HZ1
  have HZ := Lib.hid HZ1
  clear HY1 HZ1
  go_wp2_with fail
  refine (HY.out _).mono ?_
  rintro e w28 ⟨rfl, g28⟩
  have K28 := Lib.hid (kept_trans K27.out g28)
  clear g28 K27
  go_wp2_with fail
  refine (HZ.out _).mono ?_
  rintro e w29 ⟨rfl, g29⟩
  have K29 := Lib.hid (kept_trans K28.out g29)
  clear g29 K28
  go_wp2_with fail
  go_ret
  exact ⟨rfl, kept_trans K1.out (kept_trans K10.out K29.out)⟩
end Go.Proofs.YtnnmalpnjlnnlaaGreat
