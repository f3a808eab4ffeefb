/-
  ColOrder: leases rise by their numbers, and there are no more than may be; one taken away leaves leases that may be.
-/
import Derived.Test.YtdmnmbomijnjeaaColOwn
import Derived.Test.YtdmnmbomijnjeaaColLawAlone
namespace Go.Proofs.Ytdmnmbomijnjeaa
open Go.ChangeShapes Go.WideShapes Go.ChangeAt Go.RowKit
set_option linter.unusedVariables false
set_option maxRecDepth 100000
set_option maxHeartbeats 8000000
open Co
theorem lss_cells {w : World} {b o : Nat} {l : List Ls} (h : Lss w (some ⟨b, o, none⟩) l) : ∀ j u, (lsl l)[j]? = some u → w.cell? ((⟨b, o, none⟩ : Addr).add j) = some u := fun j u hj => by
  have hlt := (List.getElem?_eq_some_iff.1 hj).1
  rw [lsl_len] at hlt
  have hq : j / 3 < l.length := by omega
  obtain ⟨x, hx⟩ : ∃ x, l[j / 3]? = some x := ⟨_, List.getElem?_eq_getElem hq⟩
  obtain ⟨b', o', e, _, c0, c1, c2⟩ := h (j / 3) x hx
  obtain ⟨rfl, rfl⟩ : b' = b ∧ o' = o := by injection e with e; injection e with e1 e2; exact ⟨e1.symm, e2.symm⟩
  rw [cladd_at]
  have hr : j % 3 = 0 ∨ j % 3 = 1 ∨ j % 3 = 2 := by omega
  have hjd : j = j / 3 * 3 + j % 3 := by omega
  rcases hr with hr | hr | hr
  · have := lsl_get hx 0 _ rfl
    rw [show j / 3 * 3 + 0 = j by omega, hj] at this
    rw [show o' + j = o' + j / 3 * 3 by omega, c0]
    exact this.symm
  · have := lsl_get hx 1 _ rfl
    rw [show j / 3 * 3 + 1 = j by omega, hj] at this
    rw [show o' + j = o' + j / 3 * 3 + 1 by omega, c1]
    exact this.symm
  · have := lsl_get hx 2 _ rfl
    rw [show j / 3 * 3 + 2 = j by omega, hj] at this
    rw [show o' + j = o' + j / 3 * 3 + 2 by omega, c2]
    exact this.symm
theorem lsl_ones : ∀ (l : List Ls), ∀ u ∈ lsl l, u.oneCell' = true
  | [], u, hu => by simp [lsl] at hu
  | x :: l, u, hu => by
    rw [lsl, List.mem_append] at hu
    rcases hu with hu | hu
    · simp [lsc] at hu
      rcases hu with rfl | rfl | rfl <;> rfl
    · exact lsl_ones l u hu
theorem ColOrder_walk {w : World} (A : Option Addr) (c : Nat) (L : List Ls) (t : Int) (hA : Lss w A L) (hL : L.length ≤ c ∧ c ≤ maxLen ∧ OkLs L ∧ (A = none → c = 0) ∧ (∀ a, A = some a → a.spot = none ∨ L = [])) (ht : (Lit.int .u8 t).wf = true) :
    Calls Try.prog 7 #[.slice A L.length c, .int .u8 t] w fun e w' => e = .returned (.bool true) ∧ Kept w w' := by
  obtain ⟨i0, hi, hz0, hz1, hz2⟩ := info_parts lsInfo
  have HI := Lib.hid hi; have HZ0 := Lib.hid hz0; have HZ1 := Lib.hid hz1; have HZ2 := Lib.hid hz2
  have hLl : L.length ≤ maxLen := Nat.le_trans hL.1 hL.2.1
  have hlc := hL.1
  unfold maxLen at hLl
  have ht2 : 0 ≤ t ∧ t ≤ 255 := by
    simp [Lit.wf, IntKind.min, IntKind.max, IntKind.signed, IntKind.bits] at ht
    omega
  obtain ⟨t0, t1⟩ := ht2
  have HA := Lib.hid (fun W (hW : Kept w W) => hA.kept hW)
  clear hi hz0 hz1 hz2 hA ht hL
  by_cases hn : 40 < L.length
  · have d2 : decide ((40 : Int) < (L.length : Int)) = true := decide_eq_true (by omega)
    go_enter Try.func7, Try.ntmps7
    go_wp2_with fail
    refine (clawake_any _).mono ?_
    rintro e w1 ⟨rfl, g1⟩
    go_wp2_with fail
    go_ret
    exact ⟨rfl, g1⟩
  · have d2 : decide ((40 : Int) < (L.length : Int)) = false := decide_eq_false (by omega)
    have HL := Lib.hid (fun W (hW : Kept w W) => clleases_any (HA.out W hW) (by unfold maxLen; omega) c)
    obtain ⟨c1, c2⟩ := codeL L
    cases hB : isL L with
    | false =>
      obtain ⟨e1, e2⟩ := c2 hB
      rw [e1, e2] at HL
      clear e1 e2 c1 c2
      go_enter Try.func7, Try.ntmps7
      go_wp2_with fail
      refine (clawake_any _).mono ?_
      rintro e w1 ⟨rfl, g1⟩
      have K1 := Lib.hid g1
      clear g1
      go_wp2_with fail
      refine (HL.out _ K1.out).mono ?_
      rintro e w2 ⟨rfl, g1⟩
      have K2 := Lib.hid (kept_trans K1.out g1)
      clear g1
      go_wp2_with fail
      go_ret
      exact ⟨rfl, K2.out⟩
    | true =>
      obtain ⟨e1, e2⟩ := c1 hB
      obtain ⟨h5, hris⟩ := encL_isL hB
      rw [e1] at HL
      have HMM := Lib.hid (fun x hx => is1_iff.1 (ris_mem hris x hx).1)
      have HPP := Lib.hid (ris_pair hris)
      have HGON := Lib.hid (fun k => isL_gone k hB)
      clear e1 e2 c1 c2 hris hB
      go_enter Try.func7, Try.ntmps7
      go_wp2_with fail
      refine (clawake_any _).mono ?_
      rintro e w1 ⟨rfl, g1⟩
      have K1 := Lib.hid g1
      clear g1
      go_wp2_with fail
      refine (HL.out _ K1.out).mono ?_
      rintro e w2 ⟨rfl, g1⟩
      have K2 := Lib.hid (kept_trans K1.out g1)
      clear g1 HL
      go_wp2_with fail
      go_loopw [27] (fun t wr => ∃ (k : Nat), k ≤ L.length ∧ t = .int .i64 k ∧ Hid (Kept w wr)) (fun t _ => L.length - (intOf t).toNat)
      case atStart => exact ⟨0, Nat.zero_le _, rfl, K2⟩
      case round =>
        obtain ⟨k, hk, rfl, HK⟩ := hrel
        by_cases hlt : k < L.length
        · have d3 : decide ((k : Int) < (L.length : Int)) = true := decide_eq_true (by omega)
          obtain ⟨x, hx⟩ : ∃ x, L[k]? = some x := ⟨_, List.getElem?_eq_getElem hlt⟩
          obtain ⟨b, o, rfl, hb, p0, p1, p2⟩ := HA.out _ HK.out k x hx
          obtain ⟨⟨q1, q2⟩, ⟨q3, q4⟩, q5⟩ := HMM.out x (List.mem_of_getElem? hx)
          have r1 : decide ((x.i : Int) < 1) = false := decide_eq_false (by omega)
          have r2 : decide ((x.t : Int) < 1) = false := decide_eq_false (by omega)
          have r1n : decide (x.i < 1) = false := decide_eq_false (by omega)
          have r2n : decide (x.t < 1) = false := decide_eq_false (by omega)
          cases k with
          | zero =>
            rw [Nat.zero_mul, Nat.add_zero] at p0 p1 p2
            clear hx hb
            generalize x.i = xi at *
            generalize x.t = xt at *
            generalize x.u = xu at *
            go_wp2_with fail
            go_quiet (fail)
            go_wp2_with fail
            go_roundw
            case rel => exact ⟨1, by omega, by go_num, Lib.hid (kept_trans HK.out (kept_drewN _ _))⟩
            case measure => simp [intOf]; omega
          | succ m =>
            obtain ⟨y, hy⟩ : ∃ y, L[m]? = some y := ⟨_, List.getElem?_eq_getElem (by omega)⟩
            obtain ⟨b', o', hbo, hb', s0, s1, s2⟩ := HA.out _ HK.out m y hy
            obtain ⟨rfl, rfl⟩ : b' = b ∧ o' = o := by injection hbo with e; injection e with e1 e2; exact ⟨e1.symm, e2.symm⟩
            have hyx := HPP.out m y x hy hx
            have r3 : decide ((x.i : Int) ≤ (y.i : Int)) = false := decide_eq_false (by omega)
            have r3n : decide (x.i ≤ y.i) = false := decide_eq_false (by omega)
            have hm1 : ((m + 1 : Nat) : Int) - 1 = (m : Int) := by omega
            have hm2 : IntKind.i64.wrap (m : Int) = (m : Int) := IntWalk.i64_in _ (by omega)
            have hm3 : (m : Int) + 1 - 1 = (m : Int) := by omega
            have hm4 : (0 : Int) < (m : Int) + 1 := by omega
            clear hx hy hb hb' hyx hbo
            generalize x.i = xi at *
            generalize x.t = xt at *
            generalize x.u = xu at *
            generalize y.i = yi at *
            generalize y.t = yt at *
            generalize y.u = yu at *
            go_wp2_with fail
            go_quiet (fail)
            go_wp2_with fail
            go_roundw
            case rel => exact ⟨m + 2, by omega, by go_num, Lib.hid (kept_trans HK.out (kept_drewN _ _))⟩
            case measure => simp [intOf]; omega
        · obtain rfl : k = L.length := by omega
          have d3 : decide ((L.length : Int) < (L.length : Int)) = false := decide_eq_false (by omega)
          have d4 : decide ((5 : Int) < (L.length : Int)) = false := decide_eq_false (by omega)
          by_cases h0 : L.length = 0
          · have HL0 := Lib.hid h0
            have hl0 : L = [] := List.eq_nil_of_length_eq_zero h0
            subst hl0
            clear h0 HA HMM HPP HGON
            go_wp2_with fail
            go_ret
            exact ⟨rfl, HK.out⟩
          · obtain ⟨x0, hx0⟩ : ∃ x, L[0]? = some x := ⟨_, List.getElem?_eq_getElem (by omega)⟩
            obtain ⟨b, o, rfl, _⟩ := HA.out _ HK.out 0 x0 hx0
            obtain ⟨k, hkq⟩ : ∃ k : Nat, t % (L.length : Int) = (k : Int) := ⟨(t % (L.length : Int)).toNat, by rw [Int.toNat_of_nonneg (Int.emod_nonneg _ (by omega))]⟩
            have hkl : k < L.length := by have := Int.emod_lt_of_pos t (show (0 : Int) < (L.length : Int) by omega); omega
            have d6 : ((L.length : Int) == 0) = false := decide_eq_false (by omega)
            have d7 : ¬ ((L.length : Int) = 0) := by omega
            have hk1 : IntKind.i64.wrap ((k : Int) + 1) = (k : Int) + 1 := IntWalk.i64_in _ (by omega)
            have hkc1 : (k : Int) ≤ (c : Int) := by omega
            have hkc2 : (k : Int) + 1 ≤ (L.length : Int) := by omega
            have hkn1 : k ≤ c := by omega
            have hkn2 : k + 1 ≤ L.length := by omega
            have hkt : ((k : Int) + 1).toNat = k + 1 := by omega
            have HHD := Lib.hid (fun W (hW : Kept w W) => lss_cells ((HA.out W hW).head k))
            have HO1 := Lib.hid (lsl_ones (L.take k)); have HO2 := Lib.hid (lsl_ones (L.drop (k + 1)))
            have HZ1' := Lib.hid (show (lsl (L.take k)).length = k * 3 from by rw [lsl_len, List.length_take, Nat.min_eq_left (by omega)])
            have HZ2' := Lib.hid (show (lsl (L.drop (k + 1))).length = (L.length - (k + 1)) * 3 from by rw [lsl_len, List.length_drop])
            obtain ⟨LL, hLL⟩ : ∃ LL, LL = L.take k ++ L.drop (k + 1) := ⟨_, rfl⟩
            have HAPP := Lib.hid (show lsl LL = lsl (L.take k) ++ lsl (L.drop (k + 1)) from by rw [hLL]; exact lsl_app _ _)
            have hlen : LL.length ≤ 40 := by rw [hLL, List.length_append, List.length_take, List.length_drop]; omega
            obtain ⟨c1, _⟩ := codeL LL
            have HCD := Lib.hid (c1 (by rw [hLL]; exact HGON.out k)).1
            have HCALL := Lib.hid (fun W A (h : Lss W A LL) c => clleases_any h (by unfold maxLen; omega) c)
            rw [HCD.out] at HCALL
            clear hLL hlen c1
            by_cases hck : c = k + 1
            · have hll : L.length = k + 1 := by omega
              have hd0 : L.drop (k + 1) = [] := List.drop_eq_nil_of_le (by omega)
              have HTL := Lib.hid (fun (W : World) (_ : Kept w W) => (show ∀ j u, (lsl (L.drop (k + 1)))[j]? = some u → W.cell? ((⟨b, o, none⟩ : Addr).add j) = some u from fun j u hj => by rw [hd0] at hj; simp [lsl] at hj))
              clear hd0
              generalize L.length = n at *
              obtain rfl : n = k + 1 := hll
              subst hck
              rw [Nat.sub_self] at HZ2'
              have hkq2 : t % ((k : Int) + 1) = (k : Int) := by simpa using hkq
              have zz0 : (0 : Int) ≤ (k : Int) := by omega
              have zz1 : (0 : Int) ≤ (k : Int) + 1 := by omega
              have zz3 : (k : Int) ≤ (k : Int) + 1 := by omega
              have hown2 : ((wr.alloc (.cells #[] 51)).drew).ownsRow wr.heap.size 51 3 (.slice (some ⟨wr.heap.size, 0, none⟩) 0 0) 0 [] := own_ls0 wr
              have HOWN := Lib.hid hown2
              have hkw : Kept wr ((wr.alloc (.cells #[] 51)).drew) := (kept_of_drew (Kept.refl wr.drew)).alloc _
              have HKW := Lib.hid hkw
              have HROW := Lib.hid (fun b hb => (hown2.lt b hb).1)
              clear hown2 hkw hx0 HMM HPP HGON
              go_upto_region 19 with fail
              go_region_held3 (fun w' => True) (exact trivial)
                (first
                | (refine step_app rfl _ _ 27 rfl wr.heap.size 51 i0 zlsV 3 24 Try.underlying27 HI.out HZ0.out HZ1.out HZ2.out rfl (by decide) (.slice (some ⟨wr.heap.size, 0, none⟩) 0 0) 0 [] rfl HOWN.out ⟨b, o, none⟩ k _ (lsl (L.take k)) rfl HZ1'.out (HHD.out _ (kept_trans HK.out HKW.out)) HO1.out (by unfold maxLen; omega) (by omega) HKW.out.size ?_; intro v1 w5 hown5 hg5 ha5; rw [List.nil_append] at hown5; have K5 := Below.grown HKW.out hg5 HKW.out.size HROW.out; clear hg5 ha5)
                | (refine step_app rfl _ _ 27 rfl wr.heap.size 51 i0 zlsV 3 24 Try.underlying27 HI.out HZ0.out HZ1.out HZ2.out rfl (by decide) _ (0 + k) (lsl (L.take k)) rfl hown5 ⟨b, o, none⟩ _ _ (lsl (L.drop (k + 1))) rfl HZ2'.out (HTL.out _ (kept_trans HK.out K5)) HO2.out (by unfold maxLen; omega) (by omega) K5.size ?_; intro v2 w6 hown6 hg6 ha6; rw [← HAPP.out] at hown6; have K6 := Below.grown K5 hg6 K5.size (fun b hb => (hown5.lt b hb).1); clear hg6 ha6 K5 hown5; obtain ⟨A6, c6, rfl, _, hls6⟩ := lss_own hown6)
                | (go_at_call 15; refine (HCALL.out _ _ hls6.lss c6).mono ?_; rintro e w7 ⟨rfl, g7⟩; have K7 := kept_trans K6 g7; clear g7))
              all_goals
                have K9 := Lib.hid (kept_trans HK.out K7)
                clear K7 K6 HCALL HTL HOWN HKW HROW HHD
                go_wp2_with fail
                go_ret
                exact ⟨rfl, K9.out⟩
            · have HTL := Lib.hid (fun W (hW : Kept w W) => (show ∀ j u, (lsl (L.drop (k + 1)))[j]? = some u → W.cell? ((⟨b, o + (k + 1) * 3, none⟩ : Addr).add j) = some u from by
                have h := (HA.out W hW).tail (k + 1) c (by omega)
                rw [if_neg hck] at h
                simp only [Option.map_some] at h
                rw [cladd_at] at h
                exact lss_cells h))
              have hck2 : ¬ ((c : Int) = (k : Int) + 1) := by omega
              have zz0 : (0 : Int) ≤ (k : Int) := by omega
              have zz1 : (0 : Int) ≤ (k : Int) + 1 := by omega
              have zz2 : (L.length : Int) ≤ (c : Int) := by omega
              have zz3 : (k : Int) + 1 ≤ (c : Int) := by omega
              have zz4 : k + 1 ≤ c := by omega
              have hown2 : ((wr.alloc (.cells #[] 51)).drew).ownsRow wr.heap.size 51 3 (.slice (some ⟨wr.heap.size, 0, none⟩) 0 0) 0 [] := own_ls0 wr
              have HOWN := Lib.hid hown2
              have hkw : Kept wr ((wr.alloc (.cells #[] 51)).drew) := (kept_of_drew (Kept.refl wr.drew)).alloc _
              have HKW := Lib.hid hkw
              have HROW := Lib.hid (fun b hb => (hown2.lt b hb).1)
              clear hown2 hkw hx0 HMM HPP HGON
              go_upto_region 19 with fail
              go_region_held3 (fun w' => True) (exact trivial)
                (first
                | (refine step_app rfl _ _ 27 rfl wr.heap.size 51 i0 zlsV 3 24 Try.underlying27 HI.out HZ0.out HZ1.out HZ2.out rfl (by decide) (.slice (some ⟨wr.heap.size, 0, none⟩) 0 0) 0 [] rfl HOWN.out ⟨b, o, none⟩ k _ (lsl (L.take k)) rfl HZ1'.out (HHD.out _ (kept_trans HK.out HKW.out)) HO1.out (by unfold maxLen; omega) (by omega) HKW.out.size ?_; intro v1 w5 hown5 hg5 ha5; rw [List.nil_append] at hown5; have K5 := Below.grown HKW.out hg5 HKW.out.size HROW.out; clear hg5 ha5)
                | (refine step_app rfl _ _ 27 rfl wr.heap.size 51 i0 zlsV 3 24 Try.underlying27 HI.out HZ0.out HZ1.out HZ2.out rfl (by decide) _ (0 + k) (lsl (L.take k)) rfl hown5 ⟨b, o + (k + 1) * 3, none⟩ _ _ (lsl (L.drop (k + 1))) rfl HZ2'.out (HTL.out _ (kept_trans HK.out K5)) HO2.out (by unfold maxLen; omega) (by omega) K5.size ?_; intro v2 w6 hown6 hg6 ha6; rw [← HAPP.out] at hown6; have K6 := Below.grown K5 hg6 K5.size (fun b hb => (hown5.lt b hb).1); clear hg6 ha6 K5 hown5; obtain ⟨A6, c6, rfl, _, hls6⟩ := lss_own hown6)
                | (go_at_call 15; refine (HCALL.out _ _ hls6.lss c6).mono ?_; rintro e w7 ⟨rfl, g7⟩; have K7 := kept_trans K6 g7; clear g7))
              all_goals
                have K9 := Lib.hid (kept_trans HK.out K7)
                clear K7 K6 HCALL HTL HOWN HKW HROW HHD
                go_wp2_with fail
                go_ret
                exact ⟨rfl, K9.out⟩
end Go.Proofs.Ytdmnmbomijnjeaa
