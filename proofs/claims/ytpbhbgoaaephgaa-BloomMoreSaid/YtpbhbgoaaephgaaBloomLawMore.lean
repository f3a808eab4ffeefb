/-
  BloomMore of the statements of layer 10 returns true, whatever filters and key.
-/
import Derived.Test.YtpbhbgoaaephgaaBloomRow
import Derived.RegionTactic
import Derived.BigRegion
import Derived.Deep.CutRange
import Derived.Deep.RegionHeld3
namespace Go.Proofs.Ytpbhbgoaaephgaa
open Go.ChangeShapes Go.WideShapes Go.ChangeAt Go.RowKit
set_option linter.unusedVariables false
set_option maxRecDepth 100000
set_option maxHeartbeats 4000000

theorem has_or {l : List UInt8} {j : Nat} (hj : j < l.length) (m : UInt8) (c : Nat) (h : Bm.hasB l c = true) : Bm.hasB (l.set j (l.getD j 0 ||| m)) c = true := by
  unfold Bm.hasB at *
  rw [getD_set _ _ _ _ hj]
  split
  · rename_i e
    rw [← e] at h
    rw [UInt8.toNat_or, Nat.testBit_or, h, Bool.true_or]
  · exact h
structure KW (a b : World) : Prop where
  k : Kept a b
theorem BloomMore_walk {w : World} (f m k : ByteArray) (hf : f.size ≤ maxLen) (hm : m.size ≤ maxLen) (hk : k.size ≤ maxLen) :
    Calls Try.prog 6 #[.string f, .string m, .string k] w fun e w' => e = .returned (.bool true) ∧ Kept w w' := by
  have hfl : f.size ≤ 9223372036854775807 := by unfold maxLen at hf; omega
  have hml : m.size ≤ 9223372036854775807 := by unfold maxLen at hm; omega
  have hkl : k.size ≤ 9223372036854775807 := by unfold maxLen at hk; omega
  by_cases h1 : 200 < f.size
  · have d1 : decide ((200 : Int) < (f.size : Int)) = true := by simp; omega
    go_enter Try.func6, Try.ntmps6
    go_wp2_with fail
    refine (bmawake_any _).mono ?_
    rintro e w1 ⟨rfl, g1⟩
    go_wp2_with fail
    go_ret
    exact ⟨rfl, g1⟩
  · have d1 : decide ((200 : Int) < (f.size : Int)) = false := by simp; omega
    by_cases h2 : 200 < m.size
    · have d2 : decide ((200 : Int) < (m.size : Int)) = true := by simp; omega
      go_enter Try.func6, Try.ntmps6
      go_wp2_with fail
      refine (bmawake_any _).mono ?_
      rintro e w1 ⟨rfl, g1⟩
      go_wp2_with fail
      go_ret
      exact ⟨rfl, g1⟩
    · have d2 : decide ((200 : Int) < (m.size : Int)) = false := by simp; omega
      by_cases h3 : 300 < k.size
      · have d3 : decide ((300 : Int) < (k.size : Int)) = true := by simp; omega
        go_enter Try.func6, Try.ntmps6
        go_wp2_with fail
        refine (bmawake_any _).mono ?_
        rintro e w1 ⟨rfl, g1⟩
        go_wp2_with fail
        go_ret
        exact ⟨rfl, g1⟩
      · have d3 : decide ((300 : Int) < (k.size : Int)) = false := by simp; omega
        have hmy := bmay_any f k (by omega) hk
        have hfu := bfull_any f (by omega)
        have HMY := Lib.hid hmy; have HFU := Lib.hid hfu
        clear hmy hfu
        go_enter Try.func6, Try.ntmps6
        go_wp2_with fail
        refine (bmawake_any _).mono ?_
        rintro e w1 ⟨rfl, g1⟩
        obtain ⟨W0, cap, hcv, hr0, hk0⟩ := rw8_conv f w1
        have HR0 := Lib.hid hr0; have HK0 := Lib.hid hk0
        clear hr0 hk0
        go_wp2_with fail
        go_loopw [29] (fun t wr => ∃ (j : Nat) (l : List UInt8), j ≤ f.size ∧ t = .int .i64 j ∧ l.length = f.size ∧ (∀ c, Bm.hasB f.data.toList c = true → Bm.hasB l c = true) ∧ Rw8 wr w1.heap.size l ∧ Kept w1 wr) (fun t _ => f.size - (intOf t).toNat)
        case atStart => exact ⟨0, f.data.toList, Nat.zero_le _, rfl, toList_size f, fun _ h => h, HR0.out, HK0.out⟩
        case round =>
          obtain ⟨j, l, hj, rfl, hll, hmo, hrw, hkr⟩ := hrel
          have HMO := Lib.hid hmo; have HLL := Lib.hid hll
          clear hmo hll
          by_cases hlt : j < f.size
          · have hjl : j < l.length := by rw [HLL.out]; exact hlt
            by_cases hjm : j < m.size
            · have t1 : decide ((j : Int) < (m.size : Int)) = true := by simp; omega
              have hc := hrw.cell hjl
              have hs := hrw.soft hjl
              have hbl := hrw.lt
              have hor := bor8 (l.getD j 0) m[j]
              have hs2 := (hrw.set hjl (l.getD j 0 ||| m[j])).drew
              have hk2 : Kept w1 ((wr.setCell ⟨w1.heap.size, j, none⟩ (.int .u8 ((l.getD j 0 ||| m[j]).toNat : Nat))).drew) := kept_trans (mkept_set hkr (a := ⟨w1.heap.size, j, none⟩) (Nat.le_refl _) _) ⟨rfl, rfl, rfl, Nat.le_refl _, fun _ _ => rfl⟩
              have hm2 : ∀ c, Bm.hasB f.data.toList c = true → Bm.hasB (l.set j (l.getD j 0 ||| m[j])) c = true := fun c h => has_or hjl _ c (HMO.out c h)
              have hl2 : (l.set j (l.getD j 0 ||| m[j])).length = f.size := by rw [List.length_set]; exact HLL.out
              generalize l.getD j 0 ||| m[j] = q at *
              generalize l.getD j 0 = rx at *
              have HS2 := Lib.hid hs2; have HK2 := Lib.hid hk2; have HM2 := Lib.hid hm2; have HL2 := Lib.hid hl2
              clear hs2 hk2 hm2 hl2
              go_wp2_with fail
              go_region
              go_wp2_with fail
              go_roundw
              case rel => exact ⟨j + 1, l.set j q, by omega, by go_num, HL2.out, HM2.out, HS2.out, HK2.out⟩
              case measure => simp [intOf]; omega
            · have t1 : decide ((j : Int) < (m.size : Int)) = false := by simp; omega
              go_wp2_with fail
              go_roundw
              case rel => exact ⟨j + 1, l, by omega, by go_num, HLL.out, HMO.out, hrw, hkr⟩
              case measure => simp [intOf]; omega
          · have e : j = f.size := by omega
            subst e
            have hfs : (f.data.toList).length = l.length := by rw [toList_size, HLL.out]
            have hmm : Bm.may f.data.toList k.data.toList = true → Bm.may l k.data.toList = true := fun h => Bm.may_more hfs HMO.out h
            have hff := Bm.full_more hfs HMO.out
            have hstr : ∀ W, Kept wr W → (convert 36 9 (.slice (some ⟨w1.heap.size, 0, none⟩) f.size cap)).run Try.prog W = .ok (.string (bs l)) W := fun W kW => by
              have := (hrw.kept kW).str cap
              rwa [HLL.out] at this
            have hmy2 := bmay_any (bs l) k (by rw [fbs_size, HLL.out]; omega) hk
            have hfu2 := bfull_any (bs l) (by rw [fbs_size, HLL.out]; omega)
            rw [bs_data] at hmy2 hfu2
            have hmy1 := HMY.out
            have hfu1 := HFU.out
            have t2 : decide ((Bm.full l : Int) < (Bm.full f.data.toList : Int)) = false := by simp; omega
            have t3 : decide (Bm.full l < Bm.full f.data.toList) = false := by simp; omega
            generalize Bm.full l = F2 at *
            generalize Bm.full f.data.toList = F1 at *
            generalize Bm.may l k.data.toList = M2 at *
            generalize Bm.may f.data.toList k.data.toList = M1 at *
            generalize bs l = FB at *
            have HSTR := Lib.hid hstr
            clear hstr HMO HMY HFU hfs
            have HS : ∀ W, KW wr W → (convert 36 9 (.slice (some ⟨w1.heap.size, 0, none⟩) f.size cap)).run Try.prog W = .ok (.string FB) W := fun W h => HSTR.out W h.k
            have y1 : ∀ W, KW wr W → Calls Try.prog 18 #[.string f, .string k] W fun e w' => e = .returned (.bool M1) ∧ KW wr w' := fun W h => (hmy1 W).mono fun e w' ⟨a, b⟩ => ⟨a, ⟨kept_trans h.k b⟩⟩
            have y2 : ∀ W, KW wr W → Calls Try.prog 18 #[.string FB, .string k] W fun e w' => e = .returned (.bool M2) ∧ KW wr w' := fun W h => (hmy2 W).mono fun e w' ⟨a, b⟩ => ⟨a, ⟨kept_trans h.k b⟩⟩
            have I0 : KW wr wr.drew := ⟨⟨rfl, rfl, rfl, Nat.le_refl _, fun _ _ => rfl⟩⟩
            have HSS := Lib.hid HS
            have Y1 := Lib.hid y1; have Y2 := Lib.hid y2; have X1 := Lib.hid hfu1; have X2 := Lib.hid hfu2
            clear hmy1 hmy2 HSTR HS y1 y2 hfu1 hfu2
            cases M1 with
            | false =>
              clear hmm
              go_wp2_with fail
              refine wp_region_held_drew (S := fun W => KW wr W) (by kernel_rfl) I0 (fun hHeld => ?_)
              refine wpAnyH_take (i := 0) (v := (.string f)) (List.getElem?_toArray.trans rfl) (by kernel_rfl) (by kernel_rfl) (by kernel_rfl) (fun _ _ _ h => h) (Or.inl ⟨by rfl, ?_⟩) (by assumption) ?_
              · intro W hSw
                first | rfl | (go_simp; done) | (go_simp; rfl)
              simp only [Act.put, List.setIfInBounds_toArray, List.set_cons_zero, List.set_cons_succ]
              refine wpAnyH_take (i := 1) (v := (.string k)) (List.getElem?_toArray.trans rfl) (by kernel_rfl) (by kernel_rfl) (by kernel_rfl) (fun _ _ _ h => h) (Or.inl ⟨by rfl, ?_⟩) (by assumption) ?_
              · intro W hSw
                first | rfl | (go_simp; done) | (go_simp; rfl)
              simp only [Act.put, List.setIfInBounds_toArray, List.set_cons_zero, List.set_cons_succ]
              refine wpAnyH_ready (rs := [2]) (by kernel_rfl) (by simp) ?_
              refine AllReadyH.cons (List.getElem?_toArray.trans rfl) (fun K hK => ?_) AllReadyH.nil
              go_simp
              refine (Y1.out _ (by assumption)).mono ?_
              rintro e w2 ⟨rfl, k2⟩
              go_wp2_with fail
              refine hK.out _ _ k2 (fun hHeld => ?_)
              clear hK K
              refine wpAnyH_take (i := 3) (v := (.bool false)) (List.getElem?_toArray.trans rfl) (by kernel_rfl) (by kernel_rfl) (by kernel_rfl) (fun _ _ _ h => h) (Or.inl ⟨by rfl, ?_⟩) (by assumption) ?_
              · intro W hSw
                first | rfl | (go_simp; done) | (go_simp; rfl)
              simp only [Act.put, List.setIfInBounds_toArray, List.set_cons_zero, List.set_cons_succ]
              refine wpAnyH_take (i := 4) (v := undef) (List.getElem?_toArray.trans rfl) (by kernel_rfl) (by kernel_rfl) (by kernel_rfl) (fun _ _ _ h => h) (Or.inr ⟨by rfl, rfl⟩) (by assumption) ?_
              simp only [Act.put, List.setIfInBounds_toArray, List.set_cons_zero, List.set_cons_succ]
              refine wpAnyH_take (i := 5) (v := undef) (List.getElem?_toArray.trans rfl) (by kernel_rfl) (by kernel_rfl) (by kernel_rfl) (fun _ _ _ h => h) (Or.inr ⟨by rfl, rfl⟩) (by assumption) ?_
              simp only [Act.put, List.setIfInBounds_toArray, List.set_cons_zero, List.set_cons_succ]
              refine wpAnyH_take (i := 6) (v := undef) (List.getElem?_toArray.trans rfl) (by kernel_rfl) (by kernel_rfl) (by kernel_rfl) (fun _ _ _ h => h) (Or.inr ⟨by rfl, rfl⟩) (by assumption) ?_
              simp only [Act.put, List.setIfInBounds_toArray, List.set_cons_zero, List.set_cons_succ]
              refine wpAnyH_take (i := 7) (v := undef) (List.getElem?_toArray.trans rfl) (by kernel_rfl) (by kernel_rfl) (by kernel_rfl) (fun _ _ _ h => h) (Or.inr ⟨by rfl, rfl⟩) (by assumption) ?_
              simp only [Act.put, List.setIfInBounds_toArray, List.set_cons_zero, List.set_cons_succ]
              refine wpAnyH_take (i := 8) (v := undef) (List.getElem?_toArray.trans rfl) (by kernel_rfl) (by kernel_rfl) (by kernel_rfl) (fun _ _ _ h => h) (Or.inr ⟨by rfl, rfl⟩) (by assumption) ?_
              simp only [Act.put, List.setIfInBounds_toArray, List.set_cons_zero, List.set_cons_succ]
              refine wpAnyH_take (i := 9) (v := (.bool false)) (List.getElem?_toArray.trans rfl) (by kernel_rfl) (by kernel_rfl) (by kernel_rfl) (fun _ _ _ h => h) (Or.inl ⟨by rfl, ?_⟩) (by assumption) ?_
              · intro W hSw
                first | rfl | (go_simp; done) | (go_simp; rfl)
              simp only [Act.put, List.setIfInBounds_toArray, List.set_cons_zero, List.set_cons_succ]
              refine wpAnyH_take (i := 10) (v := (.bool false)) (List.getElem?_toArray.trans rfl) (by kernel_rfl) (by kernel_rfl) (by kernel_rfl) (fun _ _ _ h => h) (Or.inl ⟨by rfl, ?_⟩) (by assumption) ?_
              · intro W hSw
                first | rfl | (go_simp; done) | (go_simp; rfl)
              simp only [Act.put, List.setIfInBounds_toArray, List.set_cons_zero, List.set_cons_succ]
              refine wpAnyH_take (i := 11) (v := (.string f)) (List.getElem?_toArray.trans rfl) (by kernel_rfl) (by kernel_rfl) (by kernel_rfl) (fun _ _ _ h => h) (Or.inl ⟨by rfl, ?_⟩) (by assumption) ?_
              · intro W hSw
                first | rfl | (go_simp; done) | (go_simp; rfl)
              simp only [Act.put, List.setIfInBounds_toArray, List.set_cons_zero, List.set_cons_succ]
              refine wpAnyH_take (i := 13) (v := (.slice (some ⟨w1.heap.size, 0, none⟩) f.size cap)) (List.getElem?_toArray.trans rfl) (by kernel_rfl) (by kernel_rfl) (by kernel_rfl) (fun _ _ _ h => h) (Or.inl ⟨by rfl, ?_⟩) (by assumption) ?_
              · intro W hSw
                first | rfl | (go_simp; done) | (go_simp; rfl)
              simp only [Act.put, List.setIfInBounds_toArray, List.set_cons_zero, List.set_cons_succ]
              refine wpAnyH_take (i := 14) (v := (.string FB)) (List.getElem?_toArray.trans rfl) (by kernel_rfl) (by kernel_rfl) (by kernel_rfl) (fun _ _ _ h => h) (Or.inl ⟨by rfl, ?_⟩) (by assumption) ?_
              · intro W hSw
                have hcv := HSS.out W hSw
                first | (go_simp; done) | (go_simp; rfl)
              simp only [Act.put, List.setIfInBounds_toArray, List.set_cons_zero, List.set_cons_succ]
              refine wpAnyH_ready (rs := [12]) (by kernel_rfl) (by simp) ?_
              refine AllReadyH.cons (List.getElem?_toArray.trans rfl) (fun K hK => ?_) AllReadyH.nil
              go_simp
              refine (X1.out _).mono ?_
              rintro e w9 ⟨rfl, rfl⟩
              go_wp2_with fail
              refine hK.out _ _ (by assumption) (fun hHeld => ?_)
              clear hK K
              refine wpAnyH_ready (rs := [15]) (by kernel_rfl) (by simp) ?_
              refine AllReadyH.cons (List.getElem?_toArray.trans rfl) (fun K hK => ?_) AllReadyH.nil
              go_simp
              refine (X2.out _).mono ?_
              rintro e w9 ⟨rfl, rfl⟩
              go_wp2_with fail
              refine hK.out _ _ (by assumption) (fun hHeld => ?_)
              clear hK K
              refine wpAnyH_take (i := 16) (v := (.bool false)) (List.getElem?_toArray.trans rfl) (by kernel_rfl) (by kernel_rfl) (by kernel_rfl) (fun _ _ _ h => h) (Or.inl ⟨by rfl, ?_⟩) (by assumption) ?_
              · intro W hSw
                first | rfl | (go_simp; done) | (go_simp; rfl)
              simp only [Act.put, List.setIfInBounds_toArray, List.set_cons_zero, List.set_cons_succ]
              refine wpAnyH_take (i := 17) (v := (.bool false)) (List.getElem?_toArray.trans rfl) (by kernel_rfl) (by kernel_rfl) (by kernel_rfl) (fun _ _ _ h => h) (Or.inl ⟨by rfl, ?_⟩) (by assumption) ?_
              · intro W hSw
                first | rfl | (go_simp; done) | (go_simp; rfl)
              simp only [Act.put, List.setIfInBounds_toArray, List.set_cons_zero, List.set_cons_succ]
              refine wpAnyH_done (by kernel_rfl) ?_ _
              go_wp2_with fail
              have hrX := hrw.kept k2.k
              have hkX := kept_trans hkr k2.k
              have HRX := Lib.hid hrX; have HKX := Lib.hid hkX
              clear hrX hkX hrw hkr
              go_loopw [66] (fun t wr => ∃ (j : Nat) (l : List UInt8), j ≤ f.size ∧ t = .int .i64 j ∧ l.length = f.size ∧ (∀ i, i < j → l.getD i 0 = 255) ∧ Rw8 wr w1.heap.size l ∧ Kept w1 wr) (fun t _ => f.size - (intOf t).toNat)
              case atStart => exact ⟨0, l, Nat.zero_le _, rfl, HLL.out, fun i h => by omega, HRX.out, HKX.out⟩
              case round =>
                clear HRX HKX HLL
                obtain ⟨j, l, hj, rfl, hll, hff, hrw, hkr⟩ := hrel
                by_cases hlt : j < f.size
                · have hc := hrw.cell (j := j) (by omega)
                  have hs := hrw.soft (j := j) (by omega)
                  have hs2 := hrw.set (j := j) (by omega) 255
                  have hk2 := mkept_set hkr (a := ⟨w1.heap.size, j, none⟩) (Nat.le_refl _) (.int .u8 255)
                  have hl2 : (l.set j 255).length = f.size := by simpa using hll
                  have hf2 : ∀ i, i < j + 1 → (l.set j 255).getD i 0 = 255 := fun i hi => by
                    rw [getD_set _ _ _ _ (by omega)]
                    split
                    · rfl
                    · exact hff i (by omega)
                  have hbl := hrw.lt
                  have HS2 := Lib.hid hs2; have HK2 := Lib.hid hk2; have HL2 := Lib.hid hl2; have HF2 := Lib.hid hf2
                  clear hs2 hk2 hl2 hf2 hff hll
                  go_wp2_with fail
                  go_roundw
                  case rel => exact ⟨j + 1, l.set j 255, by omega, by go_num, HL2.out, HF2.out, HS2.out, HK2.out⟩
                  case measure => simp [intOf]; omega
                · have e : j = f.size := by omega
                  subst e
                  have hstr := hrw.str cap
                  have hmy := bmay_any (bs l) k (by rw [fbs_size, hll]; omega) hk
                  rw [bs_data, may_ones (fun i hi => hff i (by omega))] at hmy
                  rw [hll] at hstr
                  generalize bs l = FE at *
                  have HMYE := Lib.hid hmy
                  clear hmy hll hff hrw
                  go_wp2_with fail
                  refine (HMYE.out _).mono ?_
                  rintro e w8 ⟨rfl, g8⟩
                  go_wp2_with fail
                  go_ret
                  exact ⟨rfl, kept_trans (kept_trans g1 hkr) g8⟩
            | true =>
              obtain rfl := hmm rfl
              clear hmm
              go_wp2_with fail
              refine wp_region_held_drew (S := fun W => KW wr W) (by kernel_rfl) I0 (fun hHeld => ?_)
              refine wpAnyH_take (i := 0) (v := (.string f)) (List.getElem?_toArray.trans rfl) (by kernel_rfl) (by kernel_rfl) (by kernel_rfl) (fun _ _ _ h => h) (Or.inl ⟨by rfl, ?_⟩) (by assumption) ?_
              · intro W hSw
                first | rfl | (go_simp; done) | (go_simp; rfl)
              simp only [Act.put, List.setIfInBounds_toArray, List.set_cons_zero, List.set_cons_succ]
              refine wpAnyH_take (i := 1) (v := (.string k)) (List.getElem?_toArray.trans rfl) (by kernel_rfl) (by kernel_rfl) (by kernel_rfl) (fun _ _ _ h => h) (Or.inl ⟨by rfl, ?_⟩) (by assumption) ?_
              · intro W hSw
                first | rfl | (go_simp; done) | (go_simp; rfl)
              simp only [Act.put, List.setIfInBounds_toArray, List.set_cons_zero, List.set_cons_succ]
              refine wpAnyH_ready (rs := [2]) (by kernel_rfl) (by simp) ?_
              refine AllReadyH.cons (List.getElem?_toArray.trans rfl) (fun K hK => ?_) AllReadyH.nil
              go_simp
              refine (Y1.out _ (by assumption)).mono ?_
              rintro e w2 ⟨rfl, k2⟩
              go_wp2_with fail
              refine hK.out _ _ k2 (fun hHeld => ?_)
              clear hK K
              refine wpAnyH_take (i := 3) (v := (.bool true)) (List.getElem?_toArray.trans rfl) (by kernel_rfl) (by kernel_rfl) (by kernel_rfl) (fun _ _ _ h => h) (Or.inl ⟨by rfl, ?_⟩) (by assumption) ?_
              · intro W hSw
                first | rfl | (go_simp; done) | (go_simp; rfl)
              simp only [Act.put, List.setIfInBounds_toArray, List.set_cons_zero, List.set_cons_succ]
              refine wpAnyH_take (i := 4) (v := (.slice (some ⟨w1.heap.size, 0, none⟩) f.size cap)) (List.getElem?_toArray.trans rfl) (by kernel_rfl) (by kernel_rfl) (by kernel_rfl) (fun _ _ _ h => h) (Or.inl ⟨by rfl, ?_⟩) (by assumption) ?_
              · intro W hSw
                first | rfl | (go_simp; done) | (go_simp; rfl)
              simp only [Act.put, List.setIfInBounds_toArray, List.set_cons_zero, List.set_cons_succ]
              refine wpAnyH_take (i := 5) (v := (.string FB)) (List.getElem?_toArray.trans rfl) (by kernel_rfl) (by kernel_rfl) (by kernel_rfl) (fun _ _ _ h => h) (Or.inl ⟨by rfl, ?_⟩) (by assumption) ?_
              · intro W hSw
                have hcv := HSS.out W hSw
                first | (go_simp; done) | (go_simp; rfl)
              simp only [Act.put, List.setIfInBounds_toArray, List.set_cons_zero, List.set_cons_succ]
              refine wpAnyH_take (i := 6) (v := (.string k)) (List.getElem?_toArray.trans rfl) (by kernel_rfl) (by kernel_rfl) (by kernel_rfl) (fun _ _ _ h => h) (Or.inl ⟨by rfl, ?_⟩) (by assumption) ?_
              · intro W hSw
                first | rfl | (go_simp; done) | (go_simp; rfl)
              simp only [Act.put, List.setIfInBounds_toArray, List.set_cons_zero, List.set_cons_succ]
              refine wpAnyH_ready (rs := [7]) (by kernel_rfl) (by simp) ?_
              refine AllReadyH.cons (List.getElem?_toArray.trans rfl) (fun K hK => ?_) AllReadyH.nil
              go_simp
              refine (Y2.out _ (by assumption)).mono ?_
              rintro e w3 ⟨rfl, k3⟩
              go_wp2_with fail
              refine hK.out _ _ k3 (fun hHeld => ?_)
              clear hK K
              refine wpAnyH_take (i := 8) (v := (.bool false)) (List.getElem?_toArray.trans rfl) (by kernel_rfl) (by kernel_rfl) (by kernel_rfl) (fun _ _ _ h => h) (Or.inl ⟨by rfl, ?_⟩) (by assumption) ?_
              · intro W hSw
                first | rfl | (go_simp; done) | (go_simp; rfl)
              simp only [Act.put, List.setIfInBounds_toArray, List.set_cons_zero, List.set_cons_succ]
              refine wpAnyH_take (i := 9) (v := (.bool false)) (List.getElem?_toArray.trans rfl) (by kernel_rfl) (by kernel_rfl) (by kernel_rfl) (fun _ _ _ h => h) (Or.inl ⟨by rfl, ?_⟩) (by assumption) ?_
              · intro W hSw
                first | rfl | (go_simp; done) | (go_simp; rfl)
              simp only [Act.put, List.setIfInBounds_toArray, List.set_cons_zero, List.set_cons_succ]
              refine wpAnyH_take (i := 10) (v := (.bool false)) (List.getElem?_toArray.trans rfl) (by kernel_rfl) (by kernel_rfl) (by kernel_rfl) (fun _ _ _ h => h) (Or.inl ⟨by rfl, ?_⟩) (by assumption) ?_
              · intro W hSw
                first | rfl | (go_simp; done) | (go_simp; rfl)
              simp only [Act.put, List.setIfInBounds_toArray, List.set_cons_zero, List.set_cons_succ]
              refine wpAnyH_take (i := 11) (v := (.string f)) (List.getElem?_toArray.trans rfl) (by kernel_rfl) (by kernel_rfl) (by kernel_rfl) (fun _ _ _ h => h) (Or.inl ⟨by rfl, ?_⟩) (by assumption) ?_
              · intro W hSw
                first | rfl | (go_simp; done) | (go_simp; rfl)
              simp only [Act.put, List.setIfInBounds_toArray, List.set_cons_zero, List.set_cons_succ]
              refine wpAnyH_take (i := 13) (v := (.slice (some ⟨w1.heap.size, 0, none⟩) f.size cap)) (List.getElem?_toArray.trans rfl) (by kernel_rfl) (by kernel_rfl) (by kernel_rfl) (fun _ _ _ h => h) (Or.inl ⟨by rfl, ?_⟩) (by assumption) ?_
              · intro W hSw
                first | rfl | (go_simp; done) | (go_simp; rfl)
              simp only [Act.put, List.setIfInBounds_toArray, List.set_cons_zero, List.set_cons_succ]
              refine wpAnyH_take (i := 14) (v := (.string FB)) (List.getElem?_toArray.trans rfl) (by kernel_rfl) (by kernel_rfl) (by kernel_rfl) (fun _ _ _ h => h) (Or.inl ⟨by rfl, ?_⟩) (by assumption) ?_
              · intro W hSw
                have hcv := HSS.out W hSw
                first | (go_simp; done) | (go_simp; rfl)
              simp only [Act.put, List.setIfInBounds_toArray, List.set_cons_zero, List.set_cons_succ]
              refine wpAnyH_ready (rs := [12]) (by kernel_rfl) (by simp) ?_
              refine AllReadyH.cons (List.getElem?_toArray.trans rfl) (fun K hK => ?_) AllReadyH.nil
              go_simp
              refine (X1.out _).mono ?_
              rintro e w9 ⟨rfl, rfl⟩
              go_wp2_with fail
              refine hK.out _ _ (by assumption) (fun hHeld => ?_)
              clear hK K
              refine wpAnyH_ready (rs := [15]) (by kernel_rfl) (by simp) ?_
              refine AllReadyH.cons (List.getElem?_toArray.trans rfl) (fun K hK => ?_) AllReadyH.nil
              go_simp
              refine (X2.out _).mono ?_
              rintro e w9 ⟨rfl, rfl⟩
              go_wp2_with fail
              refine hK.out _ _ (by assumption) (fun hHeld => ?_)
              clear hK K
              refine wpAnyH_take (i := 16) (v := (.bool false)) (List.getElem?_toArray.trans rfl) (by kernel_rfl) (by kernel_rfl) (by kernel_rfl) (fun _ _ _ h => h) (Or.inl ⟨by rfl, ?_⟩) (by assumption) ?_
              · intro W hSw
                first | rfl | (go_simp; done) | (go_simp; rfl)
              simp only [Act.put, List.setIfInBounds_toArray, List.set_cons_zero, List.set_cons_succ]
              refine wpAnyH_take (i := 17) (v := (.bool false)) (List.getElem?_toArray.trans rfl) (by kernel_rfl) (by kernel_rfl) (by kernel_rfl) (fun _ _ _ h => h) (Or.inl ⟨by rfl, ?_⟩) (by assumption) ?_
              · intro W hSw
                first | rfl | (go_simp; done) | (go_simp; rfl)
              simp only [Act.put, List.setIfInBounds_toArray, List.set_cons_zero, List.set_cons_succ]
              refine wpAnyH_done (by kernel_rfl) ?_ _
              go_wp2_with fail
              have hrX := hrw.kept k3.k
              have hkX := kept_trans hkr k3.k
              have HRX := Lib.hid hrX; have HKX := Lib.hid hkX
              clear hrX hkX hrw hkr
              go_loopw [66] (fun t wr => ∃ (j : Nat) (l : List UInt8), j ≤ f.size ∧ t = .int .i64 j ∧ l.length = f.size ∧ (∀ i, i < j → l.getD i 0 = 255) ∧ Rw8 wr w1.heap.size l ∧ Kept w1 wr) (fun t _ => f.size - (intOf t).toNat)
              case atStart => exact ⟨0, l, Nat.zero_le _, rfl, HLL.out, fun i h => by omega, HRX.out, HKX.out⟩
              case round =>
                clear HRX HKX HLL
                obtain ⟨j, l, hj, rfl, hll, hff, hrw, hkr⟩ := hrel
                by_cases hlt : j < f.size
                · have hc := hrw.cell (j := j) (by omega)
                  have hs := hrw.soft (j := j) (by omega)
                  have hs2 := hrw.set (j := j) (by omega) 255
                  have hk2 := mkept_set hkr (a := ⟨w1.heap.size, j, none⟩) (Nat.le_refl _) (.int .u8 255)
                  have hl2 : (l.set j 255).length = f.size := by simpa using hll
                  have hf2 : ∀ i, i < j + 1 → (l.set j 255).getD i 0 = 255 := fun i hi => by
                    rw [getD_set _ _ _ _ (by omega)]
                    split
                    · rfl
                    · exact hff i (by omega)
                  have hbl := hrw.lt
                  have HS2 := Lib.hid hs2; have HK2 := Lib.hid hk2; have HL2 := Lib.hid hl2; have HF2 := Lib.hid hf2
                  clear hs2 hk2 hl2 hf2 hff hll
                  go_wp2_with fail
                  go_roundw
                  case rel => exact ⟨j + 1, l.set j 255, by omega, by go_num, HL2.out, HF2.out, HS2.out, HK2.out⟩
                  case measure => simp [intOf]; omega
                · have e : j = f.size := by omega
                  subst e
                  have hstr := hrw.str cap
                  have hmy := bmay_any (bs l) k (by rw [fbs_size, hll]; omega) hk
                  rw [bs_data, may_ones (fun i hi => hff i (by omega))] at hmy
                  rw [hll] at hstr
                  generalize bs l = FE at *
                  have HMYE := Lib.hid hmy
                  clear hmy hll hff hrw
                  go_wp2_with fail
                  refine (HMYE.out _).mono ?_
                  rintro e w8 ⟨rfl, g8⟩
                  go_wp2_with fail
                  go_ret
                  exact ⟨rfl, kept_trans (kept_trans g1 hkr) g8⟩
end Go.Proofs.Ytpbhbgoaaephgaa
