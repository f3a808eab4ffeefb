/-
  BloomBits of the statements of layer 10 returns true, whatever key, number of bytes and bit.
-/
import Derived.Test.YtpbhbgoaaephgaaBloomRow
namespace Go.Proofs.Ytpbhbgoaaephgaa
open Go.ChangeShapes Go.WideShapes Go.ChangeAt Go.RowKit
set_option linter.unusedVariables false
set_option maxRecDepth 100000
set_option maxHeartbeats 1000000

theorem BloomBits_walk {w : World} (a : ByteArray) (n which : Int) (ha : a.size ≤ maxLen) (hn : (Lit.int .u8 n).wf = true) (hw : (Lit.int .u8 which).wf = true) :
    Calls Try.prog 7 #[.string a, .int .u8 n, .int .u8 which] w fun e w' => e = .returned (.bool true) ∧ Kept w w' := by
  have hnb := bounds_u8 hn
  have hwb := bounds_u8 hw
  have hal : a.size ≤ 9223372036854775807 := by unfold maxLen at ha; omega
  by_cases h1 : 300 < a.size
  · have d1 : decide ((300 : Int) < (a.size : Int)) = true := by simp; omega
    go_enter Try.func7, Try.ntmps7
    go_wp2_with fail
    refine (bmawake_any _).mono ?_
    rintro e w1 ⟨rfl, g1⟩
    go_wp2_with fail
    go_ret
    exact ⟨rfl, g1⟩
  · have d1 : decide ((300 : Int) < (a.size : Int)) = false := by simp; omega
    obtain ⟨K, hK⟩ : ∃ K : Nat, (n % 100 + 1 : Int) = (K : Int) := ⟨(n % 100 + 1).toNat, by omega⟩
    have hKb : 1 ≤ K ∧ K ≤ 100 := by omega
    have hb1 := bbits_any a ha (8 * (K : Int)) (by omega) (by omega)
    have hb2 := bbits_any a ha 0 (by omega) (by omega)
    have hb3 := bbits_any a ha (-1) (by omega) (by omega)
    have z2 : Bm.bits a.data.toList (0 : Int).toNat = [] := rfl
    have z3 : Bm.bits a.data.toList (-1 : Int).toNat = [] := rfl
    rw [z2] at hb2; rw [z3] at hb3
    rw [show (8 * (K : Int)).toNat = 8 * K by omega] at hb1
    have hl4 : (Bm.bits a.data.toList (8 * K)).length = 4 := by rw [Bm.bits_len, if_neg (by omega)]
    have hlt := Bm.bits_lt a.data.toList (8 * K)
    have hmk := fun w => made_v 36 5 (.int .u8 0) 1 Try.underlying36 info5 rfl .i64 K (by omega) (by omega) w
    have hcl : ∀ (l : List UInt8) (x : Nat), x ∈ Bm.bits a.data.toList (8 * K) → l.length = K → Bm.hasB l x = false → Bm.may l a.data.toList = false := fun l x hx hl h => may_cleared (by rw [hl]; exact hx) h
    obtain ⟨W, hWW⟩ : ∃ W : Nat, which % 4 = (W : Int) := ⟨(which % 4).toNat, by omega⟩
    have hW4 : W < 4 := by omega
    generalize Bm.bits a.data.toList (8 * K) = L at *
    have HB1 := Lib.hid hb1; have HB2 := Lib.hid hb2; have HB3 := Lib.hid hb3; have HL4 := Lib.hid hl4; have HLT := Lib.hid hlt; have HCL := Lib.hid hcl
    clear hb1 hb2 hb3 z2 z3 hl4 hlt hcl
    go_enter Try.func7, Try.ntmps7
    go_wp2_with fail
    refine (bmawake_any _).mono ?_
    rintro e w1 ⟨rfl, g1⟩
    go_wp2_with fail
    refine (HB1.out _).mono ?_
    rintro e w2 ⟨A, c, rfl, hI, _, g2⟩
    have hb4 := hI
    rw [HL4.out]
    go_wp2_with fail
    refine (HB2.out _).mono ?_
    rintro e w3 ⟨A2, c2, rfl, _, _, g3⟩
    go_wp2_with fail
    refine (HB3.out _).mono ?_
    rintro e w4 ⟨A3, c3, rfl, _, _, g4⟩
    have hI4 := (hI.kept g3).kept g4
    have G4 := kept_trans (kept_trans (kept_trans g1 g2) g3) g4
    clear hb4 hI g1 g2 g3 g4
    have hr0 := rw8_made w4 K
    go_wp2_with fail
    go_loopw [45] (fun t wr => ∃ (j : Nat) (l : List UInt8), j ≤ K ∧ t = .int .i64 j ∧ l.length = K ∧ (∀ i, i < j → l.getD i 0 = 255) ∧ Rw8 wr w4.heap.size l ∧ Kept w4 wr) (fun t _ => K - (intOf t).toNat)
    case atStart => exact ⟨0, List.replicate K 0, Nat.zero_le _, rfl, by simp, fun i h => by omega, hr0, (Kept.refl _).alloc _⟩
    case round =>
      obtain ⟨j, l, hj, rfl, hll, hff, hrw, hkr⟩ := hrel
      by_cases hlt : j < K
      · have hc := hrw.cell (j := j) (by omega)
        have hs := hrw.soft (j := j) (by omega)
        have hs2 := hrw.set (j := j) (by omega) 255
        have hk2 := mkept_set hkr (a := ⟨w4.heap.size, j, none⟩) (Nat.le_refl _) (.int .u8 255)
        have hl2 : (l.set j 255).length = K := by simpa using hll
        have hf2 : ∀ i, i < j + 1 → (l.set j 255).getD i 0 = 255 := fun i hi => by
          rw [getD_set _ _ _ _ (by omega)]
          split
          · rfl
          · exact hff i (by omega)
        have hbl := hrw.lt
        have HS2 := Lib.hid hs2; have HK2 := Lib.hid hk2; have HL2 := Lib.hid hl2; have HF2 := Lib.hid hf2
        clear hs2 hk2 hl2 hf2 hff hll
        go_wp2_with fail
        go_roundw
        case rel => exact ⟨j + 1, l.set j 255, by omega, by go_num, HL2.out, HF2.out, HS2.out, HK2.out⟩
        case measure => simp [intOf]; omega
      · have e : j = K := by omega
        subst e
        have hI5 := hI4.kept hkr
        have HFF := Lib.hid hff; have HLL := Lib.hid hll
        clear hff hll
        rename World => w5
        go_wp2_with fail
        go_loopw [54] (fun t wr => ∃ k : Nat, k ≤ 4 ∧ t = .int .i64 k ∧ wr = w5) (fun t _ => 4 - (intOf t).toNat)
        case atStart => exact ⟨0, Nat.zero_le _, rfl, rfl⟩
        case round =>
          obtain ⟨k, hk, rfl, rfl⟩ := hrel
          by_cases hlt : k < 4
          · have hx : L[k]? = some (L[k]'(by rw [HL4.out]; exact hlt)) := List.getElem?_eq_getElem _
            have hmem : L[k]'(by rw [HL4.out]; exact hlt) ∈ L := List.getElem_mem _
            generalize L[k]'(by rw [HL4.out]; exact hlt) = x at hx hmem
            obtain ⟨b, o, rfl, hb, hcell⟩ := hI5 k x hx
            have hx8 := HLT.out x hmem
            have t1 : decide ((x : Int) < 0) = false := by simp
            have t2 : decide (8 * (j : Int) ≤ (x : Int)) = false := by simp; omega
            clear hx hmem
            go_wp2_with fail
            go_roundw
            case rel => exact ⟨k + 1, by omega, by go_num, trivial⟩
            case measure => simp [intOf]; omega
          · have e : k = 4 := by omega
            subst e
            have hx : L[W]? = some (L[W]'(by rw [HL4.out]; exact hW4)) := List.getElem?_eq_getElem _
            have hmem : L[W]'(by rw [HL4.out]; exact hW4) ∈ L := List.getElem_mem _
            generalize L[W]'(by rw [HL4.out]; exact hW4) = x at hx hmem
            obtain ⟨b, o, rfl, hb, hcell⟩ := hI5 W x hx
            have hx8 := HLT.out x hmem
            obtain ⟨q, hq1, hq2⟩ := clear_bit (l.getD (x / 8) 0) x (HFF.out (x / 8) (by omega))
            have hlx : x / 8 < l.length := by rw [HLL.out]; omega
            have hcx := hrw.cell hlx
            have hsx := hrw.soft hlx
            have hset := (hrw.set hlx q).drew
            have hstr := hset.str j
            have hbl := hrw.lt
            have hno := HCL.out (l.set (x / 8) q) x hmem (by rw [List.length_set]; exact HLL.out) (by
              unfold Bm.hasB
              rw [getD_set _ _ _ _ hlx, if_pos rfl]; exact hq2)
            have hmy := bmay_any (bs (l.set (x / 8) q)) a (by rw [fbs_size, List.length_set, HLL.out]; omega) ha
            rw [bs_data, hno] at hmy
            have hk6 : Kept w4 ((wr.setCell ⟨w4.heap.size, x / 8, none⟩ (.int .u8 (q.toNat : Nat))).drew) := kept_trans (mkept_set hkr (a := ⟨w4.heap.size, x / 8, none⟩) (Nat.le_refl _) _) ⟨rfl, rfl, rfl, Nat.le_refl _, fun _ _ => rfl⟩
            rw [List.length_set, HLL.out] at hstr
            have hsh := bshl (x % 8) (by omega)
            generalize (UInt8.ofNat (2 ^ (x % 8))) = sh at *
            generalize l.getD (x / 8) 0 = rx at *
            generalize l.set (x / 8) q = l2 at *
            generalize bs l2 = FB at *
            have HMY := Lib.hid hmy; have HK6 := Lib.hid hk6
            clear hno hmy hk6 hset hx hmem hq2
            go_wp2_with fail
            go_region
            go_wp2_with fail
            refine (HMY.out _).mono ?_
            rintro e w6 ⟨rfl, g6⟩
            go_wp2_with fail
            go_ret
            exact ⟨rfl, kept_trans (kept_trans G4 HK6.out) g6⟩
end Go.Proofs.Ytpbhbgoaaephgaa
