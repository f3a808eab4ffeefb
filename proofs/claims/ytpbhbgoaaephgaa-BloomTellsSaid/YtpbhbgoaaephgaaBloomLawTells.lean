/-
  BloomTells of the statements of layer 10 returns true, whatever keys, filter, key and number.
-/
import Derived.Test.YtpbhbgoaaephgaaBloomRefMake
import Derived.Deep.QuietTactic
import Derived.BigQuiet
namespace Go.Proofs.Ytpbhbgoaaephgaa
open Go.ChangeShapes Go.WideShapes Go.ChangeAt Go.RowKit
set_option linter.unusedVariables false
set_option maxRecDepth 100000
set_option maxHeartbeats 4000000

theorem BloomTells_walk {w : World} (A : Option Addr) (c : Nat) (l : List (List UInt8)) (f k : ByteArray) (n : Int) (hA : Txs w A l) (hl : l.length ≤ maxLen ∧ (∀ x ∈ l, x.length ≤ maxLen) ∧ l.length ≤ c ∧ c ≤ maxLen) (hf : f.size ≤ maxLen) (hk : k.size ≤ maxLen) (hn : (Lit.int .i64 n).wf = true) :
    Calls Try.prog 3 #[.slice A l.length c, .string f, .string k, .int .i64 n] w fun e w' => e = .returned (.bool true) ∧ Kept w w' := by
  obtain ⟨hl1, hl2, _⟩ := hl
  have hnb : -9223372036854775808 ≤ n ∧ n ≤ 9223372036854775807 := by
    have h : (decide (IntKind.i64.min ≤ n) && decide (n ≤ IntKind.i64.max)) = true := hn
    rw [show IntKind.i64.min = -9223372036854775808 from rfl, show IntKind.i64.max = 9223372036854775807 from rfl, Bool.and_eq_true, decide_eq_true_iff, decide_eq_true_iff] at h
    exact h
  have hmk := bmake_any A c l hl1 hl2
  have hrk := rbmmake_any A c l hl1 hl2
  have hlg := bmlarge_any A c l hl1 hl2
  have hfl : f.size ≤ 9223372036854775807 := by unfold maxLen at hf; omega
  have hkl : k.size ≤ 9223372036854775807 := by unfold maxLen at hk; omega
  have HMK := Lib.hid hmk; have HRK := Lib.hid hrk; have HLG := Lib.hid hlg
  clear hmk hrk hlg hl2 hn
  generalize bs (Bm.makeS l) = S at *
  generalize Bm.makeE l = E at *
  by_cases h1 : 200 < f.size
  · have d1 : decide ((200 : Int) < (f.size : Int)) = true := by simp; omega
    clear HMK HRK
    go_enter Try.func3, Try.ntmps3
    go_wp2_with fail
    refine (bmawake_any _).mono ?_
    rintro e w1 ⟨rfl, g1⟩
    go_wp2_with fail
    refine (HLG.out _ (hA.kept g1)).mono ?_
    rintro e w2 ⟨B, rfl, g2⟩
    cases B <;> (go_wp2_with fail; go_ret; exact ⟨rfl, kept_trans g1 g2⟩)
  · have d1 : decide ((200 : Int) < (f.size : Int)) = false := by simp; omega
    by_cases h2 : 300 < k.size
    · have d2 : decide ((300 : Int) < (k.size : Int)) = true := by simp; omega
      clear HMK HRK
      go_enter Try.func3, Try.ntmps3
      go_wp2_with fail
      refine (bmawake_any _).mono ?_
      rintro e w1 ⟨rfl, g1⟩
      go_wp2_with fail
      refine (HLG.out _ (hA.kept g1)).mono ?_
      rintro e w2 ⟨B, rfl, g2⟩
      cases B <;> (go_wp2_with fail; go_ret; exact ⟨rfl, kept_trans g1 g2⟩)
    · have d2 : decide ((300 : Int) < (k.size : Int)) = false := by simp; omega
      have x1 := bmix_any k hk
      have x2 := rbmmix_any k hk
      have y1 := bmay_any f k (by omega) hk
      have y2 := rbmmay_any f k (by omega) hk
      have z1 := bfull_any f (by omega)
      have z2 := rbmfull_any f (by omega)
      have b1 := bbits_any k hk n hnb.1 hnb.2
      have b2 := rbmbits_any k hk n hnb.1 hnb.2
      have hl4 : (Bm.bits k.data.toList n.toNat).length ≤ 4 := by rw [Bm.bits_len]; split <;> omega
      generalize Bm.bits k.data.toList n.toNat = L at *
      generalize Bm.mix k.data.toList = X at *
      generalize Bm.may f.data.toList k.data.toList = Y at *
      generalize Bm.full f.data.toList = Z at *
      go_enter Try.func3, Try.ntmps3
      go_wp2_with fail
      refine (bmawake_any _).mono ?_
      rintro e w1 ⟨rfl, g1⟩
      go_wp2_with fail
      have hA1 := hA.kept g1
      refine (HLG.out _ hA1).mono ?_
      rintro e w2 ⟨B, rfl, g2⟩
      cases B with
      | true =>
        go_wp2_with fail
        go_ret
        exact ⟨rfl, kept_trans g1 g2⟩
      | false =>
        have hA2 := hA1.kept g2
        have G2 := kept_trans g1 g2
        clear hA hA1 g1 g2 HLG
        go_wp2_with fail
        refine (HMK.out _ hA2).mono ?_
        rintro e w3 ⟨rfl, g3⟩
        have hA3 := hA2.kept g3
        have G3 := kept_trans G2 g3
        clear hA2 G2 g3 HMK
        go_wp2_with fail
        refine (HRK.out _ hA3).mono ?_
        rintro e w4 ⟨rfl, g4⟩
        have G4 := kept_trans G3 g4
        clear hA3 G3 g4 HRK
        go_wp2_with fail
        refine (x1 _).mono ?_
        rintro e w5 ⟨rfl, rfl⟩
        go_wp2_with fail
        refine (x2 _).mono ?_
        rintro e w5 ⟨rfl, rfl⟩
        go_wp2_with fail
        refine (y1 _).mono ?_
        rintro e w5 ⟨rfl, g5⟩
        go_wp2_with fail
        refine (y2 _).mono ?_
        rintro e w6 ⟨rfl, g6⟩
        go_wp2_with fail
        refine (z1 _).mono ?_
        rintro e w7 ⟨rfl, rfl⟩
        go_wp2_with fail
        refine (z2 _).mono ?_
        rintro e w7 ⟨rfl, rfl⟩
        have G6 := kept_trans (kept_trans G4 g5) g6
        clear G4 g5 g6 x1 x2 y1 y2 z1 z2
        go_wp2_with fail
        refine (b1 _).mono ?_
        rintro e w7 ⟨A1, c1, rfl, hI1, _, g7⟩
        go_wp2_with fail
        refine (b2 _).mono ?_
        rintro e w8 ⟨A2, c2, rfl, hI2, _, g8⟩
        have hJ1 := hI1.kept g8
        have G8 := kept_trans (kept_trans G6 g7) g8
        clear G6 g7 g8 hI1 b1 b2
        go_wp2_with fail
        go_loopw [84] (fun t wr => ∃ j : Nat, j ≤ L.length ∧ t = .int .i64 j ∧ Kept w8 wr) (fun t _ => L.length - (intOf t).toNat)
        case atStart => exact ⟨0, Nat.zero_le _, rfl, Kept.refl _⟩
        case round =>
          obtain ⟨j, hj, rfl, hkr⟩ := hrel
          by_cases hlt : j < L.length
          · have hx : L[j]? = some L[j] := List.getElem?_eq_getElem hlt
            generalize L[j] = x at hx
            obtain ⟨b1, o1, rfl, hb1, hc1⟩ := (hJ1.kept hkr) j x hx
            obtain ⟨b2, o2, rfl, hb2, hc2⟩ := (hI2.kept hkr) j x hx
            clear hx
            go_wp2_with fail
            go_quiet (fail)
            go_wp2_with fail
            go_roundw
            case rel => exact ⟨j + 1, by omega, by go_num, kept_trans hkr (kept_drewN _ _)⟩
            case measure => simp [intOf]; omega
          · have e : j = L.length := by omega
            subst e
            go_wp2_with fail
            go_ret
            exact ⟨rfl, kept_trans G8 hkr⟩
end Go.Proofs.Ytpbhbgoaaephgaa
