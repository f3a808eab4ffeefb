/-
  BloomHas of the statements of layer 10 returns true, whatever keys.
-/
import Derived.Test.YtpbhbgoaaephgaaBloomAwake
namespace Go.Proofs.Ytpbhbgoaaephgaa
open Go.ChangeShapes Go.WideShapes Go.ChangeAt Go.RowKit
set_option linter.unusedVariables false
set_option maxRecDepth 100000
set_option maxHeartbeats 1000000

theorem makeS_few (l : List (List UInt8)) (h : l.length ≤ 1000) : Bm.makeS l = Bm.made l ∧ Bm.makeE l = 0 := by
  unfold Bm.makeS Bm.makeE; rw [if_pos h, if_pos h]; exact ⟨rfl, rfl⟩
theorem BloomHas_walk {w : World} (A : Option Addr) (c : Nat) (l : List (List UInt8)) (hA : Txs w A l) (hl : l.length ≤ maxLen ∧ (∀ x ∈ l, x.length ≤ maxLen) ∧ l.length ≤ c ∧ c ≤ maxLen) :
    Calls Try.prog 4 #[.slice A l.length c] w fun e w' => e = .returned (.bool true) ∧ Kept w w' := by
  obtain ⟨hl1, hl2, _⟩ := hl
  have hmk := bmake_any A c l hl1 hl2
  have hlg := bmlarge_any A c l hl1 hl2
  have HX := Lib.hid hl2; clear hl2
  have hlm : l.length ≤ 9223372036854775807 := by unfold maxLen at hl1; omega
  by_cases hbig : 1000 < l.length
  · have d : decide ((1000 : Int) < (l.length : Int)) = true := by simp; omega
    clear hmk
    go_enter Try.func4, Try.ntmps4
    go_wp2_with fail
    refine (bmawake_any _).mono ?_
    rintro e w1 ⟨rfl, g1⟩
    go_wp2_with fail
    refine (hlg _ (hA.kept g1)).mono ?_
    rintro e w2 ⟨B, rfl, g2⟩
    cases B <;> (go_wp2_with fail; go_ret; exact ⟨rfl, kept_trans g1 g2⟩)
  · have d : decide ((1000 : Int) < (l.length : Int)) = false := by simp; omega
    obtain ⟨e1, e2⟩ := makeS_few l (by omega)
    have hF := Bm.made_len l
    have hmay : ∀ x ∈ l, Bm.may (Bm.made l) x = true := fun x hx => Bm.made_may hx
    have hfu := Bm.made_full l
    have hfz := Bm.made_zero l
    rw [e1, e2] at hmk
    have hcm := fun k hk => bmay_any (bs (Bm.made l)) k (by rw [fbs_size]; omega) hk
    have hcf := bfull_any (bs (Bm.made l)) (by rw [fbs_size]; omega)
    rw [bs_data] at hcm hcf
    have hz : (((bs (Bm.made l)).size : Int) != (l.length : Int) + 1) = false := by rw [fbs_size, hF]; simp
    generalize Bm.made l = F at *
    generalize Bm.full F = N at *
    generalize bs F = FB at *
    have d1 : decide ((N : Int) ≤ 4 * (l.length : Int)) = true := by simp; omega
    have d2 : (((l.length : Int) == 0) == ((N : Int) == 0)) = true := by
      by_cases h0 : l = []
      · have h1 : N = 0 := by rw [hfz]; exact h0
        subst h0; subst h1; rfl
      · have h1 : N ≠ 0 := fun h => h0 (by rw [← hfz]; exact h)
        have h2 : l.length ≠ 0 := fun h => h0 (List.eq_nil_of_length_eq_zero h)
        have a1 : ((l.length : Int) == 0) = false := by simpa using h0
        have a2 : ((N : Int) == 0) = false := by simp; omega
        rw [a1, a2]; rfl
    have HM := Lib.hid hmay; have HCM := Lib.hid hcm
    clear hfz hF e1 e2 hmay hcm hfu
    go_enter Try.func4, Try.ntmps4
    go_wp2_with fail
    refine (bmawake_any _).mono ?_
    rintro e w1 ⟨rfl, g1⟩
    go_wp2_with fail
    refine (hlg _ (hA.kept g1)).mono ?_
    rintro e w2 ⟨B, rfl, g2⟩
    have hA2 := (hA.kept g1).kept g2
    cases B with
    | true =>
      go_wp2_with fail
      go_ret
      exact ⟨rfl, kept_trans g1 g2⟩
    | false =>
      go_wp2_with fail
      refine (hmk _ hA2).mono ?_
      rintro e w3 ⟨rfl, g3⟩
      have hA3 := hA2.kept g3
      have G := kept_trans (kept_trans g1 g2) g3
      clear hmk hlg hA hA2 g1 g2 g3
      go_wp2_with fail
      go_loopw [32] (fun t wr => ∃ k : Nat, k ≤ l.length ∧ t = .int .i64 k ∧ Kept w3 wr) (fun t _ => l.length - (intOf t).toNat)
      case atStart => exact ⟨0, Nat.zero_le _, rfl, Kept.refl _⟩
      case round =>
        obtain ⟨k, hk, rfl, hkr⟩ := hrel
        by_cases hlt : k < l.length
        · have hx : l[k]? = some l[k] := List.getElem?_eq_getElem hlt
          have hmem : l[k] ∈ l := List.getElem_mem hlt
          generalize l[k] = x at hx hmem
          obtain ⟨b, o, rfl, hb, hcell⟩ := (hA3.kept hkr) k x hx
          have hc := HCM.out (bs x) (by rw [fbs_size]; exact HX.out x hmem)
          rw [bs_data, HM.out x hmem] at hc
          clear hx hmem
          go_wp2_with fail
          refine (hc _).mono ?_
          rintro e w4 ⟨rfl, g4⟩
          go_wp2_with fail
          go_roundw
          case rel => exact ⟨k + 1, by omega, by go_num, kept_trans hkr g4⟩
          case measure => simp [intOf]; omega
        · have e : k = l.length := by omega
          subst e
          go_wp2_with fail
          refine (hcf _).mono ?_
          rintro e w4 ⟨rfl, rfl⟩
          go_wp2_with fail
          refine (hcf _).mono ?_
          rintro e w4 ⟨rfl, rfl⟩
          go_wp2_with fail
          go_ret
          exact ⟨rfl, kept_trans G hkr⟩
end Go.Proofs.Ytpbhbgoaaephgaa
