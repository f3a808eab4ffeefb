/-
  What the helpers awake and large of the statements of layer 10 answer.
-/
import Derived.Test.YtpbhbgoaaephgaaBloomMake
namespace Go.Proofs.Ytpbhbgoaaephgaa
open Go.ChangeShapes Go.WideShapes Go.ChangeAt Go.RowKit
set_option linter.unusedVariables false
set_option maxRecDepth 100000
set_option maxHeartbeats 1000000

theorem txs_two (w : World) (x y : List UInt8) (t : TypeId) : Txs (w.alloc (.cells #[.string (bs x), .string (bs y)] t)) (some ⟨w.heap.size, 0, none⟩) [x, y] := fun j z hz => by
  refine ⟨w.heap.size, 0, rfl, by simp, ?_⟩
  match j, hz with
  | 0, hz => simp at hz; subst hz; simp
  | 1, hz => simp at hz; subst hz; simp
  | j + 2, hz => simp at hz
theorem txs_zeros (w : World) (n : Nat) (t : TypeId) : Txs (w.alloc (.cells (List.replicate n (.string ByteArray.empty)).toArray t)) (some ⟨w.heap.size, 0, none⟩) (List.replicate n []) := fun j z hz => by
  rw [List.getElem?_replicate] at hz
  split at hz
  · cases hz
    refine ⟨w.heap.size, 0, rfl, by simp, ?_⟩
    simp [*]; rfl
  · cases hz
theorem infoS : (Try.prog.info? 9).map (fun i => (i.zero, i.size, i.bytes)) = some (some (.string ByteArray.empty), 1, 16) := by kernel_rfl
theorem bmawake_any (w : World) : Calls Try.prog 12 #[] w fun e w' => e = .returned (.bool true) ∧ Kept w w' := by
  have c1 := fun w => bmake_any (some ⟨w.heap.size, 0, none⟩) 2 [[97], [98]] (by decide) (by decide) _ (txs_two w [97] [98] 9)
  have c2 := fun w => bmake_any none 0 [] (by decide) (by simp) w (fun j x hx => by simp at hx)
  have c3 := fun w => bmake_any (some ⟨w.heap.size, 0, none⟩) 1001 (List.replicate 1001 []) (by simp [maxLen]) (by simp) _ (txs_zeros w 1001 9)
  have e2 : Bm.makeS [] = [0] := by decide +kernel
  have e2' : Bm.makeE [] = 0 := rfl
  have e3 : Bm.makeS (List.replicate 1001 []) = [] := by unfold Bm.makeS; rw [if_neg (by simp)]
  have e3' : Bm.makeE (List.replicate 1001 []) = 4 := by unfold Bm.makeE; rw [if_neg (by simp)]
  have e1 : Bm.makeS [[97], [98]] = Bm.made [[97], [98]] := rfl
  have e1' : Bm.makeE [[97], [98]] = 0 := rfl
  have hF := Bm.made_len [[97], [98]]
  have m1 : Bm.may (Bm.made [[97], [98]]) [97] = true := Bm.made_may (by simp)
  have m2 : Bm.may (Bm.made [[97], [98]]) [98] = true := Bm.made_may (by simp)
  rw [e1, e1'] at c1; rw [e2, e2'] at c2
  simp only [e3, e3', List.length_replicate] at c3
  generalize Bm.made [[97], [98]] = F at *
  have hz : (bs F).size = 3 := by rw [fbs_size, hF]; rfl
  have d1 : (((bs F).size : Int) == 3) = true := by rw [hz]; rfl
  have k1 := fun w => bmay_any (bs F) ⟨#[97]⟩ (by omega) (by decide) w
  have k2 := fun w => bmay_any (bs F) ⟨#[98]⟩ (by omega) (by decide) w
  have k3 := fun w => bmay_any (bs [0]) ⟨#[97]⟩ (by decide) (by decide) w
  have k4 := fun w => bmay_any ⟨#[]⟩ ⟨#[97]⟩ (by decide) (by decide) w
  have x1 := fun w => bmix_any ⟨#[]⟩ (by decide) w
  have x2 := fun w => bmix_any ⟨#[97]⟩ (by decide) w
  have b1 := fun w => bbits_any ⟨#[97]⟩ (by decide) 10 (by decide) (by decide) w
  have f1 := fun w => bfull_any ⟨#[7, 128]⟩ (by decide) w
  rw [bs_data] at k1 k2 k3
  have r1 : Bm.may F (⟨#[97]⟩ : ByteArray).data.toList = true := m1
  have r2 : Bm.may F (⟨#[98]⟩ : ByteArray).data.toList = true := m2
  have r3 : Bm.may [0] (⟨#[97]⟩ : ByteArray).data.toList = false := by decide +kernel
  have r4 : Bm.may (⟨#[]⟩ : ByteArray).data.toList (⟨#[97]⟩ : ByteArray).data.toList = true := by decide +kernel
  have r5 : Bm.mix (⟨#[]⟩ : ByteArray).data.toList = 14695981039346656037 := by decide +kernel
  have r6 : Bm.mix (⟨#[97]⟩ : ByteArray).data.toList = 12638187200555641996 := by decide +kernel
  have r7 : (Bm.bits (⟨#[97]⟩ : ByteArray).data.toList (10 : Int).toNat).length = 4 := by rw [Bm.bits_len]; rfl
  have r8 : Bm.full (⟨#[7, 128]⟩ : ByteArray).data.toList = 4 := by decide +kernel
  rw [r1] at k1; rw [r2] at k2; rw [r3] at k3; rw [r4] at k4; rw [r5] at x1; rw [r6] at x2; rw [r8] at f1
  have B1 : ∀ w, Calls Try.prog 22 #[.string ⟨#[97]⟩, .int .i64 10] w fun e w' => ∃ A c, e = .returned (.slice A 4 c) ∧ Kept w w' := fun w => (b1 w).mono fun e w' ⟨A, c, h, _, _, g⟩ => ⟨A, c, by rw [h, r7], g⟩
  have q0 : (bs [0]).toList = [0] := by decide +kernel
  have hmk := fun w => made_v 22 9 (.string ByteArray.empty) 16 Try.underlying22 infoS rfl .i64 1001 (by decide) (by decide) w
  simp only [Int.cast_ofNat_Int] at hmk
  clear e1 e1' e2 e2' e3 e3' m1 m2 hF r1 r2 r3 r4 r5 r6 r7 r8 b1 hz
  generalize bs F = FB at *
  have C1 := Lib.hid c1; have C2 := Lib.hid c2; have C3 := Lib.hid c3
  clear c1 c2 c3
  go_enter Try.func12, Try.ntmps12
  go_wp2_with fail
  refine (C1.out _).mono ?_
  rintro e w1 ⟨rfl, g1⟩
  go_wp2_with fail
  refine (C2.out _).mono ?_
  rintro e w2 ⟨rfl, g2⟩
  go_wp2_with fail
  refine (C3.out _).mono ?_
  rintro e w3 ⟨rfl, g3⟩
  have G3 := kept_trans (kept_trans ((Kept.refl w).alloc _ |> fun k => kept_trans k g1) g2) ((Kept.refl w2).alloc _ |> fun k => kept_trans k g3)
  clear g1 g2 g3 hmk
  go_wp2_with fail
  refine (x1 _).mono ?_
  rintro e w4 ⟨rfl, rfl⟩
  go_wp2_with fail
  refine (x2 _).mono ?_
  rintro e w4 ⟨rfl, rfl⟩
  go_wp2_with fail
  refine (k1 _).mono ?_
  rintro e w4 ⟨rfl, g4⟩
  go_wp2_with fail
  refine (k2 _).mono ?_
  rintro e w5 ⟨rfl, g5⟩
  go_wp2_with fail
  refine (k3 _).mono ?_
  rintro e w6 ⟨rfl, g6⟩
  go_wp2_with fail
  refine (k4 _).mono ?_
  rintro e w7 ⟨rfl, g7⟩
  go_wp2_with fail
  refine (B1 _).mono ?_
  rintro e w8 ⟨A, c, rfl, g8⟩
  go_wp2_with fail
  refine (f1 _).mono ?_
  rintro e w9 ⟨rfl, rfl⟩
  go_wp2_with fail
  go_ret
  exact ⟨rfl, kept_trans (kept_trans (kept_trans (kept_trans (kept_trans G3 g4) g5) g6) g7) g8⟩
theorem bmlarge_any (A : Option Addr) (c : Nat) (l : List (List UInt8)) (hl : l.length ≤ maxLen) (hx : ∀ x ∈ l, x.length ≤ maxLen) (w : World) (hA : Txs w A l) :
    Calls Try.prog 13 #[.slice A l.length c] w fun e w' => ∃ B, e = .returned (.bool B) ∧ Kept w w' := by
  unfold maxLen at hl
  have HX := Lib.hid hx; clear hx
  by_cases hb : 60 < l.length ∧ l.length ≤ 1000
  · have d1 : decide ((60 : Int) < (l.length : Int)) = true := by simp; omega
    have d2 : decide ((l.length : Int) ≤ 1000) = true := by simp; omega
    go_enter Try.func13, Try.ntmps13
    go_wp2_with fail
    go_ret
    exact ⟨true, rfl, Kept.refl _⟩
  · by_cases h60 : 60 < l.length
    · have d1 : decide ((60 : Int) < (l.length : Int)) = true := by simp; omega
      have d2 : decide ((l.length : Int) ≤ 1000) = false := by simp; omega
      go_enter Try.func13, Try.ntmps13
      go_wp2_with fail
      go_loopw [3] (fun t wr => ∃ k : Nat, k ≤ l.length ∧ t = .int .i64 k ∧ wr = w) (fun t _ => l.length - (intOf t).toNat)
      case atStart => exact ⟨0, Nat.zero_le _, rfl, rfl⟩
      case round =>
        obtain ⟨k, hk, rfl, rfl⟩ := hrel
        by_cases hlt : k < l.length
        · have d3 : decide ((k : Int) < (l.length : Int)) = true := by simp; omega
          by_cases h1 : k ≤ 1000
          · have d4 : decide ((k : Int) ≤ 1000) = true := by simp; omega
            have hx : l[k]? = some l[k] := List.getElem?_eq_getElem hlt
            have hmem : l[k] ∈ l := List.getElem_mem hlt
            generalize l[k] = x at hx hmem
            obtain ⟨b, o, rfl, hb, hcell⟩ := hA k x hx
            have hsz : (bs x).size ≤ 9223372036854775807 := by rw [fbs_size]; have := HX.out x hmem; unfold maxLen at this; omega
            clear hx hmem
            generalize bs x = X at *
            by_cases h3 : 300 < X.size
            · have d5 : decide ((300 : Int) < (X.size : Int)) = true := by simp; omega
              go_wp2_with fail
              go_ret
              exact ⟨true, rfl, Kept.refl _⟩
            · have d5 : decide ((300 : Int) < (X.size : Int)) = false := by simp; omega
              go_wp2_with fail
              go_roundw
              case rel => exact ⟨k + 1, by omega, by go_num, trivial⟩
              case measure => simp [intOf]; omega
          · have d4 : decide ((k : Int) ≤ 1000) = false := by simp; omega
            go_wp2_with fail
            go_ret
            exact ⟨false, rfl, Kept.refl _⟩
        · have d3 : decide ((k : Int) < (l.length : Int)) = false := by simp; omega
          go_wp2_with fail
          go_ret
          exact ⟨false, rfl, Kept.refl _⟩
    · have d1 : decide ((60 : Int) < (l.length : Int)) = false := by simp; omega
      go_enter Try.func13, Try.ntmps13
      go_wp2_with fail
      go_loopw [3] (fun t wr => ∃ k : Nat, k ≤ l.length ∧ t = .int .i64 k ∧ wr = w) (fun t _ => l.length - (intOf t).toNat)
      case atStart => exact ⟨0, Nat.zero_le _, rfl, rfl⟩
      case round =>
        obtain ⟨k, hk, rfl, rfl⟩ := hrel
        by_cases hlt : k < l.length
        · have d3 : decide ((k : Int) < (l.length : Int)) = true := by simp; omega
          by_cases h1 : k ≤ 1000
          · have d4 : decide ((k : Int) ≤ 1000) = true := by simp; omega
            have hx : l[k]? = some l[k] := List.getElem?_eq_getElem hlt
            have hmem : l[k] ∈ l := List.getElem_mem hlt
            generalize l[k] = x at hx hmem
            obtain ⟨b, o, rfl, hb, hcell⟩ := hA k x hx
            have hsz : (bs x).size ≤ 9223372036854775807 := by rw [fbs_size]; have := HX.out x hmem; unfold maxLen at this; omega
            clear hx hmem
            generalize bs x = X at *
            by_cases h3 : 300 < X.size
            · have d5 : decide ((300 : Int) < (X.size : Int)) = true := by simp; omega
              go_wp2_with fail
              go_ret
              exact ⟨true, rfl, Kept.refl _⟩
            · have d5 : decide ((300 : Int) < (X.size : Int)) = false := by simp; omega
              go_wp2_with fail
              go_roundw
              case rel => exact ⟨k + 1, by omega, by go_num, trivial⟩
              case measure => simp [intOf]; omega
          · have d4 : decide ((k : Int) ≤ 1000) = false := by simp; omega
            go_wp2_with fail
            go_ret
            exact ⟨false, rfl, Kept.refl _⟩
        · have d3 : decide ((k : Int) < (l.length : Int)) = false := by simp; omega
          go_wp2_with fail
          go_ret
          exact ⟨false, rfl, Kept.refl _⟩
end Go.Proofs.Ytpbhbgoaaephgaa
