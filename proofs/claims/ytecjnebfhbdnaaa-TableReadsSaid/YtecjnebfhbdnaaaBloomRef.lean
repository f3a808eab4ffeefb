/-
  What the document's own functions of layer 10 compute: Mix, Bits, Set, May, Full, each in the same words as the program's.
-/
import Derived.Test.YtecjnebfhbdnaaaBloomAwake
namespace Go.Proofs.Ytecjnebfhbdnaaa
open Go.ChangeShapes Go.WideShapes Go.ChangeAt Go.RowKit
set_option linter.unusedVariables false
set_option maxRecDepth 100000
set_option maxHeartbeats 1000000

namespace Bm
/-- what of a mix is turned round once its i first bits of seventeen are -/
def trn (h i : Nat) : Nat := h / 131072 + (h % 2 ^ i) * 140737488355328
theorem trn_zero (h : Nat) : trn h 0 = h / 131072 := by unfold trn; rw [Nat.pow_zero, Nat.mod_one]; omega
theorem trn_end (h : Nat) : trn h 17 = rot h := rfl
theorem trn_mod (h i : Nat) : h % 2 ^ (i + 1) = h % 2 ^ i + 2 ^ i * (h / 2 ^ i % 2) := by rw [Nat.pow_succ, Nat.mod_mul]
theorem trn_no (h i : Nat) (e : h / 2 ^ i % 2 = 0) : trn h (i + 1) = trn h i := by unfold trn; rw [trn_mod, e, Nat.mul_zero, Nat.add_zero]
theorem trn_yes (h i : Nat) (e : h / 2 ^ i % 2 = 1) : trn h (i + 1) = trn h i + 2 ^ (47 + i) := by
  unfold trn
  rw [trn_mod, e, Nat.mul_one, Nat.pow_add, show (2 : Nat) ^ 47 = 140737488355328 from rfl, Nat.add_mul]
  omega
theorem trn_lt (h i : Nat) (hh : h < 18446744073709551616) (hi : i ≤ 17) : trn h i < 18446744073709551616 := by
  unfold trn
  have h1 : h % 2 ^ i < 2 ^ i := Nat.mod_lt _ (Nat.pow_pos (by decide))
  have h2 : 2 ^ i ≤ 2 ^ 17 := Nat.pow_le_pow_right (by decide) hi
  have h3 : h % 2 ^ i < 131072 := Nat.lt_of_lt_of_le h1 h2
  omega
end Bm
theorem rbmmix_any (s : ByteArray) (hs : s.size ≤ maxLen) (w : World) :
    Calls Try.prog 87 #[.string s] w fun e w' => e = .returned (.int .u64 ((Bm.mix s.data.toList : Nat) : Int)) ∧ w = w' := by
  unfold maxLen at hs
  go_enter Try.func87, Try.ntmps87
  go_wp2_with fail
  go_loop [3, 4] (fun c i => ∃ k : Nat, k ≤ s.size ∧ i = .int .i64 k ∧ c = .int .u64 ((Bm.mix (s.data.toList.take k) : Nat) : Int)) (fun _ i => s.size - (intOf i).toNat)
  case atStart => exact ⟨0, Nat.zero_le _, rfl, rfl⟩
  case round =>
    obtain ⟨k, hk, rfl, rfl⟩ := hrel
    by_cases hlt : k < s.size
    · have hst : Bm.mix (s.data.toList.take (k + 1)) = Bm.mul (Bm.mix (s.data.toList.take k)) s[k] := by
        rw [Nm.take_snoc' _ k (by simpa using hlt), Bm.mix_snoc, getD_of s k hlt]
      have hm := bmul_eq (Bm.mix (s.data.toList.take k)) (Bm.mix_lt _) s[k]
      have hc := u8_u64 s[k]
      have HST := Lib.hid hst; clear hst
      go_wp2_with fail
      go_round
      case rel => exact ⟨k + 1, by omega, by go_num, by rw [HST.out]⟩
      case measure => simp [intOf]; omega
    · have e : k = s.size := by omega
      subst e
      have ht : s.data.toList.take s.size = s.data.toList := List.take_of_length_le (by simp)
      have HT := Lib.hid ht; clear ht
      go_wp2_with fail
      go_ret
      exact ⟨by rw [HT.out]; rfl, rfl⟩
def inc (l : List Nat) : List Value := l.map fun x : Nat => Value.int .i64 (x : Int)
theorem inc_len (l : List Nat) : (inc l).length = l.length := by simp [inc]
theorem ins_own {w : World} {base n : Nat} {v : Value} {l : List Nat} (h : w.ownsRow base 3 1 v n (inc l)) : ∃ A c, v = .slice A l.length c ∧ n = l.length ∧ Ins w A l ∧ (∀ b o, A = some ⟨b, o, none⟩ → base ≤ b) := by
  have hl : l.length = n := by have := h.1; simpa [inc_len] using this
  rcases h.2 with ⟨e, e0⟩ | ⟨r, cap, cur, e, hbs, hb, hnc, _, _, htk⟩
  · have : l = [] := List.eq_nil_of_length_eq_zero (by omega)
    subst this
    exact ⟨none, 0, e, by omega, (fun j x hx => by simp at hx), fun b o h => by cases h⟩
  · refine ⟨some ⟨r, 0, none⟩, cap, by rw [hl]; exact e, hl.symm, fun j x hx => ?_, fun b o h => by cases h; exact hbs⟩
    have hj := (List.getElem?_eq_some_iff.1 hx).1
    refine ⟨r, 0, rfl, (Array.getElem?_eq_some_iff.1 hb).1, ?_⟩
    rw [Nat.zero_add, blk_cell hb]
    have e1 : (cur.toList.take (n * 1))[j]? = some (.int .i64 (x : Int)) := by rw [htk]; unfold inc; rw [List.getElem?_map, hx]; rfl
    rw [List.getElem?_take] at e1
    split at e1
    · simpa using e1
    · cases e1
theorem iown_empty (w : World) : (w.alloc (.cells #[] 3)).ownsRow w.heap.size 3 1 (.slice (some ⟨w.heap.size, 0, none⟩) 0 0) 0 (inc []) :=
  World.ownsRow_made (base := w.heap.size) (e := 3) (size := 1) w #[] 0 (Nat.le_refl _) (by unfold maxLen; omega) rfl
set_option maxHeartbeats 6000000
theorem rbmbits_any (s : ByteArray) (hs : s.size ≤ maxLen) (n : Int) (h0 : -9223372036854775808 ≤ n) (h1 : n ≤ 9223372036854775807) (w : World) :
    Calls Try.prog 66 #[.string s, .int .i64 n] w fun e w' => ∃ A c, e = .returned (.slice A (Bm.bits s.data.toList n.toNat).length c) ∧ Ins w' A (Bm.bits s.data.toList n.toNat) ∧ (∀ b o, A = some ⟨b, o, none⟩ → w.heap.size ≤ b) ∧ Kept w w' := by
  have hmx := rbmmix_any s hs
  have hlt := Bm.mix_lt s.data.toList
  have hb0 : n.toNat ≠ 0 → Bm.bits s.data.toList n.toNat = (List.range 4).map fun i => Bm.sum (Bm.mix s.data.toList) i % n.toNat := fun h => by unfold Bm.bits; rw [if_neg h]
  have hb1 : n.toNat = 0 → Bm.bits s.data.toList n.toNat = [] := fun h => by unfold Bm.bits; rw [if_pos h]
  generalize Bm.bits s.data.toList n.toNat = L at *
  generalize Bm.mix s.data.toList = m0 at *
  have HB0 := Lib.hid hb0; have HB1 := Lib.hid hb1
  clear hb0 hb1
  have q0 : decide ((4 : Int) ≤ 0) = false := rfl
  go_enter Try.func66, Try.ntmps66
  go_wp2_with fail
  refine (hmx _).mono ?_
  rintro e w1 ⟨rfl, rfl⟩
  go_wp2_with fail
  go_loop [7, 8] (fun c i => ∃ k : Nat, k ≤ 17 ∧ i = .int .i64 k ∧ c = .int .u64 ((Bm.trn m0 k : Nat) : Int)) (fun _ i => 17 - (intOf i).toNat)
  case atStart => exact ⟨0, Nat.zero_le _, rfl, by rw [Bm.trn_zero]; rfl⟩
  case round =>
    obtain ⟨k, hk, rfl, rfl⟩ := hrel
    by_cases hlt2 : k < 17
    · have d1 : decide ((k : Int) < 17) = true := by simp; omega
      have ht1 := Bm.trn_lt m0 k hlt (by omega)
      have ht2 := Bm.trn_lt m0 (k + 1) hlt (by omega)
      have hno := Bm.trn_no m0 k
      have hye := Bm.trn_yes m0 k
      have HNO := Lib.hid hno; have HYE := Lib.hid hye
      clear hno hye
      generalize Bm.trn m0 k = T at *
      go_wp2_with fail
      go_loop [9, 10] (fun c i => ∃ j : Nat, j ≤ k ∧ i = .int .i64 j ∧ c = .int .u64 ((m0 / 2 ^ j : Nat) : Int)) (fun _ i => k - (intOf i).toNat)
      case atStart => exact ⟨0, Nat.zero_le _, rfl, by rw [Nat.pow_zero, Nat.div_one]⟩
      case round =>
        obtain ⟨j, hj, rfl, rfl⟩ := hrel
        have hXl : m0 / 2 ^ j < 18446744073709551616 := Nat.lt_of_le_of_lt (Nat.div_le_self _ _) hlt
        by_cases hj2 : j < k
        · have hst : m0 / 2 ^ (j + 1) = m0 / 2 ^ j / 2 := by rw [Nat.pow_succ, Nat.div_div_eq_div_mul]
          have HST := Lib.hid hst; clear hst
          generalize m0 / 2 ^ j = X at *
          go_wp2_with fail
          go_round
          case rel => exact ⟨j + 1, by omega, by go_num, by rw [HST.out]; rfl⟩
          case measure => simp [intOf]; omega
        · have e : j = k := by omega
          subst e
          generalize m0 / 2 ^ j = X at *
          rcases Nat.mod_two_eq_zero_or_one X with hx | hx
          · have hT := HNO.out hx
            rw [hT] at ht2; have HT := Lib.hid hT; clear hT
            have d2 : ((X : Int) % 2 == 1) = false := by rw [beq_eq_false_iff_ne]; omega
            clear hx
            go_wp2_with fail
            go_round
            case rel => exact ⟨j + 1, by omega, by go_num, by rw [HT.out]⟩
            case measure => simp [intOf]; omega
          · have hT := HYE.out hx
            rw [hT] at ht2; have HT := Lib.hid hT; clear hT
            have d2 : ((X : Int) % 2 == 1) = true := by rw [beq_iff_eq]; omega
            clear hx
            go_wp2_with fail
            go_loop [11, 12] (fun c i => ∃ p : Nat, p ≤ 47 + j ∧ i = .int .i64 p ∧ c = .int .u64 ((2 ^ p : Nat) : Int)) (fun _ i => 47 + j - (intOf i).toNat)
            case atStart => exact ⟨0, Nat.zero_le _, rfl, rfl⟩
            case round =>
              obtain ⟨p, hp, rfl, rfl⟩ := hrel
              by_cases hp2 : p < 47 + j
              · have d3 : decide ((p : Int) < 47 + (j : Int)) = true := by simp; omega
                have hst : 2 ^ (p + 1) = 2 ^ p * 2 := Nat.pow_succ 2 p
                have hP : 2 ^ (p + 1) ≤ 2 ^ 63 := Nat.pow_le_pow_right (by decide) (by omega)
                rw [hst] at hP
                have HST := Lib.hid hst; clear hst
                generalize 2 ^ p = P at *
                have hP2 : P * 2 ≤ 9223372036854775808 := hP
                clear hP
                go_wp2_with fail
                go_round
                case rel => exact ⟨p + 1, by omega, by go_num, by rw [HST.out]; rfl⟩
                case measure => simp [intOf]; omega
              · have e : p = 47 + j := by omega
                subst e
                have d3 : decide (((47 + j : Nat) : Int) < 47 + (j : Int)) = false := by simp
                generalize 2 ^ (47 + j) = P at *
                go_wp2_with fail
                go_round
                case rel => exact ⟨j + 1, by omega, by go_num, by rw [HT.out]; rfl⟩
                case measure => simp [intOf]; omega
    · have e : k = 17 := by omega
      subst e
      rw [Bm.trn_end]
      have hr := Bm.rot_lt m0 hlt
      by_cases hn : n < 1
      · have d1 : decide ((1 : Int) ≤ n) = false := by simp; omega
        have hL := HB1.out (by omega)
        subst hL
        generalize Bm.rot m0 = R at *
        go_wp2_with fail
        go_loopw [5, 13] (fun v t wr => v = .slice (some ⟨w.heap.size, 0, none⟩) 0 0 ∧ Kept w wr ∧ t = .int .i64 ((0 : Nat) : Int)) (fun _ _ _ => 0)
        case atStart => exact ⟨rfl, (Kept.refl _).alloc _, rfl⟩
        case round =>
          obtain ⟨rfl, hkr, rfl⟩ := hrel
          go_wp2_with fail
          go_ret
          exact ⟨_, 0, rfl, (fun j x hx => by simp at hx), (fun b o h => by cases h; exact Nat.le_refl _), hkr⟩
      · obtain ⟨N, rfl⟩ : ∃ N : Nat, n = (N : Int) := ⟨n.toNat, by omega⟩
        have d1 : decide ((1 : Int) ≤ (N : Int)) = true := by simp; omega
        have hL := HB0.out (by omega)
        rw [Int.toNat_natCast] at hL
        have wn : IntKind.u64.wrap (N : Int) = (N : Int) := by rw [IntKind.wrap_u64]; omega
        have hN : (N : Int) ≠ 0 := by omega
        obtain ⟨i0, hi, hz0, hz1, hz2⟩ := info_parts infoI
        have HI := Lib.hid hi; have HZ0 := Lib.hid hz0; have HZ1 := Lib.hid hz1; have HZ2 := Lib.hid hz2
        clear hi hz0 hz1 hz2
        have htake : ∀ k, k < 4 → L.take (k + 1) = L.take k ++ [Bm.sum m0 k % N] := fun k hk => by
          have hx : L[k]? = some (Bm.sum m0 k % N) := by rw [hL]; simp [hk]
          rw [List.take_add_one, hx]; rfl
        have hL4 : L.length = 4 := by rw [hL]; simp
        have hsum : ∀ k, Bm.sum m0 k = (m0 + k * Bm.rot m0) % 18446744073709551616 := fun k => rfl
        have HTA := Lib.hid htake; have HL4 := Lib.hid hL4; have HSUM := Lib.hid hsum
        clear htake hL4 hsum hL
        generalize Bm.rot m0 = R at *
        go_wp2_with fail
        go_loopw [5, 13] (fun v t wr => ∃ k : Nat, k ≤ 4 ∧ t = .int .i64 k ∧ wr.ownsRow w.heap.size 3 1 v k (inc (L.take k)) ∧ Kept w wr) (fun _ t _ => 4 - (intOf t).toNat)
        case atStart => exact ⟨0, Nat.zero_le _, rfl, iown_empty w, (Kept.refl _).alloc _⟩
        case round =>
          obtain ⟨k, hk, rfl, hown, hkr⟩ := hrel
          by_cases hlt4 : k < 4
          · have d3 : decide ((k : Int) < 4) = true := by simp; omega
            have wk : IntKind.u64.wrap (k : Int) = (k : Int) := by rw [IntKind.wrap_u64]; omega
            have htk : inc (L.take (k + 1)) = inc (L.take k) ++ [.int .i64 ((Bm.sum m0 k % N : Nat) : Int)] := by
              rw [HTA.out k hlt4]; unfold inc; rw [List.map_append]; rfl
            have e1 : IntKind.u64.wrap ((m0 : Int) + IntKind.u64.wrap ((k : Int) * (R : Int))) = ((Bm.sum m0 k : Nat) : Int) := by
              have hq : ((k : Int) * (R : Int)) = ((k * R : Nat) : Int) := by rw [Int.natCast_mul]
              rw [HSUM.out k, hq]
              generalize k * R = q
              rw [IntKind.wrap_u64, IntKind.wrap_u64]
              omega
            have hSl := Bm.sum_lt m0 k
            have hV := bwrap64 (Bm.sum m0 k) N (by omega) (by omega)
            have hVt : wrap64 (((Bm.sum m0 k : Nat) : Int).tmod (N : Int)) = ((Bm.sum m0 k % N : Nat) : Int) := by
              rw [Int.tmod_eq_emod_of_nonneg (by omega)]; exact hV
            have HTK := Lib.hid htk
            clear htk
            generalize Bm.sum m0 k % N = V at *
            generalize Bm.sum m0 k = S at *
            have hbase : w.heap.size ≤ wr.heap.size := Below.size hkr
            have hown1 := hown.alloc (.cells #[Value.int .i64 (V : Int)] 3)
            go_wp2_with (at_builtin; refine wpList_append_own _ rfl _ _ 83 rfl w.heap.size 3 i0 (.int .i64 0) 1 8 Try.underlying83 HI.out HZ0.out HZ1.out HZ2.out rfl (by decide) _ k (inc (L.take k)) rfl hown1 ⟨wr.heap.size, 0, none⟩ 1 1 [.int .i64 (V : Int)] rfl rfl (cell_new1 _ _ _) (by simp [Value.oneCell']) (by unfold maxLen; omega) (by omega) (by simp; omega) ?_)
            intro v' w3 hown2 hg _
            have g2 : Kept w w3 := Below.grown (hkr.alloc _) hg (by simp; have := Below.size hkr; omega) (fun b hb => (hown.lt b hb).1)
            go_wp2_with fail
            go_roundw
            case rel => exact ⟨k + 1, by omega, by go_num, by rw [HTK.out]; exact hown2, g2⟩
            case measure => simp [intOf]; omega
          · have e : k = 4 := by omega
            subst e
            rw [List.take_of_length_le (by rw [HL4.out]; exact Nat.le_refl _)] at hown
            obtain ⟨A9, c9, rfl, e9, hT9, hF9⟩ := ins_own hown
            clear e9 hown
            go_wp2_with fail
            go_ret
            exact ⟨_, _, rfl, hT9, hF9, hkr⟩
theorem rbmset_any (s : ByteArray) (x : Nat) (hx : x / 8 < s.size) (hs : s.size ≤ 1152921504606846975) (w : World) :
    Calls Try.prog 77 #[.string s, .int .i64 (x : Int)] w fun e w' => e = .returned (.bool (Bm.hasB s.data.toList x)) ∧ w = w' := by
  have hh := bhas_at s x hx
  rw [Nat.testBit_eq_decide_div_mod_eq] at hh
  obtain ⟨m, hm⟩ : ∃ m, x % 8 = m := ⟨_, rfl⟩
  rw [hm] at hh
  have hv := (s[x / 8]'hx).toNat_lt
  have HH := Lib.hid hh; clear hh
  have t1 : decide ((x : Int) < 0) = false := by simp
  have wx : ((x : Int) % 8) = (m : Int) := by omega
  clear hm
  go_enter Try.func77, Try.ntmps77
  go_wp2_with fail
  generalize (s[x / 8]'hx).toNat = v at *
  go_loop [5, 6] (fun c i => ∃ k : Nat, k ≤ m ∧ i = .int .i64 k ∧ c = .int .i64 ((v / 2 ^ k : Nat) : Int)) (fun _ i => m - (intOf i).toNat)
  case atStart => exact ⟨0, Nat.zero_le _, rfl, by rw [Nat.pow_zero, Nat.div_one]⟩
  case round =>
    obtain ⟨k, hk, rfl, rfl⟩ := hrel
    have hXl : v / 2 ^ k < 256 := Nat.lt_of_le_of_lt (Nat.div_le_self _ _) hv
    by_cases hlt : k < m
    · have hst : v / 2 ^ (k + 1) = v / 2 ^ k / 2 := by rw [Nat.pow_succ, Nat.div_div_eq_div_mul]
      have HST := Lib.hid hst; clear hst
      generalize v / 2 ^ k = X at *
      go_wp2_with fail
      go_round
      case rel => exact ⟨k + 1, by omega, by go_num, by rw [HST.out]; rfl⟩
      case measure => simp [intOf]; omega
    · have e : k = m := by omega
      subst e
      generalize v / 2 ^ k = X at *
      have hd : ((X : Int) % 2 == 1) = decide (X % 2 = 1) := by
        rcases Nat.mod_two_eq_zero_or_one X with h | h
        · rw [h, beq_eq_false_iff_ne.2 (by omega)]; rfl
        · rw [h, beq_iff_eq.2 (by omega)]; rfl
      have HD := Lib.hid hd; clear hd
      go_wp2_with fail
      go_ret
      exact ⟨by rw [HH.out, ← HD.out]; rfl, rfl⟩
theorem rbmmay_any (s k : ByteArray) (hs : s.size ≤ 1152921504606846975) (hk : k.size ≤ maxLen) (w : World) :
    Calls Try.prog 50 #[.string s, .string k] w fun e w' => e = .returned (.bool (Bm.may s.data.toList k.data.toList)) ∧ Kept w w' := by
  have hb := rbmbits_any k hk (8 * s.size) (by omega) (by omega)
  have hm : Bm.may s.data.toList k.data.toList = (Bm.bits k.data.toList (8 * s.size)).all (Bm.hasB s.data.toList) := by unfold Bm.may; rw [toList_size]
  have hlt := Bm.bits_lt k.data.toList (8 * s.size)
  rw [show (8 * (s.size : Int)).toNat = 8 * s.size by omega] at hb
  rw [hm]
  have HLT := Lib.hid hlt
  have hl4 : (Bm.bits k.data.toList (8 * s.size)).length ≤ 4 := by rw [Bm.bits_len]; split <;> omega
  clear hm hlt
  generalize Bm.bits k.data.toList (8 * s.size) = L at *
  go_enter Try.func50, Try.ntmps50
  go_wp2_with fail
  refine (hb _).mono ?_
  rintro e w1 ⟨A, c, rfl, hA, _, g1⟩
  go_wp2_with fail
  go_loopw [6] (fun t wr => ∃ j : Nat, j ≤ L.length ∧ t = .int .i64 j ∧ (L.take j).all (Bm.hasB s.data.toList) = true ∧ wr = w1) (fun t _ => L.length - (intOf t).toNat)
  case atStart => exact ⟨0, Nat.zero_le _, rfl, rfl, rfl⟩
  case round =>
    obtain ⟨j, hj, rfl, hall, rfl⟩ := hrel
    by_cases hlt : j < L.length
    · have hx : L[j]? = some L[j] := List.getElem?_eq_getElem hlt
      have hmem : L[j] ∈ L := List.getElem_mem hlt
      have hnx : L.take (j + 1) = L.take j ++ [L[j]] := by rw [List.take_add_one, hx]; rfl
      have HN := Lib.hid hnx
      clear hnx
      generalize L[j] = x at hx hmem HN
      obtain ⟨b, o, rfl, hb1, hcell⟩ := hA j x hx
      have hx8 := HLT.out x hmem
      have h8 : x / 8 < s.size := by omega
      have hset := rbmset_any s x h8 hs
      cases hh : Bm.hasB s.data.toList x with
      | true =>
        rw [hh] at hset
        have hall2 : (L.take (j + 1)).all (Bm.hasB s.data.toList) = true := by rw [HN.out, List.all_append, hall]; simp [hh]
        clear hh
        go_wp2_with fail
        refine (hset _).mono ?_
        rintro e w2 ⟨rfl, rfl⟩
        go_wp2_with fail
        go_roundw
        case rel => exact ⟨j + 1, by omega, by go_num, hall2, trivial⟩
        case measure => simp [intOf]; omega
      | false =>
        rw [hh] at hset
        have hno : L.all (Bm.hasB s.data.toList) = false := List.all_eq_false.2 ⟨x, hmem, by rw [hh]; decide⟩
        clear hh
        have HNO := Lib.hid hno; clear hno
        go_wp2_with fail
        refine (hset _).mono ?_
        rintro e w2 ⟨rfl, rfl⟩
        go_wp2_with fail
        go_ret
        exact ⟨by rw [HNO.out]; rfl, g1⟩
    · have e : j = L.length := by omega
      subst e
      rw [List.take_length] at hall
      have HALL := Lib.hid hall; clear hall
      go_wp2_with fail
      go_ret
      exact ⟨by rw [HALL.out]; rfl, g1⟩
end Go.Proofs.Ytecjnebfhbdnaaa
