/-
  The library's binary search at numbers of 64 bits.
-/
import Derived.Test.YtnnmalpnjlnnlaaGreatSortU
import Derived.Lib.Hide
namespace Go.Proofs.YtnnmalpnjlnnlaaGreat
open Go.ChangeShapes Go.WideShapes Go.ChangeAt Go.RowKit
set_option linter.unusedVariables false
set_option maxRecDepth 100000
set_option maxHeartbeats 4000000
theorem slnan_any (x : Int) (w : World) : Calls Tryz.prog 95 #[.int .u64 x] w fun e w' => e = .returned (.bool false) ∧ w' = w := by
  go_enter Tryz.func95, Tryz.ntmps95
  go_wp2_with fail
  go_ret
  exact ⟨by simp, rfl⟩
theorem lvbin_any {n b : Nat} {G : Nat → Nat} {w : World} (hn : n < 4611686018427387904) (hc : ∀ t, t < n → w.cell? ⟨b, t, none⟩ = some (.int .u64 (G t : Nat))) (hs : ∀ s t, s ≤ t → t < n → G s ≤ G t) (x c : Nat) :
    Calls Tryz.prog 74 #[.slice (some ⟨b, 0, none⟩) n c, .int .u64 (x : Nat)] w fun e w' =>
      ∃ (i : Nat) (f : Bool), e = .returned (.tuple #[.int .i64 (i : Nat), .bool f]) ∧ (f = true → i < n ∧ G i = x) ∧ (f = false → ∀ t, t < n → G t ≠ x) ∧ w' = w := by
  have HS := Lib.hid hs
  clear hs
  go_enter Tryz.func74, Tryz.ntmps74
  go_wp2_with fail
  go_loopw [7, 8] (fun vi vj wr => ∃ i j : Nat, vi = .int .i64 i ∧ vj = .int .i64 j ∧ i ≤ j ∧ j ≤ n ∧ Hid (∀ t, t < i → G t < x) ∧ Hid (∀ t, j ≤ t → t < n → x ≤ G t) ∧ wr = w) (fun vi vj _ => (intOf vj).toNat - (intOf vi).toNat)
  case atStart => exact ⟨0, n, rfl, rfl, by omega, Nat.le_refl _, Lib.hid (fun t h => by omega), Lib.hid (fun t h1 h2 => by omega), rfl⟩
  case round =>
    obtain ⟨i, j, rfl, rfl, hij, hjn, HL, HR, rfl⟩ := hrel
    by_cases hlt : i < j
    · obtain ⟨m, hm⟩ : ∃ m, m = (i + j) / 2 := ⟨_, rfl⟩
      have e1 : IntKind.u64.wrap ((i : Int) + (j : Int)) = (i : Int) + (j : Int) := by rw [IntKind.wrap_u64]; omega
      have e2 : ((i : Int) + (j : Int)) / 2 = (m : Int) := by omega
      have hm1 : i ≤ m ∧ m < j := by omega
      clear hm
      have hcm := hc m (by omega)
      go_wp2_with fail
      refine (sless_any _ _ _).mono ?_
      rintro e w' ⟨rfl, rfl⟩
      by_cases hl : G m < x
      · have d1 : Go.Sort.ltInt (G m : Int) (x : Int) = true := decide_eq_true (by omega)
        rw [d1]
        have HL2 := Lib.hid (show ∀ t, t < m + 1 → G t < x from fun t ht => Nat.lt_of_le_of_lt (HS.out t m (by omega) (by omega)) hl)
        clear hl d1 e1 e2 hcm
        go_wp2_with fail
        go_roundw
        case rel => exact ⟨m + 1, j, by go_num, rfl, by omega, hjn, HL2, HR, trivial⟩
        case measure => simp [intOf]; omega
      · have d1 : Go.Sort.ltInt (G m : Int) (x : Int) = false := decide_eq_false (by omega)
        rw [d1]
        have HR2 := Lib.hid (show ∀ t, m ≤ t → t < n → x ≤ G t from fun t h1 h2 => Nat.le_trans (by omega) (HS.out m t h1 h2))
        clear hl d1 e1 e2 hcm
        go_wp2_with fail
        go_roundw
        case rel => exact ⟨i, m, rfl, rfl, by omega, by omega, HL, HR2, trivial⟩
        case measure => simp [intOf]; omega
    · obtain rfl : i = j := by omega
      by_cases hin : i < n
      · have hci := hc i hin
        by_cases he : G i = x
        · have d1 : ((G i : Int) == (x : Int)) = true := by rw [he]; simp
          have HE := Lib.hid he
          clear he
          go_wp2_with fail
          go_ret2
          exact ⟨i, true, rfl, fun _ => ⟨hin, HE.out⟩, (fun h => by cases h), rfl⟩
        · have d1 : ((G i : Int) == (x : Int)) = false := by simp; omega
          have HF := Lib.hid (show ∀ t, t < n → G t ≠ x from fun t ht h => by
            rcases Nat.lt_or_ge t i with h1 | h1
            · have := HL.out t h1; omega
            · have h2 := HS.out i t h1 ht
              have h3 := HR.out i (Nat.le_refl _) hin
              omega)
          clear he
          go_wp2_with fail
          refine (slnan_any _ _).mono ?_
          rintro e w' ⟨rfl, rfl⟩
          go_wp2_with fail
          go_ret2
          exact ⟨i, false, rfl, (fun h => by cases h), fun _ => HF.out, rfl⟩
      · have d1 : decide ((i : Int) < (n : Int)) = false := decide_eq_false (by omega)
        have HF := Lib.hid (show ∀ t, t < n → G t ≠ x from fun t ht h => by
          have := HL.out t (by omega); omega)
        go_wp2_with fail
        go_ret2
        exact ⟨i, false, rfl, (fun h => by cases h), fun _ => HF.out, rfl⟩
end Go.Proofs.YtnnmalpnjlnnlaaGreat
