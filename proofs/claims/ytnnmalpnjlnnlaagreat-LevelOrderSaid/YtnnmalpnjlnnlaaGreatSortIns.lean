/-
  A slice of numbers of 64 bits as the library's sort finds it: the insertion sort that gives up.
-/
import Derived.Test.YtnnmalpnjlnnlaaGreatSortU
import Derived.Sort.LotA
import Derived.Sort.LotD2
import Derived.Deep.Cut
import Derived.Lib.Hide
namespace Go.Proofs.YtnnmalpnjlnnlaaGreat
open Go.ChangeShapes Go.WideShapes Go.ChangeAt Go.RowKit
open Go.Sort
open Su
set_option linter.unusedVariables false
set_option maxRecDepth 100000
set_option maxHeartbeats 12000000
variable {w0 w : World} {blk off n : Nat} {d : Array Int}
namespace Su
theorem ins_start {a k : Nat} {dk : Array Int} (h : SortedIn ltInt a k dk) : Ins ltInt a k k dk :=
  ⟨fun p q hp hpq hq hp' hq' => h p q hp hpq (by omega), fun q h1 h2 => by omega⟩
theorem ins_swap {a j i : Nat} {dk : Array Int} (h : Ins ltInt a j i dk) (hl : ltInt dk[j]! dk[j - 1]! = true) (haj : a < j) (hs : j < dk.size) : Ins ltInt a (j - 1) i (swp dk j (j - 1)) := by
  obtain ⟨j, rfl⟩ : ∃ m, j = m + 1 := ⟨j - 1, by omega⟩
  exact h.step hl (by omega) hs
theorem sorted_more {a k : Nat} {dk : Array Int} (h : SortedIn ltInt a k dk) (hk : a < k) (hl : ltInt dk[k]! dk[k - 1]! = false) : SortedIn ltInt a (k + 1) dk := by
  intro i j hi hij hj
  rcases Nat.lt_or_ge j k with h1 | h1
  · exact h i j hi hij h1
  · obtain rfl : j = k := by omega
    rcases Nat.lt_or_ge i (j - 1) with h2 | h2
    · exact swo_ltInt.ntrans _ _ _ hl (h i (j - 1) hi h2 (by omega))
    · obtain rfl : i = j - 1 := by omega
      exact hl
theorem sorted_less {a k : Nat} {dk : Array Int} (h : SortedIn ltInt a (k + 1) dk) : SortedIn ltInt a k dk := fun i j h1 h2 h3 => h i j h1 h2 (by omega)
theorem sorted_one (a : Nat) (dk : Array Int) : SortedIn ltInt a (a + 1) dk := fun i j h1 h2 h3 => by omega
theorem sorted_up {a k j : Nat} {dk : Array Int} (h : SortedIn ltInt a k dk) (hk : k < j) (hs : j < dk.size) : SortedIn ltInt a k (swp dk j (j - 1)) :=
  h.congr fun i h1 h2 => by rw [swp_get dk hs (show j - 1 < dk.size by omega), if_neg (by omega), if_neg (by omega)]
end Su
theorem spins_any (B : Base w0 blk off n) (S : Sw w0 blk off n d w) (cap a b : Nat) (hab : a < b) (hb : b ≤ n) (hB : Below ltInt a b d) :
    Calls Tryz.prog 117 #[.slice (some ⟨blk, off, none⟩) n cap, .int .i64 a, .int .i64 b] w fun e w' =>
      ∃ (r : Bool) (d' : Array Int), e = .returned (.bool r) ∧ PermIn a b d d' ∧ (r = true → SortedIn ltInt a b d') ∧ Sw w0 blk off n d' w' := by
  have hfew := B.few
  have HB : Hid (∀ dk, PermIn a b d dk → Below ltInt a b dk) := fun dk h => hB.perm (by rw [S.size]; exact hb) h
  have HS : Hid (Sw w0 blk off n d w) := S
  clear S hB
  go_enter Tryz.func117, Tryz.ntmps117
  go_wp2
  go_loopw [7, 8] (fun vi vs wr => ∃ (i s : Nat) (dk : Array Int), vi = .int .i64 i ∧ vs = .int .i64 s ∧ s ≤ 5 ∧ a < i ∧ i ≤ b ∧ Hid (Sw w0 blk off n dk wr) ∧ Hid (PermIn a b d dk) ∧ Hid (SortedIn ltInt a i dk)) (fun _ vs _ => 5 - (intOf vs).toNat)
  case atStart => exact ⟨a + 1, 0, d, by go_num, rfl, by omega, by omega, by omega, HS, permIn_refl _ _ _, sorted_one _ _⟩
  case round =>
    clear HS
    obtain ⟨i, s, dk, rfl, rfl, hs5, hai, hib, HS, HP, HO⟩ := hrel
    go_wp2
    · have hs : s < 5 := by omega
      go_loopw [7] (fun vi w1 => ∃ (k : Nat), vi = .int .i64 k ∧ i ≤ k ∧ k ≤ b ∧ Hid (Sw w0 blk off n dk w1) ∧ Hid (SortedIn ltInt a k dk)) (fun vi _ => b - (intOf vi).toNat)
      case atStart => exact ⟨i, rfl, Nat.le_refl _, hib, HS, HO⟩
      case round =>
        clear HS HO
        obtain ⟨k, rfl, hik, hkb, HS, HO⟩ := hrel
        obtain ⟨G, hG⟩ := gname dk
        have HG : Hid (∀ t, G t = dk[t]!) := hG
        clear hG
        have hcw : ∀ t, t < n → wr.cell? ⟨blk, off + t, none⟩ = some (.int .u64 (G t)) := fun t ht => by rw [HG.out]; exact HS.out.cells B t ht
        have hfw := HS.out.soft B
        by_cases hkb' : k < b
        · go_wp2_with fail
          go_quiet (first | (go_at_call 94; refine Calls.quiet_of_same (sless_any _ _ _)))
          have HS3 : Hid (Sw w0 blk off n dk (wr.drewN nq)) := HS.out.drewN nq
          clear hcw hfw HS
          generalize wr.drewN nq = wr3 at HS3 ⊢
          have hcw : ∀ t, t < n → wr3.cell? ⟨blk, off + t, none⟩ = some (.int .u64 (G t)) := fun t ht => by rw [HG.out]; exact HS3.out.cells B t ht
          have hfw := HS3.out.soft B
          go_wp2
          · have hl : ltInt (G k) (G (k - 1)) = false := by
              have h : (!ltInt (G k) (G (k - 1))) = true := by assumption
              simpa using h
            go_roundw
            case rel => exact ⟨k + 1, by go_num, by omega, by omega, HS3, sorted_more HO.out (by omega) (by rw [← HG.out, ← HG.out]; exact hl)⟩
            case measure => simp [intOf]; omega
          · go_ret
            exact ⟨false, dk, rfl, HP.out, (fun h => by cases h), HS3.out⟩
          · have hl : ltInt (G k) (G (k - 1)) = true := by
              have h : (!ltInt (G k) (G (k - 1))) = false := by assumption
              simpa using h
            have HL := Lib.hid hl
            have hsz := HS3.out.size
            have HI : Hid (Ins ltInt a (k - 1) k (swp dk k (k - 1))) := ins_swap (ins_start HO.out) (by rw [← HG.out, ← HG.out]; exact hl) (by omega) (by omega)
            have HP2 : Hid (PermIn a b d (swp dk k (k - 1))) := permIn_trans _ _ _ _ _ HP.out (swp_permIn dk a b k (k - 1) (by omega) (by omega) (by omega) (by omega) (by omega))
            clear hl hsz
            go_region
            have HS4 : Hid (Sw w0 blk off n (swp dk k (k - 1)) ((wr3.setCell ⟨blk, off + k, none⟩ (.int .u64 (G (k - 1)))).setCell ⟨blk, off + (k - 1), none⟩ (.int .u64 (G k))).drew) := (HS3.out.swap B (by omega) (by omega) (HG.out _) (HG.out _)).drew
            clear hcw hfw HS3
            generalize ((wr3.setCell ⟨blk, off + k, none⟩ (.int .u64 (G (k - 1)))).setCell ⟨blk, off + (k - 1), none⟩ (.int .u64 (G k))).drew = wr4 at HS4 ⊢
            obtain ⟨ds, hds⟩ : ∃ x, x = swp dk k (k - 1) := ⟨_, rfl⟩
            rw [← hds] at HS4 HI HP2
            clear hds HG HL HP HO
            go_upto_if 61 with fail
            go_cut [] from 13 (fun wc => ∃ (dj : Array Int), Hid (Sw w0 blk off n dj wc) ∧ Hid (PermIn a b d dj) ∧ Hid (SortedIn ltInt a (k + 1) dj))
            case first =>
              by_cases hka : 2 ≤ k - a
              · go_wp2_with fail
                go_loopw [9] (fun vj w2 => ∃ (j : Nat) (dj : Array Int), vj = .int .i64 j ∧ a ≤ j ∧ j ≤ k - 1 ∧ Hid (Sw w0 blk off n dj w2) ∧ Hid (PermIn a b d dj) ∧ Hid (Ins ltInt a j k dj)) (fun vj _ => (intOf vj).toNat)
                case atStart => exact ⟨k - 1, ds, by congr 1; omega, by omega, Nat.le_refl _, HS4, HP2, HI⟩
                case round =>
                  clear HS4 HP2 HI
                  obtain ⟨j, dj, rfl, haj, hjk, HS, HP, HI⟩ := hrel
                  by_cases hj1 : 1 ≤ j
                  · obtain ⟨G, hG⟩ := gname dj
                    have HG : Hid (∀ t, G t = dj[t]!) := hG
                    clear hG
                    have hcw : ∀ t, t < n → wr.cell? ⟨blk, off + t, none⟩ = some (.int .u64 (G t)) := fun t ht => by rw [HG.out]; exact HS.out.cells B t ht
                    have hfw := HS.out.soft B
                    go_wp2_with fail
                    go_quiet (first | (go_at_call 94; refine Calls.quiet_of_same (sless_any _ _ _)))
                    have HS3 : Hid (Sw w0 blk off n dj (wr.drewN nq)) := HS.out.drewN nq
                    clear hcw hfw HS
                    generalize wr.drewN nq = wr3 at HS3 ⊢
                    have hcw : ∀ t, t < n → wr3.cell? ⟨blk, off + t, none⟩ = some (.int .u64 (G t)) := fun t ht => by rw [HG.out]; exact HS3.out.cells B t ht
                    have hfw := HS3.out.soft B
                    go_wp2
                    · have hl : ltInt dj[j]! dj[j - 1]! = false := by
                        have h : (!ltInt (G j) (G (j - 1))) = true := by assumption
                        rw [← HG.out, ← HG.out]; simpa using h
                      go_meet
                      case rel => exact ⟨dj, HS3, HP, HI.out.stop swo_ltInt (Or.inr hl)⟩
                    · have hl : ltInt dj[j]! dj[j - 1]! = true := by
                        have h : (!ltInt (G j) (G (j - 1))) = false := by assumption
                        rw [← HG.out, ← HG.out]; simpa using h
                      have haj' : a < j := by
                        rcases Nat.lt_or_ge a j with h | h
                        · exact h
                        · obtain rfl : a = j := by omega
                          rcases HB.out dj HP.out with h0 | h0
                          · omega
                          · rw [h0 a (Nat.le_refl _) hab] at hl; cases hl
                      have HL := Lib.hid hl
                      clear hl
                      go_region
                      all_goals go_wp2
                      go_roundw
                      case rel => exact ⟨j - 1, swp dj j (j - 1), by congr 1; omega, by omega, by omega, (HS3.out.swap B (by omega) (by omega) (HG.out _) (HG.out _)).drew, permIn_trans _ _ _ _ _ HP.out (swp_permIn dj a b j (j - 1) (by omega) (by omega) (by omega) (by omega) (by rw [HS3.out.size]; omega)), ins_swap HI.out HL.out haj' (by rw [HS3.out.size]; omega)⟩
                      case measure => simp [intOf]; omega
                  · go_wp2_with fail
                    go_meet
                    case rel => exact ⟨dj, HS, HP, HI.out.stop swo_ltInt (Or.inl (by omega))⟩
              · go_wp2_with fail
                go_meet
                case rel => exact ⟨ds, HS4, HP2, HI.out.stop swo_ltInt (Or.inl (by omega))⟩
            case rest =>
              clear HS4 HP2 HI
              obtain ⟨dj, HS4, HP2, HI⟩ := hcut
              go_upto_if 98 with fail
              by_cases hka : 2 ≤ b - k
              · go_wp2_with fail
                go_loopw [10] (fun vj w2 => ∃ (j : Nat) (dj : Array Int), vj = .int .i64 j ∧ k + 1 ≤ j ∧ j ≤ b ∧ Hid (Sw w0 blk off n dj w2) ∧ Hid (PermIn a b d dj) ∧ Hid (SortedIn ltInt a k dj)) (fun vj _ => b - (intOf vj).toNat)
                case atStart => exact ⟨k + 1, dj, by go_num, Nat.le_refl _, by omega, HS4, HP2, sorted_less HI.out⟩
                case round =>
                  clear HS4 HP2 HI
                  obtain ⟨j, dj, rfl, haj, hjk, HS, HP, HI⟩ := hrel
                  by_cases hj1 : j < b
                  · obtain ⟨G, hG⟩ := gname dj
                    have HG : Hid (∀ t, G t = dj[t]!) := hG
                    clear hG
                    have hcw : ∀ t, t < n → wr.cell? ⟨blk, off + t, none⟩ = some (.int .u64 (G t)) := fun t ht => by rw [HG.out]; exact HS.out.cells B t ht
                    have hfw := HS.out.soft B
                    go_wp2_with fail
                    go_quiet (first | (go_at_call 94; refine Calls.quiet_of_same (sless_any _ _ _)))
                    have HS3 : Hid (Sw w0 blk off n dj (wr.drewN nq)) := HS.out.drewN nq
                    clear hcw hfw HS
                    generalize wr.drewN nq = wr3 at HS3 ⊢
                    have hcw : ∀ t, t < n → wr3.cell? ⟨blk, off + t, none⟩ = some (.int .u64 (G t)) := fun t ht => by rw [HG.out]; exact HS3.out.cells B t ht
                    have hfw := HS3.out.soft B
                    go_wp2
                    · go_roundw
                      case rel => exact ⟨k, s + 1, dj, rfl, by go_num, by omega, by omega, by omega, HS3, HP, HI⟩
                      case measure => simp [intOf]; omega
                    · go_region
                      all_goals go_wp2
                      go_roundw
                      case rel => exact ⟨j + 1, swp dj j (j - 1), by go_num, by omega, by omega, (HS3.out.swap B (by omega) (by omega) (HG.out _) (HG.out _)).drew, permIn_trans _ _ _ _ _ HP.out (swp_permIn dj a b j (j - 1) (by omega) (by omega) (by omega) (by omega) (by rw [HS3.out.size]; omega)), sorted_up HI.out (by omega) (by rw [HS3.out.size]; omega)⟩
                      case measure => simp [intOf]; omega
                  · go_wp2_with fail
                    go_roundw
                    case rel => exact ⟨k, s + 1, dj, rfl, by go_num, by omega, by omega, by omega, HS, HP, HI⟩
                    case measure => simp [intOf]; omega
              · go_wp2_with fail
                go_roundw
                case rel => exact ⟨k, s + 1, dj, rfl, by go_num, by omega, by omega, by omega, HS4, HP2, sorted_less HI.out⟩
                case measure => simp [intOf]; omega
        · obtain rfl : k = b := by omega
          go_wp2_with fail
          go_quiet (first | (go_at_call 94; refine Calls.quiet_of_same (sless_any _ _ _)))
          go_wp2
          go_ret
          exact ⟨true, dk, rfl, HP.out, (fun _ => HO.out), HS.out.drewN _⟩
    · go_ret
      exact ⟨false, dk, rfl, HP.out, (fun h => by cases h), HS.out⟩
end Go.Proofs.YtnnmalpnjlnnlaaGreat
