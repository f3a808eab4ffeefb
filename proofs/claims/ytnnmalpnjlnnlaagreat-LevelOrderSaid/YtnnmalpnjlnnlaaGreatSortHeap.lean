/-
  A slice of numbers of 64 bits as the library's sort finds it: the heap. (The shape of the walks follows Derived.Sort.WalkB2 and WalkB3, which stand at int alone.)
-/
import Derived.Test.YtnnmalpnjlnnlaaGreatSortU
namespace Go.Proofs.YtnnmalpnjlnnlaaGreat
open Go.ChangeShapes Go.WideShapes Go.ChangeAt Go.RowKit
open Go.Sort
open Su
set_option linter.unusedVariables false
set_option maxRecDepth 100000
set_option maxHeartbeats 8000000
variable {w0 w : World} {blk off n : Nat} {d : Array Int}
theorem ssift_any (B : Base w0 blk off n) (S : Sw w0 blk off n d w) (cap lo hi first : Nat) (hlo : lo ≤ hi) (hb : first + hi ≤ n) :
    Calls Tryz.prog 132 #[.slice (some ⟨blk, off, none⟩) n cap, .int .i64 lo, .int .i64 hi, .int .i64 first] w fun e w' =>
      e = .returned (.tuple #[]) ∧ Sw w0 blk off n (siftDown ltInt hi first lo d) w' := by
  have hfew := B.few
  have HS : Hid (Sw w0 blk off n d w) := S
  clear S
  go_enter Tryz.func132, Tryz.ntmps132
  go_wp2
  go_loopg [8] (hi - lo) (fun k s8 wr => ∃ (root : Nat) (dk : Array Int), s8 = .int .i64 root ∧ root ≤ hi ∧ hi - root ≤ k ∧ Hid (Sw w0 blk off n dk wr) ∧ Hid (siftDown ltInt hi first root dk = siftDown ltInt hi first lo d))
  case atStart => exact ⟨lo, d, rfl, hlo, Nat.le_refl _, HS, rfl⟩
  case round =>
    obtain ⟨root, dk, rfl, hr, hk, HS, HE⟩ := hrel
    obtain ⟨G, hG⟩ := gname dk
    have hcw : ∀ t, t < n → wr.cell? ⟨blk, off + t, none⟩ = some (.int .u64 (G t)) := fun t ht => by rw [hG]; exact HS.out.cells B t ht
    have hfw := HS.out.soft B
    have HG : Hid (∀ t, G t = dk[t]!) := hG
    clear hG
    by_cases h0 : hi ≤ 2 * root + 1
    · have h0z : (hi : Int) ≤ 2 * (root : Int) + 1 := by omega
      go_wp2
      go_end0
      refine ⟨rfl, ?_⟩
      rw [← HE.out, sd_end ltInt dk h0]
      exact HS.out
    · have h0z : ¬ ((hi : Int) ≤ 2 * (root : Int) + 1) := by omega
      by_cases h1 : 2 * root + 2 < hi
      · have h1z : 2 * (root : Int) + 1 + 1 < (hi : Int) := by omega
        go_wp2_with fail
        go_big_quiet (first | (go_at_call 94; refine Calls.quiet_of_same (sless_any _ _ _)))
        go_wp2_with fail
        · have hL : ltInt (G (first + 2 * root + 1)) (G (first + 2 * root + 2)) = true := by assumption
          revert nq; intro nq1
          have HS2 : Hid (Sw w0 blk off n dk (wr.drewN nq1)) := HS.out.drewN nq1
          have hcw2 : ∀ t, t < n → (wr.drewN nq1).cell? ⟨blk, off + t, none⟩ = some (.int .u64 (G t)) := hcw
          have hfw2 : ∀ t, t < n → (wr.drewN nq1).frozen? ⟨blk, off + t, none⟩ = false := hfw
          clear hcw hfw HS
          generalize wr.drewN nq1 = wr2 at hcw2 hfw2 HS2 ⊢
          go_big_quiet (first | (go_at_call 94; refine Calls.quiet_of_same (sless_any _ _ _)))
          go_wp2_with fail
          · have hS : ltInt (G (first + root)) (G (first + 2 * root + 2)) = false := by
              have : (!ltInt (G (first + root)) (G (first + 2 * root + 2))) = true := by assumption
              simpa using this
            (try simp only [Exit.inBlock, Exit.then]); refine bodyPost_ret (results_none rfl _ _ _) rfl ?_
            refine ⟨rfl, ?_⟩
            rw [← HE.out, sd_right_stop ltInt dk h1 (by rw [← HG.out, ← HG.out]; exact hL) (by rw [← HG.out, ← HG.out]; exact hS)]
            exact HS2.out.drewN _
          · have hS : ltInt (G (first + root)) (G (first + 2 * root + 2)) = true := by
              have : (!ltInt (G (first + root)) (G (first + 2 * root + 2))) = false := by assumption
              simpa using this
            revert nq; intro nq2
            have HS3 : Hid (Sw w0 blk off n dk (wr2.drewN nq2)) := HS2.out.drewN nq2
            have hcw3 : ∀ t, t < n → (wr2.drewN nq2).cell? ⟨blk, off + t, none⟩ = some (.int .u64 (G t)) := hcw2
            have hfw3 : ∀ t, t < n → (wr2.drewN nq2).frozen? ⟨blk, off + t, none⟩ = false := hfw2
            clear hcw2 hfw2 HS2
            generalize wr2.drewN nq2 = wr3 at hcw3 hfw3 HS3 ⊢
            go_region
            go_wp2
            go_roundg (hi - ((2 * root + 2)))
            case measure => omega
            case rel => exact ⟨(2 * root + 2), swp dk (first + root) (first + ((2 * root + 2))), by simp <;> omega, by omega, Nat.le_refl _, (HS3.out.swap B (by omega) (by omega) (HG.out _) (HG.out _)).drew, (show Hid _ from by show _ = _; rw [← HE.out, sd_right_go ltInt dk h1 (by rw [← HG.out, ← HG.out]; exact hL) (by rw [← HG.out, ← HG.out]; exact hS)])⟩
        · have hL : ltInt (G (first + 2 * root + 1)) (G (first + 2 * root + 2)) = false := by assumption
          revert nq; intro nq1
          have HS2 : Hid (Sw w0 blk off n dk (wr.drewN nq1)) := HS.out.drewN nq1
          have hcw2 : ∀ t, t < n → (wr.drewN nq1).cell? ⟨blk, off + t, none⟩ = some (.int .u64 (G t)) := hcw
          have hfw2 : ∀ t, t < n → (wr.drewN nq1).frozen? ⟨blk, off + t, none⟩ = false := hfw
          clear hcw hfw HS
          generalize wr.drewN nq1 = wr2 at hcw2 hfw2 HS2 ⊢
          go_big_quiet (first | (go_at_call 94; refine Calls.quiet_of_same (sless_any _ _ _)))
          go_wp2_with fail
          · have hS : ltInt (G (first + root)) (G (first + 2 * root + 1)) = false := by
              have : (!ltInt (G (first + root)) (G (first + 2 * root + 1))) = true := by assumption
              simpa using this
            (try simp only [Exit.inBlock, Exit.then]); refine bodyPost_ret (results_none rfl _ _ _) rfl ?_
            refine ⟨rfl, ?_⟩
            rw [← HE.out, sd_left_stop ltInt dk (by omega) (fun _ => by rw [← HG.out, ← HG.out]; exact hL) (by rw [← HG.out, ← HG.out]; exact hS)]
            exact HS2.out.drewN _
          · have hS : ltInt (G (first + root)) (G (first + 2 * root + 1)) = true := by
              have : (!ltInt (G (first + root)) (G (first + 2 * root + 1))) = false := by assumption
              simpa using this
            revert nq; intro nq2
            have HS3 : Hid (Sw w0 blk off n dk (wr2.drewN nq2)) := HS2.out.drewN nq2
            have hcw3 : ∀ t, t < n → (wr2.drewN nq2).cell? ⟨blk, off + t, none⟩ = some (.int .u64 (G t)) := hcw2
            have hfw3 : ∀ t, t < n → (wr2.drewN nq2).frozen? ⟨blk, off + t, none⟩ = false := hfw2
            clear hcw2 hfw2 HS2
            generalize wr2.drewN nq2 = wr3 at hcw3 hfw3 HS3 ⊢
            go_region
            go_wp2
            go_roundg (hi - ((2 * root + 1)))
            case measure => omega
            case rel => exact ⟨(2 * root + 1), swp dk (first + root) (first + ((2 * root + 1))), by simp <;> omega, by omega, Nat.le_refl _, (HS3.out.swap B (by omega) (by omega) (HG.out _) (HG.out _)).drew, (show Hid _ from by show _ = _; rw [← HE.out, sd_left_go ltInt dk (by omega) (fun _ => by rw [← HG.out, ← HG.out]; exact hL) (by rw [← HG.out, ← HG.out]; exact hS)])⟩
      · have h1z : decide (2 * (root : Int) + 1 + 1 < (hi : Int)) = false := decide_eq_false (by omega)
        go_wp2_with fail
        go_big_quiet (first | (go_at_call 94; refine Calls.quiet_of_same (sless_any _ _ _)))
        go_wp2_with fail
        revert nq; intro nq1
        have HS2 : Hid (Sw w0 blk off n dk (wr.drewN nq1)) := HS.out.drewN nq1
        have hcw2 : ∀ t, t < n → (wr.drewN nq1).cell? ⟨blk, off + t, none⟩ = some (.int .u64 (G t)) := hcw
        have hfw2 : ∀ t, t < n → (wr.drewN nq1).frozen? ⟨blk, off + t, none⟩ = false := hfw
        clear hcw hfw HS
        generalize wr.drewN nq1 = wr2 at hcw2 hfw2 HS2 ⊢
        go_big_quiet (first | (go_at_call 94; refine Calls.quiet_of_same (sless_any _ _ _)))
        go_wp2_with fail
        · have hS : ltInt (G (first + root)) (G (first + 2 * root + 1)) = false := by
            have : (!ltInt (G (first + root)) (G (first + 2 * root + 1))) = true := by assumption
            simpa using this
          (try simp only [Exit.inBlock, Exit.then]); refine bodyPost_ret (results_none rfl _ _ _) rfl ?_
          refine ⟨rfl, ?_⟩
          rw [← HE.out, sd_left_stop ltInt dk (by omega) (fun h => absurd h h1) (by rw [← HG.out, ← HG.out]; exact hS)]
          exact HS2.out.drewN _
        · have hS : ltInt (G (first + root)) (G (first + 2 * root + 1)) = true := by
            have : (!ltInt (G (first + root)) (G (first + 2 * root + 1))) = false := by assumption
            simpa using this
          revert nq; intro nq2
          have HS3 : Hid (Sw w0 blk off n dk (wr2.drewN nq2)) := HS2.out.drewN nq2
          have hcw3 : ∀ t, t < n → (wr2.drewN nq2).cell? ⟨blk, off + t, none⟩ = some (.int .u64 (G t)) := hcw2
          have hfw3 : ∀ t, t < n → (wr2.drewN nq2).frozen? ⟨blk, off + t, none⟩ = false := hfw2
          clear hcw2 hfw2 HS2
          generalize wr2.drewN nq2 = wr3 at hcw3 hfw3 HS3 ⊢
          go_region
          go_wp2
          go_roundg (hi - ((2 * root + 1)))
          case measure => omega
          case rel => exact ⟨(2 * root + 1), swp dk (first + root) (first + ((2 * root + 1))), by simp <;> omega, by omega, Nat.le_refl _, (HS3.out.swap B (by omega) (by omega) (HG.out _) (HG.out _)).drew, (show Hid _ from by show _ = _; rw [← HE.out, sd_left_go ltInt dk (by omega) (fun h => absurd h h1) (by rw [← HG.out, ← HG.out]; exact hS)])⟩
theorem shalf {a b : Nat} (hab : a ≤ b) : ((b : Int) - (a : Int) - 1).tdiv 2 = (((b - a - 1) / 2 + 1 : Nat) : Int) - 1 := half_start hab
theorem sheap_any (B : Base w0 blk off n) (S : Sw w0 blk off n d w) (cap a b : Nat) (hab : a ≤ b) (hb : b ≤ n) :
    Calls Tryz.prog 113 #[.slice (some ⟨blk, off, none⟩) n cap, .int .i64 a, .int .i64 b] w fun e w' =>
      e = .returned (.tuple #[]) ∧ Sw w0 blk off n (heapSort ltInt d a b) w' := by
  have hfew := B.few
  have ecast : ((b - a : Nat) : Int) = (b : Int) - (a : Int) := by omega
  have HS : Hid (Sw w0 blk off n d w) := S
  clear S
  go_enter Tryz.func113, Tryz.ntmps113
  go_wp2
  go_loopg [9] ((b - a - 1) / 2 + 1) (fun k s9 wr => s9 = .int .i64 ((k : Int) - 1) ∧ k ≤ (b - a - 1) / 2 + 1 ∧ ∃ (dk : Array Int), Hid (Sw w0 blk off n dk wr) ∧ Hid (heapBuild ltInt (b - a) a k dk = heapBuild ltInt (b - a) a ((b - a - 1) / 2 + 1) d))
  case atStart => exact ⟨by rw [half_start hab], Nat.le_refl _, d, HS, rfl⟩
  case round =>
    obtain ⟨rfl, hkk, dk, HS, HE⟩ := hrel
    cases gk with
    | zero =>
      have hB : Hid (dk = heapBuild ltInt (b - a) a ((b - a - 1) / 2 + 1) d) := HE.out
      clear HE hkk
      go_wp2
      go_loopg [10] (b - a) (fun k s10 wr2 => s10 = .int .i64 ((k : Int) - 1) ∧ k ≤ b - a ∧ ∃ (dj : Array Int), Hid (Sw w0 blk off n dj wr2) ∧ Hid (heapPop ltInt a k dj = heapPop ltInt a (b - a) dk))
      case atStart => exact ⟨by rw [ecast], Nat.le_refl _, dk, HS, rfl⟩
      case round =>
        obtain ⟨rfl, hkk, dj, HS, HE⟩ := hrel
        cases gk with
        | zero =>
          go_wp2
          go_end0
          refine ⟨rfl, ?_⟩
          have e : dj = heapSort ltInt d a b := by rw [heapSort, ← hB.out, ← HE.out]; rfl
          rw [← e]
          exact HS.out
        | succ k =>
          obtain ⟨G, hG⟩ := gname dj
          have hcw : ∀ t, t < n → wr.cell? ⟨blk, off + t, none⟩ = some (.int .u64 (G t)) := fun t ht => by rw [hG]; exact HS.out.cells B t ht
          have hfw := HS.out.soft B
          have HG : Hid (∀ t, G t = dj[t]!) := hG
          clear hG
          rcases Nat.eq_zero_or_pos k with hk0 | hkp
          · subst hk0
            go_wp2_with fail
            go_region
            go_wp2_with fail
            have HS2 : Hid (Sw w0 blk off n (swp dj a a) ((wr.setCell ⟨blk, off + a, none⟩ (.int .u64 (G a))).setCell ⟨blk, off + a, none⟩ (.int .u64 (G a))).drew) := (HS.out.swap B (i := a) (j := a) (by omega) (by omega) (HG.out _) (HG.out _)).drew
            clear hcw hfw
            generalize ((wr.setCell ⟨blk, off + a, none⟩ (.int .u64 (G a))).setCell ⟨blk, off + a, none⟩ (.int .u64 (G a))).drew = wr2 at HS2 ⊢
            refine (ssift_any B HS2.out cap 0 0 a (Nat.le_refl _) (by omega)).mono ?_
            rintro e w1 ⟨rfl, hS1⟩
            go_wp2
            go_roundg 0
            case measure => omega
            case rel => exact ⟨by simp, by omega, _, hS1, HE⟩
          · go_wp2_with fail
            go_region
            go_wp2_with fail
            have HS2 : Hid (Sw w0 blk off n (swp dj a (a + k)) ((wr.setCell ⟨blk, off + a, none⟩ (.int .u64 (G (a + k)))).setCell ⟨blk, off + (a + k), none⟩ (.int .u64 (G a))).drew) := (HS.out.swap B (i := a) (j := a + k) (by omega) (by omega) (HG.out _) (HG.out _)).drew
            clear hcw hfw
            generalize ((wr.setCell ⟨blk, off + a, none⟩ (.int .u64 (G (a + k)))).setCell ⟨blk, off + (a + k), none⟩ (.int .u64 (G a))).drew = wr2 at HS2 ⊢
            refine (ssift_any B HS2.out cap 0 k a (Nat.zero_le _) (by omega)).mono ?_
            rintro e w1 ⟨rfl, hS1⟩
            go_wp2
            go_roundg k
            case measure => omega
            case rel => exact ⟨by simp, by omega, _, hS1, HE⟩
    | succ k =>
      have hcall := ssift_any B HS.out cap k (b - a) a (by omega) (by omega)
      rw [ecast] at hcall
      go_wp2_with (go_at_call 132; refine hcall.mono ?_; rintro e w1 ⟨rfl, hS1⟩)
      go_roundg k
      case measure => omega
      case rel => exact ⟨by simp, by omega, _, hS1, HE⟩
end Go.Proofs.YtnnmalpnjlnnlaaGreat
