/-
  Package level over memory: would a level have more tables than it may have?
-/
import Derived.Test.YtnnmalpnjlnnlaaGreatLevelFns
import Derived.Deep.QuietTactic
namespace Go.Proofs.YtnnmalpnjlnnlaaGreat
open Go.ChangeShapes Go.WideShapes Go.ChangeAt Go.RowKit
set_option linter.unusedVariables false
set_option maxRecDepth 100000
set_option maxHeartbeats 4000000
open Lv
def many (T U : Nat → Lvl) : Bool := (List.range 4).any fun l => decide (30 < (T l).l.length + (U l).l.length)
theorem many_no {T U : Nat → Lvl} (h : ∀ l, l < 4 → ¬ 30 < (T l).l.length + (U l).l.length) : many T U = false := by
  unfold many
  rw [List.any_eq_false]
  intro l hl
  simpa using h l (List.mem_range.1 hl)
theorem many_yes {T U : Nat → Lvl} {k : Nat} (hk : k < 4) (h : 30 < (T k).l.length + (U k).l.length) : many T U = true := by
  unfold many
  rw [List.any_eq_true]
  exact ⟨k, List.mem_range.2 hk, by simpa using h⟩
theorem box_tab {w W : World} {b : Nat} {t : TypeId} (T : Nat → Lvl) (hb : W.heap[b]? = some (.cells #[(T 0).v, (T 1).v, (T 2).v, (T 3).v] t (0, 0))) : ∀ k, k < 4 → W.cell? ⟨b, k, none⟩ = some (T k).v := by
  intro k hk
  have hk4 : k = 0 ∨ k = 1 ∨ k = 2 ∨ k = 3 := by omega
  rcases hk4 with rfl | rfl | rfl | rfl <;> exact mcell hb _ (by rfl)
theorem lvmany_any (T U : Nat → Lvl) (w : World) (hT : ∀ l, l < 4 → (T l).l.length ≤ 100000) (hU : ∀ l, l < 4 → (U l).l.length ≤ 100000) : Calls Tryz.prog 43 #[tbv T, tbv U] w fun e w' => e = .returned (.bool (many T U)) ∧ Kept w w' := by
  obtain ⟨n, hn⟩ : ∃ n, n = w.heap.size := ⟨_, rfl⟩
  obtain ⟨W, hW⟩ : ∃ W, W = (w.alloc (.cells #[(T 0).v, (T 1).v, (T 2).v, (T 3).v] 71)).alloc (.cells #[(U 0).v, (U 1).v, (U 2).v, (U 3).v] 71) := ⟨_, rfl⟩
  have g0 : Kept w W := by rw [hW]; exact ((Kept.refl _).alloc _).alloc _
  have ht : ∀ k, k < 4 → W.cell? ⟨w.heap.size, k, none⟩ = some (T k).v := box_tab (w := w) T (by rw [hW, malloc_old _ _ (by simp)]; exact malloc_new w _)
  have hu : ∀ k, k < 4 → W.cell? ⟨w.heap.size + 1, k, none⟩ = some (U k).v := box_tab (w := w) U (by rw [hW, show w.heap.size + 1 = (w.alloc (.cells #[(T 0).v, (T 1).v, (T 2).v, (T 3).v] 71)).heap.size from by simp]; exact malloc_new _ _)
  have HT := Lib.hid ht; have HU := Lib.hid hu; have HG := Lib.hid g0; have HW := Lib.hid hW
  clear ht hu g0 hn hW
  unfold tbv
  go_enter Tryz.func43, Tryz.ntmps43
  go_wp2_with fail
  rw [← HW.out]
  go_loopw [6] (fun x wr => ∃ k : Nat, k ≤ 4 ∧ x = .int .i64 k ∧ Hid (∀ l, l < k → ¬ 30 < (T l).l.length + (U l).l.length) ∧ Hid (∃ q, wr = W.drewN q)) (fun x _ => 4 - (intOf x).toNat)
  case atStart => exact ⟨0, by omega, rfl, Lib.hid (fun l h => by omega), Lib.hid ⟨0, rfl⟩⟩
  case round =>
    obtain ⟨k, hk, rfl, HN, HK⟩ := hrel
    by_cases hk4 : k < 4
    · obtain ⟨A, c, l, hTk⟩ : ∃ A c l, T k = ⟨A, c, l⟩ := ⟨_, _, _, rfl⟩
      obtain ⟨A', c', l', hUk⟩ : ∃ A c l, U k = ⟨A, c, l⟩ := ⟨_, _, _, rfl⟩
      have k1 : wr.cell? ⟨w.heap.size, k, none⟩ = some (.slice A l.length c) := by
        obtain ⟨q, rfl⟩ := HK.out
        have := HT.out k hk4; rw [hTk] at this; exact this
      have k2 : wr.cell? ⟨w.heap.size + 1, k, none⟩ = some (.slice A' l'.length c') := by
        obtain ⟨q, rfl⟩ := HK.out
        have := HU.out k hk4; rw [hUk] at this; exact this
      have b1 : l.length ≤ 100000 := by have := hT k hk4; rw [hTk] at this; exact this
      have b2 : l'.length ≤ 100000 := by have := hU k hk4; rw [hUk] at this; exact this
      have HS := Lib.hid (show (T k).l.length + (U k).l.length = l.length + l'.length by rw [hTk, hUk])
      clear hTk hUk
      obtain ⟨n, hn⟩ : ∃ n, n = l.length := ⟨_, rfl⟩
      obtain ⟨n', hn'⟩ : ∃ n, n = l'.length := ⟨_, rfl⟩
      rw [← hn, ← hn'] at HS
      rw [← hn] at k1 b1; rw [← hn'] at k2 b2
      clear hn hn'
      by_cases hs : 30 < n + n'
      · have d1 : decide ((30 : Int) < (n : Int) + (n' : Int)) = true := decide_eq_true (by omega)
        have HY := Lib.hid (many_yes hk4 (by rw [HS.out]; exact hs))
        go_wp2_with fail
        go_quiet (fail)
        go_wp2_with fail
        go_ret
        obtain ⟨q, rfl⟩ := HK.out
        exact ⟨by rw [HY.out]; rfl, kept_trans HG.out (kept_trans (kept_drewN _ q) (kept_drewN _ _))⟩
      · have d1 : decide ((30 : Int) < (n : Int) + (n' : Int)) = false := decide_eq_false (by omega)
        have HN2 := Lib.hid (show ∀ l, l < k + 1 → ¬ 30 < (T l).l.length + (U l).l.length from fun l hl => by
          by_cases e : l = k
          · rw [e, HS.out]; exact hs
          · exact HN.out l (by omega))
        go_wp2_with fail
        go_quiet (fail)
        go_wp2_with fail
        go_roundw
        case rel =>
          refine ⟨k + 1, by omega, by go_num, HN2, ?_⟩
          obtain ⟨q, rfl⟩ := HK.out
          exact ⟨q + nq, by simp [World.drewN, Nat.add_assoc]⟩
        case measure => simp [intOf]; omega
    · obtain rfl : k = 4 := by omega
      go_wp2_with fail
      go_ret
      obtain ⟨q, rfl⟩ := HK.out
      exact ⟨by rw [many_no HN.out]; rfl, kept_trans HG.out (kept_drewN _ q)⟩
end Go.Proofs.YtnnmalpnjlnnlaaGreat
