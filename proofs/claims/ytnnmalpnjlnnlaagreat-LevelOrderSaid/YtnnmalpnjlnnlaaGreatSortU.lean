/-
  A slice of numbers of 64 bits as the library's sort finds it: what its cells hold, which world is behind a swap; cmp.Less; the insertion sort, the heap, the reversing.
  The shape of the walks follows the library's own at int (Derived.Sort.WalkA, WalkB2, WalkB3, Walk7, Walk11, Walk13), which stand at that type alone; what they lean on in plain mathematics is imported.
-/
import Derived.Test.YtnnmalpnjlnnlaaGreatNumLeaf
import Derived.Shelf.SlSortCmp.Kit1
import Derived.Sort.WalkA
import Derived.Sort.WalkB3
import Derived.Deep.QuietTactic
import Derived.BigQuiet
import Derived.CellFam
import Derived.BigGuard
import Derived.Deep.LoopGhost
namespace Go.Proofs.YtnnmalpnjlnnlaaGreat
open Go.ChangeShapes Go.WideShapes Go.ChangeAt Go.RowKit
open Go.Sort
set_option linter.unusedVariables false
set_option maxRecDepth 100000
set_option maxHeartbeats 4000000

namespace Su
abbrev eU : Int → Value := Value.int .u64
/-- the world in which the slice was met -/
structure Base (w0 : World) (blk off n : Nat) : Prop where
  row : ∃ d0 : Array Int, d0.size = n ∧ Row1 eU w0 blk off d0
  few : n < 4611686018427387904
/-- a world in which it holds d; else only what was made since, and draws -/
structure Sw (w0 : World) (blk off n : Nat) (d : Array Int) (W : World) : Prop where
  size : d.size = n
  form : SW eU w0 blk off d W
variable {w0 W : World} {blk off n : Nat} {d : Array Int}
theorem Base.start (h : Holds eU w0 blk off d) (hs : d.size = n) (hb : blk < w0.heap.size) (hn : n < 4611686018427387904) : Base w0 blk off n ∧ Sw w0 blk off n d w0 :=
  ⟨⟨⟨d, hs, ⟨fun _ => rfl, h, hb⟩⟩, hn⟩, ⟨hs, SW.start h⟩⟩
theorem Base.old (B : Base w0 blk off n) : blk < w0.heap.size := B.row.choose_spec.2.hblk
theorem Sw.old (h : Sw w0 blk off n d W) : w0.heap.size ≤ W.heap.size := h.form.le
theorem Sw.cells (h : Sw w0 blk off n d W) (B : Base w0 blk off n) : ∀ t, t < n → W.cell? ⟨blk, off + t, none⟩ = some (.int .u64 d[t]!) := by
  intro t ht
  obtain ⟨d0, hs, R⟩ := B.row
  exact h.form.c1 R (by rw [h.size, hs]) t (by rw [h.size]; exact ht)
theorem Sw.soft (h : Sw w0 blk off n d W) (B : Base w0 blk off n) : ∀ t, t < n → W.frozen? ⟨blk, off + t, none⟩ = false := by
  intro t ht
  obtain ⟨d0, hs, R⟩ := B.row
  exact h.form.f1 R (by rw [h.size, hs]) t (by rw [h.size]; exact ht)
theorem Sw.drewN (h : Sw w0 blk off n d W) (q : Nat) : Sw w0 blk off n d (W.drewN q) := ⟨h.size, h.form.drewN q⟩
theorem Sw.drew (h : Sw w0 blk off n d W) : Sw w0 blk off n d W.drew := ⟨h.size, h.form.drew⟩
theorem Sw.alloc (h : Sw w0 blk off n d W) (o : Obj) : Sw w0 blk off n d (W.alloc o) := ⟨h.size, h.form.alloc o⟩
theorem Sw.setNew (h : Sw w0 blk off n d W) {b : Nat} (hb : w0.heap.size ≤ b) (i : Nat) (v : Value) : Sw w0 blk off n d (W.setCell ⟨b, i, none⟩ v) := ⟨h.size, h.form.setCell_new b i v hb⟩
theorem Sw.swap (h : Sw w0 blk off n d W) (B : Base w0 blk off n) {i j : Nat} (hi : i < n) (hj : j < n) {x y : Int} (hx : x = d[i]!) (hy : y = d[j]!) :
    Sw w0 blk off n (swp d i j) ((W.setCell ⟨blk, off + i, none⟩ (.int .u64 y)).setCell ⟨blk, off + j, none⟩ (.int .u64 x)) := by
  subst hx; subst hy
  exact ⟨by rw [size_swp]; exact h.size, h.form.swap B.old i j (by rw [h.size]; exact hi) (by rw [h.size]; exact hj)⟩
/-- behind the first store of a swap the second place still holds something -/
theorem Sw.two (h : Sw w0 blk off n d W) (B : Base w0 blk off n) {i j : Nat} (hi : i < n) (hj : j < n) (v : Value) : ∃ u, (W.setCell ⟨blk, off + i, none⟩ v).cell? ⟨blk, off + j, none⟩ = some u := by
  obtain ⟨d0, hs, R⟩ := B.row
  exact h.form.c2 R (by rw [h.size, hs]) i j (by rw [h.size]; exact hi) (by rw [h.size]; exact hj) v
theorem gname (d : Array Int) : ∃ G : Nat → Int, ∀ t, G t = d[t]! := ⟨fun t => d[t]!, fun _ => rfl⟩
end Su
open Su
theorem snan_any (x : Int) (w : World) : Calls Tryz.prog 111 #[.int .u64 x] w fun e w' => e = .returned (.bool false) ∧ w = w' := by
  go_enter Tryz.func111, Tryz.ntmps111
  go_wp2_with fail
  go_ret
  exact ⟨by simp, rfl⟩
theorem sless_any (x y : Int) (w : World) : Calls Tryz.prog 94 #[.int .u64 x, .int .u64 y] w fun e w' => e = .returned (.bool (ltInt x y)) ∧ w' = w := by
  go_enter Tryz.func94, Tryz.ntmps94
  go_wp2_with (go_at_call 111; refine (snan_any _ _).mono ?_; rintro e w' ⟨rfl, rfl⟩)
  go_ret
  exact ⟨rfl, rfl⟩
section
variable {w0 w : World} {blk off n : Nat} {d : Array Int}
theorem sins_any (B : Base w0 blk off n) (S : Sw w0 blk off n d w) (cap a b : Nat) (hab : a ≤ b) (hb : b ≤ n) :
    Calls Tryz.prog 112 #[.slice (some ⟨blk, off, none⟩) n cap, .int .i64 a, .int .i64 b] w fun e w' =>
      e = .returned (.tuple #[]) ∧ Sw w0 blk off n (insertionSort ltInt d a b) w' := by
  have hfew := B.few
  have HS : Hid (Sw w0 blk off n d w) := S
  clear S
  go_enter Tryz.func112, Tryz.ntmps112
  go_wp2
  go_loopw [6] (fun vi wr => ∃ (i : Nat) (dk : Array Int), vi = .int .i64 i ∧ a < i ∧ i ≤ b + 1 ∧ Hid (Sw w0 blk off n dk wr) ∧ Hid (insOuter ltInt a b i dk = insOuter ltInt a b (a + 1) d)) (fun vi _ => b + 1 - (intOf vi).toNat)
  case atStart => exact ⟨a + 1, d, by go_num, by omega, by omega, HS, rfl⟩
  case round =>
    obtain ⟨i, dk, rfl, hai, hib, HS, HO⟩ := hrel
    go_wp2
    · go_loopw [7] (fun vj wr2 => ∃ (j : Nat) (dj : Array Int), vj = .int .i64 j ∧ a ≤ j ∧ j ≤ i ∧ Hid (Sw w0 blk off n dj wr2) ∧ Hid (insInner ltInt a j dj = insInner ltInt a i dk)) (fun vj _ => (intOf vj).toNat)
      case atStart => exact ⟨i, dk, rfl, by omega, Nat.le_refl _, HS, rfl⟩
      case round =>
        obtain ⟨j, dj, rfl, haj, hji, HS, HI⟩ := hrel
        have hlt : i < b := by assumption
        obtain ⟨G, hG⟩ := gname dj
        have hcw : ∀ t, t < n → wr.cell? ⟨blk, off + t, none⟩ = some (.int .u64 (G t)) := fun t ht => by rw [hG]; exact HS.out.cells B t ht
        have hfw := HS.out.soft B
        have HG : Hid (∀ t, G t = dj[t]!) := hG
        clear hG
        have out : (j ≤ a ∨ ltInt dj[j]! dj[j - 1]! = false) → Hid (insOuter ltInt a b (i + 1) dj = insOuter ltInt a b (a + 1) d) := fun hs => by
          show _ = _
          rw [← HO.out, insOuter_go _ _ _ _ _ hlt, ← HI.out, insInner_stop _ _ _ _ hs]
        have OUT : Hid _ := out
        clear out
        go_wp2
        by_cases hja : a < j
        · go_quiet (first | (go_at_call 94; refine Calls.quiet_of_same (sless_any _ _ _)))
          go_wp2
          · have hl : ltInt (G j) (G (j - 1)) = true := by assumption
            go_region
            all_goals go_wp2
            go_roundw
            case rel => exact ⟨j - 1, swp dj j (j - 1), by congr 1; omega, by omega, by omega, (HS.out.drewN _).swap B (by omega) (by omega) (HG.out _) (HG.out _), (by show _ = _; rw [← HI.out, insInner_go ltInt a j dj hja (by rw [← HG.out, ← HG.out]; exact hl)])⟩
            case measure => simp [intOf]; omega
          · have hl : ltInt (G j) (G (j - 1)) = false := by assumption
            go_roundw
            case rel => exact ⟨i + 1, dj, by go_num, by omega, by omega, HS.out.drewN _, OUT.out (Or.inr (by rw [← HG.out, ← HG.out]; exact hl))⟩
            case measure => simp [intOf]; omega
        · go_quiet (first | (go_at_call 94; refine Calls.quiet_of_same (sless_any _ _ _)))
          go_wp2
          go_roundw
          case rel => exact ⟨i + 1, dj, by go_num, by omega, by omega, HS.out.drewN _, OUT.out (Or.inl (by omega))⟩
          case measure => simp [intOf]; omega
    · have hge : ¬ i < b := by assumption
      go_end0
      exact ⟨rfl, by unfold insertionSort; rw [← HO.out, insOuter_stop _ _ _ _ _ hge]; exact HS.out⟩
theorem srev_any (B : Base w0 blk off n) (S : Sw w0 blk off n d w) (cap a b : Nat) (hab : a ≤ b) (hb : b ≤ n) :
    Calls Tryz.prog 116 #[.slice (some ⟨blk, off, none⟩) n cap, .int .i64 a, .int .i64 b] w fun e w' =>
      e = .returned (.tuple #[]) ∧ ∃ d', PermIn a b d d' ∧ Sw w0 blk off n d' w' := by
  have hfew := B.few
  have HS : Hid (Sw w0 blk off n d w) := S
  have hsz := S.size
  clear S
  go_enter Tryz.func116, Tryz.ntmps116
  go_wp2
  go_loopw [6, 7] (fun vi vj wr => ∃ (i : Nat) (j : Int) (dk : Array Int), vi = .int .i64 i ∧ vj = .int .i64 j ∧ a ≤ i ∧ j < (b : Int) ∧ -1 ≤ j ∧ i ≤ b ∧ Hid (Sw w0 blk off n dk wr) ∧ Hid (PermIn a b d dk)) (fun vi vj _ => (intOf vj).toNat + 1 - (intOf vi).toNat)
  case atStart => exact ⟨a, (b : Int) - 1, d, rfl, by go_num, Nat.le_refl _, by omega, by omega, hab, HS, permIn_refl d a b⟩
  case round =>
    obtain ⟨i, j, dk, rfl, rfl, hai, hjb, hj1, hib, HS, HP⟩ := hrel
    by_cases hij : (i : Int) < j
    · obtain ⟨j, rfl⟩ : ∃ k : Nat, j = (k : Int) := ⟨j.toNat, by omega⟩
      have hij' : i < j := by omega
      obtain ⟨G, hG⟩ := gname dk
      have hcw : ∀ t, t < n → wr.cell? ⟨blk, off + t, none⟩ = some (.int .u64 (G t)) := fun t ht => by rw [hG]; exact HS.out.cells B t ht
      have hfw := HS.out.soft B
      have HG : Hid (∀ t, G t = dk[t]!) := hG
      clear hG
      go_wp2_with fail
      go_region
      all_goals go_wp2
      all_goals go_roundw
      case rel => exact ⟨i + 1, (j : Int) - 1, swp dk i j, by go_num, by go_num, by omega, by omega, by omega, by omega, (HS.out.swap B (by omega) (by omega) (HG.out _) (HG.out _)).drew, permIn_trans _ _ _ _ _ HP.out (swp_permIn dk a b i j hai (by omega) (by omega) (by omega) (by rw [HS.out.size]; exact hb))⟩
      case measure => simp [intOf]; omega
    · go_wp2
      go_end0
      exact ⟨rfl, dk, HP.out, HS.out⟩
end
end Go.Proofs.YtnnmalpnjlnnlaaGreat
