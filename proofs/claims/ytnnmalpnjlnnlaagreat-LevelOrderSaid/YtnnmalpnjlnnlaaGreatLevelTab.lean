/-
  Package level over memory: the numbers of all tables.
-/
import Derived.Test.YtnnmalpnjlnnlaaGreatLevelFns
import Derived.Test.YtnnmalpnjlnnlaaGreatSortOwn
import Derived.Deep.RegionWith
namespace Go.Proofs.YtnnmalpnjlnnlaaGreat
open Go.ChangeShapes Go.WideShapes Go.ChangeAt Go.RowKit
set_option linter.unusedVariables false
set_option maxRecDepth 100000
set_option maxHeartbeats 4000000
open Lv
/-- the numbers of the tables of the first k levels -/
def fls (T : Nat → Lvl) (k : Nat) : List Nat := ((List.range k).flatMap fun l => (T l).l).map Meta.file
theorem fls_succ (T : Nat → Lvl) (k : Nat) : fls T (k + 1) = fls T k ++ (T k).l.map Meta.file := by simp [fls, List.range_succ]
theorem fls_len (T : Nat → Lvl) (M : Nat) (h : ∀ l, l < 4 → (T l).l.length ≤ M) : ∀ k, k ≤ 4 → (fls T k).length ≤ k * M
  | 0, _ => by simp [fls]
  | k + 1, hk => by
    rw [fls_succ, List.length_append, List.length_map]
    have := fls_len T M h k (by omega)
    have := h k (by omega)
    rw [Nat.add_mul]; omega
theorem idx_tab (T : Nat → Lvl) (k : Nat) (hk : k < 4) (W : World) : Sem.run Tryz.prog (Instr.index 71 (.agg #[(T 0).v, (T 1).v, (T 2).v, (T 3).v]) (.int .i64 (k : Int))) W = .ok (T k).v W := by
  have hk4 : k = 0 ∨ k = 1 ∨ k = 2 ∨ k = 3 := by omega
  rcases hk4 with rfl | rfl | rfl | rfl
  · simp [Instr.index, run_underlying Tryz.underlying71, asIntOf, go_sem]
  · simp [Instr.index, run_underlying Tryz.underlying71, asIntOf, go_sem]
  · simp [Instr.index, run_underlying Tryz.underlying71, asIntOf, go_sem]
  · simp [Instr.index, run_underlying Tryz.underlying71, asIntOf, go_sem]
theorem cells_new1 (w : World) (x : Value) (t : TypeId) (bl : Nat) (hb : bl = w.heap.size) : ∀ j u, [x][j]? = some u → (w.alloc (.cells #[x] t)).cell? ((⟨bl, 0, none⟩ : Addr).add j) = some u := by
  subst hb
  intro j u hj
  rw [maddr_add]
  exact mcell (malloc_new w _) j (by simpa using hj)
theorem lvfiles_any {T : Nat → Lvl} {w : World} (h : Tin w T) (hf : ∀ l, l < 4 → (T l).l.length ≤ 100000) :
    Calls Tryz.prog 73 #[tbv T] w fun e w' => ∃ v, e = .returned v ∧ w'.ownsRow w.heap.size 32 1 v (fls T 4).length (nsc (srt (fls T 4))) ∧ Kept w w' := by
  obtain ⟨i0, hi, hz0, hz1, hz2⟩ := info_parts uInfo
  have HI := Lib.hid hi; have HZ0 := Lib.hid hz0; have HZ1 := Lib.hid hz1; have HZ2 := Lib.hid hz2
  have HT := Lib.hid h
  clear h hi hz0 hz1 hz2
  unfold tbv
  go_enter Tryz.func73, Tryz.ntmps73
  go_wp2_with fail
  go_loopw [9, 3] (fun x v wr => ∃ k : Nat, k ≤ 4 ∧ x = .int .i64 k ∧ wr.ownsRow w.heap.size 32 1 v (fls T k).length (nsc (fls T k)) ∧ Kept w wr) (fun x _ _ => 4 - (intOf x).toNat)
  case atStart => exact ⟨0, by omega, rfl, World.ownsRow_nil _ _ _ _, (Kept.refl _).alloc _⟩
  case round =>
    obtain ⟨k, hk, rfl, hown, hkr⟩ := hrel
    by_cases hk4 : k < 4
    · have hidx := idx_tab T k hk4
      have d4 : decide ((k : Int) < 4) = true := decide_eq_true (by omega)
      obtain ⟨A, c, l, hTk⟩ : ∃ A c l, T k = ⟨A, c, l⟩ := ⟨_, _, _, rfl⟩
      rw [hTk] at hidx
      have HM : Hid (Mts w A l) := by have := HT.out.mts k hk4; rw [hTk] at this; exact this
      have hlen : l.length ≤ 100000 := by have := hf k hk4; rw [hTk] at this; exact this
      have HS : Hid (fls T (k + 1) = fls T k ++ l.map Meta.file) := by have := fls_succ T k; rw [hTk] at this; exact this
      have hFl := fls_len T 100000 hf k hk
      clear hTk hf
      obtain ⟨F, hF⟩ : ∃ F, F = fls T k := ⟨_, rfl⟩
      rw [← hF] at hown hFl HS
      have HF := Lib.hid hF
      clear hF
      generalize (T 0).v = t0 at *
      generalize (T 1).v = t1 at *
      generalize (T 2).v = t2 at *
      generalize (T 3).v = t3 at *
      rw [show Lvl.v ⟨A, c, l⟩ = .slice A l.length c from rfl] at hidx
      go_wp2_with fail
      go_loopw [14, 3] (fun x v wr => ∃ j : Nat, j ≤ l.length ∧ x = .int .i64 j ∧ wr.ownsRow w.heap.size 32 1 v (F.length + j) (nsc (F ++ (l.take j).map Meta.file)) ∧ Kept w wr) (fun x _ _ => l.length - (intOf x).toNat)
      case atStart => exact ⟨0, Nat.zero_le _, rfl, by simpa using hown, hkr⟩
      case round =>
        clear hown hkr
        obtain ⟨j, hj, rfl, hown, hkr⟩ := hrel
        by_cases hlt : j < l.length
        · obtain ⟨y, hy⟩ : ∃ y, l[j]? = some y := ⟨_, List.getElem?_eq_getElem hlt⟩
          obtain ⟨b, o, rfl, hb, c0, c1, c2, c3, c4⟩ := (Mts.kept HM.out hkr) j y hy
          obtain ⟨VA, vc, rfl⟩ := own_slice hown
          have HST := Lib.hid (show nsc (F ++ (l.take j).map Meta.file) ++ [.int .u64 (y.file : Nat)] = nsc (F ++ (l.take (j + 1)).map Meta.file) by
            rw [List.take_add_one, hy]; simp [nsc])
          have hbase := Below.size hkr
          generalize hX : nsc (F ++ (l.take j).map Meta.file) = X at hown HST
          clear hy hX
          go_wp2_with (at_builtin; refine wpList_append_own _ rfl _ _ 29 rfl w.heap.size 32 i0 (.int .u64 0) 1 8 Tryz.underlying29 HI.out HZ0.out HZ1.out HZ2.out rfl (by decide) _ (F.length + j) X rfl ((hown.alloc _).alloc _) ⟨wr.heap.size + 1, 0, none⟩ 1 1 [.int .u64 (y.file : Nat)] rfl rfl (cells_new1 _ _ _ _ (by simp)) (by simp [Value.oneCell']) (by unfold maxLen; omega) (by omega) (by simp; omega) ?_; intro v' w2 hown2 hg _)
          have g2 : Kept w w2 := Below.grown ((hkr.alloc _).alloc _) hg (by simp; omega) (fun b hb => (hown.lt b hb).1)
          rw [HST.out] at hown2
          go_wp2
          go_roundw
          case rel => exact ⟨j + 1, by omega, by go_num, hown2, g2⟩
          case measure => simp [intOf]; omega
        · obtain rfl : j = l.length := by omega
          go_wp2_with fail
          go_roundw
          case rel => exact ⟨k + 1, by omega, by go_num, by rw [HS.out, List.length_append, List.length_map]; simpa using hown, hkr⟩
          case measure => simp [intOf]; omega
    · obtain rfl : k = 4 := by omega
      have hFl := fls_len T 100000 hf 4 (Nat.le_refl _)
      have HC := Lib.hid (sort_own hown (by omega))
      have hbase := Below.size hkr
      have HLT := Lib.hid (fun b hb => (hown.lt b hb).1)
      clear hown
      go_wp2_with fail
      refine HC.out.mono ?_
      rintro e w1 ⟨rfl, hown1, hg1⟩
      go_wp2_with fail
      go_ret
      exact ⟨u3, rfl, hown1, Below.grown hkr hg1 hbase HLT.out⟩
end Go.Proofs.YtnnmalpnjlnnlaaGreat
