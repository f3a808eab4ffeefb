/-
  Package level over memory: the range of a range and of some tables.
-/
import Derived.Test.YtnnmalpnjlnnlaaGreatLevelAsk
namespace Go.Proofs.YtnnmalpnjlnnlaaGreat
open Go.ChangeShapes Go.WideShapes Go.ChangeAt Go.RowKit
set_option linter.unusedVariables false
set_option maxRecDepth 100000
set_option maxHeartbeats 6000000
open Lv
theorem run_minS (a b : List UInt8) (W : World) : Sem.run Tryz.prog (Builtin.min_ #[9, 9] 9 #[.string (bs a), .string (bs b)]) W = .ok (.string (bs (if b < a then b else a))) W := by
  have e : (Op.bytesLess (bs a).toList (bs b).toList || (bs a).toList == (bs b).toList) = !decide (b < a) := (le_spell a b).trans le_not
  have r : Sem.run Tryz.prog (Op.stringOp .leq (bs a) (bs b)) W = .ok (.bool (!decide (b < a))) W := by rw [← e]; simp [Op.stringOp]
  by_cases h : b < a
  · simp [Builtin.min_, Builtin.min2, r, h, go_sem]
  · simp [Builtin.min_, Builtin.min2, r, h, go_sem]
theorem run_maxS (a b : List UInt8) (W : World) : Sem.run Tryz.prog (Builtin.max_ #[9, 9] 9 #[.string (bs a), .string (bs b)]) W = .ok (.string (bs (if a < b then b else a))) W := by
  have r : Sem.run Tryz.prog (Op.stringOp .geq (bs a) (bs b)) W = .ok (.bool (!decide (a < b))) W := by
    rw [show decide (a < b) = Op.bytesLess (bs a).toList (bs b).toList by rw [lvbs_list, lvbs_list, Mm.less_eq]]; simp [Op.stringOp]
  by_cases h : a < b
  · simp [Builtin.max_, Builtin.max2, r, h, go_sem]
  · simp [Builtin.max_, Builtin.max2, r, h, go_sem]
theorem lvset {w : World} {b : Nat} {c : Array Value} {t : TypeId} {z : Nat × Nat} (h : w.heap[b]? = some (.cells c t z)) (j : Nat) (x : Value) : (w.setCell ⟨b, j, none⟩ x).heap[b]? = some (.cells (c.setIfInBounds j x) t z) := by
  simp [World.setCell, Array.getElem?_modify, h]
theorem lvset_ne {w : World} {b b0 : Nat} {x : Option Obj} (h : w.heap[b]? = x) (hne : b ≠ b0) (j : Nat) (v : Value) : (w.setCell ⟨b0, j, none⟩ v).heap[b]? = x := by
  rw [Below.heap_setCell _ _ _ _ (by exact hne)]; exact h
theorem over_take {l : List Meta} {j : Nat} {y : Meta} (h : l[j]? = some y) (s : List UInt8 × List UInt8) : over s (l.take (j + 1)) = over1 (over s (l.take j)) y := by
  unfold over
  rw [List.take_add_one, h, List.foldl_append]
  rfl
theorem lvover_any {A : Option Addr} {l : List Meta} {w : World} (hM : Mts w A l) (hl : l.length ≤ 100000) (c : Nat) (s : List UInt8 × List UInt8) :
    Calls Tryz.prog 56 #[spv s.1 s.2, .slice A l.length c] w fun e w' => e = .returned (spv (over s l).1 (over s l).2) ∧ Kept w w' := by
  have HM := Lib.hid hM
  clear hM
  unfold spv
  go_enter Tryz.func56, Tryz.ntmps56
  go_wp2_with fail
  go_loopw [9] (fun x wr => ∃ (j : Nat) (p q : List UInt8), j ≤ l.length ∧ x = .int .i64 j ∧ Hid ((p, q) = over s (l.take j)) ∧ Hid (wr.heap[w.heap.size]? = some (.cells #[.string (bs p), .string (bs q)] 88 (0, 0))) ∧ Hid (wr.heap[w.heap.size + 1]? = some (.cells #[.string ⟨#[]⟩, .string ⟨#[]⟩] 88 (0, 0))) ∧ Hid (Kept w wr)) (fun x _ => l.length - (intOf x).toNat)
  case atStart =>
    refine ⟨0, s.1, s.2, Nat.zero_le _, rfl, rfl, ?_, ?_, ((Kept.refl _).alloc _).alloc _⟩
    · exact (malloc_old _ _ (by simp)).trans (malloc_new w _)
    · have := malloc_new (w.alloc (.cells #[.string (bs s.1), .string (bs s.2)] 88)) (.cells #[.string ⟨#[]⟩, .string ⟨#[]⟩] 88)
      rw [show (w.alloc (.cells #[.string (bs s.1), .string (bs s.2)] 88)).heap.size = w.heap.size + 1 from by simp] at this
      exact this
  case round =>
    obtain ⟨j, p, q, hj, rfl, HO, HB, HR, HK⟩ := hrel
    by_cases hlt : j < l.length
    · obtain ⟨y, hy⟩ : ∃ y, l[j]? = some y := ⟨_, List.getElem?_eq_getElem hlt⟩
      obtain ⟨r, o, rfl, hr, c0, c1, c2, c3, c4⟩ := (Mts.kept HM.out HK.out) j y hy
      have hST := over_take hy s
      rw [← HO.out] at hST
      have HST := Lib.hid hST
      have b0 := mcell HB.out 0 (v := .string (bs p)) (by rfl)
      have b1 := mcell HB.out 1 (v := .string (bs q)) (by rfl)
      have hbl := mheap_lt HR.out
      have e0 := (kept_cell ((Kept.refl wr).alloc (.cells #[.int .u64 (y.file : Nat), .int .i64 y.size, .string (bs y.first), .string (bs y.last), .int .u64 (y.seq : Nat)] 43)) (p := ⟨w.heap.size, 0, none⟩) (show w.heap.size < _ by omega)).trans b0
      have e1 := (kept_cell ((Kept.refl wr).alloc (.cells #[.int .u64 (y.file : Nat), .int .i64 y.size, .string (bs y.first), .string (bs y.last), .int .u64 (y.seq : Nat)] 43)) (p := ⟨w.heap.size, 1, none⟩) (show w.heap.size < _ by omega)).trans b1
      have f0 := (kept_frozen ((Kept.refl wr).alloc (.cells #[.int .u64 (y.file : Nat), .int .i64 y.size, .string (bs y.first), .string (bs y.last), .int .u64 (y.seq : Nat)] 43)) (p := ⟨w.heap.size, 0, none⟩) (show w.heap.size < _ by omega)).trans (mfrozen HB.out 0)
      have f1 := (kept_frozen ((Kept.refl wr).alloc (.cells #[.int .u64 (y.file : Nat), .int .i64 y.size, .string (bs y.first), .string (bs y.last), .int .u64 (y.seq : Nat)] 43)) (p := ⟨w.heap.size, 1, none⟩) (show w.heap.size < _ by omega)).trans (mfrozen HB.out 1)
      have m0 := run_minS p y.first
      have m1 := run_maxS q y.last
      obtain ⟨P, hP⟩ : ∃ P, P = (if y.first < p then y.first else p) := ⟨_, rfl⟩
      obtain ⟨Q, hQ⟩ : ∃ Q, Q = (if q < y.last then y.last else q) := ⟨_, rfl⟩
      rw [← hP] at m0; rw [← hQ] at m1
      have HPQ := Lib.hid (show (P, Q) = over s (l.take (j + 1)) by rw [HST.out, hP, hQ]; rfl)
      clear hST hy b0 b1 hP hQ
      go_wp2_with fail
      go_roundw
      case rel =>
        refine ⟨j + 1, P, Q, by omega, by go_num, HPQ, ?_, ?_, ?_⟩
        · exact lvset (lvset ((malloc_old _ _ (by omega)).trans HB.out) 0 (.string (bs P))) 1 (.string (bs Q))
        · exact lvset_ne (lvset_ne ((malloc_old _ _ hbl).trans HR.out) (by omega) 0 _) (by omega) 1 _
        · exact Below.setCell (Below.setCell (HK.out.alloc _) (Nat.le_refl _) _) (Nat.le_refl _) _
      case measure => simp [intOf]; omega
    · obtain rfl : j = l.length := by omega
      rw [List.take_length] at HO
      have b0 := mcell HB.out 0 (v := .string (bs p)) (by rfl)
      have b1 := mcell HB.out 1 (v := .string (bs q)) (by rfl)
      have r0 := mcell HR.out 0 (v := .string ⟨#[]⟩) (by rfl)
      have r1 := mcell HR.out 1 (v := .string ⟨#[]⟩) (by rfl)
      have f0 := mfrozen HR.out 0
      have f1 := mfrozen HR.out 1
      go_wp2_with fail
      have n2 := lvset (lvset HR.out 0 (.string (bs p))) 1 (.string (bs q))
      have c0 := mcell n2 0 (v := .string (bs p)) (by rfl)
      have c1 := mcell n2 1 (v := .string (bs q)) (by rfl)
      have gz : Kept w ((wr.setCell ⟨w.heap.size + 1, 0, none⟩ (.string (bs p))).setCell ⟨w.heap.size + 1, 1, none⟩ (.string (bs q))) := Below.setCell (Below.setCell HK.out (Nat.le_succ _) _) (Nat.le_succ _) _
      generalize (wr.setCell ⟨w.heap.size + 1, 0, none⟩ (.string (bs p))).setCell ⟨w.heap.size + 1, 1, none⟩ (.string (bs q)) = wz at c0 c1 gz ⊢
      refine bodyPost_ret (v := .agg #[.string (bs p), .string (bs q)]) (by simp [results, Tryz.results56, go_sem, c0, c1]) rfl ⟨by rw [← HO.out], gz⟩
end Go.Proofs.YtnnmalpnjlnnlaaGreat
