/-
  A struct that is stored whole into a block of its own: one equation for all its cells.
-/
import Derived.Test.YtnnmalpnjlnnlaaGreatLevelMem
import Derived.Lib.FrozenHead
import Derived.RegionTactic
import Derived.Deep.RegionHeld3
namespace Go.Proofs.YtnnmalpnjlnnlaaGreat
open Go.ChangeShapes Go.WideShapes Go.ChangeAt Go.RowKit
set_option linter.unusedVariables false
set_option maxRecDepth 100000
set_option maxHeartbeats 1000000
theorem store_all {w : World} {g : Nat} {cur new : Array Value} {t : TypeId} (h : w.heap[g]? = some (.cells cur t (0, 0))) (hn : new.size = cur.size) (h1 : ∀ v ∈ new.toList, v.oneCell' = true) :
    Sem.run Tryz.prog (storeCells ⟨g, 0, none⟩ new.toList) w = .ok () (w.setRow g new) := by
  have := run_storeCells_atF Tryz.prog g 0 t (0, 0) new.toList 0 cur w h (by simp) (by simp [hn]) h1
  rw [this]
  congr 2
  have hd : cur.toList.drop (0 + 0 + new.toList.length) = [] := List.drop_eq_nil_of_le (by simp [hn])
  rw [hd]
  simp
theorem row_set {w : World} {g : Nat} {cur new : Array Value} {t : TypeId} {z : Nat × Nat} (h : w.heap[g]? = some (.cells cur t z)) : (w.setRow g new).heap[g]? = some (.cells new t z) := setRow_heap w g cur new t z h
theorem kept_row {w W : World} (k : Kept w W) {g : Nat} (hg : w.heap.size ≤ g) (new : Array Value) : Kept w (W.setRow g new) := by
  refine ⟨k.os, k.tape, k.output, ?_, fun b hb => ?_⟩
  · show w.heap.size ≤ (W.heap.modify g _).size
    rw [Array.size_modify]; exact k.size
  · show (W.heap.modify g _)[b]? = _
    rw [Array.getElem?_modify, if_neg (by omega)]
    exact k.block b hb
theorem own_row {w : World} {B e size n : Nat} {v : Value} {xs : List Value} (h : w.ownsRow B e size v n xs) {g : Nat} (hg : v.ownBlock ≠ some g) (new : Array Value) : (w.setRow g new).ownsRow B e size v n xs := by
  refine h.kept (row := some g) ⟨rfl, rfl, rfl, ?_, fun b _ hb => ?_⟩ (.inr hg)
  · show w.heap.size ≤ (w.heap.modify g _).size
    rw [Array.size_modify]; exact Nat.le_refl _
  · show (w.heap.modify g _)[b]? = _
    rw [Array.getElem?_modify, if_neg (by intro e; exact hb (by rw [e]))]
theorem slice_one {w : World} {B e size n : Nat} {v : Value} {xs : List Value} (h : w.ownsRow B e size v n xs) : v.oneCell' = true := by
  rcases h.2 with ⟨e1, e0⟩ | ⟨r, cap, cur, e1, _⟩
  · rw [e1]; rfl
  · rw [e1]; rfl
/-- what came in is kept, and one block of its own stands -/
structure KB (w : World) (b : Nat) (t : TypeId) (n : Nat) (W : World) : Prop where
  k : Kept w W
  blk : ∃ c : Array Value, c.size = n ∧ W.heap[b]? = some (.cells c t (0, 0))
theorem KB.step {w : World} {b : Nat} {t : TypeId} {n : Nat} {W W' : World} (h : KB w b t n W) (g : Kept W W') : KB w b t n W' := by
  obtain ⟨c, hc, hb⟩ := h.blk
  exact ⟨kept_trans h.k g, c, hc, by rw [Below.block g b (mheap_lt hb)]; exact hb⟩
theorem KB.set {w : World} {b : Nat} {t : TypeId} {n : Nat} {W : World} (h : KB w b t n W) (hb : w.heap.size ≤ b) (new : Array Value) (hn : new.size = n) : KB w b t n (W.setRow b new) := by
  obtain ⟨c, hc, hbk⟩ := h.blk
  exact ⟨kept_row h.k hb new, new, hn, row_set hbk⟩
theorem KB.store {w : World} {b : Nat} {t : TypeId} {n : Nat} {W : World} (h : KB w b t n W) (new : Array Value) (hn : new.size = n) (h1 : ∀ v ∈ new.toList, v.oneCell' = true) :
    Sem.run Tryz.prog (storeCells ⟨b, 0, none⟩ new.toList) W = .ok () (W.setRow b new) := by
  obtain ⟨c, hc, hbk⟩ := h.blk
  exact store_all hbk (by rw [hn, hc]) h1
theorem KB.after {w : World} {b : Nat} {t : TypeId} {n : Nat} {W : World} (h : KB w b t n W) (new : Array Value) : (W.setRow b new).heap[b]? = some (.cells new t (0, 0)) := by
  obtain ⟨c, hc, hbk⟩ := h.blk
  exact row_set hbk
theorem KB.lt {w : World} {b : Nat} {t : TypeId} {n : Nat} {W : World} (h : KB w b t n W) : b < W.heap.size := by
  obtain ⟨c, hc, hbk⟩ := h.blk
  exact mheap_lt hbk
theorem ite_wp {c : Prop} [Decidable c] {A B : Prop} (hc : c) (hA : A) : if c then A else B := by rw [if_pos hc]; exact hA
theorem wp_store_all {o : Oper} {a : Act} {w w2 : World} {K : Act → World → Prop} {Q : Exit → Act → World → Prop} {t : TypeId} {x y : Operand} (ho : o.op = .store t x y) {g : Nat} {new : Array Value} (hx : a.eval x = .pointer (some ⟨g, 0, none⟩)) (hy : a.eval y = .agg new)
    (hi0 : (Tryz.prog.info? t).map (·.size) = some new.size) (h : Sem.run Tryz.prog (storeCells ⟨g, 0, none⟩ new.toList) w = .ok () w2) (hK : K (a.put o.dst undef) w2) : Oper.wp Tryz.prog o a w K Q := by
  obtain ⟨i0, hi, hsz⟩ := Option.map_eq_some_iff.1 hi0
  unfold Oper.wp
  have e : (execOp a.eval o).run Tryz.prog w = .ok .skip w2 := by
    unfold execOp
    rw [ho]
    simp [hx, hy, Instr.storeAt, Instr.sureAddr, storeVar, sizeOf, typeInfo, hi, hsz, Value.cells, h]
  rw [e]
  exact hK
structure KV (a b : World) : Prop where k : Kept a b
end Go.Proofs.YtnnmalpnjlnnlaaGreat
