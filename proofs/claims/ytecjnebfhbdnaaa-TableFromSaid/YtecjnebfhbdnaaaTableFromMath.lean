/-
  Entries from a key on, in plain mathematics.
-/
import Derived.Test.YtecjnebfhbdnaaaTableArgs
import Derived.Test.YtecjnebfhbdnaaaTableEnds
namespace Go.Proofs.Ytecjnebfhbdnaaa
open Go.ChangeShapes Go.WideShapes Go.ChangeAt Go.RowKit
set_option linter.unusedVariables false
set_option maxRecDepth 100000

theorem te_cells {W : World} {b o : Nat} {l : List Mm.Ent} (h : Els W (some ⟨b, o, none⟩) l) {i j : Nat} {x : Mm.Ent} (hx : l[i]? = some x) (hj : j = o + i * 4) (W' : World) (g : Kept W W') : W'.cell? ⟨b, j, none⟩ = some (.string (bs x.key)) ∧ W'.cell? ⟨b, j + 1, none⟩ = some (.int .u64 (x.seq : Nat)) ∧ W'.cell? ⟨b, j + 2, none⟩ = some (.bool x.del) ∧ W'.cell? ⟨b, j + 3, none⟩ = some (.string (bs x.val)) := by
  obtain ⟨b', o', e, hb, c0, c1, c2, c3⟩ := h i x hx
  cases e
  rw [← hj] at c0 c1 c2 c3
  exact ⟨(kept_cell g hb).trans c0, (kept_cell g hb).trans c1, (kept_cell g hb).trans c2, (kept_cell g hb).trans c3⟩
theorem tf_drop {w : World} {b o : Nat} {l : List Mm.Ent} (h : Els w (some ⟨b, o, none⟩) l) (i : Nat) : Els w (some ⟨b, o + i * 4, none⟩) (l.drop i) := fun j x hx => by
  rw [List.getElem?_drop] at hx
  obtain ⟨b', o', e, hb, c0, c1, c2, c3⟩ := h (i + j) x hx
  cases e
  rw [show o + (i + j) * 4 = o + i * 4 + j * 4 by omega] at c0 c1 c2 c3
  exact ⟨b, _, rfl, hb, c0, c1, c2, c3⟩
theorem tf_take {w : World} {A : Option Addr} {l : List Mm.Ent} (h : Els w A l) (i : Nat) : Els w A (l.take i) := fun j x hx => by
  rw [List.getElem?_take] at hx
  split at hx
  · exact h j x hx
  · cases hx
theorem tf_nil {w : World} (A : Option Addr) : Els w A [] := fun j x hx => by simp at hx
/-- what comes from a key on is the rest of the row -/
theorem tf_frm {l : List Mm.Ent} (hT : Tb.isT l = true) {k : List UInt8} {K N : Nat} (h1 : ∀ i x, i < K → l[i]? = some x → x.key < k) (h2 : ∀ x, l[K]? = some x → ¬ x.key < k) : Tb.frm l k N = (l.drop K).take N := by
  unfold Tb.frm
  congr 1
  conv => lhs; rw [← List.take_append_drop K l]
  rw [List.filter_append, List.filter_eq_nil_iff.2, List.nil_append, List.filter_eq_self.2]
  · intro x hx
    obtain ⟨j, hj⟩ := List.getElem?_of_mem hx
    rw [List.getElem?_drop] at hj
    have hr := Mg.row_iff.1 (Tb.isT_iff.1 hT).2.2.2
    unfold Tb.keyP
    have : ¬ x.key < k := by
      by_cases h0 : j = 0
      · rw [h0, Nat.add_zero] at hj; exact h2 x hj
      · obtain ⟨y, hy⟩ : ∃ y, l[K]? = some y := ⟨_, List.getElem?_eq_getElem (by have := (List.getElem?_eq_some_iff.1 hj).1; omega)⟩
        have hab := hr.lt hy hj (by omega)
        have hny := h2 y hy
        rcases Mg.ab_iff.1 hab with q | ⟨q, _⟩
        · exact fun c => hny (List.lt_trans q c)
        · rw [← q]; exact hny
    rw [decide_eq_false this]; rfl
  · intro x hx
    obtain ⟨j, hj⟩ := List.getElem?_of_mem hx
    rw [List.getElem?_take] at hj
    split at hj
    · rename_i hlt
      have := h1 j x hlt hj
      unfold Tb.keyP
      rw [decide_eq_true this]; simp
    · cases hj
theorem tf_cut (l : List Mm.Ent) (K m N : Nat) (h : m = min N (l.length - K)) : (l.drop K).take m = (l.drop K).take N := by
  subst h
  by_cases c : N ≤ l.length - K
  · rw [Nat.min_eq_left c]
  · rw [Nat.min_eq_right (by omega), List.take_of_length_le (by rw [List.length_drop]; omega), List.take_of_length_le (by rw [List.length_drop]; omega)]
structure KF (a b : World) : Prop where
  k : Kept a b
end Go.Proofs.Ytecjnebfhbdnaaa
