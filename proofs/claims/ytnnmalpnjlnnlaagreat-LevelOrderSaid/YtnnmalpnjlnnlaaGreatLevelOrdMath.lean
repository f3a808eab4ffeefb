/-
  Statement LevelOrder: what holds of a good version's lists, in the law's order of looking.
-/
import Derived.Test.YtnnmalpnjlnnlaaGreatNumSet
namespace Go.Proofs.YtnnmalpnjlnnlaaGreat
open Go.ChangeShapes Go.WideShapes Go.ChangeAt Go.RowKit
set_option linter.unusedVariables false
set_option maxRecDepth 100000
set_option maxHeartbeats 1000000
open Lv
theorem ord_nodup {U : Nat → Lvl} : ∀ {m k : Nat}, k ≤ m → (fls U m).Nodup → (fls U k).Nodup
  | 0, k, h, hn => by obtain rfl : k = 0 := by omega
                      exact hn
  | m + 1, k, h, hn => by
    by_cases e : k = m + 1
    · subst e; exact hn
    · rw [fls_succ] at hn
      exact ord_nodup (by omega) (List.nodup_append.1 hn).1
theorem ord_take {l : List Meta} {j : Nat} {x : Meta} (hx : l[j]? = some x) : l = l.take j ++ x :: l.drop (j + 1) := by
  obtain ⟨hj, rfl⟩ := List.getElem?_eq_some_iff.1 hx
  rw [List.getElem_cons_drop, List.take_append_drop]
/-- a list's file has not been seen before -/
theorem ord_once {U : Nat → Lvl} {k : Nat} (hk : k < 4) (hn : (fls U 4).Nodup) {j : Nat} {x : Meta} (hx : (U k).l[j]? = some x) : x.file ∉ fls U k ++ ((U k).l.take j).map Meta.file := by
  have h1 := ord_nodup (show k + 1 ≤ 4 by omega) hn
  rw [fls_succ, ord_take hx, List.map_append, ← List.append_assoc] at h1
  intro hc
  exact (List.nodup_append.1 h1).2.2 _ hc _ (by simp) rfl
theorem ord_step {U : Nat → Lvl} {k j : Nat} {x : Meta} (hx : (U k).l[j]? = some x) : (fls U k ++ ((U k).l.take j).map Meta.file) ++ [x.file] = fls U k ++ ((U k).l.take (j + 1)).map Meta.file := by
  rw [List.take_add_one, hx, List.map_append, List.append_assoc]; rfl
theorem ord_pair {α : Type} {R : α → α → Prop} {l : List α} (h : l.Pairwise R) {j : Nat} {a b : α} (ha : l[j]? = some a) (hb : l[j + 1]? = some b) : R a b := by
  obtain ⟨h1, rfl⟩ := List.getElem?_eq_some_iff.1 ha
  obtain ⟨h2, rfl⟩ := List.getElem?_eq_some_iff.1 hb
  exact List.pairwise_iff_getElem.1 h j (j + 1) h1 h2 (by omega)
theorem ord_top {V : Ver} (g : Lv.Good V) {j : Nat} {a b : Meta} (ha : (V.t 0)[j]? = some a) (hb : (V.t 0)[j + 1]? = some b) : b.file < a.file := by
  have h1 := ord_pair (g.srt 0 (by omega)) ha hb
  have hn := g.once
  rw [fl_four] at hn
  have h2 := (List.nodup_append.1 hn).1
  have h3 := ord_pair (List.pairwise_map.1 h2) ha hb
  unfold bef at h1
  simp only [beq_self_eq_true, if_true, decide_eq_false_iff_not] at h1
  have h4 : a.file ≠ b.file := h3
  omega
theorem ord_low {V : Ver} (g : Lv.Good V) {k : Nat} (hk : k < 4) (h1 : 1 ≤ k) {j : Nat} {a b : Meta} (ha : (V.t k)[j]? = some a) (hb : (V.t k)[j + 1]? = some b) : a.last < b.first := by
  have h2 := ord_pair (g.srt k hk) ha hb
  have h3 := ord_pair (g.apart k hk h1) ha hb
  have hm := may_le (g.may k hk b (List.mem_of_getElem? hb))
  have hk0 : (k == 0) = false := by simp; omega
  rw [hk0] at h2
  unfold bef at h2
  simp only [Bool.false_eq_true, if_false, decide_eq_false_iff_not] at h2
  have h4 : le a.first b.last = true := le_iff.2 (fun hc => by
    have h5 := le_iff.1 hm
    by_cases h6 : b.first < b.last
    · exact h2 (Mm.lt_trans h6 hc)
    · rw [← Mm.lt_total h6 h5] at hc
      exact h2 hc)
  unfold mm meets at h3
  rw [h4, Bool.and_true] at h3
  rw [le_not] at h3
  simpa using h3
/-- what is not gone is still there -/
theorem ord_stay {T U : Nat → Lvl} {V : Ver} {E : Edt} (hV : ∀ l, V.t l = (T l).l) (hU : ∀ l, l < 4 → (U l).l = res V E l) {y : Nat} (hy : y ∈ fls T 4) (hg : y ∉ E.gone) : y ∈ fls U 4 := by
  rw [fls_lists (L := fun l => (T l).l) (fun l _ => rfl)] at hy
  rw [fls_lists hU]
  obtain ⟨l, hl, m, hm, rfl⟩ := mem_fl.1 hy
  refine mem_fl.2 ⟨l, hl, m, ?_, rfl⟩
  rw [(res_perm V E l).mem_iff, List.mem_append, stay_mem]
  exact .inl ⟨by rw [hV]; exact hm, hg⟩
theorem ord_mem {T : Nat → Lvl} {nx lg sq : Nat} (g : Lv.Good (verV T nx lg sq)) {y : Nat} (hy : y ∈ fls T 4) : y ≤ 18446744073709551615 := by
  rw [fls_lists (L := fun l => (T l).l) (fun l _ => rfl)] at hy
  obtain ⟨l, hl, m, hm, rfl⟩ := mem_fl.1 hy
  have h1 := g.num l hl m hm
  have h2 := g.nx
  dsimp only [verV] at h1 h2
  omega
theorem ord_gone {T : Nat → Lvl} {nx lg sq : Nat} {E : Edt} (g : Lv.Good (verV T nx lg sq)) (h : code (verV T nx lg sq) E = 0) {n : Nat} (hn : n ∈ E.gone) : n ≤ 18446744073709551615 := by
  obtain ⟨_, h2, _⟩ := code_ok h
  unfold takes at h2
  rw [decide_eq_true_iff] at h2
  refine ord_mem g (y := n) ?_
  rw [fls_lists (L := fun l => (T l).l) (fun l _ => rfl)]
  exact h2.2 n hn
theorem okept_store {w wr w8 w9 : World} {q : Nat} (h : Kept w wr) (k : Kept wr w8) (g : w8.grownBy w9 (some q)) (hq : w.heap.size ≤ q) : Kept w w9 := by
  have h8 := kept_trans h k
  refine Below.trans h8 ⟨g.os, g.tape, g.output, g.size, fun i hi => g.block i (by have := Below.size h8; omega) (fun e => by cases e; omega)⟩
theorem own_other {w w' : World} {b : Nat} (g : w.grownBy w' (some b)) {B e size n : Nat} {v : Value} {xs : List Value} (h : w.ownsRow B e size v n xs) (hb : b < B) : w'.ownsRow B e size v n xs :=
  h.kept g (by have := own_ne_old h hb; cases hv : v.ownBlock with | none => exact .inl rfl | some c => exact .inr (by rw [hv] at this; exact this))
end Go.Proofs.YtnnmalpnjlnnlaaGreat
