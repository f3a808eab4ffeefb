/-
  A heap in plain mathematics: what a swap, a way up and a way down leave.
-/
import Derived.Test.YtpbhbgoaaephgaaMergeMath
namespace Go.Proofs.Ytpbhbgoaaephgaa
set_option linter.unusedVariables false
set_option maxRecDepth 100000
namespace Hp
variable {α : Type} {s : α → α → Bool}
/-- two places of a list, changed for each other -/
def sg (i j k : Nat) : Nat := if k = i then j else if k = j then i else k
def sw (l : List α) (i j : Nat) : List α := match l[i]?, l[j]? with
  | some x, some y => (l.set i y).set j x
  | _, _ => l
theorem sw_of {l : List α} {i j : Nat} {x y : α} (hx : l[i]? = some x) (hy : l[j]? = some y) : sw l i j = (l.set i y).set j x := by unfold sw; rw [hx, hy]
theorem sw_len (l : List α) (i j : Nat) : (sw l i j).length = l.length := by
  unfold sw; split <;> simp
theorem sw_get {l : List α} {i j : Nat} (hi : i < l.length) (hj : j < l.length) (k : Nat) : (sw l i j)[k]? = l[sg i j k]? := by
  rw [sw_of (List.getElem?_eq_getElem hi) (List.getElem?_eq_getElem hj)]
  unfold sg
  rw [List.getElem?_set, List.length_set]
  by_cases h1 : k = j
  · subst h1
    rw [if_pos rfl, if_pos hj]
    by_cases h2 : k = i
    · subst h2; rw [if_pos rfl, List.getElem?_eq_getElem hi]
    · rw [if_neg h2, if_pos rfl, List.getElem?_eq_getElem hi]
  · rw [if_neg (fun e => h1 e.symm), List.getElem?_set]
    by_cases h2 : k = i
    · subst h2; rw [if_pos rfl, if_pos hi, if_pos rfl, List.getElem?_eq_getElem hj]
    · rw [if_neg (fun e => h2 e.symm), if_neg h2, if_neg h1]
theorem sw_perm (l : List α) (i j : Nat) : (sw l i j).Perm l := by
  unfold sw
  split
  · rename_i x y hx hy
    obtain ⟨hi, rfl⟩ := List.getElem?_eq_some_iff.1 hx
    obtain ⟨hj, rfl⟩ := List.getElem?_eq_some_iff.1 hy
    have h := Array.swap_perm (xs := l.toArray) (i := i) (j := j) (by simpa using hi) (by simpa using hj)
    have h2 : ((l.toArray).swap i j (by simpa using hi) (by simpa using hj)).toList.Perm l := by
      have := h.toList; simpa using this
    have h3 : ((l.toArray).swap i j (by simpa using hi) (by simpa using hj)).toList = (l.set i l[j]).set j l[i] := by
      simp [Array.swap]
    rw [h3] at h2
    exact h2
  · exact List.Perm.refl _
/-- each one is level with, or behind, the one above it, but maybe the one at i -/
structure Up (s : α → α → Bool) (l : List α) (i : Nat) : Prop where
  ord : ∀ (j : Nat) (x y : α), 0 < j → j ≠ i → l[j]? = some x → l[(j - 1) / 2]? = some y → s x y = false
  kid : ∀ (j : Nat) (x y : α), 0 < j → 0 < i → (j - 1) / 2 = i → l[j]? = some x → l[(i - 1) / 2]? = some y → s x y = false
def Is (s : α → α → Bool) (l : List α) : Prop := ∀ (j : Nat) (x y : α), 0 < j → l[j]? = some x → l[(j - 1) / 2]? = some y → s x y = false
structure Down (s : α → α → Bool) (l : List α) (i : Nat) : Prop where
  ord : ∀ (j : Nat) (x y : α), 0 < j → (j - 1) / 2 ≠ i → l[j]? = some x → l[(j - 1) / 2]? = some y → s x y = false
  kid : ∀ (j : Nat) (x y : α), 0 < j → 0 < i → (j - 1) / 2 = i → l[j]? = some x → l[(i - 1) / 2]? = some y → s x y = false
theorem Is.push {l : List α} (h : Is s l) (x : α) : Up s (l ++ [x]) l.length := by
  refine ⟨fun j a b hj hne ha hb => ?_, fun j a b hj hi he ha hb => ?_⟩
  · have hjl : j < l.length := by have := (List.getElem?_eq_some_iff.1 ha).1; simp at this; omega
    rw [List.getElem?_append_left hjl] at ha
    rw [List.getElem?_append_left (by omega)] at hb
    exact h j a b hj ha hb
  · have := (List.getElem?_eq_some_iff.1 ha).1; simp at this; omega
theorem Up.zero {l : List α} (h : Up s l 0) : Is s l := fun j x y hj hx hy => h.ord j x y hj (by omega) hx hy
theorem Up.stop {l : List α} {i : Nat} (h : Up s l i) (hi : 0 < i) {x y : α} (hx : l[i]? = some x) (hy : l[(i - 1) / 2]? = some y) (hs : s x y = false) : Is s l := fun j a b hj ha hb => by
  by_cases e : j = i
  · subst e; rw [hx] at ha; rw [hy] at hb; cases ha; cases hb; exact hs
  · exact h.ord j a b hj e ha hb
section
variable (asym : ∀ {x y : α}, s x y = true → s y x = false) (nt : ∀ {x y z : α}, s y x = false → s z y = false → s z x = false)
include asym nt
theorem Up.swap {l : List α} {i : Nat} (h : Up s l i) (hi : 0 < i) {x a : α} (hx : l[i]? = some x) (ha : l[(i - 1) / 2]? = some a) (hs : s x a = true) : Up s (sw l i ((i - 1) / 2)) ((i - 1) / 2) := by
  have hil := (List.getElem?_eq_some_iff.1 hx).1
  have hpl := (List.getElem?_eq_some_iff.1 ha).1
  have hg := sw_get hil hpl
  have hax := asym hs
  generalize hp : (i - 1) / 2 = p at *
  have hpi : p ≠ i := by omega
  refine ⟨fun j u v hj hne hu hv => ?_, fun j u v hj hp0 he hu hv => ?_⟩
  · rw [hg] at hu hv
    unfold sg at hu hv
    rw [if_neg hne] at hu
    by_cases e1 : j = i
    · rw [if_pos e1, ha] at hu
      rw [e1, hp, if_neg hpi, if_pos rfl, hx] at hv
      cases hu; cases hv; exact hax
    · rw [if_neg e1] at hu
      by_cases e2 : (j - 1) / 2 = i
      · rw [if_pos e2, ha] at hv
        cases hv
        exact h.kid j u a hj hi e2 hu (by rw [hp]; exact ha)
      · rw [if_neg e2] at hv
        by_cases e3 : (j - 1) / 2 = p
        · rw [if_pos e3, hx] at hv
          cases hv
          exact nt hax (h.ord j u a hj e1 hu (by rw [e3]; exact ha))
        · rw [if_neg e3] at hv
          exact h.ord j u v hj e1 hu hv
  · rw [hg] at hu hv
    unfold sg at hu hv
    rw [if_neg (show (p - 1) / 2 ≠ i by omega), if_neg (show (p - 1) / 2 ≠ p by omega)] at hv
    have hva : s a v = false := h.ord p a v hp0 hpi ha hv
    rw [if_neg (show j ≠ p by omega)] at hu
    by_cases e1 : j = i
    · rw [if_pos e1, ha] at hu; cases hu; exact hva
    · rw [if_neg e1] at hu
      exact nt hva (h.ord j u a hj e1 hu (by rw [he]; exact ha))
end
theorem Down.swap {l : List α} {i b : Nat} (h : Down s l i) (hb : b = 2 * i + 1 ∨ b = 2 * i + 2) {x y : α} (hx : l[i]? = some x) (hy : l[b]? = some y)
    (hbest : ∀ c u, (c = i ∨ c = 2 * i + 1 ∨ c = 2 * i + 2) → l[c]? = some u → s u y = false) : Down s (sw l i b) b := by
  have hil := (List.getElem?_eq_some_iff.1 hx).1
  have hbl := (List.getElem?_eq_some_iff.1 hy).1
  have hg := sw_get hil hbl
  refine ⟨fun j u v hj hne hu hv => ?_, fun j u v hj hb0 he hu hv => ?_⟩
  · rw [hg] at hu hv
    unfold sg at hu hv
    rw [if_neg hne] at hv
    by_cases e1 : j = b
    · have e2 : (j - 1) / 2 = i := by omega
      rw [if_neg (show j ≠ i by omega), if_pos e1, hx] at hu
      rw [if_pos e2, hy] at hv
      cases hu; cases hv
      exact hbest i x (.inl rfl) hx
    · by_cases e2 : j = i
      · have e3 : (j - 1) / 2 ≠ i := by omega
        rw [if_pos e2, hy] at hu
        rw [if_neg e3] at hv
        cases hu
        exact h.kid b y v (by omega) (by omega) (by omega) hy (by rw [← e2]; exact hv)
      · rw [if_neg e2, if_neg e1] at hu
        by_cases e3 : (j - 1) / 2 = i
        · rw [if_pos e3, hy] at hv
          cases hv
          exact hbest j u (by omega) hu
        · rw [if_neg e3] at hv
          exact h.ord j u v hj e3 hu hv
  · rw [hg] at hu hv
    unfold sg at hu hv
    have e1 : (b - 1) / 2 = i := by omega
    rw [if_pos e1, hy] at hv
    cases hv
    rw [if_neg (show j ≠ i by omega), if_neg (show j ≠ b by omega)] at hu
    exact h.ord j u y hj (by omega) hu (by rw [he]; exact hy)
theorem Is.top (nt : ∀ {x y z : α}, s y x = false → s z y = false → s z x = false) {l : List α} (h : Is s l) {r : α} (h0 : l[0]? = some r) (hir : ∀ x : α, s x x = false) : ∀ (j : Nat) (x : α), l[j]? = some x → s x r = false := fun j => by
  induction j using Nat.strongRecOn with
  | ind j ih =>
    intro x hx
    by_cases hj : j = 0
    · subst hj; rw [h0] at hx; cases hx; exact hir _
    · have hlt := (List.getElem?_eq_some_iff.1 hx).1
      have hy : l[(j - 1) / 2]? = some l[(j - 1) / 2] := List.getElem?_eq_getElem (by omega)
      exact nt (ih ((j - 1) / 2) (by omega) _ hy) (h j x _ (by omega) hx hy)
theorem Down.stop {l : List α} {i : Nat} (h : Down s l i) {x : α} (hx : l[i]? = some x) (hbest : ∀ c u, (c = i ∨ c = 2 * i + 1 ∨ c = 2 * i + 2) → l[c]? = some u → s u x = false) : Is s l := fun j a b hj ha hb => by
  by_cases e : (j - 1) / 2 = i
  · rw [e, hx] at hb; cases hb
    exact hbest j a (by omega) ha
  · exact h.ord j a b hj e ha hb
theorem Is.pop {l : List α} (h : Is s l) {n : Nat} (hn : l.length = n + 1) : Down s ((sw l 0 n).take n) 0 := by
  refine ⟨fun j x y hj hne hx hy => ?_, fun j x y hj h0 => absurd h0 (by omega)⟩
  have hjn : j < n := by
    have := (List.getElem?_eq_some_iff.1 hx).1
    rw [List.length_take, sw_len] at this; omega
  rw [List.getElem?_take, if_pos (by omega), sw_get (by omega) (by omega)] at hx hy
  unfold sg at hx hy
  rw [if_neg (by omega), if_neg (by omega)] at hx
  rw [if_neg hne, if_neg (by omega)] at hy
  exact h j x y hj hx hy
theorem pop_perm {l : List α} {n : Nat} (hn : l.length = n + 1) {r : α} (h0 : l[0]? = some r) : (r :: (sw l 0 n).take n).Perm l := by
  have h1 : (sw l 0 n) = (sw l 0 n).take n ++ [r] := by
    conv => lhs; rw [← List.take_append_drop n (sw l 0 n)]
    congr 1
    have hr : (sw l 0 n)[n]? = some r := by
      rw [sw_get (by omega) (by omega)]
      unfold sg
      by_cases e : n = 0
      · subst e; rw [if_pos rfl]; exact h0
      · rw [if_neg e, if_pos rfl]; exact h0
    rw [List.drop_eq_getElem?_toList_append, hr, List.drop_eq_nil_of_le (by rw [sw_len]; omega)]; rfl
  refine List.Perm.trans ?_ (sw_perm l 0 n)
  conv => rhs; rw [h1]
  exact List.perm_append_comm (l₁ := [r])
end Hp
end Go.Proofs.Ytpbhbgoaaephgaa
