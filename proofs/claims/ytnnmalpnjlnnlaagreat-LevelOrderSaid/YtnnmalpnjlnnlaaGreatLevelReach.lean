/-
  Package level in plain mathematics: a range that grows till nothing more of a level meets it.
-/
import Derived.Test.YtnnmalpnjlnnlaaGreatLevelSpec
namespace Go.Proofs.YtnnmalpnjlnnlaaGreat
set_option linter.unusedVariables false
set_option maxRecDepth 100000
namespace Lv
theorem le_tr {a b c : List UInt8} (h : le a b = true) (k : le b c = true) : le a c = true := by
  rw [le_iff] at *
  intro hc
  by_cases e : b < c
  · exact h (Mm.lt_trans e hc)
  · rw [← Mm.lt_total e k] at hc; exact h hc
theorem le_rf (a : List UInt8) : le a a = true := le_iff.2 (Mm.lt_irrefl a)
def meet (l : List Meta) (a b : List UInt8) : List Meta := l.filter fun m => mt m a b
/-- is a range within another one? -/
def wd (s t : List UInt8 × List UInt8) : Prop := le t.1 s.1 = true ∧ le s.2 t.2 = true
theorem wd_rf (s : List UInt8 × List UInt8) : wd s s := ⟨le_rf _, le_rf _⟩
theorem wd_tr {s t u : List UInt8 × List UInt8} (h : wd s t) (k : wd t u) : wd s u := ⟨le_tr k.1 h.1, le_tr h.2 k.2⟩
theorem over1_wd (s : List UInt8 × List UInt8) (m : Meta) : wd s (over1 s m) ∧ wd (m.first, m.last) (over1 s m) := by
  unfold over1 wd
  refine ⟨⟨?_, ?_⟩, ?_, ?_⟩
  · show le (if m.first < s.1 then m.first else s.1) s.1 = true
    split
    · rename_i h; exact le_iff.2 (fun k => Mm.lt_irrefl _ (Mm.lt_trans h k))
    · exact le_rf _
  · show le s.2 (if s.2 < m.last then m.last else s.2) = true
    split
    · rename_i h; exact le_iff.2 (fun k => Mm.lt_irrefl _ (Mm.lt_trans h k))
    · exact le_rf _
  · show le (if m.first < s.1 then m.first else s.1) m.first = true
    split
    · exact le_rf _
    · rename_i h; exact le_iff.2 h
  · show le m.last (if s.2 < m.last then m.last else s.2) = true
    split
    · exact le_rf _
    · rename_i h; exact le_iff.2 h
theorem over_wd : ∀ (l : List Meta) (s : List UInt8 × List UInt8), wd s (over s l)
  | [], s => wd_rf s
  | m :: l, s => wd_tr (over1_wd s m).1 (over_wd l (over1 s m))
theorem over_in : ∀ (l : List Meta) (s : List UInt8 × List UInt8) (m : Meta), m ∈ l → wd (m.first, m.last) (over s l)
  | m :: l, s, x, h => by
    rcases List.mem_cons.1 h with rfl | h
    · exact wd_tr (over1_wd s x).2 (over_wd l (over1 s x))
    · exact over_in l (over1 s m) x h
theorem over_same : ∀ (l : List Meta) (s : List UInt8 × List UInt8), (∀ m ∈ l, wd (m.first, m.last) s) → over s l = s
  | [], s, _ => rfl
  | m :: l, s, h => by
    have h1 := h m (by simp)
    have e : over1 s m = s := by
      unfold wd at h1
      rw [le_iff, le_iff] at h1
      unfold over1
      rw [if_neg h1.1, if_neg h1.2]
    show over (over1 s m) l = s
    rw [e]
    exact over_same l s (fun x hx => h x (List.mem_cons_of_mem _ hx))
theorem over_twice (l : List Meta) (s : List UInt8 × List UInt8) : over (over s l) l = over s l := over_same l _ (fun m hm => over_in l s m hm)
theorem mt_wd {s t : List UInt8 × List UInt8} (h : wd s t) {m : Meta} (k : mt m s.1 s.2 = true) : mt m t.1 t.2 = true := by
  unfold mt meets at *
  rw [Bool.and_eq_true] at *
  exact ⟨le_tr h.1 k.1, le_tr k.2 h.2⟩
theorem meet_wd {s t : List UInt8 × List UInt8} (h : wd s t) (l : List Meta) : meet l s.1 s.2 = (meet l t.1 t.2).filter fun m => mt m s.1 s.2 := by
  unfold meet
  rw [List.filter_filter]
  refine List.filter_congr (fun m _ => ?_)
  cases k : mt m s.1 s.2
  · rfl
  · rw [mt_wd h k]; rfl
theorem meet_more {s t : List UInt8 × List UInt8} (h : wd s t) (l : List Meta) : (meet l s.1 s.2).length ≤ (meet l t.1 t.2).length := by
  rw [meet_wd h l]; exact List.length_filter_le _ _
theorem meet_eq {s t : List UInt8 × List UInt8} (h : wd s t) (l : List Meta) (e : (meet l s.1 s.2).length = (meet l t.1 t.2).length) : meet l s.1 s.2 = meet l t.1 t.2 := by
  rw [meet_wd h l] at e ⊢
  exact List.filter_eq_self.2 (List.length_filter_eq_length_iff.1 e)
theorem meet_le (l : List Meta) (a b : List UInt8) : (meet l a b).length ≤ l.length := List.length_filter_le _ _
def lstep (l : List Meta) (s : List UInt8 × List UInt8) : List UInt8 × List UInt8 := over s (meet l s.1 s.2)
def msr (l : List Meta) (s : List UInt8 × List UInt8) : Nat := 2 * (l.length - (meet l s.1 s.2).length) + (if lstep l s = s then 0 else 1)
theorem msr_less {l : List Meta} {s : List UInt8 × List UInt8} (h : lstep l s ≠ s) : msr l (lstep l s) < msr l s := by
  have w : wd s (lstep l s) := over_wd _ _
  have h1 := meet_more w l
  have h2 := meet_le l (lstep l s).1 (lstep l s).2
  unfold msr
  rw [if_neg h]
  by_cases e : (meet l s.1 s.2).length = (meet l (lstep l s).1 (lstep l s).2).length
  · have e2 : lstep l (lstep l s) = lstep l s := by
      show over (lstep l s) (meet l (lstep l s).1 (lstep l s).2) = _
      rw [← meet_eq w l e]
      exact over_twice _ _
    rw [if_pos e2]
    omega
  · split <;> omega
/-- from a range on, step by step -/
inductive Rch (l : List Meta) : List UInt8 × List UInt8 → List UInt8 × List UInt8 → Prop
  | start (s) : Rch l s s
  | more {s t} : Rch l s t → Rch l s (lstep l t)
theorem Rch.wd {l : List Meta} {s t : List UInt8 × List UInt8} (h : Rch l s t) : wd s t := by
  induction h with
  | start => exact wd_rf _
  | more _ ih => exact wd_tr ih (over_wd _ _)
/-- the least range that has s and is met by nothing that isn't in it: two such are the same -/
theorem Rch.least {l : List Meta} {s t u : List UInt8 × List UInt8} (h : Rch l s t) (hu : Lv.wd s u) (fu : lstep l u = u) : Lv.wd t u := by
  induction h with
  | start => exact hu
  | @more t _ ih =>
    have hin : ∀ m ∈ meet l t.1 t.2, Lv.wd (m.first, m.last) u := fun m hm => by
      have hm' : m ∈ meet l u.1 u.2 := by
        unfold meet at hm ⊢
        rw [List.mem_filter] at *
        exact ⟨hm.1, mt_wd ih hm.2⟩
      have := over_in _ u m hm'
      rw [show over u (meet l u.1 u.2) = u from fu] at this
      exact this
    show Lv.wd (over t (meet l t.1 t.2)) u
    clear ‹Rch l s t› hu
    generalize meet l t.1 t.2 = L at hin
    induction L generalizing t with
    | nil => exact ih
    | cons m L ih2 =>
      refine ih2 (t := over1 t m) ?_ (fun x hx => hin x (List.mem_cons_of_mem _ hx))
      have h1 := hin m (by simp)
      unfold over1 Lv.wd
      refine ⟨?_, ?_⟩
      · show le u.1 (if m.first < t.1 then m.first else t.1) = true
        split
        · exact h1.1
        · exact ih.1
      · show le (if t.2 < m.last then m.last else t.2) u.2 = true
        split
        · exact h1.2
        · exact ih.2
/-- is a table of a level below k in a range? -/
def belw (t : Nat → List Meta) (k : Nat) (a b : List UInt8) : Bool := (List.range 4).any fun d => decide (k < d) && decide (0 < (meet (t d) a b).length)
theorem belw_iff {t : Nat → List Meta} {k : Nat} {a b : List UInt8} : belw t k a b = false ↔ ∀ d, k < d → d < 4 → (meet (t d) a b).length = 0 := by
  unfold belw
  rw [List.any_eq_false]
  constructor
  · intro h d h1 h2
    have := h d (List.mem_range.2 h2)
    simp [h1] at this
    simpa using this
  · intro h d hd
    have h2 := List.mem_range.1 hd
    by_cases h1 : k < d
    · simp [h1, h d h1 h2]
    · simp [h1]
end Lv
end Go.Proofs.YtnnmalpnjlnnlaaGreat
