/-
  What the laws of layer 7 need of tables, in plain mathematics.
-/
import Derived.Test.YtpbhbgoaaephgaaMemMath
namespace Go.Proofs.Ytpbhbgoaaephgaa
set_option linter.unusedVariables false
set_option maxRecDepth 100000
namespace Mm
/-- is an entry of a key, up to a number? -/
def mt (k : List UInt8) (s : Nat) (x : Ent) : Bool := decide (x.key = k) && decide (x.seq ≤ s)
theorem mt_iff {k : List UInt8} {s : Nat} {x : Ent} : mt k s x = true ↔ x.key = k ∧ x.seq ≤ s := by simp [mt]
theorem mt_ahead {k : List UInt8} {s : Nat} {x : Ent} (h : x.ah k s = true) : mt k s x = false := by
  rw [Bool.eq_false_iff, ne_eq, mt_iff]
  rintro ⟨h1, h2⟩
  unfold Ent.ah at h
  rw [ahd_iff] at h
  rcases h with h | h
  · rw [h1] at h; exact lt_irrefl _ h
  · omega
theorem entsA (T : List Tv) (k : List UInt8) (s : Nat) : ents (A T k s) = (ents T).takeWhile (fun e => e.ah k s) := by
  unfold ents A; rw [List.takeWhile_map]; rfl
theorem entsZ (T : List Tv) (k : List UInt8) (s : Nat) : ents (Z T k s) = (ents T).dropWhile (fun e => e.ah k s) := by
  unfold ents Z; rw [List.dropWhile_map]; rfl
theorem ents_len (T : List Tv) : (ents T).length = T.length := by simp [ents]
theorem hts_len (T : List Tv) : (hts T).length = T.length := by simp [hts]
theorem ents_at {T : List Tv} {i : Nat} {x : Tv} (h : T[i]? = some x) : (ents T)[i]? = some x.1 := by unfold ents; rw [List.getElem?_map, h]; rfl
theorem at_ents {T : List Tv} {i : Nat} {e : Ent} (h : (ents T)[i]? = some e) : ∃ x, T[i]? = some x ∧ x.1 = e := by
  unfold ents at h
  rw [List.getElem?_map, Option.map_eq_some_iff] at h
  exact h
theorem Good.before {T : List Tv} (g : Good T) {i j : Nat} {x y : Ent} (hij : i < j) (hx : (ents T)[i]? = some x) (hy : (ents T)[j]? = some y) : ahd x.key x.seq y.key y.seq = true := by
  obtain ⟨a, ha, rfl⟩ := at_ents hx
  obtain ⟨b, hb, rfl⟩ := at_ents hy
  have h1 := (List.getElem?_eq_some_iff.1 ha)
  have h2 := (List.getElem?_eq_some_iff.1 hb)
  obtain ⟨h3, rfl⟩ := h1
  obtain ⟨h4, rfl⟩ := h2
  exact List.pairwise_iff_getElem.1 g.rise i j h3 h4 hij
theorem get_find {T : List Tv} (g : Good T) (k : List UInt8) (s : Nat) : get T k s = (ents T).find? (mt k s) := by
  have e : ents T = ents (A T k s) ++ ents (Z T k s) := by conv => lhs; rw [← AZ T k s]
                                                           simp [ents]
  have h1 : (ents (A T k s)).find? (mt k s) = none := by
    rw [List.find?_eq_none]
    intro x hx
    obtain ⟨y, hy, rfl⟩ := List.mem_map.1 hx
    rw [mt_ahead (A_ah y hy)]; simp
  rw [e, List.find?_append, h1, Option.none_or]
  unfold get
  cases hz : Z T k s with
  | nil => rfl
  | cons z r =>
    have hza := Z_head hz
    have hr := g.right k s
    rw [hz] at hr
    simp only [ents, List.map_cons, List.find?_cons]
    by_cases hk : z.1.key = k
    · have hs : mt k s z.1 = true := by
        rw [mt_iff]
        refine ⟨hk, Nat.le_of_not_lt fun hc => ?_⟩
        have : ahT k s z = true := by unfold ahT Ent.ah; rw [ahd_iff]; exact .inr ⟨hk, hc⟩
        rw [hza] at this; cases this
      rw [hs, if_pos hk]
    · have hs : mt k s z.1 = false := by rw [Bool.eq_false_iff, ne_eq, mt_iff]; exact fun c => hk c.1
      rw [hs, if_neg hk]
      symm
      simp only
      rw [List.find?_eq_none]
      intro x hx
      obtain ⟨y, hy, rfl⟩ := List.mem_map.1 hx
      have hzy := (List.pairwise_cons.1 hr).1 y hy
      have hkz : k < z.1.key := Classical.byContradiction fun hc => hk (lt_total (fun h => by
        have : ahT k s z = true := by unfold ahT Ent.ah; rw [ahd_iff]; exact .inl h
        rw [hza] at this; cases this) hc)
      have hky : k < y.1.key := by
        rw [ahd_iff] at hzy
        rcases hzy with h | h
        · exact lt_trans hkz h
        · rw [← h.1]; exact hkz
      rw [mt_iff]
      rintro ⟨h5, _⟩
      rw [h5] at hky
      exact lt_irrefl _ hky
/-- the first of some entries that is of a key, up to a number -/
def bst (k : List UInt8) (s : Nat) (E : List Ent) : Option Ent := E.find? (mt k s)
theorem bst_step {k : List UInt8} {s : Nat} {E : List Ent} {i : Nat} {y : Ent} (h : E[i]? = some y) : bst k s (E.take (i + 1)) = ((bst k s (E.take i)).or (if mt k s y then some y else none)) := by
  unfold bst
  rw [List.take_add_one, h, List.find?_append]
  cases hm : mt k s y <;> simp [hm]
theorem bst_newer {T : List Tv} (g : Good T) {k : List UInt8} {s : Nat} {i : Nat} {y b : Ent} (h : (ents T)[i]? = some y) (hb : bst k s ((ents T).take i) = some b) (hk : y.key = k) : y.seq < b.seq := by
  unfold bst at hb
  have h1 := List.find?_some hb
  obtain ⟨hbk, _⟩ := mt_iff.1 h1
  obtain ⟨j, hj⟩ := List.getElem?_of_mem (List.mem_of_find?_eq_some hb)
  rw [List.getElem?_take] at hj
  split at hj
  · rename_i hji
    have := g.before hji hj h
    rw [ahd_iff] at this
    rcases this with h2 | h2
    · rw [hbk, hk] at h2; exact absurd h2 (lt_irrefl _)
    · exact h2.2
  · cases hj
/-- an entry's key is ahead of a key just if it is less: no entry has a greater number -/
theorem Good.aht {T : List Tv} (g : Good T) (k : List UInt8) {x : Tv} (hx : x ∈ T) : ahT k 1099511627776 x = decide (x.1.key < k) := by
  have h1 := may_iff.1 (g.may x hx)
  unfold ahT Ent.ah ahd
  split
  · rename_i h
    rw [decide_eq_false (show ¬ 1099511627776 < x.1.seq by omega), decide_eq_false (show ¬ x.1.key < k by rw [h]; exact lt_irrefl _)]
  · rfl
theorem dropWhile_congr {α : Type} {p q : α → Bool} : ∀ {l : List α}, (∀ x ∈ l, p x = q x) → l.dropWhile p = l.dropWhile q
  | [], _ => rfl
  | x :: l, h => by
    rw [List.dropWhile_cons, List.dropWhile_cons, h x List.mem_cons_self, dropWhile_congr (fun y hy => h y (List.mem_cons_of_mem _ hy))]
theorem Good.from {T : List Tv} (g : Good T) (k : List UInt8) : ents (Z T k 1099511627776) = (ents T).dropWhile (fun e => decide (e.key < k)) := by
  rw [entsZ]
  refine dropWhile_congr fun e he => ?_
  obtain ⟨x, hx, rfl⟩ := List.mem_map.1 he
  exact g.aht k hx
theorem drop_first {p : Ent → Bool} : ∀ {E : List Ent} {j : Nat}, (∀ i x, i < j → E[i]? = some x → p x = true) → (∀ x, E[j]? = some x → p x = false) → E.dropWhile p = E.drop j
  | [], j, _, _ => by simp
  | x :: E, 0, _, h2 => by rw [List.dropWhile_cons, h2 x rfl]; rfl
  | x :: E, j + 1, h1, h2 => by
    rw [List.dropWhile_cons, h1 0 x (by omega) rfl]
    simp only [if_true, List.drop_succ_cons]
    exact drop_first (fun i y hi hy => h1 (i + 1) y (by omega) (by simpa using hy)) (fun y hy => h2 y (by simpa using hy))
/-- entries from a key on, one by one -/
theorem Good.cnt {T : List Tv} (g : Good T) (k : List UInt8) (s : Nat) : ((ents T).filter (fun e => e.ah k s)).length = (A T k s).length := by
  have e : ents T = ents (A T k s) ++ ents (Z T k s) := by conv => lhs; rw [← AZ T k s]
                                                           simp [ents]
  rw [e, List.filter_append, List.length_append]
  have h1 : (ents (A T k s)).filter (fun e => e.ah k s) = ents (A T k s) := by
    rw [List.filter_eq_self]
    intro x hx
    obtain ⟨y, hy, rfl⟩ := List.mem_map.1 hx
    exact A_ah y hy
  have h2 : (ents (Z T k s)).filter (fun e => e.ah k s) = [] := by
    rw [List.filter_eq_nil_iff]
    intro x hx
    obtain ⟨y, hy, rfl⟩ := List.mem_map.1 hx
    have := g.Z_not y hy
    unfold ahT at this
    simp [this]
  rw [h1, h2, ents_len]; rfl
theorem cnt_step {p : Ent → Bool} {E : List Ent} {i : Nat} {y : Ent} (h : E[i]? = some y) : ((E.take (i + 1)).filter p).length = ((E.take i).filter p).length + (if p y then 1 else 0) := by
  rw [List.take_add_one, h, List.filter_append, List.length_append]
  cases hp : p y <;> simp [hp]
theorem cnt_le {p : Ent → Bool} {E : List Ent} (i : Nat) : ((E.take i).filter p).length ≤ E.length := Nat.le_trans (List.length_filter_le _ _) (by rw [List.length_take]; omega)
theorem A_sub {T : List Tv} {k : List UInt8} {s : Nat} {x : Tv} (h : x ∈ A T k s) : x ∈ T := by rw [← AZ T k s]; exact List.mem_append.2 (.inl h)
theorem A_len_le (T : List Tv) (k : List UInt8) (s : Nat) : (A T k s).length ≤ T.length := by
  conv => rhs; rw [← AZ T k s]
  simp
theorem steps_le (T : List Tv) (k : List UInt8) (s : Nat) : stp 0 (hts (A T k s)) ≤ (A T k s).length := by
  have := stp_le 0 (hts (A T k s)); rw [hts_len] at this; exact this
theorem Good.steps_pos {T : List Tv} (g : Good T) (k : List UInt8) (s : Nat) (h : (A T k s) ≠ []) : 1 ≤ stp 0 (hts (A T k s)) :=
  stp_pos (fun x hx => by obtain ⟨y, hy, rfl⟩ := List.mem_map.1 hx; exact g.low y (A_sub hy)) (by simpa [hts] using h)
theorem steps_all {T : List Tv} {c : Nat} (hc : 1 ≤ c) (h : ∀ x ∈ T, x.2 = c) (k : List UInt8) (s : Nat) : stp 0 (hts (A T k s)) = (A T k s).length := by
  rw [stp_all hc (fun x hx => by obtain ⟨y, hy, rfl⟩ := List.mem_map.1 hx; exact h y (A_sub hy)), hts_len]
/-- heights are as they are put -/
theorem put_high {T : List Tv} {c : Nat} (h : ∀ x ∈ T, x.2 = c) (e : Ent) : ∀ x ∈ put T e (c : Nat), x.2 = c := fun x hx => by
  by_cases hc : code T e (c : Nat) = 0
  · rw [put_mem hc] at hx
    rcases hx with rfl | hx
    · rfl
    · exact h x hx
  · rw [put_no hc] at hx; exact h x hx
theorem has_ents {T U : List Tv} (h : ents T = ents U) (k : List UInt8) (s : Nat) : has T k s = has U k s := by
  have e : ents (Z T k s) = ents (Z U k s) := by rw [entsZ, entsZ, h]
  unfold has
  cases h1 : Z T k s with
  | nil =>
    cases h2 : Z U k s with
    | nil => rfl
    | cons y r => rw [h1, h2] at e; simp [ents] at e
  | cons x r =>
    cases h2 : Z U k s with
    | nil => rw [h1, h2] at e; simp [ents] at e
    | cons y r' =>
      rw [h1, h2] at e
      simp only [ents, List.map_cons, List.cons.injEq] at e
      simp only [e.1]
theorem get_ents {T U : List Tv} (g : Good T) (g' : Good U) (h : ents T = ents U) (k : List UInt8) (s : Nat) : get T k s = get U k s := by rw [get_find g, get_find g', h]
theorem code_ents {T U : List Tv} (h : ents T = ents U) (e : Ent) {a b : Int} (ha : 1 ≤ a ∧ a ≤ 8) (hb : 1 ≤ b ∧ b ≤ 8) : code T e a = code U e b := by
  unfold code
  rw [if_neg (show ¬ (a < 1 ∨ 8 < a) by omega), if_neg (show ¬ (b < 1 ∨ 8 < b) by omega), has_ents h]
theorem put_ents {T U : List Tv} (h : ents T = ents U) (e : Ent) {a b : Int} (ha : 1 ≤ a ∧ a ≤ 8) (hb : 1 ≤ b ∧ b ≤ 8) : ents (put T e a) = ents (put U e b) := by
  have hc := code_ents h e ha hb
  by_cases c : code T e a = 0
  · rw [put_yes c, put_yes (hc ▸ c)]
    have e1 : ents (A T e.key e.seq) = ents (A U e.key e.seq) := by rw [entsA, entsA, h]
    have e2 : ents (Z T e.key e.seq) = ents (Z U e.key e.seq) := by rw [entsZ, entsZ, h]
    unfold ents at *
    simp only [List.map_append, List.map_cons, e1, e2]
  · rw [put_no c, put_no (hc ▸ c)]; exact h
theorem A_ents {T U : List Tv} (h : ents T = ents U) (k : List UInt8) (s : Nat) : (A T k s).length = (A U k s).length := by
  rw [← ents_len, ← ents_len, entsA, entsA, h]
theorem size_ents {T U : List Tv} (h : ents T = ents U) : size T = size U := by
  have : ∀ V : List Tv, size V = ((ents V).map sizeE).sum := fun V => by simp [size, ents, Function.comp_def]
  rw [this, this, h]
theorem len_ents {T U : List Tv} (h : ents T = ents U) : T.length = U.length := by rw [← ents_len, ← ents_len, h]
end Mm
end Go.Proofs.Ytpbhbgoaaephgaa
