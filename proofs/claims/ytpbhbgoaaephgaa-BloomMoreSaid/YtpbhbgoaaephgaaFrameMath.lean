/-
  Frames in plain mathematics: what a frame is, that what begins with a frame begins with one alone, what all frames of some bytes are, and what is left of them where they were cut off.
-/
import Derived.Test.YtpbhbgoaaephgaaNumMath
namespace Go.Proofs.Ytpbhbgoaaephgaa
set_option linter.unusedVariables false
set_option maxRecDepth 100000
namespace Fr
def sealOf (t : List UInt8) : UInt8 := t.foldl (fun c x => c ^^^ x) 165
def mk (t : List UInt8) : List UInt8 := Nm.short t.length ++ (t ++ [sealOf t])
def makeS (t : List UInt8) : List UInt8 := if t.length ≤ 8000 then mk t else []
def makeE (t : List UInt8) : Int := if t.length ≤ 8000 then 0 else 5
def take (s : List UInt8) : Option (List UInt8 × List UInt8) :=
  match Nm.take s with
  | none => none
  | some (n, b) => if n ≤ 8000 ∧ n < b.length ∧ b.getD n 0 = sealOf (b.take n) then some (b.take n, b.drop (n + 1)) else none
def takeE (s : List UInt8) : Int := if s = [] then 10 else if (take s).isSome then 0 else 2
def takeT (s : List UInt8) : List UInt8 := ((take s).getD ([], [])).1
def takeR (s : List UInt8) : List UInt8 := ((take s).getD ([], [])).2
def join : List (List UInt8) → List UInt8
  | [] => []
  | t :: l => mk t ++ join l
/-- may each of these texts be a frame's? -/
def Fit (l : List (List UInt8)) : Prop := ∀ t ∈ l, t.length ≤ 8000
/-- the texts of the frames from the beginning on are l, and what is left is r -/
structure Reads (s : List UInt8) (l : List (List UInt8)) (r : List UInt8) : Prop where
  fit : Fit l
  eq : s = join l ++ r
  stop : take r = none

theorem sealOf_snoc (t : List UInt8) (c : UInt8) : sealOf (t ++ [c]) = sealOf t ^^^ c := by simp [sealOf]
theorem drop_getD (b : List UInt8) (n : Nat) (h : n < b.length) : b = b.take n ++ (b.getD n 0 :: b.drop (n + 1)) := by
  rw [List.getD_eq_getElem?_getD, List.getElem?_eq_getElem h]
  simp
theorem take_mk (t r : List UInt8) (h : t.length ≤ 8000) : take (mk t ++ r) = some (t, r) := by
  unfold take mk
  rw [List.append_assoc, Nm.take_short _ _ (by omega)]
  have e1 : (t ++ [sealOf t] ++ r).take t.length = t := by simp
  have e2 : (t ++ [sealOf t] ++ r).drop (t.length + 1) = r := by simp
  have e3 : (t ++ [sealOf t] ++ r).getD t.length 0 = sealOf t := by simp
  show (if t.length ≤ 8000 ∧ t.length < (t ++ [sealOf t] ++ r).length ∧ (t ++ [sealOf t] ++ r).getD t.length 0 = sealOf ((t ++ [sealOf t] ++ r).take t.length) then some ((t ++ [sealOf t] ++ r).take t.length, (t ++ [sealOf t] ++ r).drop (t.length + 1)) else none) = _
  rw [e1, e2, e3, if_pos ⟨h, by simp, rfl⟩]
theorem take_back {s t r : List UInt8} (h : take s = some (t, r)) : s = mk t ++ r ∧ t.length ≤ 8000 := by
  unfold take at h
  split at h
  · cases h
  · rename_i n b hn
    split at h
    · rename_i hc
      obtain ⟨h1, h2, h3⟩ := hc
      injection h with h
      injection h with ht hr
      have hl : t.length = n := by rw [← ht, List.length_take]; omega
      obtain ⟨e, _⟩ := Nm.take_back _ _ _ hn
      refine ⟨?_, by omega⟩
      unfold mk
      rw [hl, e, List.append_assoc, List.append_assoc]
      congr 1
      have := drop_getD b n h2
      rw [h3, ht, hr] at this
      simpa using this
    · cases h
theorem take_iff {s t r : List UInt8} : take s = some (t, r) ↔ s = mk t ++ r ∧ t.length ≤ 8000 :=
  ⟨take_back, fun h => by rw [h.1]; exact take_mk t r h.2⟩
theorem mk_len (t : List UInt8) (h : t.length ≤ 8000) : (mk t).length = Nm.sz t.length + t.length + 1 := by
  unfold mk
  rw [List.length_append, Nm.short_len _ (by omega), List.length_append]
  simp only [List.length_cons, List.length_nil, Nat.add_assoc]
theorem sz_two (n : Nat) (h : n ≤ 8000) : 1 ≤ Nm.sz n ∧ Nm.sz n ≤ 2 := by
  by_cases h1 : n < 128
  · rw [Nm.sz_small n h1]; omega
  · rw [Nm.sz_big n (by omega), Nm.sz_small (n / 128) (by omega)]; omega
theorem mk_lens (t : List UInt8) (h : t.length ≤ 8000) : t.length + 2 ≤ (mk t).length ∧ (mk t).length ≤ t.length + 3 := by
  have := sz_two t.length h
  rw [mk_len t h]; omega
theorem mk_ne (t : List UInt8) : mk t ≠ [] := by unfold mk; simp
theorem take_nil : take [] = none := rfl
/-- no frame's bytes are a beginning of another one's -/
theorem mk_one {t u r q : List UInt8} (h1 : t.length ≤ 8000) (h2 : u.length ≤ 8000) (h : mk t ++ r = mk u ++ q) : t = u ∧ r = q := by
  have e := take_mk t r h1
  rw [h, take_mk u q h2] at e
  injection e with e
  injection e with e1 e2
  exact ⟨e1.symm, e2.symm⟩
theorem take_less {s t r : List UInt8} (h : take s = some (t, r)) : r.length < s.length ∧ t.length < s.length := by
  obtain ⟨e, hl⟩ := take_back h
  have := mk_lens t hl
  rw [e, List.length_append]; omega
theorem join_app (l m : List (List UInt8)) : join (l ++ m) = join l ++ join m := by
  induction l with
  | nil => rfl
  | cons t l ih => simp only [List.cons_append, join, ih, List.append_assoc]
theorem join_snoc (l : List (List UInt8)) (t : List UInt8) : join (l ++ [t]) = join l ++ mk t := by
  rw [join_app]; simp [join]
theorem fit_nil : Fit [] := fun t ht => by simp at ht
theorem fit_app {l m : List (List UInt8)} : Fit (l ++ m) ↔ Fit l ∧ Fit m := by
  unfold Fit
  constructor
  · intro h
    exact ⟨fun t ht => h t (List.mem_append.2 (.inl ht)), fun t ht => h t (List.mem_append.2 (.inr ht))⟩
  · rintro ⟨h1, h2⟩ t ht
    rcases List.mem_append.1 ht with h | h
    · exact h1 t h
    · exact h2 t h
theorem fit_cons {t : List UInt8} {m : List (List UInt8)} : Fit (t :: m) ↔ t.length ≤ 8000 ∧ Fit m := by
  unfold Fit; simp
def joinS (l : List (List UInt8)) : List UInt8 := if l.all (fun t => decide (t.length ≤ 8000)) then join l else []
def joinE (l : List (List UInt8)) : Int := if l.all (fun t => decide (t.length ≤ 8000)) then 0 else 5
/-- all bytes of the texts together -/
def total (l : List (List UInt8)) : Nat := (l.map List.length).sum
theorem total_app (l m : List (List UInt8)) : total (l ++ m) = total l + total m := by simp [total]
theorem total_mem {l : List (List UInt8)} {x : List UInt8} (h : x ∈ l) : x.length ≤ total l := by
  induction l with
  | nil => simp at h
  | cons y l ih =>
    simp only [total, List.map_cons, List.sum_cons]
    rcases List.mem_cons.1 h with rfl | h
    · omega
    · have := ih h
      unfold total at this; omega
theorem join_len (l : List (List UInt8)) (h : Fit l) : total l + 2 * l.length ≤ (join l).length ∧ (join l).length ≤ total l + 3 * l.length := by
  induction l with
  | nil => simp [join, total]
  | cons t l ih =>
    obtain ⟨h1, h2⟩ := fit_cons.1 h
    have := ih h2
    have := mk_lens t h1
    simp only [join, List.length_append, total, List.map_cons, List.sum_cons, List.length_cons] at *
    omega
theorem join_most (l : List (List UInt8)) (h : Fit l) : (join l).length ≤ 8003 * l.length := by
  induction l with
  | nil => simp [join]
  | cons t l ih =>
    obtain ⟨h1, h2⟩ := fit_cons.1 h
    have := ih h2
    have := mk_lens t h1
    simp only [join, List.length_append, List.length_cons]
    omega
theorem reads_some (s : List UInt8) : ∃ l r, Reads s l r := by
  suffices h : ∀ n, ∀ s : List UInt8, s.length ≤ n → ∃ l r, Reads s l r from h s.length s (Nat.le_refl _)
  intro n
  induction n with
  | zero =>
    intro s hs
    have : s = [] := List.eq_nil_of_length_eq_zero (by omega)
    subst this
    exact ⟨[], [], fit_nil, rfl, rfl⟩
  | succ n ih =>
    intro s hs
    cases ht : take s with
    | none => exact ⟨[], s, fit_nil, rfl, ht⟩
    | some x =>
      obtain ⟨t, r⟩ := x
      have hl := take_less ht
      obtain ⟨l, q, h1, h2, h3⟩ := ih r (by omega)
      obtain ⟨e, hf⟩ := take_back ht
      exact ⟨t :: l, q, fit_cons.2 ⟨hf, h1⟩, by rw [e, h2]; simp [join], h3⟩
theorem reads_one : ∀ {s : List UInt8} {l m : List (List UInt8)} {r q : List UInt8}, Reads s l r → Reads s m q → l = m ∧ r = q := by
  intro s l
  induction l generalizing s with
  | nil =>
    rintro m r q ⟨_, e1, s1⟩ ⟨f2, e2, s2⟩
    cases m with
    | nil => exact ⟨rfl, by rw [e1] at e2; simpa [join] using e2⟩
    | cons u m =>
      simp only [join, List.nil_append] at e1 e2
      rw [← e1, e2, List.append_assoc, take_mk u _ (fit_cons.1 f2).1] at s1
      cases s1
  | cons t l ih =>
    rintro m r q ⟨f1, e1, s1⟩ ⟨f2, e2, s2⟩
    cases m with
    | nil =>
      simp only [join, List.nil_append] at e1 e2
      rw [← e2, e1, List.append_assoc, take_mk t _ (fit_cons.1 f1).1] at s2
      cases s2
    | cons u m =>
      simp only [join] at e1 e2
      obtain ⟨rfl, e3⟩ := mk_one (fit_cons.1 f1).1 (fit_cons.1 f2).1 (by rw [← List.append_assoc, ← List.append_assoc, ← e1, e2] : mk t ++ (join l ++ r) = mk u ++ (join m ++ q))
      obtain ⟨rfl, rfl⟩ := ih (s := join l ++ r) ⟨(fit_cons.1 f1).2, rfl, s1⟩ ⟨(fit_cons.1 f2).2, e3, s2⟩
      exact ⟨rfl, rfl⟩
theorem reads_join {l : List (List UInt8)} (h : Fit l) : Reads (join l) l [] := ⟨h, by simp, rfl⟩
/-- what follows where k frames have been read -/
theorem Reads.at {s : List UInt8} {l : List (List UInt8)} {r : List UInt8} (h : Reads s l r) {k : Nat} {t : List UInt8} (hk : l[k]? = some t) : take (join (l.drop k) ++ r) = some (t, join (l.drop (k + 1)) ++ r) := by
  have hl := (List.getElem?_eq_some_iff.1 hk)
  obtain ⟨hlt, e⟩ := hl
  rw [List.drop_eq_getElem_cons hlt, e]
  simp only [join, List.append_assoc]
  exact take_mk _ _ (h.fit t (List.mem_of_getElem? hk))
theorem Reads.len {s : List UInt8} {l : List (List UInt8)} {r : List UInt8} (h : Reads s l r) : (join l).length + r.length = s.length := by rw [h.eq, List.length_append]
theorem Reads.few {s : List UInt8} {l : List (List UInt8)} {r : List UInt8} (h : Reads s l r) : l.length ≤ s.length ∧ total l ≤ s.length := by
  have := join_len l h.fit
  have := h.len
  omega
/-- of bytes that were cut off just those texts are told that are whole -/
theorem cut : ∀ {m l : List (List UInt8)} {k : Nat} {r : List UInt8}, Fit l → Reads ((join l).take k) m r → m.length ≤ l.length ∧ m = l.take m.length ∧ (∀ t, l[m.length]? = some t → k < (join m).length + (mk t).length) := by
  intro m
  induction m with
  | nil =>
    intro l k r hf h
    refine ⟨by simp, by simp, fun t ht => ?_⟩
    cases l with
    | nil => simp at ht
    | cons u l =>
      simp at ht
      subst ht
      simp only [join, List.length_nil, Nat.zero_add]
      rcases Nat.lt_or_ge k (mk u).length with hk | hk
      · exact hk
      · have e := h.eq
        have s := h.stop
        simp only [join, List.nil_append] at e
        rw [← e, List.take_append, List.take_of_length_le hk, take_mk u _ (fit_cons.1 hf).1] at s
        cases s
  | cons t m ih =>
    intro l k r hf h
    cases l with
    | nil =>
      have e := h.eq
      simp [join, mk] at e
    | cons u l =>
      have e := h.eq
      obtain ⟨f1, f2⟩ := fit_cons.1 h.fit
      obtain ⟨g1, g2⟩ := fit_cons.1 hf
      have e2 : mk t ++ ((join m ++ r) ++ (join (u :: l)).drop k) = mk u ++ join l := by
        have := List.take_append_drop k (join (u :: l))
        rw [e] at this
        simpa [join, List.append_assoc] using this
      obtain ⟨rfl, e3⟩ := mk_one f1 g1 e2
      have hk : (mk t).length ≤ k := by
        have := congrArg List.length e
        simp only [join, List.length_append, List.length_take] at this
        omega
      have e4 : (join l).take (k - (mk t).length) = join m ++ r := by
        have e5 := e
        simp only [join] at e5
        rw [List.take_append, List.take_of_length_le hk, List.append_assoc] at e5
        exact List.append_cancel_left e5
      obtain ⟨i1, i2, i3⟩ := ih g2 (k := k - (mk t).length) (r := r) (e4 ▸ ⟨f2, rfl, h.stop⟩)
      refine ⟨by simp; omega, by simp; exact i2, fun x hx => ?_⟩
      have := i3 x (by simpa using hx)
      simp only [join, List.length_append]
      omega
/-- two frames, one as far as the shorter one goes, are of one text -/
theorem one {a b : List UInt8} (ha : a.length ≤ 8000) (hb : b.length ≤ 8000) : (mk a).take (min (mk a).length (mk b).length) = (mk b).take (min (mk a).length (mk b).length) ↔ a = b := by
  constructor
  · intro h
    rcases Nat.le_total (mk a).length (mk b).length with hl | hl
    · rw [Nat.min_eq_left hl, List.take_length] at h
      have : mk a ++ (mk b).drop (mk a).length = mk b ++ [] := by rw [h]; simp [Nat.min_eq_left hl]
      exact (mk_one ha hb this).1
    · rw [Nat.min_eq_right hl, List.take_length] at h
      have : mk a ++ [] = mk b ++ (mk a).drop (mk b).length := by rw [← h]; simp [Nat.min_eq_left hl]
      exact (mk_one ha hb this).1
  · rintro rfl; rfl
/-- a frame of which one byte behind the number was turned is none -/
theorem xor_all (l : List UInt8) (c : UInt8) : l.foldl (fun c x => c ^^^ x) c = c ^^^ l.foldl (fun c x => c ^^^ x) 0 := by
  induction l generalizing c with
  | nil => simp
  | cons x l ih =>
    simp only [List.foldl_cons]
    rw [ih, ih (0 ^^^ x)]
    simp [UInt8.xor_assoc]
theorem xor_turn (l : List UInt8) (j : Nat) (d : UInt8) (hj : j < l.length) (c : UInt8) : (l.set j (l.getD j 0 ^^^ d)).foldl (fun c x => c ^^^ x) c = l.foldl (fun c x => c ^^^ x) c ^^^ d := by
  induction l generalizing j c with
  | nil => simp at hj
  | cons x l ih =>
    cases j with
    | zero =>
      simp only [List.set_cons_zero, List.foldl_cons, List.getD_cons_zero]
      rw [xor_all, xor_all l (c ^^^ x)]
      simp only [UInt8.xor_assoc]
      rw [UInt8.xor_comm d]
    | succ j =>
      simp only [List.set_cons_succ, List.foldl_cons, List.getD_cons_succ]
      exact ih j (by simpa using hj) _
theorem turned {a : List UInt8} (ha : a.length ≤ 8000) {j : Nat} (hj : j ≤ a.length) {d : UInt8} (hd : d ≠ 0) : take ((mk a).set (Nm.sz a.length + j) ((mk a).getD (Nm.sz a.length + j) 0 ^^^ d)) = none := by
  have hs := Nm.short_len a.length (by omega)
  generalize hX : a ++ [sealOf a] = X
  have hXl : X.length = a.length + 1 := by rw [← hX]; simp
  have e1 : (mk a).set (Nm.sz a.length + j) ((mk a).getD (Nm.sz a.length + j) 0 ^^^ d) = Nm.short a.length ++ X.set j (X.getD j 0 ^^^ d) := by
    unfold mk
    rw [hX, ← hs, List.set_append_right _ _ (by omega), List.getD_eq_getElem?_getD, List.getElem?_append_right (by omega)]
    simp [List.getD_eq_getElem?_getD]
  rw [e1]
  unfold take
  rw [Nm.take_short _ _ (by omega)]
  generalize hY : X.set j (X.getD j 0 ^^^ d) = Y
  have hYl : Y.length = a.length + 1 := by rw [← hY]; simp [hXl]
  show (if a.length ≤ 8000 ∧ a.length < Y.length ∧ Y.getD a.length 0 = sealOf (Y.take a.length) then some (Y.take a.length, Y.drop (a.length + 1)) else none) = none
  rw [if_neg]
  rintro ⟨_, h2, h3⟩
  have e2 : Y.foldl (fun c x => c ^^^ x) 165 = d := by
    rw [← hY, xor_turn X j d (by omega)]
    have : X.foldl (fun c x => c ^^^ x) 165 = sealOf a ^^^ sealOf a := by rw [← hX]; simp [sealOf]
    rw [this]; simp
  have e3 : Y = Y.take a.length ++ [Y.getD a.length 0] := by
    have := drop_getD Y a.length h2
    rw [List.drop_of_length_le (by omega)] at this
    exact this
  rw [e3, List.foldl_append, h3] at e2
  have e4 : (Y.take a.length).foldl (fun c x => c ^^^ x) 165 = sealOf (Y.take a.length) := rfl
  rw [e4] at e2
  simp at e2
  exact hd e2.symm
end Fr
end Go.Proofs.Ytpbhbgoaaephgaa
