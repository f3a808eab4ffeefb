/-
  Rows of entries in plain mathematics: what a row is, what is seen, what is newest, what lies between, what is got, what rows are together.
-/
import Derived.Test.YtpbhbgoaaephgaaMemLawMath
namespace Go.Proofs.Ytpbhbgoaaephgaa
set_option linter.unusedVariables false
set_option maxRecDepth 100000
namespace Mg
open Mm
/-- is an entry ahead of another one? -/
def ab (x y : Ent) : Bool := ahd x.key x.seq y.key y.seq
theorem ab_trans {x y z : Ent} (h : ab x y = true) (k : ab y z = true) : ab x z = true := ahd_trans h k
theorem ab_irrefl (x : Ent) : ab x x = false := ahd_irrefl _ _
theorem ab_asymm {x y : Ent} (h : ab x y = true) : ab y x = false := by
  cases k : ab y x with
  | false => rfl
  | true => have := ab_trans h k; rw [ab_irrefl] at this; cases this
theorem ab_total {x y : Ent} (h : ab x y = false) (k : ab y x = false) : x.key = y.key ∧ x.seq = y.seq := ahd_total h k
theorem ab_same {x y : Ent} (h1 : x.key = y.key) (h2 : x.seq = y.seq) : ab x y = false := by unfold ab; rw [h1, h2]; exact ahd_irrefl _ _
theorem ab_left {x y z : Ent} (h1 : x.key = y.key) (h2 : x.seq = y.seq) : ab x z = ab y z := by unfold ab; rw [h1, h2]
theorem ab_right {x y z : Ent} (h1 : x.key = y.key) (h2 : x.seq = y.seq) : ab z x = ab z y := by unfold ab; rw [h1, h2]
theorem ab_iff {x y : Ent} : ab x y = true ↔ x.key < y.key ∨ (x.key = y.key ∧ y.seq < x.seq) := ahd_iff
def Rw (l : List Ent) : Prop := l.Pairwise (fun x y => ab x y = true)
def row : List Ent → Bool
  | [] => true
  | [_] => true
  | x :: y :: l => ab x y && row (y :: l)
theorem row_iff : ∀ {l : List Ent}, row l = true ↔ Rw l
  | [] => by simp [row, Rw]
  | [_] => by simp [row, Rw]
  | x :: y :: l => by
    have ih := row_iff (l := y :: l)
    rw [row, Bool.and_eq_true, ih]
    unfold Rw
    rw [List.pairwise_cons (a := x)]
    constructor
    · rintro ⟨h1, h2⟩
      refine ⟨fun z hz => ?_, h2⟩
      rcases List.mem_cons.1 hz with rfl | hz
      · exact h1
      · exact ab_trans h1 ((List.pairwise_cons.1 h2).1 z hz)
    · rintro ⟨h1, h2⟩
      exact ⟨h1 y List.mem_cons_self, h2⟩
theorem row_adj : ∀ {l : List Ent}, row l = true ↔ ∀ j x y, l[j]? = some x → l[j + 1]? = some y → ab x y = true
  | [] => by simp [row]
  | [a] => by
    simp only [row, true_iff]
    intro j x y _ h
    simp at h
  | a :: b :: l => by
    have ih := row_adj (l := b :: l)
    rw [row, Bool.and_eq_true, ih]
    constructor
    · rintro ⟨h1, h2⟩ j x y hx hy
      cases j with
      | zero => simp at hx hy; subst hx hy; exact h1
      | succ j => exact h2 j x y (by simpa using hx) (by simpa using hy)
    · intro h
      exact ⟨h 0 a b rfl rfl, fun j x y hx hy => h (j + 1) x y (by simpa using hx) (by simpa using hy)⟩
theorem row_not {l : List Ent} {j : Nat} {x y : Ent} (hx : l[j]? = some x) (hy : l[j + 1]? = some y) (h : ab x y = false) : row l = false := by
  cases k : row l with
  | false => rfl
  | true => have := row_adj.1 k j x y hx hy; rw [h] at this; cases this
theorem Rw.lt {l : List Ent} (h : Rw l) {i j : Nat} {x y : Ent} (hx : l[i]? = some x) (hy : l[j]? = some y) (hij : i < j) : ab x y = true := by
  obtain ⟨hi, rfl⟩ := List.getElem?_eq_some_iff.1 hx
  obtain ⟨hj, rfl⟩ := List.getElem?_eq_some_iff.1 hy
  exact List.pairwise_iff_getElem.1 h i j hi hj hij
theorem Rw.idx {l : List Ent} (h : Rw l) {i j : Nat} {x y : Ent} (hx : l[i]? = some x) (hy : l[j]? = some y) (hab : ab x y = true) : i < j := by
  rcases Nat.lt_trichotomy i j with k | k | k
  · exact k
  · subst k; rw [hx] at hy; cases hy; rw [ab_irrefl] at hab; cases hab
  · have := h.lt hy hx k; have h2 := ab_asymm this; rw [h2] at hab; cases hab
theorem Rw.filter {l : List Ent} (h : Rw l) (p : Ent → Bool) : Rw (l.filter p) := h.sublist List.filter_sublist
/-- is an entry the first one of its key, in a row, whose number is at most s? -/
def first (l : List Ent) (s : Nat) (x : Ent) : Bool := decide (x.seq ≤ s) && l.all (fun y => !(decide (y.key = x.key) && decide (x.seq < y.seq)) || decide (s < y.seq))
theorem first_iff {l : List Ent} {s : Nat} {x : Ent} : first l s x = true ↔ x.seq ≤ s ∧ ∀ y ∈ l, y.key = x.key → x.seq < y.seq → s < y.seq := by
  unfold first
  rw [Bool.and_eq_true, decide_eq_true_iff, List.all_eq_true]
  refine and_congr_right fun _ => forall_congr' fun y => forall_congr' fun _ => ?_
  by_cases h1 : y.key = x.key <;> by_cases h2 : x.seq < y.seq <;> simp [h1, h2]
/-- the same, told by the entry ahead of it -/
def isF (l : List Ent) (i : Nat) (x : Ent) (s : Nat) : Bool := decide (x.seq ≤ s) && (match i with
  | 0 => true
  | j + 1 => match l[j]? with
    | none => true
    | some y => !decide (y.key = x.key) || decide (s < y.seq))
theorem isF_first {l : List Ent} (h : Rw l) {i : Nat} {x : Ent} (hx : l[i]? = some x) (s : Nat) : isF l i x s = first l s x := by
  rw [Bool.eq_iff_iff, first_iff]
  unfold isF
  rw [Bool.and_eq_true, decide_eq_true_iff]
  refine and_congr_right fun hs => ?_
  cases i with
  | zero =>
    simp only [true_iff]
    intro y hy h1 h2
    obtain ⟨k, hk⟩ := List.getElem?_of_mem hy
    have : ab y x = true := ab_iff.2 (.inr ⟨h1, h2⟩)
    exact absurd (h.idx hk hx this) (by omega)
  | succ j =>
    have hj : j < l.length := by have := (List.getElem?_eq_some_iff.1 hx).1; omega
    simp only
    rw [List.getElem?_eq_getElem hj]
    have hp : l[j]? = some l[j] := List.getElem?_eq_getElem hj
    generalize l[j] = p at hp
    have hpx := h.lt hp hx (by omega)
    simp only [Bool.or_eq_true, Bool.not_eq_true', decide_eq_false_iff_not, decide_eq_true_iff]
    constructor
    · intro hc y hy h1 h2
      obtain ⟨k, hk⟩ := List.getElem?_of_mem hy
      have hyx : ab y x = true := ab_iff.2 (.inr ⟨h1, h2⟩)
      have hkj := h.idx hk hx hyx
      rcases Nat.lt_or_ge k j with hlt | hge
      · have hyp := h.lt hk hp hlt
        rw [ab_iff] at hyp hpx
        have hkey : p.key = x.key := by
          rcases hyp with e | ⟨e, _⟩
          · rcases hpx with e2 | ⟨e2, _⟩
            · have := lt_trans e e2; rw [h1] at this; exact absurd this (lt_irrefl _)
            · exact e2
          · rw [← e, h1]
        have hlt2 : p.seq < y.seq := by
          rcases hyp with e | ⟨_, e⟩
          · rw [h1, hkey] at e; exact absurd e (lt_irrefl _)
          · exact e
        rcases hc with hc | hc
        · exact absurd hkey hc
        · omega
      · have : k = j := by omega
        subst this
        rw [hk] at hp; cases hp
        rcases hc with hc | hc
        · exact absurd h1 hc
        · exact hc
    · intro hc
      by_cases he : p.key = x.key
      · refine .inr (hc p (List.mem_of_getElem? hp) he ?_)
        rcases ab_iff.1 hpx with e | ⟨_, e⟩
        · rw [he] at e; exact absurd e (lt_irrefl _)
        · exact e
      · exact .inl he
def seenP (l : List Ent) (s : Nat) (x : Ent) : Bool := first l s x && !x.del
def newP (l : List Ent) (s : Nat) (x : Ent) : Bool := decide (s < x.seq) || first l s x
def inr (a b : List UInt8) (x : Ent) : Bool := !decide (x.key < a) && (decide (b = []) || decide (x.key < b))
def seen (l : List Ent) (s : Nat) : List Ent := l.filter (seenP l s)
def newest (l : List Ent) (s : Nat) : List Ent := l.filter (newP l s)
def between (l : List Ent) (a b : List UInt8) : List Ent := l.filter (inr a b)
theorem filter_step {p : Ent → Bool} {l : List Ent} {i : Nat} {x : Ent} (h : l[i]? = some x) : (l.take (i + 1)).filter p = (l.take i).filter p ++ (if p x then [x] else []) := by
  rw [List.take_add_one, h, List.filter_append]
  by_cases hp : p x = true <;> simp [hp]
/-- the first entry that isn't ahead -/
theorem up_find {r : List Ent} (h : Rw r) {k : List UInt8} {s i : Nat} (h1 : ∀ j x, j < i → r[j]? = some x → x.ah k s = true) (h2 : ∀ x, r[i]? = some x → x.ah k s = false) :
    r.find? (mt k s) = (match r[i]? with
      | none => none
      | some x => if x.key = k then some x else none) := by
  have hs : r = r.take i ++ r.drop i := (List.take_append_drop i r).symm
  have e1 : (r.take i).find? (mt k s) = none := by
    rw [List.find?_eq_none]
    intro x hx
    obtain ⟨j, hj⟩ := List.getElem?_of_mem hx
    rw [List.getElem?_take] at hj
    split at hj
    · rename_i hlt
      rw [mt_ahead (h1 j x hlt hj)]; simp
    · cases hj
  have e2 : r.find? (mt k s) = (r.drop i).find? (mt k s) := by
    conv => lhs; rw [hs]
    rw [List.find?_append, e1]; rfl
  rw [e2]
  cases hx : r[i]? with
  | none =>
    rw [List.drop_eq_nil_of_le (List.getElem?_eq_none_iff.1 hx)]
    rfl
  | some x =>
    have hd : r.drop i = x :: r.drop (i + 1) := by rw [List.drop_eq_getElem?_toList_append, hx]; rfl
    have hn := h2 x hx
    rw [hd]
    simp only
    by_cases hk : x.key = k
    · rw [if_pos hk, List.find?_cons_of_pos]
      rw [mt_iff]
      refine ⟨hk, ?_⟩
      unfold Ent.ah ahd at hn
      rw [if_pos hk] at hn
      simp at hn
      exact hn
    · rw [if_neg hk, List.find?_eq_none]
      intro y hy
      have hlt : k < x.key := by
        unfold Ent.ah ahd at hn
        rw [if_neg hk] at hn
        have hn2 : ¬ x.key < k := by simpa using hn
        rcases Classical.em (k < x.key) with e | e
        · exact e
        · exact absurd (lt_total hn2 e) hk
      have hle : k < y.key := by
        rcases List.mem_cons.1 hy with rfl | hy
        · exact hlt
        · obtain ⟨j, hj⟩ := List.getElem?_of_mem hy
          rw [List.getElem?_drop] at hj
          have := h.lt hx hj (by omega)
          rcases ab_iff.1 this with e | ⟨e, _⟩
          · exact lt_trans hlt e
          · rw [← e]; exact hlt
      rw [mt_iff]
      rintro ⟨e, _⟩
      rw [e] at hle
      exact lt_irrefl _ hle
def better (acc x : Option Ent) : Option Ent := match x with
  | none => acc
  | some x => match acc with
    | none => some x
    | some b => if b.seq < x.seq then some x else some b
def gotS (k : List UInt8) (s : Nat) (acc : Option Ent) (r : List Ent) : Option Ent := if row r then better acc (r.find? (mt k s)) else acc
def got (rows : List (List Ent)) (k : List UInt8) (s : Nat) : Option Ent := rows.foldl (gotS k s) none
theorem got_step {rows : List (List Ent)} {i : Nat} {r : List Ent} (h : rows[i]? = some r) (k : List UInt8) (s : Nat) : got (rows.take (i + 1)) k s = gotS k s (got (rows.take i) k s) r := by
  unfold got
  rw [List.take_add_one, h, List.foldl_append]
  rfl
/-- which entry has a key and a number -/
def look (l : List Ent) (k : List UInt8) (s : Nat) : Option Ent := l.find? (fun x => decide (x.key = k) && decide (x.seq = s))
theorem look_app (l m : List Ent) (k : List UInt8) (s : Nat) : look (l ++ m) k s = (look l k s).or (look m k s) := List.find?_append
theorem look_some {l : List Ent} {k : List UInt8} {s : Nat} {x : Ent} (h : look l k s = some x) : x ∈ l ∧ x.key = k ∧ x.seq = s := by
  have h1 := List.find?_some h
  rw [Bool.and_eq_true, decide_eq_true_iff, decide_eq_true_iff] at h1
  exact ⟨List.mem_of_find?_eq_some h, h1.1, h1.2⟩
theorem look_none {l : List Ent} {k : List UInt8} {s : Nat} (h : look l k s = none) {x : Ent} (hx : x ∈ l) (h1 : x.key = k) (h2 : x.seq = s) : False := by
  have := List.find?_eq_none.1 h x hx
  simp [h1, h2] at this
theorem look_not {l : List Ent} {k : List UInt8} {s : Nat} (h : ∀ x ∈ l, x.key = k → x.seq = s → False) : look l k s = none := by
  unfold look
  rw [List.find?_eq_none]
  intro x hx hc
  rw [Bool.and_eq_true, decide_eq_true_iff, decide_eq_true_iff] at hc
  exact h x hx hc.1 hc.2
theorem look_one {x : Ent} : look [x] x.key x.seq = some x := by unfold look; rw [List.find?_cons_of_pos (by simp)]
theorem look_cons (x : Ent) (l : List Ent) : look (x :: l) x.key x.seq = some x := by unfold look; rw [List.find?_cons_of_pos (by simp)]
theorem look_other {x : Ent} {k : List UInt8} {s : Nat} (h : ¬ (x.key = k ∧ x.seq = s)) : look [x] k s = none := look_not fun y hy h1 h2 => by
  rw [List.mem_singleton] at hy; subst hy; exact h ⟨h1, h2⟩
theorem look_mem {l : List Ent} (h : Rw l) {x : Ent} (hx : x ∈ l) : look l x.key x.seq = some x := by
  cases hl : look l x.key x.seq with
  | none => exact absurd (look_none hl hx rfl rfl) id
  | some y =>
    obtain ⟨hy, h1, h2⟩ := look_some hl
    obtain ⟨i, hi⟩ := List.getElem?_of_mem hx
    obtain ⟨j, hj⟩ := List.getElem?_of_mem hy
    rcases Nat.lt_trichotomy i j with e | e | e
    · have := h.lt hi hj e; rw [ab_same h1.symm h2.symm] at this; cases this
    · subst e; rw [hi] at hj; exact hj.symm
    · have := h.lt hj hi e; rw [ab_same h1 h2] at this; cases this
theorem uniq : ∀ {l m : List Ent}, Rw l → Rw m → (∀ k s, look l k s = look m k s) → l = m
  | [], [], _, _, _ => rfl
  | [], y :: m, _, _, h => by have := h y.key y.seq; rw [look_cons] at this; cases this
  | x :: l, [], _, _, h => by have := h x.key x.seq; rw [look_cons] at this; cases this
  | x :: l, y :: m, h1, h2, h => by
    have hxm : x ∈ y :: m := (look_some ((h x.key x.seq).symm.trans (look_cons x l))).1
    have hyl : y ∈ x :: l := (look_some ((h y.key y.seq).trans (look_cons y m))).1
    have exy : x = y := by
      rcases List.mem_cons.1 hxm with e | e
      · exact e
      · rcases List.mem_cons.1 hyl with e2 | e2
        · exact e2.symm
        · have a1 := (List.pairwise_cons.1 h1).1 y e2
          have a2 := (List.pairwise_cons.1 h2).1 x e
          rw [ab_asymm a1] at a2; cases a2
    subst exy
    congr 1
    refine uniq (List.pairwise_cons.1 h1).2 (List.pairwise_cons.1 h2).2 fun k s => ?_
    by_cases hk : x.key = k ∧ x.seq = s
    · obtain ⟨rfl, rfl⟩ := hk
      rw [look_not fun z hz e1 e2 => ?_, look_not fun z hz e1 e2 => ?_]
      · have := (List.pairwise_cons.1 h2).1 z hz; rw [ab_same e1.symm e2.symm] at this; cases this
      · have := (List.pairwise_cons.1 h1).1 z hz; rw [ab_same e1.symm e2.symm] at this; cases this
    · have := h k s
      rw [show x :: l = [x] ++ l from rfl, show x :: m = [x] ++ m from rfl, look_app, look_app, look_other hk] at this
      simpa using this
/-- an entry more, if none has its key and number -/
def ins : List Ent → Ent → List Ent
  | [], x => [x]
  | y :: l, x => if ab y x then y :: ins l x else if y.key = x.key ∧ y.seq = x.seq then y :: l else x :: y :: l
theorem ins_mem : ∀ {l : List Ent} {x z : Ent}, z ∈ ins l x → z = x ∨ z ∈ l
  | [], x, z, h => by simpa [ins] using h
  | y :: l, x, z, h => by
    unfold ins at h
    split at h
    · rcases List.mem_cons.1 h with rfl | h
      · exact .inr List.mem_cons_self
      · rcases ins_mem h with e | e
        · exact .inl e
        · exact .inr (List.mem_cons_of_mem _ e)
    · split at h
      · exact .inr h
      · rcases List.mem_cons.1 h with e | h
        · exact .inl e
        · exact .inr h
theorem ins_row : ∀ {l : List Ent} {x : Ent}, Rw l → Rw (ins l x)
  | [], x, _ => by simp [ins, Rw]
  | y :: l, x, h => by
    unfold ins
    have hc := List.pairwise_cons.1 h
    split
    · rename_i hyx
      refine List.pairwise_cons.2 ⟨fun z hz => ?_, ins_row hc.2⟩
      rcases ins_mem hz with rfl | hz
      · exact hyx
      · exact hc.1 z hz
    · rename_i hyx
      split
      · exact h
      · rename_i hs
        have hxy : ab x y = true := by
          cases k : ab x y with
          | true => rfl
          | false => exact absurd (ab_total (Bool.eq_false_iff.2 hyx) k) hs
        refine List.pairwise_cons.2 ⟨fun z hz => ?_, h⟩
        rcases List.mem_cons.1 hz with rfl | hz
        · exact hxy
        · exact ab_trans hxy (hc.1 z hz)
theorem ins_look : ∀ {l : List Ent} {x : Ent}, Rw l → ∀ k s, look (ins l x) k s = (look l k s).or (look [x] k s)
  | [], x, _, k, s => by simp [ins, look]
  | y :: l, x, h, k, s => by
    have hc := List.pairwise_cons.1 h
    unfold ins
    split
    · rw [show y :: ins l x = [y] ++ ins l x from rfl, show y :: l = [y] ++ l from rfl, look_app, look_app, ins_look hc.2, Option.or_assoc]
    · rename_i hyx
      split
      · rename_i hs
        by_cases hk : x.key = k ∧ x.seq = s
        · obtain ⟨rfl, rfl⟩ := hk
          have e : look (y :: l) x.key x.seq = some y := by rw [← hs.1, ← hs.2]; exact look_cons y l
          rw [e]; rfl
        · rw [look_other hk, Option.or_none]
      · rename_i hs
        have hxy : ab x y = true := by
          cases k : ab x y with
          | true => rfl
          | false => exact absurd (ab_total (Bool.eq_false_iff.2 hyx) k) hs
        rw [show x :: y :: l = [x] ++ (y :: l) from rfl, look_app]
        by_cases hk : x.key = k ∧ x.seq = s
        · obtain ⟨rfl, rfl⟩ := hk
          have e : look (y :: l) x.key x.seq = none := look_not fun z hz e1 e2 => by
            have hxz : ab x z = true := by
              rcases List.mem_cons.1 hz with rfl | hz
              · exact hxy
              · exact ab_trans hxy (hc.1 z hz)
            rw [ab_same e1.symm e2.symm] at hxz; cases hxz
          rw [e]; simp
        · rw [look_other hk]; simp
def insAll (l : List Ent) (m : List Ent) : List Ent := m.foldl ins l
theorem insAll_row : ∀ {m l : List Ent}, Rw l → Rw (insAll l m)
  | [], l, h => h
  | x :: m, l, h => insAll_row (m := m) (l := ins l x) (ins_row h)
theorem insAll_look : ∀ {m l : List Ent}, Rw l → ∀ k s, look (insAll l m) k s = (look l k s).or (look m k s)
  | [], l, _, k, s => by simp [insAll, look]
  | x :: m, l, h, k, s => by
    rw [show insAll l (x :: m) = insAll (ins l x) m from rfl, insAll_look (ins_row h), ins_look h, Option.or_assoc, ← look_app]
    rfl
/-- rows together -/
def tog (rows : List (List Ent)) : List Ent := insAll [] rows.flatten
theorem tog_row (rows : List (List Ent)) : Rw (tog rows) := insAll_row (by simp [Rw])
theorem tog_look (rows : List (List Ent)) (k : List UInt8) (s : Nat) : look (tog rows) k s = look rows.flatten k s := by
  unfold tog
  rw [insAll_look (by simp [Rw])]
  simp [look]
theorem tog_uniq {rows : List (List Ent)} {L : List Ent} (h : Rw L) (k : ∀ k s, look L k s = look rows.flatten k s) : L = tog rows := uniq h (tog_row rows) fun a b => by rw [k, tog_look]
theorem ins_len : ∀ (l : List Ent) (x : Ent), (ins l x).length ≤ l.length + 1
  | [], x => by simp [ins]
  | y :: l, x => by
    unfold ins
    split
    · have := ins_len l x; simp; omega
    · split <;> simp
theorem insAll_len : ∀ (m l : List Ent), (insAll l m).length ≤ l.length + m.length
  | [], l => by simp [insAll]
  | x :: m, l => by
    have h1 := insAll_len m (ins l x)
    have h2 := ins_len l x
    rw [show insAll l (x :: m) = insAll (ins l x) m from rfl, List.length_cons]; omega
theorem tog_len (rows : List (List Ent)) : (tog rows).length ≤ rows.flatten.length := by
  have := insAll_len rows.flatten []; simpa [tog] using this
/-- a list with an entry that isn't ahead of its last one -/
def wn (L : List Ent) (x : Ent) : List Ent := match L.getLast? with
  | none => L ++ [x]
  | some z => if ab z x then L ++ [x] else L
theorem wn_len (L : List Ent) (x : Ent) : (wn L x).length ≤ L.length + 1 := by
  unfold wn
  split
  · simp
  · split <;> simp
/-- what has been told, and what is left -/
structure Jn (rows : List (List Ent)) (L : List Ent) (rem : List (List Ent)) : Prop where
  row : Rw L
  each : ∀ r ∈ rem, Rw r
  lk : ∀ k s, look rows.flatten k s = (look L k s).or (look rem.flatten k s)
  last : ∀ x ∈ L, ∀ y ∈ rem.flatten, ab y x = false
theorem Jn.start {rows : List (List Ent)} (h : ∀ r ∈ rows, Rw r) : Jn rows [] rows := ⟨by simp [Rw], h, fun k s => by simp [look], fun x hx => by simp at hx⟩
theorem Jn.done {rows : List (List Ent)} {L : List Ent} {rem : List (List Ent)} (h : Jn rows L rem) (k : ∀ r ∈ rem, r = []) : L = tog rows := by
  have e : rem.flatten = [] := by rw [List.flatten_eq_nil_iff]; exact k
  exact tog_uniq h.row fun a b => by rw [h.lk, e]; simp [look]
def sn (x : Ent) (p : Nat) (y : Ent) (q : Nat) : Bool := if x.key = y.key ∧ x.seq = y.seq then decide (p < q) else ab x y
theorem sn_iff {x y : Ent} {p q : Nat} : sn x p y q = true ↔ ab x y = true ∨ ((x.key = y.key ∧ x.seq = y.seq) ∧ p < q) := by
  unfold sn
  split
  · rename_i h; rw [ab_same h.1 h.2]; simp [h]
  · rename_i h; simp [h]
theorem sn_asymm {x y : Ent} {p q : Nat} (h : sn x p y q = true) : sn y q x p = false := by
  rw [Bool.eq_false_iff, ne_eq, sn_iff]
  rcases sn_iff.1 h with h | ⟨⟨h1, h2⟩, h3⟩
  · rintro (k | ⟨⟨k1, k2⟩, _⟩)
    · rw [ab_asymm h] at k; cases k
    · rw [ab_same k1.symm k2.symm] at h; cases h
  · rintro (k | ⟨_, k⟩)
    · rw [ab_same h1.symm h2.symm] at k; cases k
    · omega
theorem sn_ntrans {x y z : Ent} {p q r : Nat} (h : sn y q x p = false) (k : sn z r y q = false) : sn z r x p = false := by
  rw [Bool.eq_false_iff, ne_eq, sn_iff] at *
  have h1 : ¬ ab y x = true := fun e => h (.inl e)
  have k1 : ¬ ab z y = true := fun e => k (.inl e)
  rintro (e | ⟨⟨e1, e2⟩, e3⟩)
  · rcases Classical.em (ab y z = true) with e4 | e4
    · exact h1 (ab_trans e4 e)
    · obtain ⟨e5, e6⟩ := ab_total (Bool.eq_false_iff.2 e4) (Bool.eq_false_iff.2 k1)
      exact h1 (by rw [ab_left e5 e6]; exact e)
  · have hxz : ab x y = ab z y := ab_left e1.symm e2.symm
    have : x.key = y.key ∧ x.seq = y.seq := ab_total (by rw [hxz]; exact Bool.eq_false_iff.2 k1) (Bool.eq_false_iff.2 h1)
    have a1 : ¬ q < p := fun e => h (.inr ⟨⟨this.1.symm, this.2.symm⟩, e⟩)
    have a2 : ¬ r < q := fun e => k (.inr ⟨⟨e1.trans this.1, e2.trans this.2⟩, e⟩)
    omega
theorem flat_mem {rem : List (List Ent)} {y : Ent} (h : y ∈ rem.flatten) : ∃ (q : Nat) (r : List Ent), rem[q]? = some r ∧ y ∈ r := by
  obtain ⟨r, hr, hy⟩ := List.mem_flatten.1 h
  obtain ⟨q, hq⟩ := List.getElem?_of_mem hr
  exact ⟨q, r, hq, hy⟩
theorem rem_split {rem : List (List Ent)} {p : Nat} {r : List Ent} (h : rem[p]? = some r) : rem = rem.take p ++ r :: rem.drop (p + 1) := by
  conv => lhs; rw [← List.take_append_drop p rem]
  rw [List.drop_eq_getElem?_toList_append, h]; rfl
theorem set_split {rem : List (List Ent)} {p : Nat} {r : List Ent} (h : rem[p]? = some r) (t : List Ent) : rem.set p t = rem.take p ++ t :: rem.drop (p + 1) := by
  rw [List.set_eq_take_append_cons_drop, if_pos (List.getElem?_eq_some_iff.1 h).1]
theorem Jn.step {rows : List (List Ent)} {L : List Ent} {rem : List (List Ent)} (h : Jn rows L rem) {x : Ent} {t : List Ent} {p : Nat} (hp : rem[p]? = some (x :: t))
    (hmin : ∀ q y u, rem[q]? = some (y :: u) → sn y q x p = false) : Jn rows (wn L x) (rem.set p t) := by
  have hsp := rem_split hp
  have hst := set_split hp t
  have hrw : ∀ {q : Nat} {r : List Ent}, rem[q]? = some r → Rw r := fun hq => h.each _ (List.mem_of_getElem? hq)
  have hm2 : ∀ y ∈ rem.flatten, ab y x = false := fun y hy => by
    obtain ⟨q, r, hq, hyr⟩ := flat_mem hy
    cases r with
    | nil => simp at hyr
    | cons y0 u =>
      have h0 := hmin q y0 u hq
      rw [Bool.eq_false_iff, ne_eq, sn_iff] at h0
      have h1 : ¬ ab y0 x = true := fun e => h0 (.inl e)
      rcases List.mem_cons.1 hyr with rfl | hyu
      · exact Bool.eq_false_iff.2 h1
      · rw [Bool.eq_false_iff]
        intro e
        exact h1 (ab_trans ((List.pairwise_cons.1 (hrw hq)).1 y hyu) e)
  have hxf : x ∈ rem.flatten := List.mem_flatten.2 ⟨_, List.mem_of_getElem? hp, List.mem_cons_self⟩
  have hlook : look rem.flatten x.key x.seq = some x := by
    rw [hsp, List.flatten_append, look_app, look_not fun z hz e1 e2 => ?_]
    · rw [List.flatten_cons, look_app, look_cons]; rfl
    · obtain ⟨q, r, hq, hzr⟩ := flat_mem hz
      rw [List.getElem?_take] at hq
      split at hq
      · rename_i hqp
        cases r with
        | nil => simp at hzr
        | cons y0 u =>
          have h0 := hmin q y0 u hq
          rw [Bool.eq_false_iff, ne_eq, sn_iff] at h0
          rcases List.mem_cons.1 hzr with rfl | hzu
          · exact h0 (.inr ⟨⟨e1, e2⟩, hqp⟩)
          · refine h0 (.inl ?_)
            rw [← ab_right e1 e2]
            exact (List.pairwise_cons.1 (hrw hq)).1 z hzu
      · cases hq
  have hother : ∀ k s, ¬ (x.key = k ∧ x.seq = s) → look (rem.set p t).flatten k s = look rem.flatten k s := fun k s hk => by
    rw [hst]
    conv => rhs; rw [hsp]
    rw [List.flatten_append, List.flatten_append, look_app, look_app, List.flatten_cons, List.flatten_cons, look_app, look_app, show x :: t = [x] ++ t from rfl, look_app, look_other hk]
    simp
  have hsub : ∀ y ∈ (rem.set p t).flatten, y ∈ rem.flatten := fun y hy => by
    rw [hst, List.flatten_append, List.flatten_cons] at hy
    rw [hsp, List.flatten_append, List.flatten_cons]
    simp only [List.mem_append] at hy ⊢
    rcases hy with hy | hy | hy
    · exact .inl hy
    · exact .inr (.inl (List.mem_cons_of_mem _ hy))
    · exact .inr (.inr hy)
  have hrows : ∀ r ∈ rem.set p t, Rw r := fun r hr => by
    rw [hst] at hr
    rcases List.mem_append.1 hr with hr | hr
    · exact h.each r (List.mem_of_mem_take hr)
    · rcases List.mem_cons.1 hr with rfl | hr
      · exact (List.pairwise_cons.1 (hrw hp)).2
      · exact h.each r (List.mem_of_mem_drop hr)
  unfold wn
  split
  · rename_i hl
    have hL : L = [] := List.getLast?_eq_none_iff.1 hl
    subst hL
    refine ⟨by simp [Rw], hrows, fun k s => ?_, fun z hz y hy => ?_⟩
    · rw [h.lk]
      by_cases hk : x.key = k ∧ x.seq = s
      · obtain ⟨rfl, rfl⟩ := hk
        rw [hlook, List.nil_append, look_one]; rfl
      · rw [hother k s hk, List.nil_append, look_other hk]; rfl
    · rw [List.nil_append, List.mem_singleton] at hz
      subst hz
      exact hm2 y (hsub y hy)
  · rename_i z hl
    have hz : z ∈ L := List.mem_of_getLast? hl
    split
    · rename_i hzx
      have hall : ∀ u ∈ L, ab u x = true := fun u hu => by
        obtain ⟨i, hi⟩ := List.getElem?_of_mem hu
        rw [List.getLast?_eq_getElem?] at hl
        have hil := (List.getElem?_eq_some_iff.1 hi).1
        rcases Nat.lt_or_ge i (L.length - 1) with e | e
        · exact ab_trans (h.row.lt hi hl e) hzx
        · have : i = L.length - 1 := by omega
          rw [this, hl] at hi; cases hi; exact hzx
      refine ⟨?_, hrows, fun k s => ?_, fun u hu y hy => ?_⟩
      · unfold Rw
        rw [List.pairwise_append]
        exact ⟨h.row, by simp, fun u hu v hv => by rw [List.mem_singleton] at hv; subst hv; exact hall u hu⟩
      · rw [h.lk, look_app]
        by_cases hk : x.key = k ∧ x.seq = s
        · obtain ⟨rfl, rfl⟩ := hk
          have hn : look L x.key x.seq = none := look_not fun u hu e1 e2 => by
            have := hall u hu; rw [ab_same e1 e2] at this; cases this
          rw [hn, hlook, look_one]; rfl
        · rw [hother k s hk, look_other hk]; simp
      · rcases List.mem_append.1 hu with hu | hu
        · exact h.last u hu y (hsub y hy)
        · rw [List.mem_singleton] at hu
          subst hu
          exact hm2 y (hsub y hy)
    · rename_i hzx
      obtain ⟨e1, e2⟩ := ab_total (Bool.eq_false_iff.2 hzx) (h.last z hz x hxf)
      refine ⟨h.row, hrows, fun k s => ?_, fun u hu y hy => h.last u hu y (hsub y hy)⟩
      rw [h.lk]
      by_cases hk : x.key = k ∧ x.seq = s
      · obtain ⟨rfl, rfl⟩ := hk
        cases hL : look L x.key x.seq with
        | none => exact absurd (look_none hL hz e1 e2) id
        | some v => rfl
      · rw [hother k s hk]
end Mg
end Go.Proofs.Ytpbhbgoaaephgaa
