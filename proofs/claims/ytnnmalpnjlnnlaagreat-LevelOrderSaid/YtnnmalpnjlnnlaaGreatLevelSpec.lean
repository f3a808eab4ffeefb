/-
  Package level in plain mathematics: a version, what comes of an edit; the order of a level's tables.
-/
import Derived.Test.YtnnmalpnjlnnlaaGreatLevelMath
namespace Go.Proofs.YtnnmalpnjlnnlaaGreat
set_option linter.unusedVariables false
set_option maxRecDepth 100000
namespace Lv
/-- a version: lists of metas, three numbers -/
structure Ver where
  t : Nat → List Meta
  nx : Nat
  lg : Nat
  sq : Nat
/-- an edit -/
structure Edt where
  gone : List Nat
  new : Nat → List Meta
  nx : Nat
  lg : Nat
  sq : Nat
/-- the numbers of all tables -/
def fl (t : Nat → List Meta) : List Nat := ((List.range 4).flatMap t).map Meta.file
theorem fl_four (t : Nat → List Meta) : fl t = (t 0).map Meta.file ++ ((t 1).map Meta.file ++ ((t 2).map Meta.file ++ (t 3).map Meta.file)) := by
  simp [fl, List.range_succ]
theorem mem_fl {t : Nat → List Meta} {n : Nat} : n ∈ fl t ↔ ∃ l, l < 4 ∧ ∃ m ∈ t l, m.file = n := by
  simp only [fl, List.mem_map, List.mem_flatMap, List.mem_range]
  constructor
  · rintro ⟨m, ⟨l, hl, hm⟩, e⟩; exact ⟨l, hl, m, hm, e⟩
  · rintro ⟨l, hl, m, hm, e⟩; exact ⟨m, ⟨l, hl, hm⟩, e⟩
def takes (F g : List Nat) : Bool := decide (g.Nodup ∧ ∀ x ∈ g, x ∈ F)
def stay (t : Nat → List Meta) (g : List Nat) (l : Nat) : List Meta := (t l).filter fun m => !g.contains m.file
def chg (n b : Nat) : Nat := if b = 0 then n else b
def okN (n l : Nat) : Bool := decide (l ≤ n) && decide (n ≤ 1099511627776)
def all4 (p : Meta → Bool) (t : Nat → List Meta) : Bool := (List.range 4).all fun l => (t l).all p
theorem all4_iff {p : Meta → Bool} {t : Nat → List Meta} : all4 p t = true ↔ ∀ l, l < 4 → ∀ m ∈ t l, p m = true := by
  simp [all4, List.all_eq_true]
/-- does a table come ahead of another one, in level 0 or in another one? -/
def bef (top : Bool) (a b : Meta) : Bool := if top then decide (b.file < a.file) else decide (a.first < b.first)
def goOn (top : Bool) (x m : Meta) : Bool := if top then decide (m.file < x.file) else le x.first m.first
def put (top : Bool) (l : List Meta) (m : Meta) : List Meta := l.takeWhile (fun x => goOn top x m) ++ m :: l.dropWhile (fun x => goOn top x m)
def tog (top : Bool) (s c : List Meta) : List Meta := c.foldl (put top) s
def mm (a b : Meta) : Bool := meets a.first a.last b.first b.last
theorem mm_comm (a b : Meta) : mm a b = mm b a := by unfold mm meets; rw [Bool.and_comm]
def Apart (l : List Meta) : Prop := l.Pairwise fun a b => mm a b = false
instance apartDec (l : List Meta) : Decidable (Apart l) := inferInstanceAs (Decidable (l.Pairwise _))
theorem apart_perm {l m : List Meta} (h : l.Perm m) : Apart l ↔ Apart m := h.pairwise_iff (fun {x y} h => by rw [mm_comm]; exact h)
/-- in order, no two the other way round -/
def Srt (top : Bool) (l : List Meta) : Prop := l.Pairwise fun a b => bef top b a = false
theorem bef_trans {top : Bool} {a b c : Meta} (h : bef top b a = false) (k : bef top c b = false) : bef top c a = false := by
  unfold bef at *
  cases top
  · simp only [Bool.false_eq_true, if_false, decide_eq_false_iff_not] at *
    intro hc
    by_cases e : b.first < a.first
    · exact h e
    · by_cases e2 : a.first < b.first
      · exact k (Mm.lt_trans hc e2)
      · rw [Mm.lt_total e e2] at k; exact k hc
  · simp only [if_true, decide_eq_false_iff_not] at *
    omega
theorem goOn_yes {top : Bool} {x m : Meta} (h : goOn top x m = true) : bef top m x = false := by
  unfold goOn at h
  unfold bef
  cases top
  · simp only [Bool.false_eq_true, if_false] at *
    rw [le_iff] at h
    exact decide_eq_false h
  · simp only [if_true, decide_eq_true_eq, decide_eq_false_iff_not] at *
    omega
theorem goOn_no {top : Bool} {x m : Meta} (h : goOn top x m = false) : bef top x m = false := by
  unfold goOn at h
  unfold bef
  cases top
  · simp only [Bool.false_eq_true, if_false] at *
    rw [le_not] at h
    simp only [Bool.not_eq_false', decide_eq_true_eq] at h
    exact decide_eq_false (fun k => Mm.lt_irrefl _ (Mm.lt_trans h k))
  · simp only [if_true, decide_eq_false_iff_not] at *
    omega
theorem put_perm (top : Bool) (l : List Meta) (m : Meta) : (put top l m).Perm (l ++ [m]) := by
  unfold put
  refine List.perm_middle.trans ?_
  rw [List.takeWhile_append_dropWhile]
  exact (List.perm_append_comm (l₁ := [m]) (l₂ := l))
theorem tog_perm (top : Bool) : ∀ (c s : List Meta), (tog top s c).Perm (s ++ c)
  | [], s => by simp [tog]
  | m :: c, s => by
    have h := tog_perm top c (put top s m)
    refine List.Perm.trans h ?_
    have := (put_perm top s m).append_right c
    simpa using this
theorem put_srt {top : Bool} {l : List Meta} (h : Srt top l) (m : Meta) : Srt top (put top l m) := by
  unfold Srt at h
  have hl : l = l.takeWhile (fun x => goOn top x m) ++ l.dropWhile (fun x => goOn top x m) := List.takeWhile_append_dropWhile.symm
  have hd := List.head?_dropWhile_not (fun x => goOn top x m) l
  have ht := List.all_takeWhile (p := fun x => goOn top x m) (l := l)
  rw [List.all_eq_true] at ht
  unfold put Srt
  rw [hl, List.pairwise_append] at h
  obtain ⟨h1, h2, h3⟩ := h
  generalize l.takeWhile (fun x => goOn top x m) = A at *
  generalize l.dropWhile (fun x => goOn top x m) = B at *
  have hB : ∀ y ∈ B, bef top y m = false := by
    cases B with
    | nil => simp
    | cons b B =>
      simp only [List.head?_cons] at hd
      have hb := goOn_no hd
      intro y hy
      rcases List.mem_cons.1 hy with rfl | hy
      · exact hb
      · exact bef_trans hb ((List.pairwise_cons.1 h2).1 y hy)
  rw [List.pairwise_append]
  refine ⟨h1, List.pairwise_cons.2 ⟨hB, h2⟩, fun a ha b hb => ?_⟩
  rcases List.mem_cons.1 hb with rfl | hb
  · exact goOn_yes (ht a ha)
  · exact h3 a ha b hb
theorem tog_srt {top : Bool} : ∀ (c : List Meta) {s : List Meta}, Srt top s → Srt top (tog top s c)
  | [], s, h => h
  | m :: c, s, h => tog_srt c (put_srt h m)
theorem srt_one {top : Bool} {L M : List Meta} (h : ∀ a ∈ L, ∀ b ∈ L, bef top a b = false → bef top b a = false → a = b) (p : L.Perm M) (hL : Srt top L) (hM : Srt top M) : L = M :=
  List.Perm.eq_of_pairwise (le := fun a b => bef top b a = false) (fun a b ha hb h1 h2 => h a ha b (p.mem_iff.2 hb) h2 h1) hL hM p
theorem meets_self {a b : Meta} (ha : le a.first a.last = true) (hb : le b.first b.last = true) (h1 : bef false a b = false) (h2 : bef false b a = false) : mm a b = true := by
  unfold bef at h1 h2
  simp only [Bool.false_eq_true, if_false, decide_eq_false_iff_not] at h1 h2
  have e := Mm.lt_total h1 h2
  unfold mm meets
  rw [← e] at hb ⊢
  rw [ha, hb]; rfl
theorem pw_mem {α : Type} {R : α → α → Prop} (hs : ∀ a b, R a b → R b a) {l : List α} (h : l.Pairwise R) : ∀ a ∈ l, ∀ b ∈ l, a = b ∨ R a b := by
  induction l with
  | nil => simp
  | cons x l ih =>
    obtain ⟨h1, h2⟩ := List.pairwise_cons.1 h
    intro a ha b hb
    rcases List.mem_cons.1 ha with e1 | ha <;> rcases List.mem_cons.1 hb with e2 | hb
    · exact .inl (e1.trans e2.symm)
    · rw [e1]; exact .inr (h1 b hb)
    · rw [e2]; exact .inr (hs _ _ (h1 a ha))
    · exact ih h2 a ha b hb
theorem apart_one {L M : List Meta} (hm : ∀ a ∈ L, le a.first a.last = true) (ha : Apart L) (p : L.Perm M) (hL : Srt false L) (hM : Srt false M) : L = M := by
  refine srt_one (fun a h1 b h2 h3 h4 => ?_) p hL hM
  rcases pw_mem (R := fun a b => mm a b = false) (fun x y h => by rw [mm_comm]; exact h) ha a h1 b h2 with h | h
  · exact h
  · rw [meets_self (hm a h1) (hm b h2) h3 h4] at h; cases h
theorem top_one {L M : List Meta} (hn : (L.map Meta.file).Nodup) (p : L.Perm M) (hL : Srt true L) (hM : Srt true M) : L = M := by
  refine srt_one (fun a h1 b h2 h3 h4 => ?_) p hL hM
  unfold bef at h3 h4
  simp only [if_true, decide_eq_false_iff_not] at h3 h4
  have e : a.file = b.file := by omega
  have hp : L.Pairwise fun a b => a.file ≠ b.file := by rw [List.Nodup, List.pairwise_map] at hn; exact hn
  rcases pw_mem (R := fun a b : Meta => a.file ≠ b.file) (fun x y h k => h k.symm) hp a h1 b h2 with h | h
  · exact h
  · exact absurd e h
/-- what stands in a level behind an edit -/
def res (V : Ver) (E : Edt) (l : Nat) : List Meta := tog (l == 0) (stay V.t E.gone l) (E.new l)
def okR (V : Ver) (E : Edt) : Bool := okN (chg V.nx E.nx) V.nx && okN (chg V.lg E.lg) V.lg && okN (chg V.sq E.sq) V.sq && all4 (fun m => decide (m.file < chg V.nx E.nx) && decide (m.seq ≤ chg V.sq E.sq)) E.new
def manyL (s c : Nat → List Meta) : Bool := (List.range 4).any fun l => decide (30 < (s l).length + (c l).length)
theorem manyL_iff {s c : Nat → List Meta} : manyL s c = false ↔ ∀ l, l < 4 → (s l).length + (c l).length ≤ 30 := by
  simp [manyL]
def apart3 (t : Nat → List Meta) : Bool := decide (Apart (t 1)) && decide (Apart (t 2)) && decide (Apart (t 3))
theorem apart3_iff {t : Nat → List Meta} : apart3 t = true ↔ ∀ l, l < 4 → 1 ≤ l → Apart (t l) := by
  unfold apart3
  simp only [Bool.and_eq_true, decide_eq_true_eq]
  constructor
  · rintro ⟨⟨h1, h2⟩, h3⟩ l hl h
    have : l = 1 ∨ l = 2 ∨ l = 3 := by omega
    rcases this with rfl | rfl | rfl
    · exact h1
    · exact h2
    · exact h3
  · intro h
    exact ⟨⟨h 1 (by omega) (by omega), h 2 (by omega) (by omega)⟩, h 3 (by omega) (by omega)⟩
/-- the code that an edit is told, and the version that comes of it -/
def code (V : Ver) (E : Edt) : Nat :=
  if all4 may E.new = false then 2
  else if takes (fl V.t) E.gone = false then 10
  else if ¬ (fl (stay V.t E.gone) ++ fl E.new).Nodup then 11
  else if okR V E = false then 3
  else if manyL (stay V.t E.gone) E.new = true then 4
  else if apart3 (res V E) = false then 1
  else 0
def next (V : Ver) (E : Edt) : Ver := ⟨res V E, chg V.nx E.nx, chg V.lg E.lg, chg V.sq E.sq⟩
/-- what stays true of versions -/
structure Good (V : Ver) : Prop where
  len : ∀ l, l < 4 → (V.t l).length ≤ 30
  may : ∀ l, l < 4 → ∀ m ∈ V.t l, Lv.may m = true
  srt : ∀ l, l < 4 → Srt (l == 0) (V.t l)
  num : ∀ l, l < 4 → ∀ m ∈ V.t l, m.file < V.nx ∧ m.seq ≤ V.sq
  once : (fl V.t).Nodup
  apart : ∀ l, l < 4 → 1 ≤ l → Apart (V.t l)
  nx : 1 ≤ V.nx ∧ V.nx ≤ 1099511627776
  lg : V.lg ≤ 1099511627776
  sq : V.sq ≤ 1099511627776
def vz : Ver := ⟨fun _ => [], 1, 0, 0⟩
theorem good_vz : Good vz := ⟨fun l _ => by simp [vz], fun l _ m h => by simp [vz] at h, fun l _ => List.Pairwise.nil, fun l _ m h => by simp [vz] at h, by decide, fun l _ _ => List.Pairwise.nil, by simp [vz], by simp [vz], by simp [vz]⟩
theorem may_le {m : Meta} (h : may m = true) : le m.first m.last = true := by
  unfold may at h; simp only [Bool.and_eq_true] at h; exact h.2
theorem res_perm (V : Ver) (E : Edt) (l : Nat) : (res V E l).Perm (stay V.t E.gone l ++ E.new l) := tog_perm _ _ _
theorem stay_srt {V : Ver} (g : Good V) (G : List Nat) (l : Nat) (hl : l < 4) : Srt (l == 0) (stay V.t G l) := List.Pairwise.sublist List.filter_sublist (g.srt l hl)
theorem res_srt {V : Ver} (g : Good V) (E : Edt) (l : Nat) (hl : l < 4) : Srt (l == 0) (res V E l) := tog_srt _ (stay_srt g _ l hl)
theorem fl_perm {s c : Nat → List Meta} {r : Nat → List Meta} (h : ∀ l, l < 4 → (r l).Perm (s l ++ c l)) : (fl r).Perm (fl s ++ fl c) := by
  rw [fl_four, fl_four s, fl_four c]
  have p := fun l hl => by have := (h l hl).map Meta.file; rw [List.map_append] at this; exact this
  have p0 := p 0 (by omega); have p1 := p 1 (by omega); have p2 := p 2 (by omega); have p3 := p 3 (by omega)
  refine (p0.append (p1.append (p2.append p3))).trans ?_
  generalize (s 0).map Meta.file = a0
  generalize (s 1).map Meta.file = a1
  generalize (s 2).map Meta.file = a2
  generalize (s 3).map Meta.file = a3
  generalize (c 0).map Meta.file = b0
  generalize (c 1).map Meta.file = b1
  generalize (c 2).map Meta.file = b2
  generalize (c 3).map Meta.file = b3
  rw [List.perm_iff_count]
  intro x
  simp only [List.count_append]
  omega
theorem stay_mem {t : Nat → List Meta} {G : List Nat} {l : Nat} {m : Meta} : m ∈ stay t G l ↔ m ∈ t l ∧ m.file ∉ G := by
  simp [stay]
/-- what a code 0 tells -/
theorem code_ok {V : Ver} {E : Edt} (h : code V E = 0) : all4 may E.new = true ∧ takes (fl V.t) E.gone = true ∧ (fl (stay V.t E.gone) ++ fl E.new).Nodup ∧ okR V E = true ∧ manyL (stay V.t E.gone) E.new = false ∧ apart3 (res V E) = true := by
  unfold code at h
  split at h; · cases h
  split at h; · cases h
  split at h; · cases h
  split at h; · cases h
  split at h; · cases h
  split at h; · cases h
  rename_i h1 h2 h3 h4 h5 h6
  exact ⟨by simpa using h1, by simpa using h2, Decidable.not_not.1 h3, by simpa using h4, by simpa using h5, by simpa using h6⟩
theorem good_next {V : Ver} {E : Edt} (g : Good V) (h : code V E = 0) : Good (next V E) := by
  obtain ⟨h1, h2, h3, h4, h5, h6⟩ := code_ok h
  rw [all4_iff] at h1
  rw [manyL_iff] at h5
  unfold okR at h4
  simp only [Bool.and_eq_true] at h4
  obtain ⟨⟨⟨n1, n2⟩, n3⟩, n4⟩ := h4
  rw [all4_iff] at n4
  unfold okN at n1 n2 n3
  simp only [Bool.and_eq_true, decide_eq_true_eq] at n1 n2 n3 n4
  have gn := g.nx
  have hmem : ∀ l, ∀ m ∈ res V E l, (m ∈ V.t l ∧ m.file ∉ E.gone) ∨ m ∈ E.new l := fun l m hm => by
    have := (res_perm V E l).mem_iff.1 hm
    rw [List.mem_append, stay_mem] at this
    exact this
  refine ⟨fun l hl => ?_, fun l hl m hm => ?_, fun l hl => res_srt g E l hl, fun l hl m hm => ?_, ?_, fun l hl h1 => ?_, ?_, ?_, ?_⟩
  · have := (res_perm V E l).length_eq
    rw [List.length_append] at this
    have := h5 l hl
    show (res V E l).length ≤ 30
    omega
  · rcases hmem l m hm with h | h
    · exact g.may l hl m h.1
    · exact h1 l hl m h
  · show m.file < chg V.nx E.nx ∧ m.seq ≤ chg V.sq E.sq
    rcases hmem l m hm with h | h
    · have := g.num l hl m h.1
      omega
    · exact n4 l hl m h
  · exact (fl_perm (fun l hl => res_perm V E l)).nodup_iff.2 h3
  · exact apart3_iff.1 h6 l hl h1
  · show 1 ≤ chg V.nx E.nx ∧ chg V.nx E.nx ≤ _
    omega
  · exact n2.2
  · exact n3.2
/-- lists as the program makes them are those of the document -/
theorem res_one {V : Ver} {E : Edt} (g : Good V) (h1 : all4 may E.new = true) (h3 : (fl (stay V.t E.gone) ++ fl E.new).Nodup) {l : Nat} (hl : l < 4) {L : List Meta} (p : L.Perm (stay V.t E.gone l ++ E.new l)) (s : Srt (l == 0) L) (ha : 1 ≤ l → Apart L) : L = res V E l := by
  have p2 : L.Perm (res V E l) := p.trans (res_perm V E l).symm
  rw [all4_iff] at h1
  by_cases h0 : l = 0
  · subst h0
    refine top_one ?_ p2 s (res_srt g E 0 hl)
    have hf : (fl (res V E)).Nodup := (fl_perm (fun l hl => res_perm V E l)).nodup_iff.2 h3
    rw [fl_four, List.nodup_append] at hf
    exact (p2.map Meta.file).nodup_iff.2 hf.1
  · have e0 : (l == 0) = false := by simpa using h0
    rw [e0] at s
    have hr := res_srt g E l hl
    rw [e0] at hr
    refine apart_one (fun a hm => ?_) (ha (by omega)) p2 s hr
    have := p.mem_iff.1 hm
    rw [List.mem_append, stay_mem] at this
    rcases this with h | h
    · exact may_le (g.may l hl a h.1)
    · exact may_le (h1 l hl a h)
/-- neighbours that do not meet: none do -/
theorem apart_adj : ∀ {L : List Meta}, (∀ a ∈ L, le a.first a.last = true) → Srt false L → (∀ (i : Nat) (a b : Meta), L[i]? = some a → L[i + 1]? = some b → mm a b = false) → Apart L
  | [], _, _, _ => List.Pairwise.nil
  | [x], _, _, _ => List.pairwise_singleton _ _
  | x :: y :: L, hm, hs, ha => by
    obtain ⟨s1, s2⟩ := List.pairwise_cons.1 hs
    have ih := apart_adj (L := y :: L) (fun a h => hm a (List.mem_cons_of_mem _ h)) s2 (fun i a b h1 h2 => ha (i + 1) a b (by simpa using h1) (by simpa using h2))
    have hxy := ha 0 x y rfl rfl
    refine List.pairwise_cons.2 ⟨fun z hz => ?_, ih⟩
    have hyz : le y.first z.first = true := by
      rcases List.mem_cons.1 hz with rfl | hz
      · rw [le_iff]; exact Mm.lt_irrefl _
      · have := (List.pairwise_cons.1 s2).1 z hz
        unfold bef at this
        simp only [Bool.false_eq_true, if_false, decide_eq_false_iff_not] at this
        exact le_iff.2 this
    have hx := hm x (by simp)
    have hy := hm y (by simp)
    have hxf : le x.first y.last = true := by
      have := s1 y (by simp)
      unfold bef at this
      simp only [Bool.false_eq_true, if_false, decide_eq_false_iff_not] at this
      rw [le_iff] at hy ⊢
      intro k
      by_cases e : y.first < x.first
      · exact this e
      · by_cases e2 : x.first < y.first
        · exact hy (Mm.lt_trans k e2)
        · rw [Mm.lt_total e e2] at hy; exact hy k
    unfold mm meets at hxy ⊢
    rw [hxf, Bool.and_true, le_not, Bool.not_eq_false', decide_eq_true_eq] at hxy
    rw [le_iff] at hyz
    have hzz : x.last < z.first := by
      by_cases e : y.first < z.first
      · exact Mm.lt_trans hxy e
      · rw [← Mm.lt_total e hyz]; exact hxy
    rw [show le z.first x.last = false by rw [le_not]; simpa using hzz, Bool.false_and]
end Lv
end Go.Proofs.YtnnmalpnjlnnlaaGreat
