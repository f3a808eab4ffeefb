/-
  Tables of package mem in plain mathematics: the order of entries, what a put makes, links level by level, how many entries a search passes.
-/
import Derived.Test.YtpbhbgoaaephgaaNumMath
namespace Go.Proofs.Ytpbhbgoaaephgaa
set_option linter.unusedVariables false
set_option maxRecDepth 100000
namespace Mm
theorem less_eq : ∀ (x y : List UInt8), Op.bytesLess x y = decide (x < y)
  | [], [] => by simp [Op.bytesLess]
  | _ :: _, [] => by simp [Op.bytesLess]
  | [], _ :: _ => by simp [Op.bytesLess]
  | a :: x, b :: y => by
    rw [Op.bytesLess, less_eq x y]
    simp only [List.cons_lt_cons_iff]
    by_cases h1 : a < b <;> by_cases h2 : a = b <;> by_cases h3 : x < y <;> simp [h1, h2, h3]
theorem lt_trans {a b c : List UInt8} (h : a < b) (k : b < c) : a < c := List.lt_trans h k
theorem lt_irrefl (a : List UInt8) : ¬ a < a := List.lt_irrefl a
theorem lt_total {a b : List UInt8} (h : ¬ a < b) (k : ¬ b < a) : a = b := List.le_antisymm (List.not_lt.1 k) (List.not_lt.1 h)
structure Ent where
  key : List UInt8
  seq : Nat
  del : Bool
  val : List UInt8
theorem ent_eq (a b : Ent) : (a.key = b.key ∧ a.seq = b.seq ∧ a.del = b.del ∧ a.val = b.val) ↔ a = b := by
  obtain ⟨d, k, v, z⟩ := a
  obtain ⟨d', k', v', z'⟩ := b
  constructor
  · rintro ⟨h1, h2, h3, h4⟩
    simp only at h1 h2 h3 h4
    subst h1 h2 h3 h4
    rfl
  · intro h
    rw [h]
    exact ⟨rfl, rfl, rfl, rfl⟩
instance entDec : DecidableEq Ent := fun a b => decidable_of_iff _ (ent_eq a b)
def zent : Ent := ⟨[], 0, false, []⟩
/-- is a key and a number ahead of another one? -/
def ahd (k : List UInt8) (s : Nat) (k' : List UInt8) (s' : Nat) : Bool := if k = k' then decide (s' < s) else decide (k < k')
def Ent.ah (x : Ent) (k : List UInt8) (s : Nat) : Bool := ahd x.key x.seq k s
theorem ahd_iff {k k' : List UInt8} {s s' : Nat} : ahd k s k' s' = true ↔ k < k' ∨ (k = k' ∧ s' < s) := by
  unfold ahd
  split
  · rename_i h; subst h; simp [lt_irrefl]
  · rename_i h; simp [h]
theorem ahd_trans {a b c : List UInt8} {s t u : Nat} (h : ahd a s b t = true) (k : ahd b t c u = true) : ahd a s c u = true := by
  rw [ahd_iff] at *
  rcases h with h | ⟨rfl, h⟩
  · rcases k with k | ⟨rfl, k⟩
    · exact .inl (lt_trans h k)
    · exact .inl h
  · rcases k with k | ⟨rfl, k⟩
    · exact .inl k
    · exact .inr ⟨rfl, by omega⟩
theorem ahd_irrefl (k : List UInt8) (s : Nat) : ahd k s k s = false := by simp [ahd]
theorem ahd_total {a b : List UInt8} {s t : Nat} (h : ahd a s b t = false) (k : ahd b t a s = false) : a = b ∧ s = t := by
  rw [Bool.eq_false_iff, ne_eq, ahd_iff] at *
  have e : a = b := lt_total (fun x => h (.inl x)) (fun x => k (.inl x))
  subst e
  exact ⟨rfl, by
    have h1 : ¬ t < s := fun x => h (.inr ⟨rfl, x⟩)
    have h2 : ¬ s < t := fun x => k (.inr ⟨rfl, x⟩)
    omega⟩
/-- may an entry be in a table? -/
def may (x : Ent) : Bool := decide (1 ≤ x.key.length) && decide (x.key.length ≤ 100) && decide (x.val.length ≤ 100) && (!x.del || decide (x.val = [])) && decide (1 ≤ x.seq) && decide (x.seq ≤ 1099511627776)
theorem may_iff {x : Ent} : may x = true ↔ 1 ≤ x.key.length ∧ x.key.length ≤ 100 ∧ x.val.length ≤ 100 ∧ (x.del = true → x.val = []) ∧ 1 ≤ x.seq ∧ x.seq ≤ 1099511627776 := by
  unfold may
  cases hd : x.del <;> simp [and_assoc]
abbrev Tv := Ent × Nat
def ahT (k : List UInt8) (s : Nat) (x : Tv) : Bool := x.1.ah k s
/-- those that are ahead of a key and a number, and the others -/
def A (T : List Tv) (k : List UInt8) (s : Nat) : List Tv := T.takeWhile (ahT k s)
def Z (T : List Tv) (k : List UInt8) (s : Nat) : List Tv := T.dropWhile (ahT k s)
theorem AZ (T : List Tv) (k : List UInt8) (s : Nat) : A T k s ++ Z T k s = T := List.takeWhile_append_dropWhile
structure Good (T : List Tv) : Prop where
  rise : T.Pairwise (fun x y => ahd x.1.key x.1.seq y.1.key y.1.seq = true)
  may : ∀ x ∈ T, may x.1 = true
  low : ∀ x ∈ T, 1 ≤ x.2
  high : ∀ x ∈ T, x.2 ≤ 8
def has (T : List Tv) (k : List UInt8) (s : Nat) : Bool := match Z T k s with
  | [] => false
  | x :: _ => decide (x.1.key = k) && decide (x.1.seq = s)
def code (T : List Tv) (e : Ent) (h : Int) : Int := if may e = false then 2 else if h < 1 ∨ 8 < h then 1 else if has T e.key e.seq then 11 else 0
def put (T : List Tv) (e : Ent) (h : Int) : List Tv := if code T e h = 0 then A T e.key e.seq ++ (e, h.toNat) :: Z T e.key e.seq else T
def ents (T : List Tv) : List Ent := T.map Prod.fst
def hts (T : List Tv) : List Nat := T.map Prod.snd
def sizeE (e : Ent) : Nat := e.key.length + e.val.length
def size (T : List Tv) : Nat := (T.map (fun x => sizeE x.1)).sum
def get (T : List Tv) (k : List UInt8) (s : Nat) : Option Ent := match Z T k s with
  | [] => none
  | x :: _ => if x.1.key = k then some x.1 else none
theorem A_ah {T : List Tv} {k : List UInt8} {s : Nat} : ∀ x ∈ A T k s, ahT k s x = true := fun x hx => by
  unfold A at hx
  induction T with
  | nil => simp at hx
  | cons y T ih =>
    rw [List.takeWhile_cons] at hx
    split at hx
    · rename_i h
      rcases List.mem_cons.1 hx with rfl | hx
      · exact h
      · exact ih hx
    · simp at hx
theorem Z_head {T : List Tv} {k : List UInt8} {s : Nat} {x : Tv} {r : List Tv} (h : Z T k s = x :: r) : ahT k s x = false := by
  unfold Z at h
  induction T with
  | nil => simp at h
  | cons y T ih =>
    rw [List.dropWhile_cons] at h
    split at h
    · exact ih h
    · rename_i hy
      injection h with h1 h2
      subst h1
      simpa using hy
theorem Good.left {T : List Tv} (g : Good T) (k : List UInt8) (s : Nat) : (A T k s).Pairwise (fun x y => ahd x.1.key x.1.seq y.1.key y.1.seq = true) := by
  have := g.rise; rw [← AZ T k s, List.pairwise_append] at this; exact this.1
theorem Good.right {T : List Tv} (g : Good T) (k : List UInt8) (s : Nat) : (Z T k s).Pairwise (fun x y => ahd x.1.key x.1.seq y.1.key y.1.seq = true) := by
  have := g.rise; rw [← AZ T k s, List.pairwise_append] at this; exact this.2.1
/-- all behind the first that isn't ahead aren't -/
theorem Good.Z_not {T : List Tv} (g : Good T) {k : List UInt8} {s : Nat} : ∀ x ∈ Z T k s, ahT k s x = false := fun x hx => by
  have hr := g.right k s
  cases hz : Z T k s with
  | nil => rw [hz] at hx; simp at hx
  | cons y r =>
    rw [hz] at hx hr
    have hy := Z_head hz
    rcases List.mem_cons.1 hx with rfl | hx
    · exact hy
    · have hyx := (List.pairwise_cons.1 hr).1 x hx
      rw [Bool.eq_false_iff, ne_eq]
      intro hax
      have := ahd_trans hyx hax
      rw [show ahd y.1.key y.1.seq k s = ahT k s y from rfl, hy] at this
      cases this
theorem has_false {T : List Tv} (g : Good T) {k : List UInt8} {s : Nat} (h : has T k s = false) : ∀ x ∈ Z T k s, ahd k s x.1.key x.1.seq = true := fun x hx => by
  have hr := g.right k s
  unfold has at h
  cases hz : Z T k s with
  | nil => rw [hz] at hx; simp at hx
  | cons y r =>
    rw [hz] at hx hr h
    have hy := Z_head hz
    have hky : ahd k s y.1.key y.1.seq = true := by
      cases hc : ahd k s y.1.key y.1.seq with
      | true => rfl
      | false =>
        have := ahd_total hc hy
        simp [← this.1, ← this.2] at h
    rcases List.mem_cons.1 hx with rfl | hx
    · exact hky
    · exact ahd_trans hky ((List.pairwise_cons.1 hr).1 x hx)
theorem has_iff {T : List Tv} (g : Good T) {k : List UInt8} {s : Nat} : has T k s = true ↔ ∃ x ∈ T, x.1.key = k ∧ x.1.seq = s := by
  constructor
  · intro h
    unfold has at h
    cases hz : Z T k s with
    | nil => rw [hz] at h; simp at h
    | cons y r =>
      rw [hz] at h
      simp at h
      exact ⟨y, by rw [← AZ T k s, hz]; simp, h.1, h.2⟩
  · rintro ⟨x, hx, rfl, rfl⟩
    cases hh : has T x.1.key x.1.seq with
    | true => rfl
    | false =>
      rw [← AZ T x.1.key x.1.seq, List.mem_append] at hx
      rcases hx with hx | hx
      · have := A_ah x hx
        unfold ahT Ent.ah at this
        rw [ahd_irrefl] at this; cases this
      · have := has_false g hh x hx
        rw [ahd_irrefl] at this; cases this
theorem code_zero {T : List Tv} {e : Ent} {h : Int} : code T e h = 0 ↔ may e = true ∧ 1 ≤ h ∧ h ≤ 8 ∧ has T e.key e.seq = false := by
  unfold code
  cases hm : may e with
  | false => simp
  | true =>
    simp only [Bool.true_eq_false, if_false]
    by_cases hh : h < 1 ∨ 8 < h
    · rw [if_pos hh]; simp; omega
    · rw [if_neg hh]
      cases has T e.key e.seq <;> simp <;> omega
theorem put_no {T : List Tv} {e : Ent} {h : Int} (c : code T e h ≠ 0) : put T e h = T := by unfold put; rw [if_neg c]
theorem put_yes {T : List Tv} {e : Ent} {h : Int} (c : code T e h = 0) : put T e h = A T e.key e.seq ++ (e, h.toNat) :: Z T e.key e.seq := by unfold put; rw [if_pos c]
theorem Good.put {T : List Tv} (g : Good T) (e : Ent) (h : Int) : Good (put T e h) := by
  by_cases c : code T e h = 0
  · rw [put_yes c]
    obtain ⟨h1, h2, h3, h4⟩ := code_zero.1 c
    have hmem : ∀ x, x ∈ A T e.key e.seq ++ (e, h.toNat) :: Z T e.key e.seq → x = (e, h.toNat) ∨ x ∈ T := fun x hx => by
      rw [← AZ T e.key e.seq]
      simp only [List.mem_append, List.mem_cons] at hx ⊢
      exact or_left_comm.1 hx
    refine ⟨?_, fun x hx => ?_, fun x hx => ?_, fun x hx => ?_⟩
    · rw [List.pairwise_append]
      refine ⟨g.left _ _, List.pairwise_cons.2 ⟨fun x hx => has_false g h4 x hx, g.right _ _⟩, fun a ha b hb => ?_⟩
      have h5 := A_ah a ha
      rcases List.mem_cons.1 hb with rfl | hb
      · exact h5
      · exact ahd_trans h5 (has_false g h4 b hb)
    · rcases hmem x hx with rfl | hx
      · exact h1
      · exact g.may x hx
    · rcases hmem x hx with rfl | hx
      · simp only; omega
      · exact g.low x hx
    · rcases hmem x hx with rfl | hx
      · simp only; omega
      · exact g.high x hx
  · rw [put_no c]; exact g
theorem good_nil : Good [] := ⟨List.Pairwise.nil, by simp, by simp, by simp⟩
theorem put_len {T : List Tv} {e : Ent} {h : Int} (c : code T e h = 0) : (put T e h).length = T.length + 1 := by
  rw [put_yes c]
  conv => rhs; rw [← AZ T e.key e.seq]
  simp; omega
theorem put_len_le (T : List Tv) (e : Ent) (h : Int) : (put T e h).length ≤ T.length + 1 := by
  by_cases c : code T e h = 0
  · rw [put_len c]; omega
  · rw [put_no c]; omega
theorem put_size {T : List Tv} {e : Ent} {h : Int} (c : code T e h = 0) : size (put T e h) = size T + sizeE e := by
  rw [put_yes c]
  conv => rhs; rw [← AZ T e.key e.seq]
  simp [size]; omega
theorem put_mem {T : List Tv} {e : Ent} {h : Int} (c : code T e h = 0) {x : Tv} : x ∈ put T e h ↔ x = (e, h.toNat) ∨ x ∈ T := by
  rw [put_yes c]
  conv => rhs; rw [← AZ T e.key e.seq]
  simp only [List.mem_append, List.mem_cons]
  exact or_left_comm
theorem size_le {T : List Tv} (g : Good T) : size T ≤ 200 * T.length := by
  have hm := g.may
  clear g
  induction T with
  | nil => simp [size]
  | cons x T ih =>
    have h1 := may_iff.1 (hm x List.mem_cons_self)
    have h2 := ih (fun y hy => hm y (List.mem_cons_of_mem _ hy))
    simp only [size, List.map_cons, List.sum_cons, List.length_cons, sizeE] at *
    omega
/-- one link from each to the next, through l to the end -/
def Ch (g : Nat → Option Nat) : Nat → List Nat → Prop
  | a, [] => g a = none
  | a, b :: l => g a = some b ∧ Ch g b l
def lst : Nat → List Nat → Nat
  | a, [] => a
  | _, b :: l => lst b l
theorem lst_app (a : Nat) : ∀ (u v : List Nat), lst a (u ++ v) = lst (lst a u) v := fun u => by
  induction u generalizing a with
  | nil => intro v; rfl
  | cons b u ih => intro v; exact ih b v
theorem lst_ne (a b : Nat) {u : List Nat} (h : u ≠ []) : lst a u = lst b u := by
  cases u with
  | nil => exact absurd rfl h
  | cons c u => rfl
theorem lst_mem (a : Nat) : ∀ (u : List Nat), lst a u = a ∨ lst a u ∈ u := fun u => by
  induction u generalizing a with
  | nil => exact .inl rfl
  | cons b u ih =>
    refine .inr ?_
    rcases ih b with h | h
    · rw [lst, h]; exact List.mem_cons_self
    · rw [lst]; exact List.mem_cons_of_mem _ h
theorem Ch.at {g : Nat → Option Nat} {a : Nat} {u v : List Nat} (h : Ch g a (u ++ v)) : Ch g (lst a u) v := by
  induction u generalizing a with
  | nil => exact h
  | cons b u ih => exact ih h.2
theorem Ch.congr {g g' : Nat → Option Nat} {a : Nat} {l : List Nat} (h : Ch g a l) (k : ∀ c ∈ a :: l, g' c = g c) : Ch g' a l := by
  induction l generalizing a with
  | nil => exact (k a List.mem_cons_self).trans h
  | cons b l ih => exact ⟨(k a List.mem_cons_self).trans h.1, ih h.2 (fun c hc => k c (List.mem_cons_of_mem _ hc))⟩
theorem Ch.ins {g g' : Nat → Option Nat} {a x : Nat} {u v : List Nat} (h : Ch g a (u ++ v)) (hn : (a :: (u ++ v)).Nodup) (hx : x ∉ a :: (u ++ v)) (h1 : g' x = g (lst a u)) (h2 : g' (lst a u) = some x) (h3 : ∀ c, c ≠ x → c ≠ lst a u → g' c = g c) : Ch g' a (u ++ x :: v) := by
  induction u generalizing a with
  | nil =>
    simp only [List.nil_append, lst] at *
    refine ⟨h2, ?_⟩
    cases v with
    | nil => exact h1.trans h
    | cons c v =>
      refine ⟨h1.trans h.1, h.2.congr fun d hd => h3 d (fun e => ?_) (fun e => ?_)⟩
      · subst e; exact hx (List.mem_cons_of_mem _ hd)
      · subst e; exact (List.nodup_cons.1 hn).1 hd
  | cons b u ih =>
    simp only [List.cons_append, lst] at *
    have hab : a ≠ lst b u := fun e => (List.nodup_cons.1 hn).1 (by
      rw [e]
      rcases lst_mem b u with h' | h'
      · rw [h']; exact List.mem_cons_self
      · exact List.mem_cons_of_mem _ (List.mem_append.2 (.inl h')))
    refine ⟨(h3 a (fun e => hx (by rw [e]; exact List.mem_cons_self)) hab).trans h.1, ih h.2 (List.nodup_cons.1 hn).2 (fun e => hx (List.mem_cons_of_mem _ e)) h1 h2 h3⟩
/-- an entry with its tower, and where it lies -/
structure Nd where
  b : Nat
  e : Ent
  h : Nat
def Nd.v (x : Nd) : Tv := (x.e, x.h)
def Nd.ah (k : List UInt8) (s : Nat) (x : Nd) : Bool := x.e.ah k s
def view (N : List Nd) : List Tv := N.map Nd.v
def blks (N : List Nd) : List Nat := N.map Nd.b
def fl (j : Nat) (N : List Nd) : List Nd := N.filter (fun x => decide (j < x.h))
def nA (N : List Nd) (k : List UInt8) (s : Nat) : List Nd := N.takeWhile (Nd.ah k s)
def nZ (N : List Nd) (k : List UInt8) (s : Nat) : List Nd := N.dropWhile (Nd.ah k s)
theorem nAZ (N : List Nd) (k : List UInt8) (s : Nat) : nA N k s ++ nZ N k s = N := List.takeWhile_append_dropWhile
theorem view_A (N : List Nd) (k : List UInt8) (s : Nat) : view (nA N k s) = A (view N) k s := by
  unfold view nA A
  rw [List.takeWhile_map]
  rfl
theorem view_Z (N : List Nd) (k : List UInt8) (s : Nat) : view (nZ N k s) = Z (view N) k s := by
  unfold view nZ Z
  rw [List.dropWhile_map]
  rfl
theorem view_app (a b : List Nd) : view (a ++ b) = view a ++ view b := by simp [view]
theorem blks_app (a b : List Nd) : blks (a ++ b) = blks a ++ blks b := by simp [blks]
theorem fl_app (j : Nat) (a b : List Nd) : fl j (a ++ b) = fl j a ++ fl j b := by simp [fl]
/-- how many of these heights a search passes above a level -/
def stp (j : Nat) : List Nat → Nat
  | [] => 0
  | h :: r => (if j < h ∧ ∀ x ∈ r, x ≤ h then 1 else 0) + stp j r
theorem stp_none {j : Nat} {l : List Nat} (h : ∀ x ∈ l, x ≤ j) : stp j l = 0 := by
  induction l with
  | nil => rfl
  | cons a l ih =>
    rw [stp, ih (fun x hx => h x (List.mem_cons_of_mem _ hx)), if_neg]
    intro hc
    have := h a List.mem_cons_self
    omega
theorem stp_one {j : Nat} {l : List Nat} (h : ∀ x ∈ l, x ≤ j + 1) : stp j l = (l.filter (fun x => decide (j < x))).length := by
  induction l with
  | nil => rfl
  | cons a l ih =>
    have ha := h a List.mem_cons_self
    have hl := fun x hx => h x (List.mem_cons_of_mem _ hx)
    rw [stp, ih hl, List.filter_cons]
    by_cases hj : j < a
    · rw [if_pos ⟨hj, fun x hx => by have := hl x hx; omega⟩, if_pos (by simpa using hj)]
      simp; omega
    · rw [if_neg (fun c => hj c.1), if_neg (by simpa using hj)]
      omega
theorem stp_le (j : Nat) (l : List Nat) : stp j l ≤ l.length := by
  induction l with
  | nil => simp [stp]
  | cons a l ih => rw [stp]; simp only [List.length_cons]; split <;> omega
theorem stp_pos {l : List Nat} (h : ∀ x ∈ l, 1 ≤ x) (hl : l ≠ []) : 1 ≤ stp 0 l := by
  induction l with
  | nil => exact absurd rfl hl
  | cons a l ih =>
    rw [stp]
    cases l with
    | nil => rw [if_pos ⟨by have := h a List.mem_cons_self; omega, by simp⟩]; omega
    | cons b l => have := ih (fun x hx => h x (List.mem_cons_of_mem _ hx)) (by simp); omega
theorem stp_all {c : Nat} (hc : 1 ≤ c) {l : List Nat} (h : ∀ x ∈ l, x = c) : stp 0 l = l.length := by
  induction l with
  | nil => rfl
  | cons a l ih =>
    rw [stp, ih (fun x hx => h x (List.mem_cons_of_mem _ hx)), if_pos ⟨by have := h a List.mem_cons_self; omega, fun x hx => by rw [h a List.mem_cons_self, h x (List.mem_cons_of_mem _ hx)]; exact Nat.le_refl _⟩]
    simp; omega
def hs (N : List Nd) : List Nat := N.map Nd.h
theorem fl_hs (j : Nat) (N : List Nd) : ((hs N).filter (fun x => decide (j < x))).length = (fl j N).length := by
  unfold hs fl
  rw [List.filter_map, List.length_map]
  rfl
theorem fl_nil {j : Nat} {N : List Nd} (h : ∀ x ∈ hs N, x ≤ j) : fl j N = [] := by
  unfold fl
  rw [List.filter_eq_nil_iff]
  intro x hx
  have := h x.h (List.mem_map.2 ⟨x, hx, rfl⟩)
  simp; omega
/-- a level below: it begins where the one above ended -/
theorem lower (j : Nat) (N : List Nd) : ∃ u v, fl j N = u ++ v ∧ (∀ p, lst p (blks (fl (j + 1) N)) = lst p (blks u)) ∧ stp (j + 1) (hs N) + v.length = stp j (hs N) := by
  by_cases hall : ∀ x ∈ hs N, x ≤ j + 1
  · refine ⟨[], fl j N, rfl, fun p => ?_, ?_⟩
    · rw [fl_nil hall]
    · rw [stp_none hall, stp_one hall, fl_hs]; omega
  · induction N with
    | nil => exact absurd (by simp [hs]) hall
    | cons x N ih =>
      by_cases hr : ∀ y ∈ hs N, y ≤ j + 1
      · have hx : j + 1 < x.h := by
          rcases Nat.lt_or_ge (j + 1) x.h with h | h
          · exact h
          · exact absurd (fun y hy => by
              rcases List.mem_cons.1 hy with rfl | hy
              · exact h
              · exact hr y hy) hall
        have e1 : fl (j + 1) (x :: N) = [x] := by
          have := fl_nil hr
          unfold fl at *
          rw [List.filter_cons, if_pos (by simpa using hx), this]
        refine ⟨[x], fl j N, ?_, fun p => by rw [e1], ?_⟩
        · unfold fl
          rw [List.filter_cons, if_pos (by simp; omega)]
          rfl
        · have h0 : ∀ y ∈ hs N, y ≤ x.h := fun y hy => by have := hr y hy; omega
          show stp (j + 1) (x.h :: hs N) + _ = stp j (x.h :: hs N)
          rw [stp, stp, stp_none hr, stp_one hr, fl_hs, if_pos ⟨hx, h0⟩, if_pos ⟨by omega, h0⟩]
      · obtain ⟨u, v, h1, h2, h3⟩ := ih hr
        obtain ⟨y, hy, hyl⟩ : ∃ y, y ∈ hs N ∧ j + 1 < y := by
          apply Classical.byContradiction
          intro hc
          exact hr (fun y hy => Nat.le_of_not_lt (fun h => hc ⟨y, hy, h⟩))
        have hst : (if j + 1 < x.h ∧ ∀ z ∈ hs N, z ≤ x.h then 1 else 0) = (if j < x.h ∧ ∀ z ∈ hs N, z ≤ x.h then 1 else 0) := by
          by_cases hz : ∀ z ∈ hs N, z ≤ x.h
          · have := hz y hy
            rw [if_pos ⟨by omega, hz⟩, if_pos ⟨by omega, hz⟩]
          · rw [if_neg (fun c => hz c.2), if_neg (fun c => hz c.2)]
        have hne : blks (fl (j + 1) N) ≠ [] := by
          obtain ⟨z, hz, rfl⟩ := List.mem_map.1 hy
          intro hc
          have : z.b ∈ blks (fl (j + 1) N) := List.mem_map.2 ⟨z, List.mem_filter.2 ⟨hz, by simpa using hyl⟩, rfl⟩
          rw [hc] at this
          simp at this
        have hs3 : stp (j + 1) (hs (x :: N)) + v.length = stp j (hs (x :: N)) := by
          show stp (j + 1) (x.h :: hs N) + _ = stp j (x.h :: hs N)
          rw [stp, stp, hst]; omega
        by_cases hx : j < x.h
        · refine ⟨x :: u, v, ?_, fun p => ?_, hs3⟩
          · rw [show fl j (x :: N) = x :: fl j N by unfold fl; rw [List.filter_cons, if_pos (by simpa using hx)], h1]
            rfl
          · show _ = lst x.b (blks u)
            rw [← h2 x.b]
            by_cases hx1 : j + 1 < x.h
            · rw [show fl (j + 1) (x :: N) = x :: fl (j + 1) N by unfold fl; rw [List.filter_cons, if_pos (by simpa using hx1)]]
              rfl
            · rw [show fl (j + 1) (x :: N) = fl (j + 1) N by unfold fl; rw [List.filter_cons, if_neg (by simpa using hx1)]]
              exact lst_ne _ _ hne
        · refine ⟨u, v, ?_, fun p => ?_, hs3⟩
          · rw [show fl j (x :: N) = fl j N by unfold fl; rw [List.filter_cons, if_neg (by simpa using hx)], h1]
          · rw [show fl (j + 1) (x :: N) = fl (j + 1) N by unfold fl; rw [List.filter_cons, if_neg (by simp; omega)]]
            exact h2 p
end Mm
end Go.Proofs.Ytpbhbgoaaephgaa
