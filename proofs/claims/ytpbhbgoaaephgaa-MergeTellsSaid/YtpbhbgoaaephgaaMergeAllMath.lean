/-
  What lies in the heap, against what is left of the rows.
-/
import Derived.Test.YtpbhbgoaaephgaaMergeNext
namespace Go.Proofs.Ytpbhbgoaaephgaa
open Go.ChangeShapes Go.WideShapes Go.ChangeAt Go.RowKit
set_option linter.unusedVariables false
set_option maxRecDepth 100000
set_option maxHeartbeats 400000

/-- the rows that aren't empty, with their places -/
def itsF : List Rs → Nat → List Rs
  | [], _ => []
  | r :: rs, k => if r.l = [] then itsF rs (k + 1) else ⟨r.A, r.c, r.l, k⟩ :: itsF rs (k + 1)
theorem itsF_app : ∀ (a b : List Rs) (k : Nat), itsF (a ++ b) k = itsF a k ++ itsF b (k + a.length)
  | [], b, k => by simp [itsF]
  | r :: a, b, k => by
    rw [List.cons_append, itsF, itsF, itsF_app a b (k + 1), List.length_cons]
    rw [show k + 1 + a.length = k + (a.length + 1) by omega]
    split <;> simp
theorem itsF_step {rs : List Rs} {i : Nat} {r : Rs} (h : rs[i]? = some r) : itsF (rs.take (i + 1)) 0 = itsF (rs.take i) 0 ++ (if r.l = [] then [] else [⟨r.A, r.c, r.l, i⟩]) := by
  have hi := (List.getElem?_eq_some_iff.1 h).1
  rw [List.take_add_one, h, itsF_app, List.length_take, Nat.min_eq_left (by omega)]
  simp [itsF]
theorem itsF_mem : ∀ {rs : List Rs} {k : Nat} {x : Rs}, x ∈ itsF rs k → k ≤ x.p ∧ ∃ r, rs[x.p - k]? = some r ∧ x.A = r.A ∧ x.c = r.c ∧ x.l = r.l ∧ r.l ≠ []
  | [], k, x, h => by simp [itsF] at h
  | r :: rs, k, x, h => by
    unfold itsF at h
    have step : ∀ {x}, x ∈ itsF rs (k + 1) → k ≤ x.p ∧ ∃ r', (r :: rs)[x.p - k]? = some r' ∧ x.A = r'.A ∧ x.c = r'.c ∧ x.l = r'.l ∧ r'.l ≠ [] := fun {x} hx => by
      obtain ⟨h1, r', h2, h3⟩ := itsF_mem hx
      refine ⟨by omega, r', ?_, h3⟩
      rw [show x.p - k = (x.p - (k + 1)) + 1 by omega]
      simpa using h2
    split at h
    · exact step h
    · rename_i hr
      rcases List.mem_cons.1 h with rfl | h
      · exact ⟨Nat.le_refl _, r, by simp, rfl, rfl, rfl, hr⟩
      · exact step h
theorem itsF_has : ∀ {rs : List Rs} {k q : Nat} {r : Rs}, rs[q]? = some r → r.l ≠ [] → ∃ x ∈ itsF rs k, x.p = k + q
  | [], k, q, r, h, _ => by simp at h
  | r0 :: rs, k, 0, r, h, hr => by
    simp at h; subst h
    unfold itsF; rw [if_neg hr]
    exact ⟨_, List.mem_cons_self, rfl⟩
  | r0 :: rs, k, q + 1, r, h, hr => by
    obtain ⟨x, hx, hp⟩ := itsF_has (rs := rs) (k := k + 1) (q := q) (by simpa using h) hr
    refine ⟨x, ?_, by omega⟩
    unfold itsF
    split
    · exact hx
    · exact List.mem_cons_of_mem _ hx
theorem itsF_nodup : ∀ (rs : List Rs) (k : Nat), ((itsF rs k).map Rs.p).Nodup
  | [], k => by simp [itsF]
  | r :: rs, k => by
    unfold itsF
    split
    · exact itsF_nodup rs (k + 1)
    · rw [List.map_cons, List.nodup_cons]
      refine ⟨fun h => ?_, itsF_nodup rs (k + 1)⟩
      obtain ⟨x, hx, hp⟩ := List.mem_map.1 h
      have := (itsF_mem hx).1
      simp only at hp
      omega
theorem itsF_len : ∀ (rs : List Rs) (k : Nat), (itsF rs k).length ≤ rs.length
  | [], k => by simp [itsF]
  | r :: rs, k => by
    have := itsF_len rs (k + 1)
    unfold itsF
    split
    · rw [List.length_cons]; omega
    · rw [List.length_cons, List.length_cons]; omega
/-- the heap has just what is left -/
structure Jt (rem : List (List Mm.Ent)) (H : List Rs) : Prop where
  fwd : ∀ r ∈ H, rem[r.p]? = some r.l
  bwd : ∀ q y u, rem[q]? = some (y :: u) → ∃ r ∈ H, r.p = q
  nod : (H.map Rs.p).Nodup
theorem Jt.perm {rem : List (List Mm.Ent)} {H H' : List Rs} (h : Jt rem H) (k : H.Perm H') : Jt rem H' :=
  ⟨fun r hr => h.fwd r (k.mem_iff.2 hr), fun q y u hq => by obtain ⟨r, hr, e⟩ := h.bwd q y u hq; exact ⟨r, k.mem_iff.1 hr, e⟩, (k.map Rs.p).nodup_iff.1 h.nod⟩
theorem Jt.start (rs : List Rs) : Jt (rs.map Rs.l) (itsF rs 0) := by
  refine ⟨fun r hr => ?_, fun q y u hq => ?_, itsF_nodup rs 0⟩
  · obtain ⟨_, r', h1, _, _, h2, _⟩ := itsF_mem hr
    rw [Nat.sub_zero] at h1
    rw [List.getElem?_map, h1, h2]; rfl
  · rw [List.getElem?_map] at hq
    cases hr : rs[q]? with
    | none => rw [hr] at hq; cases hq
    | some r =>
      rw [hr] at hq
      simp at hq
      obtain ⟨x, hx, hp⟩ := itsF_has (k := 0) hr (by rw [hq]; simp)
      exact ⟨x, hx, by omega⟩
theorem Jt.step {rem : List (List Mm.Ent)} {H : List Rs} {x : Rs} {y : Mm.Ent} {t : List Mm.Ent} (h : Jt rem (x :: H)) (hx : x.l = y :: t) :
    (t = [] → Jt (rem.set x.p t) H) ∧ (∀ z : Rs, z.p = x.p → z.l = t → Jt (rem.set x.p t) (z :: H)) := by
  have hpx := h.fwd x List.mem_cons_self
  have hpl := (List.getElem?_eq_some_iff.1 hpx).1
  have hn := List.nodup_cons.1 (show (x.p :: H.map Rs.p).Nodup from h.nod)
  have hne : ∀ r ∈ H, r.p ≠ x.p := fun r hr e => hn.1 (by rw [← e]; exact List.mem_map.2 ⟨r, hr, rfl⟩)
  have hf : ∀ r ∈ H, (rem.set x.p t)[r.p]? = some r.l := fun r hr => by
    rw [List.getElem?_set_ne (fun e => hne r hr e.symm)]; exact h.fwd r (List.mem_cons_of_mem _ hr)
  have hb : ∀ q y u, (rem.set x.p t)[q]? = some (y :: u) → q ≠ x.p → ∃ r ∈ H, r.p = q := fun q y u hq he => by
    rw [List.getElem?_set_ne (fun e => he e.symm)] at hq
    obtain ⟨r, hr, e⟩ := h.bwd q y u hq
    rcases List.mem_cons.1 hr with rfl | hr
    · exact absurd e.symm he
    · exact ⟨r, hr, e⟩
  constructor
  · intro ht
    refine ⟨hf, fun q y u hq => ?_, hn.2⟩
    by_cases he : q = x.p
    · subst he; rw [List.getElem?_set_self hpl, ht] at hq; cases hq
    · exact hb q y u hq he
  · intro z hz1 hz2
    refine ⟨fun r hr => ?_, fun q y u hq => ?_, ?_⟩
    · rcases List.mem_cons.1 hr with rfl | hr
      · rw [hz1, List.getElem?_set_self hpl, hz2]
      · exact hf r hr
    · by_cases he : q = x.p
      · exact ⟨z, List.mem_cons_self, by rw [hz1, he]⟩
      · obtain ⟨r, hr, e⟩ := hb q y u hq he
        exact ⟨r, List.mem_cons_of_mem _ hr, e⟩
    · rw [List.map_cons, hz1]; exact h.nod
theorem Jt.min {rem : List (List Mm.Ent)} {H : List Rs} {x : Rs} (h : Jt rem (x :: H)) (hm : ∀ z ∈ H, rsn z x = false) : ∀ q y u, rem[q]? = some (y :: u) → Mg.sn y q x.hd x.p = false := fun q y u hq => by
  obtain ⟨r, hr, e⟩ := h.bwd q y u hq
  have hl := h.fwd r hr
  rw [e, hq] at hl
  have hl2 : r.l = y :: u := (Option.some.inj hl).symm
  have hd : r.hd = y := by unfold Rs.hd; rw [hl2]; rfl
  have : rsn r x = false := by
    rcases List.mem_cons.1 hr with rfl | hr
    · exact rsn_irr _
    · exact hm r hr
  unfold rsn at this
  rw [hd, e] at this
  exact this
theorem Jt.done {rem : List (List Mm.Ent)} (h : Jt rem []) : ∀ r ∈ rem, r = [] := fun r hr => by
  obtain ⟨q, hq⟩ := List.getElem?_of_mem hr
  cases r with
  | nil => rfl
  | cons y u => obtain ⟨_, hr, _⟩ := h.bwd q y u hq; simp at hr
theorem flat_set {rem : List (List Mm.Ent)} {p : Nat} {y : Mm.Ent} {t : List Mm.Ent} (h : rem[p]? = some (y :: t)) : (rem.set p t).flatten.length + 1 = rem.flatten.length := by
  rw [Mg.set_split h t]
  conv => rhs; rw [Mg.rem_split h]
  rw [List.flatten_append, List.flatten_append, List.flatten_cons, List.flatten_cons, List.length_append, List.length_append, List.length_append, List.length_append, List.length_cons]
  omega
/-- rows together, or none -/
def Mg.allS (rows : List (List Mm.Ent)) : List Mm.Ent := if rows.all Mg.row then Mg.tog rows else []
def Mg.allC (rows : List (List Mm.Ent)) : Int := if rows.all Mg.row then 0 else 2
theorem allS_no {rows : List (List Mm.Ent)} {i : Nat} {r : List Mm.Ent} (h : rows[i]? = some r) (k : Mg.row r = false) : Mg.allS rows = [] ∧ Mg.allC rows = 2 := by
  have : ¬ rows.all Mg.row = true := fun e => by
    have := List.all_eq_true.1 e r (List.mem_of_getElem? h)
    rw [k] at this; cases this
  unfold Mg.allS Mg.allC
  rw [if_neg this, if_neg this]; exact ⟨rfl, rfl⟩
theorem allS_yes {rows : List (List Mm.Ent)} (h : ∀ r ∈ rows, Mg.row r = true) : Mg.allS rows = Mg.tog rows ∧ Mg.allC rows = 0 := by
  have : rows.all Mg.row = true := List.all_eq_true.2 h
  unfold Mg.allS Mg.allC
  rw [if_pos this, if_pos this]; exact ⟨rfl, rfl⟩
/-- rows in memory -/
structure Rws (w : World) (A : Option Addr) (rs : List Rs) : Prop where
  at_ : ∀ (j : Nat) (r : Rs), rs[j]? = some r → ∃ b o, A = some ⟨b, o, none⟩ ∧ b < w.heap.size ∧ w.cell? ⟨b, o + j, none⟩ = some (.slice r.A r.l.length r.c)
  els : ∀ r ∈ rs, Els w r.A r.l
  few : ∀ r ∈ rs, r.l.length ≤ 4000
  cap : ∀ r ∈ rs, r.l.length ≤ r.c
  most : ∀ r ∈ rs, r.c ≤ maxLen
theorem Rws.kept {w w' : World} {A : Option Addr} {rs : List Rs} (h : Rws w A rs) (k : Kept w w') : Rws w' A rs :=
  ⟨fun j r hr => by obtain ⟨b, o, e, hb, hc⟩ := h.at_ j r hr; exact ⟨b, o, e, Nat.lt_of_lt_of_le hb (Below.size k), by rw [kept_cell k hb]; exact hc⟩, fun r hr => (h.els r hr).kept k, h.few, h.cap, h.most⟩
theorem els_block {w : World} {A : Option Addr} {l : List Mm.Ent} (h : Els w A l) (hl : l ≠ []) : ∀ b o, A = some ⟨b, o, none⟩ → b < w.heap.size := fun b o e => by
  cases l with
  | nil => exact absurd rfl hl
  | cons x l =>
    obtain ⟨b', o', e', hb, _⟩ := h 0 x rfl
    rw [e] at e'; cases e'; exact hb
theorem els_tail {w : World} {b o : Nat} {x : Mm.Ent} {l : List Mm.Ent} (h : Els w (some ⟨b, o, none⟩) (x :: l)) : Els w (some ⟨b, o + 4, none⟩) l := fun j y hy => by
  obtain ⟨b', o', e, hb, c0, c1, c2, c3⟩ := h (j + 1) y (by simpa using hy)
  cases e
  refine ⟨b, o + 4, rfl, hb, ?_, ?_, ?_, ?_⟩
  · rw [show o + 4 + j * 4 = o + (j + 1) * 4 by omega]; exact c0
  · rw [show o + 4 + j * 4 = o + (j + 1) * 4 by omega]; exact c1
  · rw [show o + 4 + j * 4 = o + (j + 1) * 4 by omega]; exact c2
  · rw [show o + 4 + j * 4 = o + (j + 1) * 4 by omega]; exact c3
theorem kept_ex {w w1 w2 : World} {F : Nat → Prop} (k : Kept w w1) (E : Ex F w1 w2) (hF : ∀ b, F b → w.heap.size ≤ b) : Kept w w2 := Below.trans k (E.below (Below.size k) hF)
end Go.Proofs.Ytpbhbgoaaephgaa
