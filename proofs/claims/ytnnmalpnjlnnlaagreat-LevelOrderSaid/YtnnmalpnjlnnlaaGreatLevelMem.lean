/-
  Metas in memory: a meta as a value, a list of metas, one that is owned, four lists of them.
-/
import Derived.Test.YtnnmalpnjlnnlaaGreatLevelMath
import Derived.Test.YtnnmalpnjlnnlaaGreatNumLeaf
import Derived.Test.YtnnmalpnjlnnlaaGreatBytes
import Derived.Test.YtnnmalpnjlnnlaaGreatPackMem
namespace Go.Proofs.YtnnmalpnjlnnlaaGreat
open Go.ChangeShapes Go.WideShapes Go.ChangeAt Go.RowKit
set_option linter.unusedVariables false
set_option maxRecDepth 100000
set_option maxHeartbeats 1000000

open Lv
def mtc (m : Meta) : List Value := [.int .u64 (m.file : Nat), .int .i64 m.size, .string (bs m.first), .string (bs m.last), .int .u64 (m.seq : Nat)]
def mtv (m : Meta) : Value := .agg #[.int .u64 (m.file : Nat), .int .i64 m.size, .string (bs m.first), .string (bs m.last), .int .u64 (m.seq : Nat)]
def mtl : List Meta → List Value
  | [] => []
  | x :: l => mtc x ++ mtl l
theorem mtl_len : ∀ (l : List Meta), (mtl l).length = l.length * 5
  | [] => rfl
  | x :: l => by simp only [mtl, List.length_append, mtl_len l, mtc, List.length_cons, List.length_nil]; omega
theorem mtl_app : ∀ (l m : List Meta), mtl (l ++ m) = mtl l ++ mtl m
  | [], m => rfl
  | x :: l, m => by simp only [List.cons_append, mtl, mtl_app l m, List.append_assoc]
theorem mtl_get : ∀ {l : List Meta} {j : Nat} {x : Meta}, l[j]? = some x → ∀ i u, (mtc x)[i]? = some u → (mtl l)[j * 5 + i]? = some u
  | [], j, x, h, _, _, _ => by simp at h
  | y :: l, 0, x, h, i, u, hu => by
    simp at h; subst h
    have hi := (List.getElem?_eq_some_iff.1 hu).1
    rw [Nat.zero_mul, Nat.zero_add, mtl, List.getElem?_append_left (by exact hi)]
    exact hu
  | y :: l, j + 1, x, h, i, u, hu => by
    have := mtl_get (l := l) (j := j) (x := x) (by simpa using h) i u hu
    rw [mtl, List.getElem?_append_right (by simp [mtc]; omega)]
    simp only [mtc, List.length_cons, List.length_nil]
    rw [show (j + 1) * 5 + i - (0 + 1 + 1 + 1 + 1 + 1) = j * 5 + i by omega]
    exact this
/-- a meta at a place -/
def Mt (w : World) (b o : Nat) (x : Meta) : Prop := w.cell? ⟨b, o, none⟩ = some (.int .u64 (x.file : Nat)) ∧ w.cell? ⟨b, o + 1, none⟩ = some (.int .i64 x.size) ∧ w.cell? ⟨b, o + 2, none⟩ = some (.string (bs x.first)) ∧ w.cell? ⟨b, o + 3, none⟩ = some (.string (bs x.last)) ∧ w.cell? ⟨b, o + 4, none⟩ = some (.int .u64 (x.seq : Nat))
theorem Mt.kept {w w' : World} {b o : Nat} {x : Meta} (h : Mt w b o x) (k : Kept w w') (hb : b < w.heap.size) : Mt w' b o x := by
  obtain ⟨h0, h1, h2, h3, h4⟩ := h
  exact ⟨by rw [kept_cell k hb]; exact h0, by rw [kept_cell k hb]; exact h1, by rw [kept_cell k hb]; exact h2, by rw [kept_cell k hb]; exact h3, by rw [kept_cell k hb]; exact h4⟩
/-- a list of metas in memory -/
def Mts (w : World) (A : Option Addr) (l : List Meta) : Prop := ∀ (j : Nat) (x : Meta), l[j]? = some x → ∃ b o, A = some ⟨b, o, none⟩ ∧ b < w.heap.size ∧ Mt w b (o + j * 5) x
theorem Mts.kept {w w' : World} {A : Option Addr} {l : List Meta} (h : Mts w A l) (k : Kept w w') : Mts w' A l := fun j x hx => by
  obtain ⟨b, o, e, hb, h0⟩ := h j x hx
  exact ⟨b, o, e, Nat.lt_of_lt_of_le hb (Below.size k), h0.kept k hb⟩
/-- a list of metas in new memory -/
structure Mr (n : Nat) (w : World) (A : Option Addr) (c : Nat) (l : List Meta) : Prop where
  mts : Mts w A l
  new : ∀ b o, A = some ⟨b, o, none⟩ → n ≤ b
  cap : l.length ≤ c
  most : c ≤ maxLen
theorem Mr.kept {n c : Nat} {w w' : World} {A : Option Addr} {l : List Meta} (h : Mr n w A c l) (k : Kept w w') : Mr n w' A c l := ⟨h.mts.kept k, h.new, h.cap, h.most⟩
theorem Mr.mono {n m c : Nat} {w : World} {A : Option Addr} {l : List Meta} (h : Mr n w A c l) (k : m ≤ n) : Mr m w A c l := ⟨h.mts, fun b o e => Nat.le_trans k (h.new b o e), h.cap, h.most⟩
theorem mts_own {w : World} {base n : Nat} {v : Value} {l : List Meta} (h : w.ownsRow base 43 5 v n (mtl l)) : ∃ A c, v = .slice A l.length c ∧ n = l.length ∧ Mr base w A c l := by
  have hl : l.length = n := by have := h.1; rw [mtl_len] at this; omega
  rcases h.2 with ⟨e, e0⟩ | ⟨r, cap, cur, e, hbs, hb, hnc, _, _, htk⟩
  · have : l = [] := List.eq_nil_of_length_eq_zero (by omega)
    subst this
    exact ⟨none, 0, e, by omega, ⟨fun j x hx => by simp at hx, fun b o e => (by cases e), by simp, by simp⟩⟩
  · refine ⟨some ⟨r, 0, none⟩, cap, by rw [hl]; exact e, hl.symm, ⟨fun j x hx => ?_, fun b o e => (by cases e; exact hbs), by omega, by omega⟩⟩
    have hj := (List.getElem?_eq_some_iff.1 hx).1
    have hcell : ∀ i u, i < n * 5 → (mtl l)[i]? = some u → w.cell? ⟨r, i, none⟩ = some u := fun i u hi hu => by
      rw [← htk, List.getElem?_take, if_pos hi] at hu
      exact mcell hb i (by simpa using hu)
    have hg := mtl_get hx
    refine ⟨r, 0, rfl, (Array.getElem?_eq_some_iff.1 hb).1, ?_, ?_, ?_, ?_, ?_⟩
    · rw [Nat.zero_add]; exact hcell _ _ (by omega) (hg 0 _ rfl)
    · rw [Nat.zero_add]; exact hcell _ _ (by omega) (hg 1 _ rfl)
    · rw [Nat.zero_add]; exact hcell _ _ (by omega) (hg 2 _ rfl)
    · rw [Nat.zero_add]; exact hcell _ _ (by omega) (hg 3 _ rfl)
    · rw [Nat.zero_add]; exact hcell _ _ (by omega) (hg 4 _ rfl)
def zmtV : Value := .agg #[.int .u64 0, .int .i64 0, .string ⟨#[]⟩, .string ⟨#[]⟩, .int .u64 0]
theorem mtInfo : (Tryz.prog.info? 43).map (fun i => (i.zero, i.size, i.bytes)) = some (some zmtV, 5, 56) := by kernel_rfl
theorem mtc_news {wr : World} {b o : Nat} {x : Meta} (h : Mt wr b o x) : ∀ j u, (mtc x)[j]? = some u → wr.cell? ((⟨b, o, none⟩ : Addr).add j) = some u := by
  obtain ⟨h0, h1, h2, h3, h4⟩ := h
  intro j u hj
  have hadd : (⟨b, o, none⟩ : Addr).add j = ⟨b, o + j, none⟩ := by unfold Addr.add; split <;> simp_all
  rw [hadd]
  match j, hj with
  | 0, hj => simp only [mtc, List.getElem?_cons_zero] at hj; cases hj; exact h0
  | 1, hj => simp only [mtc, List.getElem?_cons_succ, List.getElem?_cons_zero] at hj; cases hj; exact h1
  | 2, hj => simp only [mtc, List.getElem?_cons_succ, List.getElem?_cons_zero] at hj; cases hj; exact h2
  | 3, hj => simp only [mtc, List.getElem?_cons_succ, List.getElem?_cons_zero] at hj; cases hj; exact h3
  | 4, hj => simp only [mtc, List.getElem?_cons_succ, List.getElem?_cons_zero] at hj; cases hj; exact h4
/-- one list of four -/
structure Lvl where
  A : Option Addr
  c : Nat
  l : List Meta
def Lvl.v (x : Lvl) : Value := .slice x.A x.l.length x.c
def tbv (T : Nat → Lvl) : Value := .agg #[(T 0).v, (T 1).v, (T 2).v, (T 3).v]
structure Tin (w : World) (T : Nat → Lvl) : Prop where
  mts : ∀ l, l < 4 → Mts w (T l).A (T l).l
  cap : ∀ l, l < 4 → (T l).l.length ≤ (T l).c
  most : ∀ l, l < 4 → (T l).c ≤ maxLen
  sane : ∀ l, l < 4 → ∀ x ∈ (T l).l, Sane x
theorem Tin.kept {w w' : World} {T : Nat → Lvl} (h : Tin w T) (k : Kept w w') : Tin w' T := ⟨fun l hl => (h.mts l hl).kept k, h.cap, h.most, h.sane⟩
end Go.Proofs.YtnnmalpnjlnnlaaGreat
