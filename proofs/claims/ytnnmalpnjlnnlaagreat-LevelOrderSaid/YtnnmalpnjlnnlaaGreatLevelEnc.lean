/-
  Package level in plain mathematics: an edit's bytes; how bytes are read, by the program and by the document.
-/
import Derived.Test.YtnnmalpnjlnnlaaGreatLevelSpec
import Derived.Test.YtnnmalpnjlnnlaaGreatPackMath
namespace Go.Proofs.YtnnmalpnjlnnlaaGreat
set_option linter.unusedVariables false
set_option maxRecDepth 100000
namespace Lv
def szd (t : List UInt8) : List UInt8 := Nm.short t.length ++ t
def encM (m : Meta) : List UInt8 := Nm.short m.file ++ (Nm.short m.size.toNat ++ (szd m.first ++ (szd m.last ++ Nm.short m.seq)))
def encG (l : List Nat) : List UInt8 := (l.map Nm.short).flatten
def encL (l : List Meta) : List UInt8 := Nm.short l.length ++ (l.map encM).flatten
def encT (t : Nat → List Meta) (k : Nat) : List UInt8 := ((List.range k).map fun l => encL (t l)).flatten
theorem encT_succ (t : Nat → List Meta) (k : Nat) : encT t (k + 1) = encT t k ++ encL (t k) := by unfold encT; rw [List.range_succ, List.map_append, List.flatten_append]; simp
theorem encG_app (l : List Nat) (x : Nat) : encG (l ++ [x]) = encG l ++ Nm.short x := by simp [encG]
def encH (E : Edt) : List UInt8 := encG [E.nx, E.lg, E.sq, E.gone.length]
def enc (E : Edt) : List UInt8 := encH E ++ (encG E.gone ++ encT E.new 4)
def isS (n : Nat) : Bool := decide (n ≤ 1099511627776)
/-- has an edit bytes? -/
def isE (E : Edt) : Bool := decide (E.gone.length ≤ 120) && !manyL E.new (fun _ => []) && ([E.nx, E.lg, E.sq] ++ E.gone).all isS && all4 may E.new
def encS (E : Edt) : List UInt8 := if isE E then enc E else []
def encC (E : Edt) : Int := if isE E then 0 else 2
/-- edits that are the same in all that counts -/
def Alike (D E : Edt) : Prop := D.gone = E.gone ∧ (∀ l, l < 4 → D.new l = E.new l) ∧ D.nx = E.nx ∧ D.lg = E.lg ∧ D.sq = E.sq
theorem Alike.refl (D : Edt) : Alike D D := ⟨rfl, fun _ _ => rfl, rfl, rfl, rfl⟩
theorem encT_same {t u : Nat → List Meta} (h : ∀ l, l < 4 → t l = u l) : ∀ k, k ≤ 4 → encT t k = encT u k
  | 0, _ => rfl
  | k + 1, hk => by rw [encT_succ, encT_succ, encT_same h k (by omega), h k (by omega)]
theorem all4_same {p : Meta → Bool} {t u : Nat → List Meta} (h : ∀ l, l < 4 → t l = u l) : all4 p t = all4 p u := by
  rw [Bool.eq_iff_iff, all4_iff, all4_iff]
  exact ⟨fun k l hl m hm => k l hl m (by rw [h l hl]; exact hm), fun k l hl m hm => k l hl m (by rw [← h l hl]; exact hm)⟩
theorem manyL_same {t u s : Nat → List Meta} (h : ∀ l, l < 4 → t l = u l) : manyL t s = manyL u s := by
  have e : manyL t s = false ↔ manyL u s = false := by
    rw [manyL_iff, manyL_iff]
    exact ⟨fun k l hl => by rw [← h l hl]; exact k l hl, fun k l hl => by rw [h l hl]; exact k l hl⟩
  cases a : manyL t s <;> cases b : manyL u s <;> simp_all
theorem Alike.enc {D E : Edt} (h : Alike D E) : enc D = enc E := by
  obtain ⟨h1, h2, h3, h4, h5⟩ := h
  unfold Lv.enc encH
  rw [h1, h3, h4, h5, encT_same h2 4 (Nat.le_refl _)]
theorem Alike.isE {D E : Edt} (h : Alike D E) : isE D = isE E := by
  obtain ⟨h1, h2, h3, h4, h5⟩ := h
  unfold Lv.isE
  rw [h1, h3, h4, h5, all4_same h2, manyL_same h2]
/-! how the program reads -/
def tx (R : List UInt8) : List UInt8 × List UInt8 := ((Nm.takeR R).take (min (Nm.takeN R) (Nm.takeR R).length), (Nm.takeR R).drop (min (Nm.takeN R) (Nm.takeR R).length))
/-- a number of 64 bits as a signed one -/
def sg (n : Nat) : Int := if n < 9223372036854775808 then (n : Int) else (n : Int) - 18446744073709551616
def rdM (R : List UInt8) : Meta × List UInt8 :=
  (⟨Nm.takeN R, sg (Nm.takeN (Nm.takeR R)), (tx (Nm.takeR (Nm.takeR R))).1, (tx (tx (Nm.takeR (Nm.takeR R))).2).1, Nm.takeN (tx (tx (Nm.takeR (Nm.takeR R))).2).2⟩, Nm.takeR (tx (tx (Nm.takeR (Nm.takeR R))).2).2)
def rdMs : Nat → List UInt8 → List Meta × List UInt8
  | 0, R => ([], R)
  | c + 1, R => ((rdMs c R).1 ++ [(rdM (rdMs c R).2).1], (rdM (rdMs c R).2).2)
def rdG : Nat → List UInt8 → List Nat × List UInt8
  | 0, R => ([], R)
  | c + 1, R => ((rdG c R).1 ++ [Nm.takeN (rdG c R).2], Nm.takeR (rdG c R).2)
def cnt (most : Nat) (R : List UInt8) : Nat := min (Nm.takeN R) most
def rdL (R : List UInt8) : List Meta × List UInt8 := rdMs (cnt 30 R) (Nm.takeR R)
/-- what is left behind the first k lists -/
def aft : Nat → List UInt8 → List UInt8
  | 0, R => R
  | k + 1, R => (rdL (aft k R)).2
def r3 (s : List UInt8) : List UInt8 := Nm.takeR (Nm.takeR (Nm.takeR s))
def rdE (s : List UInt8) : Edt := ⟨(rdG (cnt 120 (r3 s)) (Nm.takeR (r3 s))).1, fun l => (rdL (aft l (rdG (cnt 120 (r3 s)) (Nm.takeR (r3 s))).2)).1, Nm.takeN s, Nm.takeN (Nm.takeR s), Nm.takeN (Nm.takeR (Nm.takeR s))⟩
theorem takeN_sh {n : Nat} (h : n < 18446744073709551616) (s : List UInt8) : Nm.takeN (Nm.short n ++ s) = n ∧ Nm.takeR (Nm.short n ++ s) = s := by
  unfold Nm.takeN Nm.takeR; rw [Nm.take_short n s h]; exact ⟨rfl, rfl⟩
theorem tx_szd {t : List UInt8} (h : t.length < 18446744073709551616) (r : List UInt8) : tx (szd t ++ r) = (t, r) := by
  unfold tx szd
  rw [List.append_assoc, (takeN_sh h _).1, (takeN_sh h _).2]
  simp
theorem may_nums {m : Meta} (h : may m = true) : m.file < 18446744073709551616 ∧ 0 ≤ m.size ∧ m.size ≤ 1099511627776 ∧ m.first.length ≤ 100 ∧ m.last.length ≤ 100 ∧ m.seq < 18446744073709551616 ∧ m.file ≤ 1099511627776 ∧ m.seq ≤ 1099511627776 := by
  unfold may isN isZ isK at h
  simp only [Bool.and_eq_true, decide_eq_true_eq] at h
  omega
theorem rdM_enc {m : Meta} (h : may m = true) (r : List UInt8) : rdM (encM m ++ r) = (m, r) := by
  obtain ⟨h1, h2, h3, h4, h5, h6, _, _⟩ := may_nums h
  have hz : m.size.toNat < 18446744073709551616 := by omega
  unfold rdM encM
  simp only [List.append_assoc]
  rw [(takeN_sh h1 _).2, (takeN_sh hz _).2, (takeN_sh h1 _).1, (takeN_sh hz _).1, tx_szd (by omega), tx_szd (by omega), (takeN_sh h6 _).1, (takeN_sh h6 _).2]
  have : sg m.size.toNat = m.size := by unfold sg; rw [if_pos (by omega)]; omega
  rw [this]
theorem rdMs_enc {l : List Meta} (h : ∀ m ∈ l, may m = true) (r : List UInt8) : ∀ c, c ≤ l.length → rdMs c ((l.map encM).flatten ++ r) = (l.take c, ((l.drop c).map encM).flatten ++ r)
  | 0, _ => rfl
  | c + 1, hc => by
    have ih := rdMs_enc h r c (by omega)
    have hx : l[c]? = some l[c] := List.getElem?_eq_getElem (by omega)
    have hd : l.drop c = l[c] :: l.drop (c + 1) := List.drop_eq_getElem_cons (by omega)
    rw [rdMs, ih]
    simp only [hd, List.map_cons, List.flatten_cons, List.append_assoc]
    rw [rdM_enc (h _ (List.getElem_mem _)), List.take_add_one, hx]
    rfl
theorem rdG_enc {l : List Nat} (h : ∀ m ∈ l, m < 18446744073709551616) (r : List UInt8) : ∀ c, c ≤ l.length → rdG c (encG l ++ r) = (l.take c, encG (l.drop c) ++ r)
  | 0, _ => rfl
  | c + 1, hc => by
    have ih := rdG_enc h r c (by omega)
    have hx : l[c]? = some l[c] := List.getElem?_eq_getElem (by omega)
    have hd : l.drop c = l[c] :: l.drop (c + 1) := List.drop_eq_getElem_cons (by omega)
    have hn := h l[c] (List.getElem_mem _)
    rw [rdG, ih]
    simp only [hd, encG, List.map_cons, List.flatten_cons, List.append_assoc]
    rw [(takeN_sh hn _).1, (takeN_sh hn _).2, List.take_add_one, hx]
    rfl
theorem rdL_enc {l : List Meta} (h : ∀ m ∈ l, may m = true) (hl : l.length ≤ 30) (r : List UInt8) : rdL (encL l ++ r) = (l, r) := by
  have e := takeN_sh (n := l.length) (by omega) ((l.map encM).flatten ++ r)
  unfold rdL encL cnt
  rw [List.append_assoc, e.1, e.2, Nat.min_eq_left hl, rdMs_enc h r l.length (Nat.le_refl _)]
  simp
theorem isE_iff {E : Edt} : isE E = true ↔ E.gone.length ≤ 120 ∧ (∀ l, l < 4 → (E.new l).length ≤ 30) ∧ (E.nx ≤ 1099511627776 ∧ E.lg ≤ 1099511627776 ∧ E.sq ≤ 1099511627776 ∧ ∀ x ∈ E.gone, x ≤ 1099511627776) ∧ ∀ l, l < 4 → ∀ m ∈ E.new l, may m = true := by
  unfold isE
  simp only [Bool.and_eq_true, Bool.not_eq_true', decide_eq_true_eq, manyL_iff, all4_iff, List.all_append, List.all_cons, List.all_nil, isS, List.all_eq_true, List.length_nil, Nat.add_zero, and_true]
  constructor
  · rintro ⟨⟨⟨h1, h2⟩, h3, h4⟩, h5⟩; exact ⟨h1, h2, ⟨h3.1, h3.2.1, h3.2.2, h4⟩, h5⟩
  · rintro ⟨h1, h2, ⟨a, b, c, d⟩, h5⟩; exact ⟨⟨⟨h1, h2⟩, ⟨a, b, c⟩, d⟩, h5⟩
/-- the lists from k on -/
def encF (t : Nat → List Meta) : Nat → Nat → List UInt8
  | _, 0 => []
  | k, c + 1 => encL (t k) ++ encF t (k + 1) c
theorem encF_four (t : Nat → List Meta) : encT t 4 = encF t 0 4 := by simp [encT, encF, List.range_succ]
theorem aft_enc {t : Nat → List Meta} (h : ∀ l, l < 4 → (t l).length ≤ 30 ∧ ∀ m ∈ t l, may m = true) (r : List UInt8) : ∀ k, k ≤ 4 → aft k (encF t 0 4 ++ r) = encF t k (4 - k) ++ r
  | 0, _ => rfl
  | k + 1, hk => by
    obtain ⟨h1, h2⟩ := h k (by omega)
    rw [aft, aft_enc h r k (by omega), show 4 - k = (4 - (k + 1)) + 1 by omega, encF, List.append_assoc, rdL_enc h2 h1]
theorem rdE_enc {E : Edt} (h : isE E = true) (r : List UInt8) : Alike (rdE (enc E ++ r)) E := by
  obtain ⟨h1, h2, ⟨a, b, c, d⟩, h5⟩ := isE_iff.1 h
  have e1 := takeN_sh (n := E.nx) (by omega)
  have e2 := takeN_sh (n := E.lg) (by omega)
  have e3 := takeN_sh (n := E.sq) (by omega)
  have e4 := takeN_sh (n := E.gone.length) (by omega)
  have hs : enc E ++ r = Nm.short E.nx ++ (Nm.short E.lg ++ (Nm.short E.sq ++ (Nm.short E.gone.length ++ (encG E.gone ++ (encF E.new 0 4 ++ r))))) := by
    unfold enc encH
    rw [← encF_four]
    simp [encG]
  have g := rdG_enc (l := E.gone) (fun m hm => by have := d m hm; omega) (encF E.new 0 4 ++ r) E.gone.length (Nat.le_refl _)
  have hr3 : r3 (enc E ++ r) = Nm.short E.gone.length ++ (encG E.gone ++ (encF E.new 0 4 ++ r)) := by
    unfold r3; rw [hs, (e1 _).2, (e2 _).2, (e3 _).2]
  have hc : cnt 120 (r3 (enc E ++ r)) = E.gone.length := by unfold cnt; rw [hr3, (e4 _).1]; omega
  have hg : rdG (cnt 120 (r3 (enc E ++ r))) (Nm.takeR (r3 (enc E ++ r))) = (E.gone, encF E.new 0 4 ++ r) := by
    rw [hc, hr3, (e4 _).2, g]; simp [encG]
  refine ⟨?_, fun l hl => ?_, ?_, ?_, ?_⟩
  · show (rdG _ _).1 = _
    rw [hg]
  · show (rdL (aft l (rdG _ _).2)).1 = _
    rw [hg]
    show (rdL (aft l (encF E.new 0 4 ++ r))).1 = _
    rw [aft_enc (fun l hl => ⟨h2 l hl, h5 l hl⟩) r l (by omega), show 4 - l = (4 - (l + 1)) + 1 by omega, encF, List.append_assoc, rdL_enc (h5 l hl) (h2 l hl)]
  · show Nm.takeN _ = _
    rw [hs, (e1 _).1]
  · show Nm.takeN _ = _
    rw [hs, (e1 _).2, (e2 _).1]
  · show Nm.takeN _ = _
    rw [hs, (e1 _).2, (e2 _).2, (e3 _).1]
/-- is s an edit's bytes? -/
def isB (s : List UInt8) : Bool := isE (rdE s) && decide (enc (rdE s) = s)
theorem isB_enc {E : Edt} (h : isE E = true) : isB (enc E) = true ∧ Alike (rdE (enc E)) E := by
  have a := rdE_enc h []
  rw [List.append_nil] at a
  unfold isB
  rw [a.isE, a.enc, h]
  exact ⟨by simp, a⟩
theorem isB_of {s : List UInt8} {E : Edt} (h : isE E = true) (e : enc E = s) : isB s = true ∧ Alike (rdE s) E := by
  subst e; exact isB_enc h
theorem isB_back {s : List UInt8} (h : isB s = true) : isE (rdE s) = true ∧ enc (rdE s) = s := by
  unfold isB at h; simpa using h
end Lv
end Go.Proofs.YtnnmalpnjlnnlaaGreat
