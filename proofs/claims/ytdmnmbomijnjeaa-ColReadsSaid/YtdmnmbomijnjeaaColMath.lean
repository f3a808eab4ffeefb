/-
  Package col: which locks, writes and leases may be, their bytes, and back: mathematics.
-/
import Derived.Test.YtdmnmbomijnjeaaNumFns
namespace Go.Proofs.Ytdmnmbomijnjeaa
set_option linter.unusedVariables false
set_option maxRecDepth 100000
set_option maxHeartbeats 1000000
namespace Co
open Nm
structure Lk where
  p : List UInt8
  s : Nat
  k : Int
  a : Nat
structure Wr where
  s : Nat
  k : Int
structure Ls where
  i : Nat
  t : Nat
  u : Nat
def cnt (n : Nat) : Bool := decide (1 ≤ n ∧ n ≤ 1099511627776)
def lays (k : Int) : Bool := decide (k = 1 ∨ k = 2)
def isK (l : Lk) : Bool := decide (1 ≤ l.p.length ∧ l.p.length ≤ 24) && (cnt l.s && (lays l.k && decide (l.a ≤ 1099511627776)))
def isW (w : Wr) : Bool := cnt w.s && decide (w.k = 1 ∨ w.k = 2 ∨ w.k = 3)
def is1 (x : Ls) : Bool := cnt x.i && (cnt x.t && decide (x.u ≤ 1099511627776))
def ris : Nat → List Ls → Bool
  | _, [] => true
  | n, x :: l => is1 x && (decide (n < x.i) && ris x.i l)
def isL (l : List Ls) : Bool := decide (l.length ≤ 5) && ris 0 l
def encK (l : Lk) : List UInt8 := l.k.toNat.toUInt8 :: (short l.s ++ (short l.a ++ l.p))
def encW (w : Wr) : List UInt8 := w.k.toNat.toUInt8 :: short w.s
def enc1 (x : Ls) : List UInt8 := short x.i ++ (short x.t ++ short x.u)
def encL : List Ls → List UInt8
  | [] => []
  | x :: l => enc1 x ++ encL l
def kd (s : List UInt8) : Nat := (s.headD 0).toNat
def rdK (s : List UInt8) : Lk := ⟨takeR (takeR (s.drop 1)), takeN (s.drop 1), (kd s : Nat), takeN (takeR (s.drop 1))⟩
def rdW (s : List UInt8) : Wr := ⟨takeN (s.drop 1), (kd s : Nat)⟩
def rd1 (s : List UInt8) : Ls := ⟨takeN s, takeN (takeR s), takeN (takeR (takeR s))⟩
def rst (s : List UInt8) : List UInt8 := takeR (takeR (takeR s))
def rdA : Nat → List UInt8 → List Ls
  | 0, _ => []
  | f + 1, s => if s = [] then [] else rd1 s :: rdA f (rst s)
def rdL (s : List UInt8) : List Ls := rdA 5 s
-- what is told
def encKS (l : Lk) : List UInt8 := if isK l then encK l else []
def encKC (l : Lk) : Int := if isK l then 0 else 2
def encWS (w : Wr) : List UInt8 := if isW w then encW w else []
def encWC (w : Wr) : Int := if isW w then 0 else 2
def encLS (l : List Ls) : List UInt8 := if isL l then encL l else []
def encLC (l : List Ls) : Int := if isL l then 0 else 2
def bK (s : List UInt8) : Bool := isK (rdK s) && (encK (rdK s) == s)
def bW (s : List UInt8) : Bool := isW (rdW s) && (encW (rdW s) == s)
def bL (s : List UInt8) : Bool := isL (rdL s) && (encL (rdL s) == s)
def zK : Lk := ⟨[], 0, 0, 0⟩
def zW : Wr := ⟨0, 0⟩
def dK (s : List UInt8) : Lk := if bK s then rdK s else zK
def dKC (s : List UInt8) : Int := if bK s then 0 else 2
def dW (s : List UInt8) : Wr := if bW s then rdW s else zW
def dWC (s : List UInt8) : Int := if bW s then 0 else 2
def dL (s : List UInt8) : List Ls := if bL s then rdL s else []
def dLC (s : List UInt8) : Int := if bL s then 0 else 2

theorem takeN_short (n : Nat) (s : List UInt8) (h : n < 18446744073709551616) : takeN (short n ++ s) = n := by unfold takeN; rw [take_short n s h]; rfl
theorem takeR_short (n : Nat) (s : List UInt8) (h : n < 18446744073709551616) : takeR (short n ++ s) = s := by unfold takeR; rw [take_short n s h]; rfl
theorem takeB_short (n : Nat) (s : List UInt8) (h : n < 18446744073709551616) : takeB (short n ++ s) = true := by unfold takeB; rw [take_short n s h]; rfl
theorem takeN_lt (s : List UInt8) : takeN s < 18446744073709551616 := by
  unfold takeN
  cases h : take s with
  | none => simp
  | some x => obtain ⟨n, r⟩ := x; exact (take_back _ _ _ h).2
theorem takeR_le (s : List UInt8) : (takeR s).length ≤ s.length := by
  unfold takeR
  cases h : take s with
  | none => simp
  | some x =>
    obtain ⟨n, r⟩ := x
    have := congrArg List.length (take_back _ _ _ h).1
    rw [List.length_append] at this
    simp; omega
theorem cnt_iff {n : Nat} : cnt n = true ↔ 1 ≤ n ∧ n ≤ 1099511627776 := by unfold cnt; simp
theorem isK_iff {l : Lk} : isK l = true ↔ (1 ≤ l.p.length ∧ l.p.length ≤ 24) ∧ (1 ≤ l.s ∧ l.s ≤ 1099511627776) ∧ (l.k = 1 ∨ l.k = 2) ∧ l.a ≤ 1099511627776 := by
  unfold isK lays; simp [cnt_iff]
theorem isW_iff {w : Wr} : isW w = true ↔ (1 ≤ w.s ∧ w.s ≤ 1099511627776) ∧ (w.k = 1 ∨ w.k = 2 ∨ w.k = 3) := by
  unfold isW; simp [cnt_iff]
theorem is1_iff {x : Ls} : is1 x = true ↔ (1 ≤ x.i ∧ x.i ≤ 1099511627776) ∧ (1 ≤ x.t ∧ x.t ≤ 1099511627776) ∧ x.u ≤ 1099511627776 := by
  unfold is1; simp [cnt_iff]
theorem ris_cons {n : Nat} {x : Ls} {l : List Ls} : ris n (x :: l) = true ↔ is1 x = true ∧ n < x.i ∧ ris x.i l = true := by
  rw [ris]; simp
theorem ris_app : ∀ {l m : List Ls} {n : Nat}, ris n (l ++ m) = (ris n l && ris ((l.getLast?.map (·.i)).getD n) m)
  | [], m, n => by simp [ris]
  | x :: l, m, n => by
    rw [List.cons_append, ris, ris, ris_app (l := l)]
    have : (((x :: l).getLast?.map (·.i)).getD n) = ((l.getLast?.map (·.i)).getD x.i) := by
      cases l with
      | nil => rfl
      | cons y l => rw [List.getLast?_cons_cons]; simp [List.getLast?_cons]
    rw [this]
    simp [Bool.and_assoc]
theorem ris_low : ∀ {l : List Ls} {n m : Nat}, n ≤ m → ris m l = true → ris n l = true
  | [], _, _, _, _ => rfl
  | x :: l, n, m, h, hr => by
    obtain ⟨h1, h2, h3⟩ := ris_cons.1 hr
    exact ris_cons.2 ⟨h1, by omega, h3⟩
theorem ris_mem : ∀ {l : List Ls} {n : Nat}, ris n l = true → ∀ x ∈ l, is1 x = true ∧ n < x.i
  | [], _, _, x, hx => by simp at hx
  | y :: l, n, h, x, hx => by
    obtain ⟨h1, h2, h3⟩ := ris_cons.1 h
    rcases List.mem_cons.1 hx with rfl | hx
    · exact ⟨h1, h2⟩
    · obtain ⟨q1, q2⟩ := ris_mem h3 x hx
      exact ⟨q1, by omega⟩
/-- the one behind rises -/
theorem ris_pair : ∀ {l : List Ls} {n : Nat}, ris n l = true → ∀ (j : Nat) (x y : Ls), l[j]? = some x → l[j + 1]? = some y → x.i < y.i
  | [], _, _, j, x, y, hx, _ => by simp at hx
  | a :: l, n, h, 0, x, y, hx, hy => by
    obtain ⟨h1, h2, h3⟩ := ris_cons.1 h
    simp at hx; subst hx
    exact (ris_mem h3 y (List.mem_of_getElem? (i := 0) (by simpa using hy))).2
  | a :: l, n, h, j + 1, x, y, hx, hy => by
    obtain ⟨h1, h2, h3⟩ := ris_cons.1 h
    exact ris_pair h3 j x y (by simpa using hx) (by simpa using hy)
/-- one taken away leaves leases that may be -/
theorem ris_gone : ∀ {l : List Ls} {n : Nat} (k : Nat), ris n l = true → ris n (l.take k ++ l.drop (k + 1)) = true
  | [], _, _, _ => by simp [ris]
  | a :: l, n, 0, h => by
    obtain ⟨h1, h2, h3⟩ := ris_cons.1 h
    simpa using ris_low (Nat.le_of_lt h2) h3
  | a :: l, n, k + 1, h => by
    obtain ⟨h1, h2, h3⟩ := ris_cons.1 h
    simpa using ris_cons.2 ⟨h1, h2, ris_gone k h3⟩
theorem isL_gone {l : List Ls} (k : Nat) (h : isL l = true) : isL (l.take k ++ l.drop (k + 1)) = true := by
  unfold isL at *
  simp only [Bool.and_eq_true, decide_eq_true_eq] at *
  refine ⟨?_, ris_gone k h.2⟩
  simp only [List.length_append, List.length_take, List.length_drop]
  omega
theorem encL_app : ∀ (l m : List Ls), encL (l ++ m) = encL l ++ encL m
  | [], m => rfl
  | x :: l, m => by rw [List.cons_append, encL, encL, encL_app l m, List.append_assoc]
theorem ris_take : ∀ {l : List Ls} {n : Nat} (k : Nat), ris n l = true → ris n (l.take k) = true
  | _, _, 0, _ => by simp [ris]
  | [], _, k + 1, _ => by simp [ris]
  | a :: l, n, k + 1, h => by
    obtain ⟨h1, h2, h3⟩ := ris_cons.1 h
    rw [List.take_succ_cons]
    exact ris_cons.2 ⟨h1, h2, ris_take k h3⟩
theorem ris_drop : ∀ {l : List Ls} {n : Nat} (k : Nat), ris n l = true → ris n (l.drop k) = true
  | _, _, 0, h => by simpa using h
  | [], _, k + 1, _ => by simp [ris]
  | a :: l, n, k + 1, h => by
    obtain ⟨h1, h2, h3⟩ := ris_cons.1 h
    rw [List.drop_succ_cons]
    exact ris_low (Nat.le_of_lt h2) (ris_drop k h3)
theorem isL_take {l : List Ls} (k : Nat) (h : isL l = true) : isL (l.take k) = true := by
  unfold isL at *
  simp only [Bool.and_eq_true, decide_eq_true_eq] at *
  exact ⟨by rw [List.length_take]; omega, ris_take k h.2⟩
theorem isL_drop {l : List Ls} (k : Nat) (h : isL l = true) : isL (l.drop k) = true := by
  unfold isL at *
  simp only [Bool.and_eq_true, decide_eq_true_eq] at *
  exact ⟨by rw [List.length_drop]; omega, ris_drop k h.2⟩
-- there and back
theorem u8_low (n : Nat) (h : n < 256) : n.toUInt8.toNat = n := u8_of n h
theorem kd_cons (c : UInt8) (l : List UInt8) : kd (c :: l) = c.toNat := rfl
theorem kd_lt (s : List UInt8) : kd s < 256 := (s.headD 0).toNat_lt
theorem rdK_enc {l : Lk} (h : isK l = true) : rdK (encK l) = l := by
  obtain ⟨h1, h2, h3, h4⟩ := isK_iff.1 h
  obtain ⟨p, s, k, a⟩ := l
  dsimp only at *
  unfold rdK encK
  dsimp only
  rw [List.drop_succ_cons, List.drop_zero, takeN_short _ _ (by omega), takeR_short _ _ (by omega), takeN_short _ _ (by omega), takeR_short _ _ (by omega), kd_cons, u8_low _ (by omega)]
  rw [show ((k.toNat : Nat) : Int) = k by omega]
theorem rdW_enc {w : Wr} (h : isW w = true) : rdW (encW w) = w := by
  obtain ⟨h2, h3⟩ := isW_iff.1 h
  obtain ⟨s, k⟩ := w
  dsimp only at *
  unfold rdW encW
  dsimp only
  rw [List.drop_succ_cons, List.drop_zero]
  have e := takeN_short s [] (by omega)
  rw [List.append_nil] at e
  rw [e, kd_cons, u8_low _ (by omega)]
  rw [show ((k.toNat : Nat) : Int) = k by omega]
theorem enc1_ne (x : Ls) (hx : is1 x = true) (l : List UInt8) : enc1 x ++ l ≠ [] := by
  obtain ⟨h1, _, _⟩ := is1_iff.1 hx
  intro e
  have h := congrArg List.length e
  have hs := short_len x.i (by omega)
  have hz := (sz_le x.i (by omega)).1
  unfold enc1 at h
  simp only [List.length_append, List.length_nil] at h
  omega
theorem rd1_enc {x : Ls} (hx : is1 x = true) (l : List UInt8) : rd1 (enc1 x ++ l) = x ∧ rst (enc1 x ++ l) = l ∧ takeB (enc1 x ++ l) = true ∧ takeB (takeR (enc1 x ++ l)) = true ∧ takeB (takeR (takeR (enc1 x ++ l))) = true := by
  obtain ⟨h1, h2, h3⟩ := is1_iff.1 hx
  obtain ⟨i, t, u⟩ := x
  dsimp only at *
  unfold rd1 rst enc1
  dsimp only
  rw [List.append_assoc, List.append_assoc]
  rw [takeN_short _ _ (by omega), takeR_short _ _ (by omega), takeN_short _ _ (by omega), takeR_short _ _ (by omega), takeN_short _ _ (by omega), takeR_short _ _ (by omega), takeB_short _ _ (by omega), takeB_short _ _ (by omega), takeB_short _ _ (by omega)]
  exact ⟨rfl, rfl, rfl, rfl, rfl⟩
theorem rdA_enc : ∀ (f : Nat) {l : List Ls} {n : Nat}, l.length ≤ f → ris n l = true → rdA f (encL l) = l
  | 0, [], _, _, _ => rfl
  | f + 1, [], _, _, _ => rfl
  | 0, x :: l, _, h, _ => by simp at h
  | f + 1, x :: l, n, h, hr => by
    obtain ⟨h1, h2, h3⟩ := ris_cons.1 hr
    rw [encL, rdA, if_neg (enc1_ne x h1 _), (rd1_enc h1 _).1, (rd1_enc h1 _).2.1, rdA_enc f (by simp at h; omega) h3]
theorem rdL_enc {l : List Ls} (h : isL l = true) : rdL (encL l) = l := by
  unfold isL at h
  simp only [Bool.and_eq_true, decide_eq_true_eq] at h
  exact rdA_enc 5 h.1 h.2
theorem bK_enc {l : Lk} (h : isK l = true) : bK (encK l) = true ∧ dK (encK l) = l ∧ dKC (encK l) = 0 := by
  have h1 : bK (encK l) = true := by unfold bK; rw [rdK_enc h, h]; simp
  refine ⟨h1, ?_, ?_⟩
  · unfold dK; rw [if_pos h1, rdK_enc h]
  · unfold dKC; rw [if_pos h1]
theorem bW_enc {l : Wr} (h : isW l = true) : bW (encW l) = true ∧ dW (encW l) = l ∧ dWC (encW l) = 0 := by
  have h1 : bW (encW l) = true := by unfold bW; rw [rdW_enc h, h]; simp
  refine ⟨h1, ?_, ?_⟩
  · unfold dW; rw [if_pos h1, rdW_enc h]
  · unfold dWC; rw [if_pos h1]
theorem bL_enc {l : List Ls} (h : isL l = true) : bL (encL l) = true ∧ dL (encL l) = l ∧ dLC (encL l) = 0 := by
  have h1 : bL (encL l) = true := by unfold bL; rw [rdL_enc h, h]; simp
  refine ⟨h1, ?_, ?_⟩
  · unfold dL; rw [if_pos h1, rdL_enc h]
  · unfold dLC; rw [if_pos h1]
theorem bK_back {s : List UInt8} (h : bK s = true) : isK (dK s) = true ∧ encK (dK s) = s ∧ dK s = rdK s := by
  unfold dK; rw [if_pos h]
  unfold bK at h
  simp only [Bool.and_eq_true, beq_iff_eq] at h
  exact ⟨h.1, h.2, rfl⟩
theorem bW_back {s : List UInt8} (h : bW s = true) : isW (dW s) = true ∧ encW (dW s) = s ∧ dW s = rdW s := by
  unfold dW; rw [if_pos h]
  unfold bW at h
  simp only [Bool.and_eq_true, beq_iff_eq] at h
  exact ⟨h.1, h.2, rfl⟩
theorem bL_back {s : List UInt8} (h : bL s = true) : isL (dL s) = true ∧ encL (dL s) = s ∧ dL s = rdL s := by
  unfold dL; rw [if_pos h]
  unfold bL at h
  simp only [Bool.and_eq_true, beq_iff_eq] at h
  exact ⟨h.1, h.2, rfl⟩
theorem encK_inj {l m : Lk} (hl : isK l = true) (hm : isK m = true) : encK l = encK m ↔ l = m :=
  ⟨fun e => by rw [← rdK_enc hl, ← rdK_enc hm, e], fun e => by rw [e]⟩
theorem encW_inj {l m : Wr} (hl : isW l = true) (hm : isW m = true) : encW l = encW m ↔ l = m :=
  ⟨fun e => by rw [← rdW_enc hl, ← rdW_enc hm, e], fun e => by rw [e]⟩
-- a lock's bytes have their numbers
theorem bK_takes {s : List UInt8} (h : bK s = true) : s ≠ [] ∧ takeB (s.drop 1) = true ∧ takeB (takeR (s.drop 1)) = true := by
  obtain ⟨h1, h2, _⟩ := bK_back h
  obtain ⟨q1, q2, q3, q4⟩ := isK_iff.1 h1
  rw [← h2]
  unfold encK
  refine ⟨by simp, ?_, ?_⟩
  · rw [List.drop_succ_cons, List.drop_zero]; exact takeB_short _ _ (by omega)
  · rw [List.drop_succ_cons, List.drop_zero, takeR_short _ _ (by omega)]; exact takeB_short _ _ (by omega)
theorem bW_takes {s : List UInt8} (h : bW s = true) : s ≠ [] ∧ takeB (s.drop 1) = true := by
  obtain ⟨h1, h2, _⟩ := bW_back h
  obtain ⟨q1, q2⟩ := isW_iff.1 h1
  rw [← h2]
  unfold encW
  refine ⟨by simp, ?_⟩
  rw [List.drop_succ_cons, List.drop_zero]
  have e := takeB_short (dW s).s [] (by omega)
  rw [List.append_nil] at e; exact e
-- how many bytes
theorem sz_six {n : Nat} (h : n ≤ 1099511627776) : 1 ≤ (short n).length ∧ (short n).length ≤ 6 := by
  rw [short_len n (by omega)]
  refine ⟨(sz_le n (by omega)).1, ?_⟩
  rw [sz_max]
  have : bitLen n ≤ 41 := by
    by_cases h0 : n = 0
    · subst h0; decide
    · have h2 := (bitLen_spec n).2 h0
      apply Nat.le_of_not_lt
      intro hc
      have h3 : 2 ^ 41 ≤ 2 ^ (bitLen n - 1) := Nat.pow_le_pow_right (by decide) (by omega)
      have h4 : (2 : Nat) ^ 41 = 2199023255552 := by decide
      omega
  omega
theorem encK_len {l : Lk} (h : isK l = true) : l.p.length + 3 ≤ (encK l).length ∧ (encK l).length ≤ l.p.length + 13 := by
  obtain ⟨q1, q2, q3, q4⟩ := isK_iff.1 h
  have h1 := sz_six q2.2; have h2 := sz_six q4
  unfold encK
  simp only [List.length_cons, List.length_append]
  omega
theorem encW_len {w : Wr} (h : isW w = true) : 2 ≤ (encW w).length ∧ (encW w).length ≤ 7 := by
  obtain ⟨q1, q2⟩ := isW_iff.1 h
  have h1 := sz_six q1.2
  unfold encW
  simp only [List.length_cons]
  omega
theorem enc1_len {x : Ls} (h : is1 x = true) : 3 ≤ (enc1 x).length ∧ (enc1 x).length ≤ 18 := by
  obtain ⟨q1, q2, q3⟩ := is1_iff.1 h
  have h1 := sz_six q1.2; have h2 := sz_six q2.2; have h3 := sz_six q3
  unfold enc1
  simp only [List.length_append]
  omega
theorem encL_len : ∀ {l : List Ls} {n : Nat}, ris n l = true → 3 * l.length ≤ (encL l).length ∧ (encL l).length ≤ 18 * l.length
  | [], _, _ => by simp [encL]
  | x :: l, n, h => by
    obtain ⟨h1, h2, h3⟩ := ris_cons.1 h
    have ih := encL_len h3
    have := enc1_len h1
    rw [encL]
    simp only [List.length_append, List.length_cons]
    omega
theorem encL_isL {l : List Ls} (h : isL l = true) : l.length ≤ 5 ∧ ris 0 l = true := by
  unfold isL at h
  simpa using h
end Co
end Go.Proofs.Ytdmnmbomijnjeaa
