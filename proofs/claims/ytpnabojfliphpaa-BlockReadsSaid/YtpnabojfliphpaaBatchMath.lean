/-
  Batches in plain mathematics: which operations may be, a batch's bytes, what bytes are a batch's; there and back; no batch's bytes a beginning of another one's.
-/
import Derived.Test.YtpnabojfliphpaaNumMath
namespace Go.Proofs.Ytpnabojfliphpaa
set_option linter.unusedVariables false
set_option maxRecDepth 100000
namespace Bt
structure Op where
  del : Bool
  key : List UInt8
  val : List UInt8
theorem op_eq (a b : Op) : (a.del = b.del ∧ a.key = b.key ∧ a.val = b.val) ↔ a = b := by
  obtain ⟨d, k, v⟩ := a
  obtain ⟨d', k', v'⟩ := b
  constructor
  · rintro ⟨h1, h2, h3⟩
    simp only at h1 h2 h3
    subst h1 h2 h3
    rfl
  · intro h
    rw [h]
    exact ⟨rfl, rfl, rfl⟩
instance opDec : DecidableEq Op := fun a b => decidable_of_iff _ (op_eq a b)
def may1 (x : Op) : Bool := decide (1 ≤ x.key.length) && decide (x.key.length ≤ 100) && decide (x.val.length ≤ 100) && (!x.del || decide (x.val = []))
def mayAll (l : List Op) : Bool := l.all may1
def may (l : List Op) : Bool := decide (1 ≤ l.length) && decide (l.length ≤ 16) && mayAll l
def nums (n c : Nat) : Bool := decide (1 ≤ n) && decide (n + c ≤ 1099511627777)
def sized (t : List UInt8) : List UInt8 := Nm.short t.length ++ t
def enc1 (x : Op) : List UInt8 := if x.del then 1 :: sized x.key else 0 :: (sized x.key ++ sized x.val)
def encL : List Op → List UInt8
  | [] => []
  | x :: l => enc1 x ++ encL l
def enc (n : Nat) (l : List Op) : List UInt8 := Nm.short n ++ (Nm.short l.length ++ encL l)
def ok (n : Nat) (l : List Op) : Bool := may l && nums n l.length
def encS (n : Nat) (l : List Op) : List UInt8 := if ok n l then enc n l else []
def encE (n : Nat) (l : List Op) : Int := if may l then if nums n l.length then 0 else 3 else 2
/-- a text behind how many bytes it has, and what follows -/
def takeT (s : List UInt8) : Option (List UInt8 × List UInt8) :=
  match Nm.take s with
  | none => none
  | some (n, b) => if n ≤ b.length then some (b.take n, b.drop n) else none
def take1 (s : List UInt8) : Option (Op × List UInt8) :=
  match s with
  | [] => none
  | c :: r =>
    if c = 0 then
      match takeT r with
      | none => none
      | some (k, r1) =>
        match takeT r1 with
        | none => none
        | some (v, r2) => some (⟨false, k, v⟩, r2)
    else if c = 1 then
      match takeT r with
      | none => none
      | some (k, r1) => some (⟨true, k, []⟩, r1)
    else none
def takeL : Nat → List UInt8 → Option (List Op × List UInt8)
  | 0, s => some ([], s)
  | c + 1, s =>
    match take1 s with
    | none => none
    | some (x, r) =>
      match takeL c r with
      | none => none
      | some (l, q) => some (x :: l, q)
/-- how many operations, and they, and what follows -/
def takeC (s : List UInt8) : Option (List Op × List UInt8) :=
  match Nm.take s with
  | none => none
  | some (c, b) => if c ≤ 16 then takeL c b else none
def dec (s : List UInt8) : Option (Nat × List Op) :=
  match Nm.take s with
  | none => none
  | some (n, b) =>
    match takeC b with
    | none => none
    | some (l, r) => if ok n l = true ∧ r = [] then some (n, l) else none
/-- may the operation's sizes be said at all, and has one that goes no value? -/
def Wide (x : Op) : Prop := x.key.length < 18446744073709551616 ∧ x.val.length < 18446744073709551616 ∧ (x.del = true → x.val = [])

theorem may1_iff {x : Op} : may1 x = true ↔ 1 ≤ x.key.length ∧ x.key.length ≤ 100 ∧ x.val.length ≤ 100 ∧ (x.del = true → x.val = []) := by
  unfold may1
  cases x.del <;> simp [and_assoc]
theorem mayAll_iff {l : List Op} : mayAll l = true ↔ ∀ x ∈ l, may1 x = true := by simp [mayAll]
theorem may_iff {l : List Op} : may l = true ↔ 1 ≤ l.length ∧ l.length ≤ 16 ∧ ∀ x ∈ l, may1 x = true := by
  unfold may
  rw [Bool.and_eq_true, Bool.and_eq_true, mayAll_iff, decide_eq_true_iff, decide_eq_true_iff, and_assoc]
theorem nums_iff {n c : Nat} : nums n c = true ↔ 1 ≤ n ∧ n + c ≤ 1099511627777 := by simp [nums]
theorem ok_iff {n : Nat} {l : List Op} : ok n l = true ↔ may l = true ∧ nums n l.length = true := by simp [ok]
theorem may1_wide {x : Op} (h : may1 x = true) : Wide x := by
  obtain ⟨_, h2, h3, h4⟩ := may1_iff.1 h
  exact ⟨by omega, by omega, h4⟩
theorem encE_ok {n : Nat} {l : List Op} : encE n l = 0 ↔ ok n l = true := by
  unfold encE ok
  cases may l <;> cases nums n l.length <;> simp
theorem enc_yes {n : Nat} {l : List Op} (h : ok n l = true) : encS n l = enc n l ∧ encE n l = 0 := ⟨by unfold encS; rw [if_pos h], encE_ok.2 h⟩

theorem takeT_sized (t r : List UInt8) (h : t.length < 18446744073709551616) : takeT (sized t ++ r) = some (t, r) := by
  unfold takeT sized
  rw [List.append_assoc, Nm.take_short _ _ h]
  simp
theorem takeT_back {s t r : List UInt8} (h : takeT s = some (t, r)) : s = sized t ++ r ∧ t.length < 18446744073709551616 := by
  unfold takeT at h
  split at h
  · cases h
  · rename_i n b hn
    split at h
    · rename_i hc
      injection h with h
      injection h with ht hr
      have hl : t.length = n := by rw [← ht, List.length_take]; omega
      obtain ⟨e, hb⟩ := Nm.take_back _ _ _ hn
      refine ⟨?_, by omega⟩
      unfold sized
      rw [hl, e, List.append_assoc, ← ht, ← hr, List.take_append_drop]
    · cases h
theorem take1_enc (x : Op) (r : List UInt8) (h : Wide x) : take1 (enc1 x ++ r) = some (x, r) := by
  obtain ⟨d, k, v⟩ := x
  obtain ⟨h1, h2, h3⟩ := h
  cases d with
  | true =>
    have hv : v = [] := h3 rfl
    subst hv
    unfold enc1 take1
    simp [takeT_sized k r h1]
  | false =>
    unfold enc1 take1
    simp [takeT_sized k _ h1, takeT_sized v r h2]
theorem take1_back {s r : List UInt8} {x : Op} (h : take1 s = some (x, r)) : s = enc1 x ++ r ∧ Wide x := by
  unfold take1 at h
  split at h
  · cases h
  · rename_i c q
    split at h
    · rename_i hc
      split at h
      · cases h
      · rename_i k r1 hk
        split at h
        · cases h
        · rename_i v r2 hv
          injection h with h
          injection h with hx hr
          obtain ⟨e1, l1⟩ := takeT_back hk
          obtain ⟨e2, l2⟩ := takeT_back hv
          subst hx hr
          refine ⟨?_, l1, l2, fun h => by cases h⟩
          rw [hc, e1, e2]
          simp [enc1]
    · split at h
      · rename_i hc
        split at h
        · cases h
        · rename_i k r1 hk
          injection h with h
          injection h with hx hr
          obtain ⟨e1, l1⟩ := takeT_back hk
          subst hx hr
          refine ⟨?_, l1, by simp, fun _ => rfl⟩
          rw [hc, e1]
          simp [enc1]
      · cases h
theorem takeL_enc (l : List Op) (r : List UInt8) (h : ∀ x ∈ l, Wide x) : takeL l.length (encL l ++ r) = some (l, r) := by
  induction l with
  | nil => rfl
  | cons x l ih =>
    simp only [List.length_cons, takeL, encL, List.append_assoc]
    rw [take1_enc x _ (h x List.mem_cons_self)]
    show (match takeL l.length (encL l ++ r) with | none => none | some (m, q) => some (x :: m, q)) = _
    rw [ih (fun y hy => h y (List.mem_cons_of_mem _ hy))]
theorem takeL_back : ∀ {c : Nat} {s r : List UInt8} {l : List Op}, takeL c s = some (l, r) → l.length = c ∧ s = encL l ++ r ∧ ∀ x ∈ l, Wide x
  | 0, s, r, l, h => by
    simp only [takeL] at h
    injection h with h
    injection h with h1 h2
    subst h1 h2
    exact ⟨rfl, rfl, fun x hx => by simp at hx⟩
  | c + 1, s, r, l, h => by
    simp only [takeL] at h
    split at h
    · cases h
    · rename_i x q hx
      split at h
      · cases h
      · rename_i m t hm
        injection h with h
        injection h with h1 h2
        subst h1 h2
        obtain ⟨e1, w1⟩ := take1_back hx
        obtain ⟨l2, e2, w2⟩ := takeL_back hm
        refine ⟨by simp [l2], by rw [e1, e2]; simp [encL], fun y hy => ?_⟩
        rcases List.mem_cons.1 hy with rfl | hy
        · exact w1
        · exact w2 y hy
theorem takeC_enc (l : List Op) (r : List UInt8) (hl : l.length ≤ 16) (h : ∀ x ∈ l, Wide x) : takeC (Nm.short l.length ++ (encL l ++ r)) = some (l, r) := by
  unfold takeC
  rw [Nm.take_short _ _ (by omega)]
  show (if l.length ≤ 16 then takeL l.length (encL l ++ r) else none) = _
  rw [if_pos hl, takeL_enc l r h]
theorem takeC_back {s r : List UInt8} {l : List Op} (h : takeC s = some (l, r)) : l.length ≤ 16 ∧ s = Nm.short l.length ++ (encL l ++ r) ∧ ∀ x ∈ l, Wide x := by
  unfold takeC at h
  split at h
  · cases h
  · rename_i c b hc
    split at h
    · rename_i h16
      obtain ⟨l2, e2, w2⟩ := takeL_back h
      obtain ⟨e, _⟩ := Nm.take_back _ _ _ hc
      exact ⟨by omega, by rw [l2, e, e2], w2⟩
    · cases h
theorem dec_enc {n : Nat} {l : List Op} (h : ok n l = true) : dec (enc n l) = some (n, l) := by
  obtain ⟨h1, h2⟩ := ok_iff.1 h
  obtain ⟨_, h16, hall⟩ := may_iff.1 h1
  obtain ⟨_, hn⟩ := nums_iff.1 h2
  unfold dec enc
  rw [Nm.take_short _ _ (by omega)]
  have := takeC_enc l [] h16 (fun x hx => may1_wide (hall x hx))
  rw [List.append_nil] at this
  simp [this, h]
theorem dec_back {s : List UInt8} {n : Nat} {l : List Op} (h : dec s = some (n, l)) : s = enc n l ∧ ok n l = true := by
  unfold dec at h
  split at h
  · cases h
  · rename_i k b hn
    split at h
    · cases h
    · rename_i m r hm
      split at h
      · rename_i hc
        injection h with h
        injection h with e1 e2
        subst e1 e2
        obtain ⟨e, _⟩ := Nm.take_back _ _ _ hn
        obtain ⟨_, e2, _⟩ := takeC_back hm
        refine ⟨?_, hc.1⟩
        rw [e, e2, hc.2]
        simp [enc]
      · cases h
theorem dec_iff {s : List UInt8} {n : Nat} {l : List Op} : dec s = some (n, l) ↔ s = enc n l ∧ ok n l = true :=
  ⟨dec_back, fun h => by rw [h.1]; exact dec_enc h.2⟩
/-- no batch's bytes are a beginning of another one's -/
theorem enc_one {n m : Nat} {l k : List Op} {r q : List UInt8} (hl : ok n l = true) (hk : ok m k = true) (h : enc n l ++ r = enc m k ++ q) : n = m ∧ l = k ∧ r = q := by
  obtain ⟨a1, a2⟩ := ok_iff.1 hl
  obtain ⟨_, a16, aall⟩ := may_iff.1 a1
  obtain ⟨_, an⟩ := nums_iff.1 a2
  obtain ⟨b1, b2⟩ := ok_iff.1 hk
  obtain ⟨_, b16, ball⟩ := may_iff.1 b1
  obtain ⟨_, bn⟩ := nums_iff.1 b2
  have e1 := Nm.take_short n (Nm.short l.length ++ (encL l ++ r)) (by omega)
  have e2 := Nm.take_short m (Nm.short k.length ++ (encL k ++ q)) (by omega)
  have e3 : Nm.short n ++ (Nm.short l.length ++ (encL l ++ r)) = Nm.short m ++ (Nm.short k.length ++ (encL k ++ q)) := by
    have := h
    unfold enc at this
    simpa [List.append_assoc] using this
  rw [e3, e2] at e1
  injection e1 with e1
  injection e1 with e4 e5
  have f1 := takeC_enc l r a16 (fun x hx => may1_wide (aall x hx))
  have f2 := takeC_enc k q b16 (fun x hx => may1_wide (ball x hx))
  rw [← e5, f2] at f1
  injection f1 with f1
  injection f1 with f3 f4
  exact ⟨e4.symm, f3.symm, f4.symm⟩
theorem apart {n m : Nat} {l k : List Op} (hl : ok n l = true) (hk : ok m k = true) :
    (enc n l).take (min (enc n l).length (enc m k).length) = (enc m k).take (min (enc n l).length (enc m k).length) ↔ n = m ∧ l = k := by
  constructor
  · intro h
    rcases Nat.le_total (enc n l).length (enc m k).length with hle | hle
    · rw [Nat.min_eq_left hle, List.take_length] at h
      have : enc n l ++ (enc m k).drop (enc n l).length = enc m k ++ [] := by
        conv => lhs; lhs; rw [h]
        rw [List.take_append_drop, List.append_nil]
      obtain ⟨e1, e2, _⟩ := enc_one hl hk this
      exact ⟨e1, e2⟩
    · rw [Nat.min_eq_right hle, List.take_length] at h
      have : enc n l ++ [] = enc m k ++ (enc n l).drop (enc m k).length := by
        conv => rhs; lhs; rw [← h]
        rw [List.take_append_drop, List.append_nil]
      obtain ⟨e1, e2, _⟩ := enc_one hl hk this
      exact ⟨e1, e2⟩
  · rintro ⟨rfl, rfl⟩; rfl
/-- what is cut off is no batch -/
theorem dec_cut {n : Nat} {l : List Op} (h : ok n l = true) {k : Nat} (hk : k < (enc n l).length) : dec ((enc n l).take k) = none := by
  cases hd : dec ((enc n l).take k) with
  | none => rfl
  | some x =>
    obtain ⟨m, j⟩ := x
    obtain ⟨e, ho⟩ := dec_back hd
    have e2 : enc m j ++ (enc n l).drop k = enc n l ++ [] := by rw [← e, List.take_append_drop, List.append_nil]
    obtain ⟨_, _, e3⟩ := enc_one ho h e2
    have := congrArg List.length e3
    simp at this
    omega
theorem dec_more {n : Nat} {l : List Op} (h : ok n l = true) {r : List UInt8} (hr : r ≠ []) : dec (enc n l ++ r) = none := by
  cases hd : dec (enc n l ++ r) with
  | none => rfl
  | some x =>
    obtain ⟨m, j⟩ := x
    obtain ⟨e, ho⟩ := dec_back hd
    have e2 : enc n l ++ r = enc m j ++ [] := by rw [e, List.append_nil]
    exact absurd (enc_one h ho e2).2.2 hr
theorem short_ne (n : Nat) : 1 ≤ (Nm.short n).length := by
  unfold Nm.short Nm.shortA
  split <;> simp
theorem enc_pos (n : Nat) (l : List Op) : 1 ≤ (enc n l).length := by
  unfold enc
  rw [List.length_append]
  have := short_ne n
  omega
theorem sized_len {t : List UInt8} (h : t.length ≤ 100) : (sized t).length ≤ t.length + 1 ∧ (sized t).length ≤ 101 := by
  unfold sized
  rw [List.length_append, Nm.short_len _ (by omega), Nm.sz_small _ (by omega)]
  omega
theorem enc1_len {x : Op} (h : may1 x = true) : (enc1 x).length ≤ 203 := by
  obtain ⟨_, h2, h3, _⟩ := may1_iff.1 h
  have := sized_len h2
  have := sized_len h3
  unfold enc1
  split
  · simp only [List.length_cons]; omega
  · simp only [List.length_cons, List.length_append]; omega
theorem encL_len {l : List Op} (h : ∀ x ∈ l, may1 x = true) : (encL l).length ≤ 203 * l.length := by
  induction l with
  | nil => simp [encL]
  | cons x l ih =>
    have h1 := enc1_len (h x List.mem_cons_self)
    have h2 := ih (fun y hy => h y (List.mem_cons_of_mem _ hy))
    simp only [encL, List.length_append, List.length_cons]
    omega
theorem enc_len {n : Nat} {l : List Op} (h : ok n l = true) : (enc n l).length ≤ 3268 := by
  obtain ⟨a1, a2⟩ := ok_iff.1 h
  obtain ⟨_, a16, aall⟩ := may_iff.1 a1
  obtain ⟨_, an⟩ := nums_iff.1 a2
  have h1 := encL_len aall
  have h2 := Nm.sz_le n (by omega)
  unfold enc
  rw [List.length_append, List.length_append, Nm.short_len _ (by omega), Nm.short_len _ (by omega), Nm.sz_small l.length (by omega)]
  omega
theorem encL_app (l m : List Op) : encL (l ++ m) = encL l ++ encL m := by
  induction l with
  | nil => rfl
  | cons x l ih => simp only [List.cons_append, encL, ih, List.append_assoc]
theorem encL_snoc (l : List Op) (x : Op) : encL (l ++ [x]) = encL l ++ enc1 x := by rw [encL_app]; simp [encL]
theorem mayAll_snoc (l : List Op) (x : Op) : mayAll (l ++ [x]) = (mayAll l && may1 x) := by simp [mayAll]
/-- how many bytes keys and values have -/
def size (l : List Op) : Nat := (l.map fun x => x.key.length + x.val.length).sum
theorem size_snoc (l : List Op) (x : Op) : size (l ++ [x]) = size l + (x.key.length + x.val.length) := by simp [size]
theorem may_single (x : Op) : may [x] = may1 x := by simp [may, mayAll]
end Bt
end Go.Proofs.Ytpnabojfliphpaa
