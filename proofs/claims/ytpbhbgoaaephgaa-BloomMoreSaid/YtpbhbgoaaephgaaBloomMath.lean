/-
  Filters of keys in plain mathematics: a key's mix and bits, a filter as bytes, which bit is set in it, how many are.
-/
import Derived.Test.YtpbhbgoaaephgaaNumMath
namespace Go.Proofs.Ytpbhbgoaaephgaa
set_option linter.unusedVariables false
set_option maxRecDepth 100000
namespace Bm
def mul (m : Nat) (b : UInt8) : Nat := ((m ^^^ b.toNat) * 1099511628211) % 18446744073709551616
def mix (l : List UInt8) : Nat := l.foldl mul 14695981039346656037
def rot (x : Nat) : Nat := x / 131072 + (x % 131072) * 140737488355328
def sum (m i : Nat) : Nat := (m + i * rot m) % 18446744073709551616
def bits (k : List UInt8) (n : Nat) : List Nat := if n = 0 then [] else (List.range 4).map fun i => sum (mix k) i % n
def hasB (f : List UInt8) (c : Nat) : Bool := (f.getD (c / 8) 0).toNat.testBit (c % 8)
def setB (f : List UInt8) (c : Nat) : List UInt8 := f.set (c / 8) (f.getD (c / 8) 0 ||| UInt8.ofNat (2 ^ (c % 8)))
def fil (n : Nat) (bs : List Nat) : List UInt8 := bs.foldl setB (List.replicate n 0)
def all (ks : List (List UInt8)) (n : Nat) : List Nat := ks.flatMap fun k => bits k n
def made (ks : List (List UInt8)) : List UInt8 := fil (ks.length + 1) (all ks (8 * (ks.length + 1)))
def may (f k : List UInt8) : Bool := (bits k (8 * f.length)).all (hasB f)
def full (f : List UInt8) : Nat := (List.range (8 * f.length)).countP (hasB f)
def makeS (ks : List (List UInt8)) : List UInt8 := if ks.length ≤ 1000 then made ks else []
def makeE (ks : List (List UInt8)) : Int := if ks.length ≤ 1000 then 0 else 4

theorem mul_lt (m : Nat) (b : UInt8) : mul m b < 18446744073709551616 := Nat.mod_lt _ (by decide)
theorem mix_snoc (l : List UInt8) (b : UInt8) : mix (l ++ [b]) = mul (mix l) b := by unfold mix; rw [List.foldl_append, List.foldl_cons, List.foldl_nil]
theorem fold_lt (l : List UInt8) : ∀ m, m < 18446744073709551616 → l.foldl mul m < 18446744073709551616 := by
  induction l with
  | nil => intro m h; exact h
  | cons b l ih => intro m _; exact ih _ (mul_lt m b)
theorem mix_lt (l : List UInt8) : mix l < 18446744073709551616 := fold_lt l _ (by decide)
theorem rot_lt (x : Nat) (h : x < 18446744073709551616) : rot x < 18446744073709551616 := by unfold rot; omega
theorem sum_lt (m i : Nat) : sum m i < 18446744073709551616 := Nat.mod_lt _ (by decide)
theorem sum_zero (m : Nat) (h : m < 18446744073709551616) : sum m 0 = m := by unfold sum; omega
theorem sum_succ (m i : Nat) : sum m (i + 1) = (sum m i + rot m) % 18446744073709551616 := by
  unfold sum
  have : (i + 1) * rot m = i * rot m + rot m := by rw [Nat.add_mul, Nat.one_mul]
  rw [this]
  generalize i * rot m = X
  omega
theorem rot_or (x : Nat) (h : x < 18446744073709551616) : (x * 140737488355328 % 18446744073709551616) ||| (x / 131072) = rot x := by
  have e : x * 140737488355328 % 18446744073709551616 = 2 ^ 47 * (x % 131072) := by
    show _ = 140737488355328 * (x % 131072)
    omega
  rw [e, ← Nat.two_pow_add_eq_or_of_lt (by show x / 131072 < 140737488355328; omega)]
  show 140737488355328 * (x % 131072) + x / 131072 = rot x
  unfold rot; omega
theorem bits_len (k : List UInt8) (n : Nat) : (bits k n).length = if n = 0 then 0 else 4 := by unfold bits; split <;> simp
theorem bits_lt (k : List UInt8) (n : Nat) : ∀ c ∈ bits k n, c < n := by
  unfold bits
  split
  · intro c h; cases h
  · intro c h
    rw [List.mem_map] at h
    obtain ⟨i, _, rfl⟩ := h
    exact Nat.mod_lt _ (by omega)
theorem set_len (f : List UInt8) (c : Nat) : (setB f c).length = f.length := by unfold setB; simp
theorem pow_byte (k : Nat) (h : k < 8) : (UInt8.ofNat (2 ^ k)).toNat = 2 ^ k := by
  have : ∀ k : Fin 8, (UInt8.ofNat (2 ^ k.val)).toNat = 2 ^ k.val := by decide
  exact this ⟨k, h⟩
theorem has_set (f : List UInt8) (b c : Nat) (hb : b / 8 < f.length) : hasB (setB f b) c = (hasB f c || decide (c = b)) := by
  unfold hasB setB
  by_cases h : c / 8 = b / 8
  · rw [h]
    have e : (f.set (b / 8) (f.getD (b / 8) 0 ||| UInt8.ofNat (2 ^ (b % 8)))).getD (b / 8) 0 = f.getD (b / 8) 0 ||| UInt8.ofNat (2 ^ (b % 8)) := by
      rw [List.getD_eq_getElem?_getD, List.getElem?_set_self hb]; rfl
    rw [e, UInt8.toNat_or, Nat.testBit_or, pow_byte _ (by omega), Nat.testBit_two_pow]
    congr 1
    by_cases h2 : b % 8 = c % 8
    · rw [decide_eq_true h2, decide_eq_true (by omega)]
    · rw [decide_eq_false h2, decide_eq_false (by omega)]
  · have e : (f.set (b / 8) (f.getD (b / 8) 0 ||| UInt8.ofNat (2 ^ (b % 8)))).getD (c / 8) 0 = f.getD (c / 8) 0 := by
      rw [List.getD_eq_getElem?_getD, List.getElem?_set_ne (by omega), ← List.getD_eq_getElem?_getD]
    rw [e, decide_eq_false (by omega), Bool.or_false]
theorem has_none (n c : Nat) : hasB (List.replicate n 0) c = false := by
  unfold hasB
  have : (List.replicate n (0 : UInt8)).getD (c / 8) 0 = 0 := by
    rw [List.getD_eq_getElem?_getD, List.getElem?_replicate]; split <;> rfl
  rw [this]; simp
theorem has_out (f : List UInt8) (c : Nat) (h : 8 * f.length ≤ c) : hasB f c = false := by
  unfold hasB
  have : f.getD (c / 8) 0 = 0 := by
    rw [List.getD_eq_getElem?_getD, List.getElem?_eq_none (by omega)]; rfl
  rw [this]; simp
theorem fold_len (bs : List Nat) : ∀ f : List UInt8, (bs.foldl setB f).length = f.length := by
  induction bs with
  | nil => intro f; rfl
  | cons b bs ih => intro f; rw [List.foldl_cons, ih, set_len]
theorem fold_has (bs : List Nat) : ∀ f : List UInt8, (∀ b ∈ bs, b < 8 * f.length) → ∀ c, hasB (bs.foldl setB f) c = (hasB f c || decide (c ∈ bs)) := by
  induction bs with
  | nil => intro f _ c; simp
  | cons b bs ih =>
    intro f h c
    have hb := h b (by simp)
    rw [List.foldl_cons, ih _ (by rw [set_len]; exact fun x hx => h x (by simp [hx])) c, has_set f b c (by omega), Bool.or_assoc]
    congr 1
    by_cases h1 : c = b <;> by_cases h2 : c ∈ bs <;> simp [h1, h2]
theorem fil_len (n : Nat) (bs : List Nat) : (fil n bs).length = n := by unfold fil; rw [fold_len]; simp
theorem fil_has (n : Nat) (bs : List Nat) (h : ∀ b ∈ bs, b < 8 * n) (c : Nat) : hasB (fil n bs) c = decide (c ∈ bs) := by
  unfold fil
  rw [fold_has _ _ (by simpa using h), has_none, Bool.false_or]
theorem fil_snoc (n : Nat) (bs : List Nat) (b : Nat) : fil n (bs ++ [b]) = setB (fil n bs) b := by unfold fil; simp
theorem all_lt (ks : List (List UInt8)) (n : Nat) : ∀ c ∈ all ks n, c < n := by
  intro c h
  unfold all at h
  rw [List.mem_flatMap] at h
  obtain ⟨k, _, hk⟩ := h
  exact bits_lt k n c hk
theorem all_mem {ks : List (List UInt8)} {n c : Nat} : c ∈ all ks n ↔ ∃ k, k ∈ ks ∧ c ∈ bits k n := by unfold all; rw [List.mem_flatMap]
theorem all_snoc (ks : List (List UInt8)) (k : List UInt8) (n : Nat) : all (ks ++ [k]) n = all ks n ++ bits k n := by unfold all; simp
theorem made_len (ks : List (List UInt8)) : (made ks).length = ks.length + 1 := fil_len _ _
theorem made_has (ks : List (List UInt8)) (c : Nat) : hasB (made ks) c = decide (c ∈ all ks (8 * (ks.length + 1))) := fil_has _ _ (all_lt _ _) c
theorem byte_ext (a b : UInt8) (h : ∀ k, k < 8 → a.toNat.testBit k = b.toNat.testBit k) : a = b := by
  refine UInt8.toNat_inj.1 (Nat.eq_of_testBit_eq fun k => ?_)
  by_cases hk : k < 8
  · exact h k hk
  · have ha : a.toNat < 2 ^ k := Nat.lt_of_lt_of_le a.toNat_lt (Nat.pow_le_pow_right (by decide) (by omega) : 2 ^ 8 ≤ 2 ^ k)
    have hb : b.toNat < 2 ^ k := Nat.lt_of_lt_of_le b.toNat_lt (Nat.pow_le_pow_right (by decide) (by omega) : 2 ^ 8 ≤ 2 ^ k)
    rw [Nat.testBit_lt_two_pow ha, Nat.testBit_lt_two_pow hb]
theorem ext {f g : List UInt8} (hl : f.length = g.length) (h : ∀ c, c < 8 * f.length → hasB f c = hasB g c) : f = g := by
  refine List.ext_getElem hl fun i h1 h2 => byte_ext _ _ fun k hk => ?_
  have := h (8 * i + k) (by omega)
  unfold hasB at this
  rw [show (8 * i + k) / 8 = i by omega, show (8 * i + k) % 8 = k by omega, List.getD_eq_getElem?_getD, List.getD_eq_getElem?_getD, List.getElem?_eq_getElem h1, List.getElem?_eq_getElem h2] at this
  exact this
theorem has_take (f : List UInt8) (n c : Nat) (h : c < 8 * n) : hasB (f.take n) c = hasB f c := by
  unfold hasB
  rw [List.getD_eq_getElem?_getD, List.getD_eq_getElem?_getD, List.getElem?_take, if_pos (by omega)]
theorem fil_take (m n : Nat) (bs : List Nat) (hm : n ≤ m) (h : ∀ b ∈ bs, b < 8 * n) : (fil m bs).take n = fil n bs := by
  refine ext (by rw [List.length_take, fil_len, fil_len]; omega) fun c hc => ?_
  rw [List.length_take, fil_len] at hc
  rw [has_take _ _ _ (by omega), fil_has m bs (fun b hb => by have := h b hb; omega), fil_has n bs h]
/-- of each key of which a filter is made it is told that it may be -/
theorem made_may {ks : List (List UInt8)} {k : List UInt8} (h : k ∈ ks) : may (made ks) k = true := by
  unfold may
  rw [List.all_eq_true, made_len]
  intro c hc
  rw [made_has, decide_eq_true (all_mem.2 ⟨k, h, hc⟩)]
/-- the same keys, in what order ever -/
theorem made_same {ks js : List (List UInt8)} (hl : ks.length = js.length) (h : ∀ k, k ∈ ks ↔ k ∈ js) : made ks = made js := by
  refine ext (by rw [made_len, made_len, hl]) fun c _ => ?_
  rw [made_has, made_has, hl]
  congr 1
  refine propext ⟨fun hc => ?_, fun hc => ?_⟩
  · obtain ⟨k, hk, hb⟩ := all_mem.1 hc
    exact all_mem.2 ⟨k, (h k).1 hk, hb⟩
  · obtain ⟨k, hk, hb⟩ := all_mem.1 hc
    exact all_mem.2 ⟨k, (h k).2 hk, hb⟩
theorem cnt_more (p : Nat → Bool) (a : Nat) : ∀ L : List Nat, L.Nodup → L.countP (fun c => p c || decide (c = a)) = L.countP p + (if a ∈ L ∧ p a = false then 1 else 0) := by
  intro L
  induction L with
  | nil => intro _; simp
  | cons x L ih =>
    intro hn
    rw [List.nodup_cons] at hn
    rw [List.countP_cons, List.countP_cons, ih hn.2]
    by_cases hx : x = a
    · subst hx
      have : ¬ (x ∈ L ∧ p x = false) := fun h => hn.1 h.1
      rw [if_neg this]
      cases p x <;> simp
    · rw [decide_eq_false hx, Bool.or_false]
      by_cases h2 : a ∈ L ∧ p a = false
      · have h3 : a ∈ x :: L ∧ p a = false := ⟨List.mem_cons_of_mem _ h2.1, h2.2⟩
        rw [if_pos h2, if_pos h3]; omega
      · have h3 : ¬ (a ∈ x :: L ∧ p a = false) := fun h => h2 ⟨by
          rcases List.mem_cons.1 h.1 with e | e
          · exact absurd e.symm hx
          · exact e, h.2⟩
        rw [if_neg h2, if_neg h3]; omega
theorem full_set (f : List UInt8) (b : Nat) (hb : b < 8 * f.length) : full (setB f b) = full f + (if hasB f b = true then 0 else 1) := by
  unfold full
  rw [set_len]
  have e : (List.range (8 * f.length)).countP (hasB (setB f b)) = (List.range (8 * f.length)).countP (fun c => hasB f c || decide (c = b)) := by
    congr 1; funext c; exact has_set f b c (by omega)
  rw [e, cnt_more _ _ _ List.nodup_range]
  congr 1
  cases hasB f b <;> simp [hb]
theorem full_none (n : Nat) : full (List.replicate n 0) = 0 := by
  unfold full
  rw [List.countP_eq_zero]
  intro c _
  rw [has_none]; decide
theorem full_fil (n : Nat) : ∀ (bs : List Nat), (∀ b ∈ bs, b < 8 * n) → full (fil n bs) ≤ bs.length := by
  intro bs
  have : ∀ (bs : List Nat) (f : List UInt8), (∀ b ∈ bs, b < 8 * f.length) → full (bs.foldl setB f) ≤ full f + bs.length := by
    intro bs
    induction bs with
    | nil => intro f _; exact Nat.le_refl _
    | cons b bs ih =>
      intro f h
      rw [List.foldl_cons]
      have h1 := ih (setB f b) (by rw [set_len]; exact fun x hx => h x (by simp [hx]))
      have h2 := full_set f b (h b (by simp))
      rw [List.length_cons]
      split at h2 <;> omega
  intro h
  have h1 := this bs (List.replicate n 0) (by simpa using h)
  rw [full_none] at h1
  unfold fil; omega
theorem full_pos (f : List UInt8) (c : Nat) (hc : c < 8 * f.length) (h : hasB f c = true) : 0 < full f := by
  unfold full
  rw [List.countP_pos_iff]
  exact ⟨c, List.mem_range.2 hc, h⟩
theorem all_len (ks : List (List UInt8)) (n : Nat) : (all ks n).length ≤ 4 * ks.length := by
  induction ks with
  | nil => simp [all]
  | cons k ks ih =>
    have e : all (k :: ks) n = bits k n ++ all ks n := by simp [all]
    rw [e, List.length_append, bits_len, List.length_cons]
    split <;> omega
theorem made_full (ks : List (List UInt8)) : full (made ks) ≤ 4 * ks.length := by
  have h1 := full_fil (ks.length + 1) (all ks (8 * (ks.length + 1))) (all_lt _ _)
  have h2 := all_len ks (8 * (ks.length + 1))
  unfold made; omega
theorem made_zero (ks : List (List UInt8)) : (full (made ks) = 0) = (ks = []) := by
  refine propext ⟨fun h => ?_, fun h => ?_⟩
  · cases ks with
    | nil => rfl
    | cons k ks =>
      exfalso
      have hm : sum (mix k) 0 % (8 * ((k :: ks).length + 1)) ∈ bits k (8 * ((k :: ks).length + 1)) := by
        unfold bits
        rw [if_neg (by omega), List.mem_map]
        exact ⟨0, by simp, rfl⟩
      have := full_pos (made (k :: ks)) (sum (mix k) 0 % (8 * ((k :: ks).length + 1))) (by rw [made_len]; exact Nat.mod_lt _ (by omega)) (by
        rw [made_has, decide_eq_true]
        exact all_mem.2 ⟨k, by simp, hm⟩)
      omega
  · subst h
    have := made_full []
    simpa using this
/-- how many bits a byte has set -/
def pc (b : UInt8) : Nat := (List.range 8).countP fun k => b.toNat.testBit k
theorem full_snoc (f : List UInt8) (b : UInt8) : full (f ++ [b]) = full f + pc b := by
  unfold full
  have e : 8 * (f ++ [b]).length = 8 * f.length + 8 := by simp; omega
  rw [e, List.range_add, List.countP_append, List.countP_map]
  congr 1
  · refine List.countP_congr fun c hc => ?_
    have := List.mem_range.1 hc
    unfold hasB
    rw [List.getD_eq_getElem?_getD, List.getD_eq_getElem?_getD, List.getElem?_append_left (by omega)]
  · unfold pc
    refine List.countP_congr fun c hc => ?_
    have := List.mem_range.1 hc
    unfold hasB
    rw [Function.comp, show (8 * f.length + c) / 8 = f.length by omega, show (8 * f.length + c) % 8 = c by omega, List.getD_eq_getElem?_getD, List.getElem?_append_right (by omega)]
    simp
theorem full_nil : full [] = 0 := rfl
theorem full_le (f : List UInt8) : full f ≤ 8 * f.length := by
  unfold full
  have := List.countP_le_length (p := hasB f) (l := List.range (8 * f.length))
  simpa using this
/-- more bits set -/
theorem may_more {f g k : List UInt8} (hl : f.length = g.length) (h : ∀ c, hasB f c = true → hasB g c = true) (hm : may f k = true) : may g k = true := by
  unfold may at *
  rw [List.all_eq_true] at *
  rw [← hl]
  exact fun c hc => h c (hm c hc)
theorem full_more {f g : List UInt8} (hl : f.length = g.length) (h : ∀ c, hasB f c = true → hasB g c = true) : full f ≤ full g := by
  unfold full
  rw [hl]
  exact List.countP_mono_left fun c _ hc => h c hc
end Bm
end Go.Proofs.Ytpbhbgoaaephgaa
