/-
  Several small texts as one.
-/
import Derived.WalkKit
/-
  The plain mathematics of numbers as bytes (short, long, falling bytes; signed numbers as unsigned ones; how many bits): no program is named here.
-/
namespace Go.Proofs.YtnnmalpnjlnnlaaGreat
open Go.RowKit
namespace Nm

theorem xor_ones (x : Nat) (h : x < 18446744073709551616) : 18446744073709551615 ^^^ x = 18446744073709551615 - x := by
  have e : (BitVec.allOnes 64 ^^^ BitVec.ofNat 64 x).toNat = 2 ^ 64 - 1 - x := by
    rw [BitVec.allOnes_xor, BitVec.toNat_not, BitVec.toNat_ofNat, Nat.mod_eq_of_lt h]
  rw [BitVec.toNat_xor, BitVec.toNat_allOnes, BitVec.toNat_ofNat, Nat.mod_eq_of_lt h] at e
  exact e
theorem b_notu (x : Int) (h0 : 0 ≤ x) (h1 : x ≤ 18446744073709551615) : bits BinOp.xor IntKind.u64 IntKind.u64.max x = 18446744073709551615 - x := by
  have e : IntKind.u64.max = 18446744073709551615 := by decide
  rw [e, u64_xor _ _ (by omega) (by omega) h0 (by omega)]
  have : (18446744073709551615 : Int).toNat = 18446744073709551615 := rfl
  rw [this, xor_ones _ (by omega)]; omega
theorem b_noti (x : Int) (h0 : -9223372036854775808 ≤ x) (h1 : x ≤ 9223372036854775807) : bits BinOp.xor IntKind.i64 (-1) x = - x - 1 := by
  show IntKind.i64.wrap ((BitVec.ofInt 64 (-1) ^^^ BitVec.ofInt 64 x).toNat : Int) = _
  have e : BitVec.ofInt 64 (-1) = BitVec.allOnes 64 := by decide
  rw [e, BitVec.allOnes_xor, BitVec.toNat_not, BitVec.toNat_ofInt]
  have e3 : (x % ((2 ^ 64 : Nat) : Int)) = x % 18446744073709551616 := rfl
  rw [e3]
  have e4 : (2 ^ 64 - 1 : Nat) = 18446744073709551615 := rfl
  rw [e4, IntKind.wrap_i64]
  omega
theorem nat_or1 (x : Nat) : x ||| 1 = x / 2 * 2 + 1 := by
  rcases Nat.mod_two_eq_zero_or_one x with h | h
  · rw [nat_join 1 x 1 (by omega) (by omega)]; omega
  · have e : x = (x - 1) ||| 1 := by rw [nat_join 1 (x - 1) 1 (by omega) (by omega)]; omega
    rw [e, Nat.or_assoc, Nat.or_self, ← e]; omega
theorem b_and1 (x : Int) (h0 : 0 ≤ x) (h1 : x ≤ 18446744073709551615) : bits BinOp.and IntKind.u64 x 1 = x % 2 := by go_bits2
theorem b_or1 (x : Int) (h0 : 0 ≤ x) (h1 : x ≤ 18446744073709551615) : bits BinOp.or IntKind.u64 x 1 = x / 2 * 2 + 1 := by
  rw [u64_or _ _ h0 (by omega) (by omega) (by omega)]
  rw [show (1 : Int).toNat = 1 from rfl, nat_or1]; omega
theorem b_or128 (x : Int) (h0 : 0 ≤ x) (h1 : x ≤ 255) : bits BinOp.or IntKind.u8 x 128 = x % 128 + 128 := by
  have H : ∀ n : Fin 256, bits BinOp.or IntKind.u8 (n.val : Int) 128 = (n.val : Int) % 128 + 128 := by decide +kernel
  have := H ⟨x.toNat, by omega⟩
  simpa [Int.toNat_of_nonneg h0] using this
theorem b_not128 (x : Int) (h0 : 0 ≤ x) (h1 : x ≤ 255) : bits BinOp.andNot IntKind.u8 x 128 = x % 128 := by go_bits2
theorem b_and128 (x : Int) (h0 : 0 ≤ x) (h1 : x ≤ 255) : bits BinOp.and IntKind.u8 x 128 = x / 128 * 128 := by go_bits2
theorem b_or8 (x y : Int) (h0 : 0 ≤ x) (h1 : x ≤ 72057594037927935) (h2 : 0 ≤ y) (h3 : y ≤ 255) : bits BinOp.or IntKind.u64 (x * 256) y = x * 256 + y := by go_bits2

/-! short bytes -/
def shortA : Nat → Nat → List UInt8
  | 0, _ => []
  | f + 1, n => if n < 128 then [n.toUInt8] else (n % 128 + 128).toUInt8 :: shortA f (n / 128)
def short (n : Nat) : List UInt8 := shortA 10 n
/-- how many short bytes -/
def sz (n : Nat) : Nat := (bitLen (n / 2 * 2 + 1) + 6) / 7

theorem bitLen_half (x : Nat) (h : x ≠ 0) : bitLen x = 1 + bitLen (x / 2) := by
  by_cases h2 : x / 2 = 0
  · have : x = 1 := by omega
    subst this; decide
  · exact bitLen_shift x 1 (by simpa using h2)
theorem bitLen_odd (n : Nat) : bitLen (n / 2 * 2 + 1) = max (bitLen n) 1 := by
  rw [bitLen_half _ (by omega), show (n / 2 * 2 + 1) / 2 = n / 2 from by omega]
  by_cases h : n = 0
  · subst h; decide
  · rw [bitLen_half n h]; omega
theorem bitLen_le64 (n : Nat) (h : n < 18446744073709551616) : bitLen n ≤ 64 := by
  by_cases h0 : n = 0
  · subst h0; decide
  · have := (bitLen_spec n).2 h0
    rcases Nat.lt_or_ge 64 (bitLen n) with h1 | h1
    · have : 2 ^ 64 ≤ 2 ^ (bitLen n - 1) := Nat.pow_le_pow_right (by omega) (by omega)
      omega
    · exact h1
theorem bitLen_128 (n : Nat) (h : 128 ≤ n) : bitLen n = 7 + bitLen (n / 128) := bitLen_shift n 7 (by show n / 128 ≠ 0; omega)
theorem bitLen_pos (n : Nat) (h : n ≠ 0) : 1 ≤ bitLen n := by rw [bitLen_half n h]; omega
theorem bitLen_lt128 (n : Nat) (h : n < 128) : bitLen n ≤ 7 := by
  have H : ∀ i : Fin 128, bitLen i.val ≤ 7 := by decide +kernel
  exact H ⟨n, h⟩
theorem sz_max (n : Nat) : sz n = max ((bitLen n + 6) / 7) 1 := by unfold sz; rw [bitLen_odd]; omega
theorem sz_small (n : Nat) (h : n < 128) : sz n = 1 := by
  rw [sz_max]; have := bitLen_lt128 n h; omega
theorem sz_big (n : Nat) (h : 128 ≤ n) : sz n = 1 + sz (n / 128) := by
  rw [sz_max, sz_max, bitLen_128 n h]; have := bitLen_pos (n / 128) (by omega); omega
theorem sz_le (n : Nat) (h : n < 18446744073709551616) : 1 ≤ sz n ∧ sz n ≤ 10 := by
  rw [sz_max]; have := bitLen_le64 n h; omega
theorem shortA_len : ∀ (f n : Nat), sz n ≤ f → (shortA f n).length = sz n
  | 0, n, h => by rw [sz_max] at h; omega
  | f + 1, n, h => by
    unfold shortA
    split
    · rw [sz_small n ‹_›]; rfl
    · rw [sz_big n (by omega)] at h ⊢
      simp only [List.length_cons]
      rw [shortA_len f (n / 128) (by omega)]; omega
theorem short_len (n : Nat) (h : n < 18446744073709551616) : (short n).length = sz n := shortA_len 10 n (sz_le n h).2
/-- byte i of the short bytes -/
def shortAt (n i : Nat) : Nat := if i + 1 < sz n then n / 128 ^ i % 128 + 128 else n / 128 ^ i % 128
theorem shortA_at : ∀ (f n i : Nat), sz n ≤ f → i < sz n → (shortA f n)[i]? = some (shortAt n i).toUInt8
  | 0, n, i, h, _ => by rw [sz_max] at h; omega
  | f + 1, n, i, h, hi => by
    unfold shortA
    split
    · rename_i hn
      have h1 := sz_small n hn
      have : i = 0 := by omega
      subst this
      unfold shortAt; rw [h1]; simp [Nat.mod_eq_of_lt hn]
    · have h1 := sz_big n (by omega)
      cases i with
      | zero => unfold shortAt; rw [if_pos (by have := sz_max (n / 128); omega)]; simp
      | succ j =>
        rw [List.getElem?_cons_succ, shortA_at f (n / 128) j (by omega) (by omega)]
        unfold shortAt
        have e : n / 128 / 128 ^ j = n / 128 ^ (j + 1) := by rw [Nat.div_div_eq_div_mul, Nat.pow_succ, Nat.mul_comm]
        rw [e, h1]
        by_cases hj : j + 1 < sz (n / 128)
        · rw [if_pos hj, if_pos (by omega)]
        · rw [if_neg hj, if_neg (by omega)]
theorem short_at (n i : Nat) (h : n < 18446744073709551616) (hi : i < sz n) : (short n)[i]? = some (shortAt n i).toUInt8 :=
  shortA_at 10 n i (sz_le n h).2 hi

/-! taking -/
def takeL : Nat → Nat → Nat → List UInt8 → Option (Nat × List UInt8)
  | 0, _, _, _ => none
  | _ + 1, _, _, [] => none
  | f + 1, i, acc, c :: r =>
    if 128 ≤ c.toNat then takeL f (i + 1) (acc + c.toNat % 128 * 128 ^ i) r
    else if (0 < i ∧ c.toNat = 0) ∨ (i = 9 ∧ 1 < c.toNat) then none else some (acc + c.toNat % 128 * 128 ^ i, r)
def take (l : List UInt8) : Option (Nat × List UInt8) := takeL 10 0 0 l
def takeN (l : List UInt8) : Nat := ((take l).getD (0, [])).1
def takeR (l : List UInt8) : List UInt8 := ((take l).getD (0, [])).2
def takeB (l : List UInt8) : Bool := (take l).isSome

theorem u8_of (n : Nat) (h : n < 256) : n.toUInt8.toNat = n := by
  show n % 256 = n; omega
theorem u8_back (c : UInt8) : c.toNat.toUInt8 = c := by
  apply UInt8.toNat.inj; exact u8_of _ c.toNat_lt

theorem takeL_short : ∀ (f i m acc : Nat) (s : List UInt8), f + i = 10 → sz m ≤ f → m < 2 ^ (64 - 7 * i) → (0 < i → 0 < m) →
    takeL f i acc (shortA f m ++ s) = some (acc + m * 128 ^ i, s)
  | 0, i, m, acc, s, _, h, _, _ => by rw [sz_max] at h; omega
  | f + 1, i, m, acc, s, hf, h, hm, hp => by
    unfold shortA
    split
    · rename_i hn
      have e := u8_of m (by omega)
      simp only [List.cons_append, List.nil_append, takeL, e]
      rw [if_neg (by omega), if_neg, Nat.mod_eq_of_lt hn]
      rintro (⟨h1, h2⟩ | ⟨h1, h2⟩)
      · have := hp h1; omega
      · subst h1; omega
    · rename_i hn
      have e := u8_of (m % 128 + 128) (by omega)
      have h1 := sz_big m (by omega)
      simp only [List.cons_append, takeL, e]
      rw [if_pos (by omega)]
      have hi : i + 1 ≤ 9 := by
        rcases Nat.lt_or_ge i 9 with h9 | h9
        · omega
        · have : i = 9 := by omega
          subst this; omega
      have hm2 : m / 128 < 2 ^ (64 - 7 * (i + 1)) := by
        rw [Nat.div_lt_iff_lt_mul (by omega), show 128 = 2 ^ 7 from rfl, ← Nat.pow_add]
        rw [show 64 - 7 * (i + 1) + 7 = 64 - 7 * i from by omega]; exact hm
      rw [takeL_short f (i + 1) (m / 128) _ s (by omega) (by omega) hm2 (by omega)]
      congr 2
      rw [Nat.pow_succ]
      have : (m % 128 + 128) % 128 = m % 128 := by omega
      rw [this, Nat.add_assoc]
      congr 1
      have e3 : m = m % 128 + 128 * (m / 128) := by omega
      rw [show m / 128 * (128 ^ i * 128) = 128 * (m / 128) * 128 ^ i from by
        rw [Nat.mul_comm (128 ^ i) 128, ← Nat.mul_assoc, Nat.mul_comm (m / 128) 128], ← Nat.add_mul, ← e3]
theorem take_short (n : Nat) (s : List UInt8) (h : n < 18446744073709551616) : take (short n ++ s) = some (n, s) := by
  have := takeL_short 10 0 n 0 s rfl (sz_le n h).2 (by simpa using h) (by omega)
  simpa [take, short] using this
theorem takeL_back : ∀ (f i acc : Nat) (l : List UInt8) (n : Nat) (r : List UInt8), f + i = 10 → takeL f i acc l = some (n, r) →
    ∃ m, n = acc + m * 128 ^ i ∧ l = shortA f m ++ r ∧ sz m ≤ f ∧ m < 2 ^ (64 - 7 * i) ∧ (0 < i → 0 < m)
  | 0, _, _, _, _, _, _, h => by simp [takeL] at h
  | _ + 1, _, _, [], _, _, _, h => by simp [takeL] at h
  | f + 1, i, acc, c :: t, n, r, hf, h => by
    have hc := c.toNat_lt
    simp only [takeL] at h
    split at h
    · rename_i h1
      obtain ⟨m, e1, e2, e3, e4, e5⟩ := takeL_back f (i + 1) _ t n r (by omega) h
      have hm := e5 (by omega)
      have hfi : i + 1 ≤ 9 := by
        rcases Nat.lt_or_ge i 9 with h9 | h9
        · omega
        · have : f = 0 := by omega
          subst this; simp [takeL] at h
      refine ⟨c.toNat % 128 + 128 * m, ?_, ?_, ?_, ?_, fun _ => by omega⟩
      · rw [e1, Nat.pow_succ, Nat.add_mul, Nat.add_assoc]
        congr 2
        rw [Nat.mul_comm (128 ^ i) 128, ← Nat.mul_assoc, Nat.mul_comm m 128]
      · unfold shortA
        rw [if_neg (by omega)]
        have a1 : (c.toNat % 128 + 128 * m) % 128 + 128 = c.toNat := by omega
        have a2 : (c.toNat % 128 + 128 * m) / 128 = m := by omega
        rw [a1, a2, u8_back, e2]; rfl
      · rw [sz_big _ (by omega), show (c.toNat % 128 + 128 * m) / 128 = m from by omega]; omega
      · have : 2 ^ (64 - 7 * i) = 2 ^ (64 - 7 * (i + 1)) * 128 := by
          rw [show 64 - 7 * i = 64 - 7 * (i + 1) + 7 from by omega, Nat.pow_add]
        omega
    · rename_i h1
      split at h
      · simp at h
      · rename_i h2
        simp only [Option.some.injEq, Prod.mk.injEq] at h
        obtain ⟨rfl, rfl⟩ := h
        refine ⟨c.toNat, ?_, ?_, ?_, ?_, fun h0 => ?_⟩
        · rw [Nat.mod_eq_of_lt (by omega)]
        · unfold shortA; rw [if_pos (by omega), u8_back]; rfl
        · rw [sz_small _ (by omega)]; omega
        · rcases Nat.lt_or_ge i 9 with h9 | h9
          · have : 2 ^ 8 ≤ 2 ^ (64 - 7 * i) := Nat.pow_le_pow_right (by omega) (by omega)
            omega
          · have : i = 9 := by omega
            subst this
            omega
        · omega
theorem take_back (l : List UInt8) (n : Nat) (r : List UInt8) (h : take l = some (n, r)) : l = short n ++ r ∧ n < 18446744073709551616 := by
  obtain ⟨m, e1, e2, _, e4, _⟩ := takeL_back 10 0 0 l n r rfl h
  simp at e1
  subst e1
  exact ⟨e2, by simpa using e4⟩

/-- the number of the sevens -/
def val : List UInt8 → Nat
  | [] => 0
  | c :: r => c.toNat % 128 + 128 * val r
theorem val_snoc : ∀ (l : List UInt8) (c : UInt8), val (l ++ [c]) = val l + c.toNat % 128 * 128 ^ l.length
  | [], c => by simp [val]
  | a :: l, c => by
    simp only [List.cons_append, val, List.length_cons, val_snoc l c, Nat.pow_succ]
    rw [Nat.mul_add, Nat.add_assoc]
    congr 2
    rw [Nat.mul_comm (128 ^ l.length) 128, ← Nat.mul_assoc, ← Nat.mul_assoc, Nat.mul_comm 128 (c.toNat % 128)]
theorem val_lt : ∀ (l : List UInt8), val l < 128 ^ l.length
  | [] => by simp [val]
  | a :: l => by
    have := val_lt l
    simp only [val, List.length_cons, Nat.pow_succ]; omega
/-- the first k bytes all say that there are more -/
def More (l : List UInt8) (k : Nat) : Prop := k ≤ l.length ∧ ∀ j, j < k → 128 ≤ (l.getD j 0).toNat
theorem More.zero (l : List UInt8) : More l 0 := ⟨Nat.zero_le _, fun _ h => by omega⟩
theorem More.next {l : List UInt8} {k : Nat} (h : More l k) (hk : k < l.length) (hc : 128 ≤ (l.getD k 0).toNat) : More l (k + 1) :=
  ⟨hk, fun j hj => by
    rcases Nat.lt_or_ge j k with h1 | h1
    · exact h.2 j h1
    · have : j = k := by omega
      subst this; exact hc⟩
theorem take_snoc' (l : List UInt8) (k : Nat) (h : k < l.length) : l.take (k + 1) = l.take k ++ [l.getD k 0] := by
  rw [List.take_succ_eq_append_getElem h]; congr 1; rw [List.getD_eq_getElem?_getD, List.getElem?_eq_getElem h]; rfl
theorem More.take {l : List UInt8} : ∀ {k : Nat}, More l k → k ≤ 10 → ∀ r, Nm.take (l.take k ++ r) = takeL (10 - k) k (val (l.take k)) r
  | 0, _, _, r => by simp [Nm.take, val]
  | k + 1, h, hk, r => by
    have h1 : More l k := ⟨by have := h.1; omega, fun j hj => h.2 j (by omega)⟩
    have hl := h.1
    have hc := h.2 k (by omega)
    rw [take_snoc' l k (by omega), List.append_assoc, More.take h1 (by omega)]
    rw [show 10 - k = (10 - (k + 1)) + 1 from by omega]
    simp only [List.cons_append, List.nil_append, takeL]
    rw [if_pos hc, val_snoc, List.length_take_of_le (by omega)]
theorem More.takeAll {l : List UInt8} {k : Nat} (h : More l k) (hk : k ≤ 10) : Nm.take l = takeL (10 - k) k (val (l.take k)) (l.drop k) := by
  rw [← More.take h hk, List.take_append_drop]
theorem More.nothing {l : List UInt8} {k : Nat} (h : More l k) (hk : k = 10 ∨ (k ≤ 10 ∧ k = l.length)) : Nm.take l = none := by
  rw [More.takeAll h (by omega)]
  rcases hk with rfl | ⟨h1, h2⟩
  · rfl
  · rw [h2, List.drop_length]
    rcases Nat.lt_or_ge l.length 10 with h9 | h9
    · rw [show 10 - l.length = (9 - l.length) + 1 from by omega]; rfl
    · rw [show 10 - l.length = 0 from by omega]; rfl
/-- may the bytes end so? -/
def endB (k : Nat) (c : UInt8) : Bool := !decide ((0 < k ∧ c.toNat = 0) ∨ (k = 9 ∧ 1 < c.toNat))
theorem More.last {l : List UInt8} {k : Nat} (h : More l k) (hk : k < 10) (hl : k < l.length) (hc : ¬ 128 ≤ (l.getD k 0).toNat) :
    Nm.take l = if endB k (l.getD k 0) then some (val (l.take (k + 1)), l.drop (k + 1)) else none := by
  rw [More.takeAll h (by omega), show 10 - k = (9 - k) + 1 from by omega]
  have e : l.drop k = l.getD k 0 :: l.drop (k + 1) := by
    rw [List.drop_eq_getElem_cons hl]; congr 1; rw [List.getD_eq_getElem?_getD, List.getElem?_eq_getElem hl]; rfl
  rw [e]
  simp only [takeL]
  rw [if_neg hc, take_snoc' l k hl, val_snoc, List.length_take_of_le (by omega)]
  unfold endB
  by_cases hb : (0 < k ∧ (l.getD k 0).toNat = 0) ∨ (k = 9 ∧ 1 < (l.getD k 0).toNat)
  · rw [if_pos hb, if_neg (by rw [decide_eq_true hb]; decide)]
  · rw [if_neg hb, if_pos (by rw [decide_eq_false hb]; decide)]
/-- the document's way: the short bytes of the number are these -/
theorem More.same {l : List UInt8} {k : Nat} (h : More l k) (hk : k < 10) (hl : k < l.length) (hc : ¬ 128 ≤ (l.getD k 0).toNat) :
    (short (val (l.take (k + 1)) % 18446744073709551616) = l.take (k + 1)) ↔ endB k (l.getD k 0) = true := by
  have hM : More (l.take (k + 1)) k := by
    refine ⟨by rw [List.length_take_of_le (by omega)]; omega, fun j hj => ?_⟩
    have := h.2 j hj
    rwa [List.getD_eq_getElem?_getD, List.getElem?_take_of_lt (by omega), ← List.getD_eq_getElem?_getD]
  have eg : (l.take (k + 1)).getD k 0 = l.getD k 0 := by
    rw [List.getD_eq_getElem?_getD, List.getElem?_take_of_lt (by omega), ← List.getD_eq_getElem?_getD]
  have hL := hM.last hk (by rw [List.length_take_of_le (by omega)]; omega) (by rw [eg]; exact hc)
  rw [eg, List.take_take, Nat.min_self] at hL
  constructor
  · intro e
    have := take_short (val (l.take (k + 1)) % 18446744073709551616) [] (Nat.mod_lt _ (by omega))
    rw [List.append_nil, e, hL] at this
    by_cases hb : endB k (l.getD k 0) = true
    · exact hb
    · rw [if_neg hb] at this; simp at this
  · intro hb
    rw [if_pos hb] at hL
    obtain ⟨e1, e2⟩ := take_back _ _ _ hL
    rw [Nat.mod_eq_of_lt e2]
    have : (l.take (k + 1)).drop (k + 1) = [] := by simp
    rw [this, List.append_nil] at e1
    exact e1.symm

/-! long bytes -/
def beB : Nat → Nat → List UInt8
  | 0, _ => []
  | k + 1, n => (n / 256 ^ k).toUInt8 :: beB k n
def long (n : Nat) : List UInt8 := beB 8 n
theorem beB_len : ∀ (k n : Nat), (beB k n).length = k
  | 0, _ => rfl
  | k + 1, n => by simp [beB, beB_len k n]
theorem long_len (n : Nat) : (long n).length = 8 := beB_len 8 n
theorem long_eq (n : Nat) : long n = [(n / 72057594037927936).toUInt8, (n / 281474976710656).toUInt8, (n / 1099511627776).toUInt8, (n / 4294967296).toUInt8, (n / 16777216).toUInt8, (n / 65536).toUInt8, (n / 256).toUInt8, n.toUInt8] := by
  simp [long, beB]
theorem u8_mod (n : Nat) : n.toUInt8.toNat = n % 256 := rfl
theorem beB_less : ∀ (k n m : Nat), Op.bytesLess (beB k n) (beB k m) = decide (n % 256 ^ k < m % 256 ^ k)
  | 0, n, m => by simp [beB, Op.bytesLess, Nat.mod_one]
  | k + 1, n, m => by
    simp only [beB, Op.bytesLess, beB_less k n m]
    have hp : 0 < 256 ^ k := Nat.pow_pos (by omega)
    have dn := Nat.mod_pow_succ (b := 256) (k := k) (x := n)
    have dm := Nat.mod_pow_succ (b := 256) (k := k) (x := m)
    have ln := Nat.mod_lt n hp
    have lm := Nat.mod_lt m hp
    rw [dn, dm]
    have e1 : ((n / 256 ^ k).toUInt8 < (m / 256 ^ k).toUInt8) ↔ (n / 256 ^ k % 256 < m / 256 ^ k % 256) := by
      rw [UInt8.lt_iff_toNat_lt, u8_mod, u8_mod]
    have e2 : ((n / 256 ^ k).toUInt8 == (m / 256 ^ k).toUInt8) = decide (n / 256 ^ k % 256 = m / 256 ^ k % 256) := by
      rw [Bool.eq_iff_iff, beq_iff_eq, decide_eq_true_iff, ← u8_mod, ← u8_mod]
      exact ⟨fun h => by rw [h], fun h => UInt8.toNat.inj h⟩
    rw [e2]
    generalize n / 256 ^ k % 256 = a at *
    generalize m / 256 ^ k % 256 = b at *
    generalize n % 256 ^ k = c at *
    generalize m % 256 ^ k = d at *
    generalize 256 ^ k = p at *
    rw [Bool.eq_iff_iff, Bool.or_eq_true, Bool.and_eq_true, decide_eq_true_iff, decide_eq_true_iff, decide_eq_true_iff, decide_eq_true_iff, e1]
    rcases Nat.lt_trichotomy a b with h | h | h
    · have h2 : p * (a + 1) ≤ p * b := Nat.mul_le_mul_left _ h
      rw [Nat.mul_add, Nat.mul_one] at h2
      constructor
      · intro _; omega
      · intro _; exact Or.inl h
    · subst h
      constructor
      · rintro (h | h) <;> omega
      · intro h; exact Or.inr ⟨rfl, by omega⟩
    · have h2 : p * (b + 1) ≤ p * a := Nat.mul_le_mul_left _ h
      rw [Nat.mul_add, Nat.mul_one] at h2
      constructor
      · rintro (h | h) <;> omega
      · intro h; omega
theorem long_less (n m : Nat) (hn : n < 18446744073709551616) (hm : m < 18446744073709551616) : Op.bytesLess (long n) (long m) = decide (n < m) := by
  unfold long
  rw [beB_less, show (256 ^ 8 : Nat) = 18446744073709551616 from rfl, Nat.mod_eq_of_lt hn, Nat.mod_eq_of_lt hm]
/-- the number that the bytes make, the highest first -/
def num (l : List UInt8) : Nat := l.foldl (fun a c => a * 256 + c.toNat) 0
theorem num_snoc (l : List UInt8) (c : UInt8) : num (l ++ [c]) = num l * 256 + c.toNat := by simp [num]
theorem num_lt (l : List UInt8) : num l < 256 ^ l.length := by
  unfold num
  suffices h : ∀ (l : List UInt8) (a : Nat), l.foldl (fun a c => a * 256 + c.toNat) a < (a + 1) * 256 ^ l.length by
    simpa using h l 0
  intro l
  induction l with
  | nil => intro a; simp
  | cons c l ih =>
    intro a
    have := ih (a * 256 + c.toNat)
    have hc := c.toNat_lt
    have h2 : (a * 256 + c.toNat + 1) * 256 ^ l.length ≤ ((a + 1) * 256) * 256 ^ l.length := Nat.mul_le_mul_right _ (by omega)
    simp only [List.foldl_cons, List.length_cons, Nat.pow_succ]
    rw [Nat.mul_comm (256 ^ l.length) 256, ← Nat.mul_assoc]
    omega
def unl (l : List UInt8) : Nat := if l.length = 8 then num l else 0
def unlB (l : List UInt8) : Bool := l.length == 8
theorem num_beB : ∀ (k n a : Nat), (beB k n).foldl (fun a c => a * 256 + c.toNat) a = a * 256 ^ k + n % 256 ^ k
  | 0, n, a => by simp [beB, Nat.mod_one]
  | k + 1, n, a => by
    simp only [beB, List.foldl_cons, num_beB k n, u8_mod]
    have dn := Nat.mod_pow_succ (b := 256) (k := k) (x := n)
    rw [dn, Nat.add_mul, Nat.pow_succ, Nat.mul_assoc, Nat.mul_comm 256 (256 ^ k), Nat.mul_comm (n / 256 ^ k % 256) (256 ^ k)]
    omega
theorem unl_long (n : Nat) (h : n < 18446744073709551616) : unl (long n) = n := by
  unfold unl
  rw [if_pos (long_len n), num, long, num_beB, show (256 ^ 8 : Nat) = 18446744073709551616 from rfl]
  omega
theorem unlB_long (n : Nat) : unlB (long n) = true := by unfold unlB; rw [long_len]; rfl
theorem unl_lt (l : List UInt8) : unl l < 18446744073709551616 := by
  unfold unl
  split
  · have := num_lt l
    rw [‹l.length = 8›] at this
    exact this
  · omega
def turn (n : Nat) : Nat := 18446744073709551615 - n
def fall (n : Nat) : List UInt8 := long (turn n)
def unf (l : List UInt8) : Nat := if l.length = 8 then turn (num l) else 0

/-! signed numbers -/
def foldN (m : Int) : Int := if m < 0 then -2 * m - 1 else 2 * m
def unfoldN (n : Int) : Int := if n % 2 = 0 then n / 2 else - (n / 2) - 1
theorem foldN_bd (m : Int) (h1 : -9223372036854775808 ≤ m) (h2 : m ≤ 9223372036854775807) : 0 ≤ foldN m ∧ foldN m ≤ 18446744073709551615 := by unfold foldN; split <;> omega
theorem unfoldN_bd (n : Int) (h1 : 0 ≤ n) (h2 : n ≤ 18446744073709551615) : -9223372036854775808 ≤ unfoldN n ∧ unfoldN n ≤ 9223372036854775807 := by unfold unfoldN; split <;> omega
theorem unfold_fold (m : Int) : unfoldN (foldN m) = m := by unfold unfoldN foldN; split <;> split <;> omega
theorem fold_unfold (n : Int) (h1 : 0 ≤ n) : foldN (unfoldN n) = n := by unfold unfoldN foldN; split <;> split <;> omega
/-- does it fit? -/
def fitsN (n b : Int) : Bool := decide (n.toNat < 2 ^ b.toNat)
theorem fits_neg (n b : Int) (h : 0 ≤ n) (hb : b < 0) : fitsN n b = (n == 0) := by
  unfold fitsN
  rw [show b.toNat = 0 from by omega, Bool.eq_iff_iff, decide_eq_true_iff, beq_iff_eq]; omega
theorem fits_pos (n b : Int) (h : 0 ≤ n) (h2 : n ≤ 18446744073709551615) : fitsN n b = (n / 2 ^ (min b.toNat 64) == 0) := by
  obtain ⟨k, rfl⟩ := Int.eq_ofNat_of_zero_le h
  unfold fitsN
  rw [Bool.eq_iff_iff, decide_eq_true_iff, beq_iff_eq, Int.toNat_natCast]
  generalize hj : b.toNat = j
  have e : ((k : Int) / 2 ^ (min j 64) = 0) ↔ (k / 2 ^ (min j 64) = 0) := by
    rw [show ((2 : Int) ^ (min j 64)) = ((2 ^ (min j 64) : Nat) : Int) from by norm_cast]
    norm_cast
  rw [e, Nat.div_eq_zero_iff]
  have hp : 0 < 2 ^ min j 64 := Nat.pow_pos (by omega)
  rcases Nat.le_total j 64 with h1 | h1
  · rw [Nat.min_eq_left h1] at hp ⊢; omega
  · rw [Nat.min_eq_right h1] at hp ⊢
    have : 2 ^ 64 ≤ 2 ^ j := Nat.pow_le_pow_right (by omega) h1
    omega
theorem fits_bitLen (n : Nat) : fitsN n (bitLen n) = true := by
  unfold fitsN; rw [decide_eq_true_iff, Int.toNat_natCast, Int.toNat_natCast]; exact (bitLen_spec n).1
theorem fits_less (n : Nat) (h : n ≠ 0) : fitsN n ((bitLen n : Nat) - 1 : Int) = false := by
  unfold fitsN; rw [decide_eq_false_iff_not, Int.toNat_natCast]
  have := (bitLen_spec n).2 h
  have h1 := bitLen_pos n h
  rw [show ((bitLen n : Nat) - 1 : Int).toNat = bitLen n - 1 from by omega]; omega
theorem fits_mono (n a b : Int) (h : a ≤ b) (hf : fitsN n a = true) : fitsN n b = true := by
  unfold fitsN at *; rw [decide_eq_true_iff] at *
  have : 2 ^ a.toNat ≤ 2 ^ b.toNat := Nat.pow_le_pow_right (by omega) (by omega)
  omega
theorem fits_64 (n : Int) (h2 : n ≤ 18446744073709551615) : fitsN n 64 = true := by
  unfold fitsN; rw [decide_eq_true_iff, show ((64 : Int).toNat) = 64 from rfl]; omega

end Nm
end Go.Proofs.YtnnmalpnjlnnlaaGreat

/-
  Frames in plain mathematics: what a frame is, that what begins with a frame begins with one alone, what all frames of some bytes are, and what is left of them where they were cut off.
-/
namespace Go.Proofs.YtnnmalpnjlnnlaaGreat
set_option linter.unusedVariables false
set_option maxRecDepth 100000
namespace Fr
def sealOf (t : List UInt8) : UInt8 := t.foldl (fun c x => c ^^^ x) 165
def mk (t : List UInt8) : List UInt8 := Nm.short t.length ++ (t ++ [sealOf t])
def makeS (t : List UInt8) : List UInt8 := if t.length ≤ 8000 then mk t else []
def makeE (t : List UInt8) : Int := if t.length ≤ 8000 then 0 else 5
def take (s : List UInt8) : Option (List UInt8 × List UInt8) :=
  match Nm.take s with
  | none => none
  | some (n, b) => if n ≤ 8000 ∧ n < b.length ∧ b.getD n 0 = sealOf (b.take n) then some (b.take n, b.drop (n + 1)) else none
def takeE (s : List UInt8) : Int := if s = [] then 10 else if (take s).isSome then 0 else 2
def takeT (s : List UInt8) : List UInt8 := ((take s).getD ([], [])).1
def takeR (s : List UInt8) : List UInt8 := ((take s).getD ([], [])).2
def join : List (List UInt8) → List UInt8
  | [] => []
  | t :: l => mk t ++ join l
/-- may each of these texts be a frame's? -/
def Fit (l : List (List UInt8)) : Prop := ∀ t ∈ l, t.length ≤ 8000
/-- the texts of the frames from the beginning on are l, and what is left is r -/
structure Reads (s : List UInt8) (l : List (List UInt8)) (r : List UInt8) : Prop where
  fit : Fit l
  eq : s = join l ++ r
  stop : take r = none

theorem sealOf_snoc (t : List UInt8) (c : UInt8) : sealOf (t ++ [c]) = sealOf t ^^^ c := by simp [sealOf]
theorem drop_getD (b : List UInt8) (n : Nat) (h : n < b.length) : b = b.take n ++ (b.getD n 0 :: b.drop (n + 1)) := by
  rw [List.getD_eq_getElem?_getD, List.getElem?_eq_getElem h]
  simp
theorem take_mk (t r : List UInt8) (h : t.length ≤ 8000) : take (mk t ++ r) = some (t, r) := by
  unfold take mk
  rw [List.append_assoc, Nm.take_short _ _ (by omega)]
  have e1 : (t ++ [sealOf t] ++ r).take t.length = t := by simp
  have e2 : (t ++ [sealOf t] ++ r).drop (t.length + 1) = r := by simp
  have e3 : (t ++ [sealOf t] ++ r).getD t.length 0 = sealOf t := by simp
  show (if t.length ≤ 8000 ∧ t.length < (t ++ [sealOf t] ++ r).length ∧ (t ++ [sealOf t] ++ r).getD t.length 0 = sealOf ((t ++ [sealOf t] ++ r).take t.length) then some ((t ++ [sealOf t] ++ r).take t.length, (t ++ [sealOf t] ++ r).drop (t.length + 1)) else none) = _
  rw [e1, e2, e3, if_pos ⟨h, by simp, rfl⟩]
theorem take_back {s t r : List UInt8} (h : take s = some (t, r)) : s = mk t ++ r ∧ t.length ≤ 8000 := by
  unfold take at h
  split at h
  · cases h
  · rename_i n b hn
    split at h
    · rename_i hc
      obtain ⟨h1, h2, h3⟩ := hc
      injection h with h
      injection h with ht hr
      have hl : t.length = n := by rw [← ht, List.length_take]; omega
      obtain ⟨e, _⟩ := Nm.take_back _ _ _ hn
      refine ⟨?_, by omega⟩
      unfold mk
      rw [hl, e, List.append_assoc, List.append_assoc]
      congr 1
      have := drop_getD b n h2
      rw [h3, ht, hr] at this
      simpa using this
    · cases h
theorem take_iff {s t r : List UInt8} : take s = some (t, r) ↔ s = mk t ++ r ∧ t.length ≤ 8000 :=
  ⟨take_back, fun h => by rw [h.1]; exact take_mk t r h.2⟩
theorem mk_len (t : List UInt8) (h : t.length ≤ 8000) : (mk t).length = Nm.sz t.length + t.length + 1 := by
  unfold mk
  rw [List.length_append, Nm.short_len _ (by omega), List.length_append]
  simp only [List.length_cons, List.length_nil, Nat.add_assoc]
theorem sz_two (n : Nat) (h : n ≤ 8000) : 1 ≤ Nm.sz n ∧ Nm.sz n ≤ 2 := by
  by_cases h1 : n < 128
  · rw [Nm.sz_small n h1]; omega
  · rw [Nm.sz_big n (by omega), Nm.sz_small (n / 128) (by omega)]; omega
theorem mk_lens (t : List UInt8) (h : t.length ≤ 8000) : t.length + 2 ≤ (mk t).length ∧ (mk t).length ≤ t.length + 3 := by
  have := sz_two t.length h
  rw [mk_len t h]; omega
theorem mk_ne (t : List UInt8) : mk t ≠ [] := by unfold mk; simp
theorem take_nil : take [] = none := rfl
/-- no frame's bytes are a beginning of another one's -/
theorem mk_one {t u r q : List UInt8} (h1 : t.length ≤ 8000) (h2 : u.length ≤ 8000) (h : mk t ++ r = mk u ++ q) : t = u ∧ r = q := by
  have e := take_mk t r h1
  rw [h, take_mk u q h2] at e
  injection e with e
  injection e with e1 e2
  exact ⟨e1.symm, e2.symm⟩
theorem take_less {s t r : List UInt8} (h : take s = some (t, r)) : r.length < s.length ∧ t.length < s.length := by
  obtain ⟨e, hl⟩ := take_back h
  have := mk_lens t hl
  rw [e, List.length_append]; omega
theorem join_app (l m : List (List UInt8)) : join (l ++ m) = join l ++ join m := by
  induction l with
  | nil => rfl
  | cons t l ih => simp only [List.cons_append, join, ih, List.append_assoc]
theorem join_snoc (l : List (List UInt8)) (t : List UInt8) : join (l ++ [t]) = join l ++ mk t := by
  rw [join_app]; simp [join]
theorem fit_nil : Fit [] := fun t ht => by simp at ht
theorem fit_app {l m : List (List UInt8)} : Fit (l ++ m) ↔ Fit l ∧ Fit m := by
  unfold Fit
  constructor
  · intro h
    exact ⟨fun t ht => h t (List.mem_append.2 (.inl ht)), fun t ht => h t (List.mem_append.2 (.inr ht))⟩
  · rintro ⟨h1, h2⟩ t ht
    rcases List.mem_append.1 ht with h | h
    · exact h1 t h
    · exact h2 t h
theorem fit_cons {t : List UInt8} {m : List (List UInt8)} : Fit (t :: m) ↔ t.length ≤ 8000 ∧ Fit m := by
  unfold Fit; simp
def joinS (l : List (List UInt8)) : List UInt8 := if l.all (fun t => decide (t.length ≤ 8000)) then join l else []
def joinE (l : List (List UInt8)) : Int := if l.all (fun t => decide (t.length ≤ 8000)) then 0 else 5
/-- all bytes of the texts together -/
def total (l : List (List UInt8)) : Nat := (l.map List.length).sum
theorem total_app (l m : List (List UInt8)) : total (l ++ m) = total l + total m := by simp [total]
theorem total_mem {l : List (List UInt8)} {x : List UInt8} (h : x ∈ l) : x.length ≤ total l := by
  induction l with
  | nil => simp at h
  | cons y l ih =>
    simp only [total, List.map_cons, List.sum_cons]
    rcases List.mem_cons.1 h with rfl | h
    · omega
    · have := ih h
      unfold total at this; omega
theorem join_len (l : List (List UInt8)) (h : Fit l) : total l + 2 * l.length ≤ (join l).length ∧ (join l).length ≤ total l + 3 * l.length := by
  induction l with
  | nil => simp [join, total]
  | cons t l ih =>
    obtain ⟨h1, h2⟩ := fit_cons.1 h
    have := ih h2
    have := mk_lens t h1
    simp only [join, List.length_append, total, List.map_cons, List.sum_cons, List.length_cons] at *
    omega
theorem join_most (l : List (List UInt8)) (h : Fit l) : (join l).length ≤ 8003 * l.length := by
  induction l with
  | nil => simp [join]
  | cons t l ih =>
    obtain ⟨h1, h2⟩ := fit_cons.1 h
    have := ih h2
    have := mk_lens t h1
    simp only [join, List.length_append, List.length_cons]
    omega
theorem reads_some (s : List UInt8) : ∃ l r, Reads s l r := by
  suffices h : ∀ n, ∀ s : List UInt8, s.length ≤ n → ∃ l r, Reads s l r from h s.length s (Nat.le_refl _)
  intro n
  induction n with
  | zero =>
    intro s hs
    have : s = [] := List.eq_nil_of_length_eq_zero (by omega)
    subst this
    exact ⟨[], [], fit_nil, rfl, rfl⟩
  | succ n ih =>
    intro s hs
    cases ht : take s with
    | none => exact ⟨[], s, fit_nil, rfl, ht⟩
    | some x =>
      obtain ⟨t, r⟩ := x
      have hl := take_less ht
      obtain ⟨l, q, h1, h2, h3⟩ := ih r (by omega)
      obtain ⟨e, hf⟩ := take_back ht
      exact ⟨t :: l, q, fit_cons.2 ⟨hf, h1⟩, by rw [e, h2]; simp [join], h3⟩
theorem reads_one : ∀ {s : List UInt8} {l m : List (List UInt8)} {r q : List UInt8}, Reads s l r → Reads s m q → l = m ∧ r = q := by
  intro s l
  induction l generalizing s with
  | nil =>
    rintro m r q ⟨_, e1, s1⟩ ⟨f2, e2, s2⟩
    cases m with
    | nil => exact ⟨rfl, by rw [e1] at e2; simpa [join] using e2⟩
    | cons u m =>
      simp only [join, List.nil_append] at e1 e2
      rw [← e1, e2, List.append_assoc, take_mk u _ (fit_cons.1 f2).1] at s1
      cases s1
  | cons t l ih =>
    rintro m r q ⟨f1, e1, s1⟩ ⟨f2, e2, s2⟩
    cases m with
    | nil =>
      simp only [join, List.nil_append] at e1 e2
      rw [← e2, e1, List.append_assoc, take_mk t _ (fit_cons.1 f1).1] at s2
      cases s2
    | cons u m =>
      simp only [join] at e1 e2
      obtain ⟨rfl, e3⟩ := mk_one (fit_cons.1 f1).1 (fit_cons.1 f2).1 (by rw [← List.append_assoc, ← List.append_assoc, ← e1, e2] : mk t ++ (join l ++ r) = mk u ++ (join m ++ q))
      obtain ⟨rfl, rfl⟩ := ih (s := join l ++ r) ⟨(fit_cons.1 f1).2, rfl, s1⟩ ⟨(fit_cons.1 f2).2, e3, s2⟩
      exact ⟨rfl, rfl⟩
theorem reads_join {l : List (List UInt8)} (h : Fit l) : Reads (join l) l [] := ⟨h, by simp, rfl⟩
/-- what follows where k frames have been read -/
theorem Reads.at {s : List UInt8} {l : List (List UInt8)} {r : List UInt8} (h : Reads s l r) {k : Nat} {t : List UInt8} (hk : l[k]? = some t) : take (join (l.drop k) ++ r) = some (t, join (l.drop (k + 1)) ++ r) := by
  have hl := (List.getElem?_eq_some_iff.1 hk)
  obtain ⟨hlt, e⟩ := hl
  rw [List.drop_eq_getElem_cons hlt, e]
  simp only [join, List.append_assoc]
  exact take_mk _ _ (h.fit t (List.mem_of_getElem? hk))
theorem Reads.len {s : List UInt8} {l : List (List UInt8)} {r : List UInt8} (h : Reads s l r) : (join l).length + r.length = s.length := by rw [h.eq, List.length_append]
theorem Reads.few {s : List UInt8} {l : List (List UInt8)} {r : List UInt8} (h : Reads s l r) : l.length ≤ s.length ∧ total l ≤ s.length := by
  have := join_len l h.fit
  have := h.len
  omega
/-- of bytes that were cut off just those texts are told that are whole -/
theorem cut : ∀ {m l : List (List UInt8)} {k : Nat} {r : List UInt8}, Fit l → Reads ((join l).take k) m r → m.length ≤ l.length ∧ m = l.take m.length ∧ (∀ t, l[m.length]? = some t → k < (join m).length + (mk t).length) := by
  intro m
  induction m with
  | nil =>
    intro l k r hf h
    refine ⟨by simp, by simp, fun t ht => ?_⟩
    cases l with
    | nil => simp at ht
    | cons u l =>
      simp at ht
      subst ht
      simp only [join, List.length_nil, Nat.zero_add]
      rcases Nat.lt_or_ge k (mk u).length with hk | hk
      · exact hk
      · have e := h.eq
        have s := h.stop
        simp only [join, List.nil_append] at e
        rw [← e, List.take_append, List.take_of_length_le hk, take_mk u _ (fit_cons.1 hf).1] at s
        cases s
  | cons t m ih =>
    intro l k r hf h
    cases l with
    | nil =>
      have e := h.eq
      simp [join, mk] at e
    | cons u l =>
      have e := h.eq
      obtain ⟨f1, f2⟩ := fit_cons.1 h.fit
      obtain ⟨g1, g2⟩ := fit_cons.1 hf
      have e2 : mk t ++ ((join m ++ r) ++ (join (u :: l)).drop k) = mk u ++ join l := by
        have := List.take_append_drop k (join (u :: l))
        rw [e] at this
        simpa [join, List.append_assoc] using this
      obtain ⟨rfl, e3⟩ := mk_one f1 g1 e2
      have hk : (mk t).length ≤ k := by
        have := congrArg List.length e
        simp only [join, List.length_append, List.length_take] at this
        omega
      have e4 : (join l).take (k - (mk t).length) = join m ++ r := by
        have e5 := e
        simp only [join] at e5
        rw [List.take_append, List.take_of_length_le hk, List.append_assoc] at e5
        exact List.append_cancel_left e5
      obtain ⟨i1, i2, i3⟩ := ih g2 (k := k - (mk t).length) (r := r) (e4 ▸ ⟨f2, rfl, h.stop⟩)
      refine ⟨by simp; omega, by simp; exact i2, fun x hx => ?_⟩
      have := i3 x (by simpa using hx)
      simp only [join, List.length_append]
      omega
/-- two frames, one as far as the shorter one goes, are of one text -/
theorem one {a b : List UInt8} (ha : a.length ≤ 8000) (hb : b.length ≤ 8000) : (mk a).take (min (mk a).length (mk b).length) = (mk b).take (min (mk a).length (mk b).length) ↔ a = b := by
  constructor
  · intro h
    rcases Nat.le_total (mk a).length (mk b).length with hl | hl
    · rw [Nat.min_eq_left hl, List.take_length] at h
      have : mk a ++ (mk b).drop (mk a).length = mk b ++ [] := by rw [h]; simp [Nat.min_eq_left hl]
      exact (mk_one ha hb this).1
    · rw [Nat.min_eq_right hl, List.take_length] at h
      have : mk a ++ [] = mk b ++ (mk a).drop (mk b).length := by rw [← h]; simp [Nat.min_eq_left hl]
      exact (mk_one ha hb this).1
  · rintro rfl; rfl
/-- a frame of which one byte behind the number was turned is none -/
theorem xor_all (l : List UInt8) (c : UInt8) : l.foldl (fun c x => c ^^^ x) c = c ^^^ l.foldl (fun c x => c ^^^ x) 0 := by
  induction l generalizing c with
  | nil => simp
  | cons x l ih =>
    simp only [List.foldl_cons]
    rw [ih, ih (0 ^^^ x)]
    simp [UInt8.xor_assoc]
theorem xor_turn (l : List UInt8) (j : Nat) (d : UInt8) (hj : j < l.length) (c : UInt8) : (l.set j (l.getD j 0 ^^^ d)).foldl (fun c x => c ^^^ x) c = l.foldl (fun c x => c ^^^ x) c ^^^ d := by
  induction l generalizing j c with
  | nil => simp at hj
  | cons x l ih =>
    cases j with
    | zero =>
      simp only [List.set_cons_zero, List.foldl_cons, List.getD_cons_zero]
      rw [xor_all, xor_all l (c ^^^ x)]
      simp only [UInt8.xor_assoc]
      rw [UInt8.xor_comm d]
    | succ j =>
      simp only [List.set_cons_succ, List.foldl_cons, List.getD_cons_succ]
      exact ih j (by simpa using hj) _
theorem turned {a : List UInt8} (ha : a.length ≤ 8000) {j : Nat} (hj : j ≤ a.length) {d : UInt8} (hd : d ≠ 0) : take ((mk a).set (Nm.sz a.length + j) ((mk a).getD (Nm.sz a.length + j) 0 ^^^ d)) = none := by
  have hs := Nm.short_len a.length (by omega)
  generalize hX : a ++ [sealOf a] = X
  have hXl : X.length = a.length + 1 := by rw [← hX]; simp
  have e1 : (mk a).set (Nm.sz a.length + j) ((mk a).getD (Nm.sz a.length + j) 0 ^^^ d) = Nm.short a.length ++ X.set j (X.getD j 0 ^^^ d) := by
    unfold mk
    rw [hX, ← hs, List.set_append_right _ _ (by omega), List.getD_eq_getElem?_getD, List.getElem?_append_right (by omega)]
    simp [List.getD_eq_getElem?_getD]
  rw [e1]
  unfold take
  rw [Nm.take_short _ _ (by omega)]
  generalize hY : X.set j (X.getD j 0 ^^^ d) = Y
  have hYl : Y.length = a.length + 1 := by rw [← hY]; simp [hXl]
  show (if a.length ≤ 8000 ∧ a.length < Y.length ∧ Y.getD a.length 0 = sealOf (Y.take a.length) then some (Y.take a.length, Y.drop (a.length + 1)) else none) = none
  rw [if_neg]
  rintro ⟨_, h2, h3⟩
  have e2 : Y.foldl (fun c x => c ^^^ x) 165 = d := by
    rw [← hY, xor_turn X j d (by omega)]
    have : X.foldl (fun c x => c ^^^ x) 165 = sealOf a ^^^ sealOf a := by rw [← hX]; simp [sealOf]
    rw [this]; simp
  have e3 : Y = Y.take a.length ++ [Y.getD a.length 0] := by
    have := drop_getD Y a.length h2
    rw [List.drop_of_length_le (by omega)] at this
    exact this
  rw [e3, List.foldl_append, h3] at e2
  have e4 : (Y.take a.length).foldl (fun c x => c ^^^ x) 165 = sealOf (Y.take a.length) := rfl
  rw [e4] at e2
  simp at e2
  exact hd e2.symm
end Fr
end Go.Proofs.YtnnmalpnjlnnlaaGreat

/-
  Batches in plain mathematics: which operations may be, a batch's bytes, what bytes are a batch's; there and back; no batch's bytes a beginning of another one's.
-/
namespace Go.Proofs.YtnnmalpnjlnnlaaGreat
set_option linter.unusedVariables false
set_option maxRecDepth 100000
namespace Bt
structure Op where
  del : Bool
  key : List UInt8
  val : List UInt8
theorem op_eq (a b : Op) : (a.del = b.del ∧ a.key = b.key ∧ a.val = b.val) ↔ a = b := by
  obtain ⟨d, k, v⟩ := a
  obtain ⟨d', k', v'⟩ := b
  constructor
  · rintro ⟨h1, h2, h3⟩
    simp only at h1 h2 h3
    subst h1 h2 h3
    rfl
  · intro h
    rw [h]
    exact ⟨rfl, rfl, rfl⟩
instance opDec : DecidableEq Op := fun a b => decidable_of_iff _ (op_eq a b)
def may1 (x : Op) : Bool := decide (1 ≤ x.key.length) && decide (x.key.length ≤ 100) && decide (x.val.length ≤ 100) && (!x.del || decide (x.val = []))
def mayAll (l : List Op) : Bool := l.all may1
def may (l : List Op) : Bool := decide (1 ≤ l.length) && decide (l.length ≤ 16) && mayAll l
def nums (n c : Nat) : Bool := decide (1 ≤ n) && decide (n + c ≤ 1099511627777)
def sized (t : List UInt8) : List UInt8 := Nm.short t.length ++ t
def enc1 (x : Op) : List UInt8 := if x.del then 1 :: sized x.key else 0 :: (sized x.key ++ sized x.val)
def encL : List Op → List UInt8
  | [] => []
  | x :: l => enc1 x ++ encL l
def enc (n : Nat) (l : List Op) : List UInt8 := Nm.short n ++ (Nm.short l.length ++ encL l)
def ok (n : Nat) (l : List Op) : Bool := may l && nums n l.length
def encS (n : Nat) (l : List Op) : List UInt8 := if ok n l then enc n l else []
def encE (n : Nat) (l : List Op) : Int := if may l then if nums n l.length then 0 else 3 else 2
/-- a text behind how many bytes it has, and what follows -/
def takeT (s : List UInt8) : Option (List UInt8 × List UInt8) :=
  match Nm.take s with
  | none => none
  | some (n, b) => if n ≤ b.length then some (b.take n, b.drop n) else none
def take1 (s : List UInt8) : Option (Op × List UInt8) :=
  match s with
  | [] => none
  | c :: r =>
    if c = 0 then
      match takeT r with
      | none => none
      | some (k, r1) =>
        match takeT r1 with
        | none => none
        | some (v, r2) => some (⟨false, k, v⟩, r2)
    else if c = 1 then
      match takeT r with
      | none => none
      | some (k, r1) => some (⟨true, k, []⟩, r1)
    else none
def takeL : Nat → List UInt8 → Option (List Op × List UInt8)
  | 0, s => some ([], s)
  | c + 1, s =>
    match take1 s with
    | none => none
    | some (x, r) =>
      match takeL c r with
      | none => none
      | some (l, q) => some (x :: l, q)
/-- how many operations, and they, and what follows -/
def takeC (s : List UInt8) : Option (List Op × List UInt8) :=
  match Nm.take s with
  | none => none
  | some (c, b) => if c ≤ 16 then takeL c b else none
def dec (s : List UInt8) : Option (Nat × List Op) :=
  match Nm.take s with
  | none => none
  | some (n, b) =>
    match takeC b with
    | none => none
    | some (l, r) => if ok n l = true ∧ r = [] then some (n, l) else none
/-- may the operation's sizes be said at all, and has one that goes no value? -/
def Wide (x : Op) : Prop := x.key.length < 18446744073709551616 ∧ x.val.length < 18446744073709551616 ∧ (x.del = true → x.val = [])

theorem may1_iff {x : Op} : may1 x = true ↔ 1 ≤ x.key.length ∧ x.key.length ≤ 100 ∧ x.val.length ≤ 100 ∧ (x.del = true → x.val = []) := by
  unfold may1
  cases x.del <;> simp [and_assoc]
theorem mayAll_iff {l : List Op} : mayAll l = true ↔ ∀ x ∈ l, may1 x = true := by simp [mayAll]
theorem may_iff {l : List Op} : may l = true ↔ 1 ≤ l.length ∧ l.length ≤ 16 ∧ ∀ x ∈ l, may1 x = true := by
  unfold may
  rw [Bool.and_eq_true, Bool.and_eq_true, mayAll_iff, decide_eq_true_iff, decide_eq_true_iff, and_assoc]
theorem nums_iff {n c : Nat} : nums n c = true ↔ 1 ≤ n ∧ n + c ≤ 1099511627777 := by simp [nums]
theorem ok_iff {n : Nat} {l : List Op} : ok n l = true ↔ may l = true ∧ nums n l.length = true := by simp [ok]
theorem may1_wide {x : Op} (h : may1 x = true) : Wide x := by
  obtain ⟨_, h2, h3, h4⟩ := may1_iff.1 h
  exact ⟨by omega, by omega, h4⟩
theorem encE_ok {n : Nat} {l : List Op} : encE n l = 0 ↔ ok n l = true := by
  unfold encE ok
  cases may l <;> cases nums n l.length <;> simp
theorem enc_yes {n : Nat} {l : List Op} (h : ok n l = true) : encS n l = enc n l ∧ encE n l = 0 := ⟨by unfold encS; rw [if_pos h], encE_ok.2 h⟩

theorem takeT_sized (t r : List UInt8) (h : t.length < 18446744073709551616) : takeT (sized t ++ r) = some (t, r) := by
  unfold takeT sized
  rw [List.append_assoc, Nm.take_short _ _ h]
  simp
theorem takeT_back {s t r : List UInt8} (h : takeT s = some (t, r)) : s = sized t ++ r ∧ t.length < 18446744073709551616 := by
  unfold takeT at h
  split at h
  · cases h
  · rename_i n b hn
    split at h
    · rename_i hc
      injection h with h
      injection h with ht hr
      have hl : t.length = n := by rw [← ht, List.length_take]; omega
      obtain ⟨e, hb⟩ := Nm.take_back _ _ _ hn
      refine ⟨?_, by omega⟩
      unfold sized
      rw [hl, e, List.append_assoc, ← ht, ← hr, List.take_append_drop]
    · cases h
theorem take1_enc (x : Op) (r : List UInt8) (h : Wide x) : take1 (enc1 x ++ r) = some (x, r) := by
  obtain ⟨d, k, v⟩ := x
  obtain ⟨h1, h2, h3⟩ := h
  cases d with
  | true =>
    have hv : v = [] := h3 rfl
    subst hv
    unfold enc1 take1
    simp [takeT_sized k r h1]
  | false =>
    unfold enc1 take1
    simp [takeT_sized k _ h1, takeT_sized v r h2]
theorem take1_back {s r : List UInt8} {x : Op} (h : take1 s = some (x, r)) : s = enc1 x ++ r ∧ Wide x := by
  unfold take1 at h
  split at h
  · cases h
  · rename_i c q
    split at h
    · rename_i hc
      split at h
      · cases h
      · rename_i k r1 hk
        split at h
        · cases h
        · rename_i v r2 hv
          injection h with h
          injection h with hx hr
          obtain ⟨e1, l1⟩ := takeT_back hk
          obtain ⟨e2, l2⟩ := takeT_back hv
          subst hx hr
          refine ⟨?_, l1, l2, fun h => by cases h⟩
          rw [hc, e1, e2]
          simp [enc1]
    · split at h
      · rename_i hc
        split at h
        · cases h
        · rename_i k r1 hk
          injection h with h
          injection h with hx hr
          obtain ⟨e1, l1⟩ := takeT_back hk
          subst hx hr
          refine ⟨?_, l1, by simp, fun _ => rfl⟩
          rw [hc, e1]
          simp [enc1]
      · cases h
theorem takeL_enc (l : List Op) (r : List UInt8) (h : ∀ x ∈ l, Wide x) : takeL l.length (encL l ++ r) = some (l, r) := by
  induction l with
  | nil => rfl
  | cons x l ih =>
    simp only [List.length_cons, takeL, encL, List.append_assoc]
    rw [take1_enc x _ (h x List.mem_cons_self)]
    show (match takeL l.length (encL l ++ r) with | none => none | some (m, q) => some (x :: m, q)) = _
    rw [ih (fun y hy => h y (List.mem_cons_of_mem _ hy))]
theorem takeL_back : ∀ {c : Nat} {s r : List UInt8} {l : List Op}, takeL c s = some (l, r) → l.length = c ∧ s = encL l ++ r ∧ ∀ x ∈ l, Wide x
  | 0, s, r, l, h => by
    simp only [takeL] at h
    injection h with h
    injection h with h1 h2
    subst h1 h2
    exact ⟨rfl, rfl, fun x hx => by simp at hx⟩
  | c + 1, s, r, l, h => by
    simp only [takeL] at h
    split at h
    · cases h
    · rename_i x q hx
      split at h
      · cases h
      · rename_i m t hm
        injection h with h
        injection h with h1 h2
        subst h1 h2
        obtain ⟨e1, w1⟩ := take1_back hx
        obtain ⟨l2, e2, w2⟩ := takeL_back hm
        refine ⟨by simp [l2], by rw [e1, e2]; simp [encL], fun y hy => ?_⟩
        rcases List.mem_cons.1 hy with rfl | hy
        · exact w1
        · exact w2 y hy
theorem takeC_enc (l : List Op) (r : List UInt8) (hl : l.length ≤ 16) (h : ∀ x ∈ l, Wide x) : takeC (Nm.short l.length ++ (encL l ++ r)) = some (l, r) := by
  unfold takeC
  rw [Nm.take_short _ _ (by omega)]
  show (if l.length ≤ 16 then takeL l.length (encL l ++ r) else none) = _
  rw [if_pos hl, takeL_enc l r h]
theorem takeC_back {s r : List UInt8} {l : List Op} (h : takeC s = some (l, r)) : l.length ≤ 16 ∧ s = Nm.short l.length ++ (encL l ++ r) ∧ ∀ x ∈ l, Wide x := by
  unfold takeC at h
  split at h
  · cases h
  · rename_i c b hc
    split at h
    · rename_i h16
      obtain ⟨l2, e2, w2⟩ := takeL_back h
      obtain ⟨e, _⟩ := Nm.take_back _ _ _ hc
      exact ⟨by omega, by rw [l2, e, e2], w2⟩
    · cases h
theorem dec_enc {n : Nat} {l : List Op} (h : ok n l = true) : dec (enc n l) = some (n, l) := by
  obtain ⟨h1, h2⟩ := ok_iff.1 h
  obtain ⟨_, h16, hall⟩ := may_iff.1 h1
  obtain ⟨_, hn⟩ := nums_iff.1 h2
  unfold dec enc
  rw [Nm.take_short _ _ (by omega)]
  have := takeC_enc l [] h16 (fun x hx => may1_wide (hall x hx))
  rw [List.append_nil] at this
  simp [this, h]
theorem dec_back {s : List UInt8} {n : Nat} {l : List Op} (h : dec s = some (n, l)) : s = enc n l ∧ ok n l = true := by
  unfold dec at h
  split at h
  · cases h
  · rename_i k b hn
    split at h
    · cases h
    · rename_i m r hm
      split at h
      · rename_i hc
        injection h with h
        injection h with e1 e2
        subst e1 e2
        obtain ⟨e, _⟩ := Nm.take_back _ _ _ hn
        obtain ⟨_, e2, _⟩ := takeC_back hm
        refine ⟨?_, hc.1⟩
        rw [e, e2, hc.2]
        simp [enc]
      · cases h
theorem dec_iff {s : List UInt8} {n : Nat} {l : List Op} : dec s = some (n, l) ↔ s = enc n l ∧ ok n l = true :=
  ⟨dec_back, fun h => by rw [h.1]; exact dec_enc h.2⟩
/-- no batch's bytes are a beginning of another one's -/
theorem enc_one {n m : Nat} {l k : List Op} {r q : List UInt8} (hl : ok n l = true) (hk : ok m k = true) (h : enc n l ++ r = enc m k ++ q) : n = m ∧ l = k ∧ r = q := by
  obtain ⟨a1, a2⟩ := ok_iff.1 hl
  obtain ⟨_, a16, aall⟩ := may_iff.1 a1
  obtain ⟨_, an⟩ := nums_iff.1 a2
  obtain ⟨b1, b2⟩ := ok_iff.1 hk
  obtain ⟨_, b16, ball⟩ := may_iff.1 b1
  obtain ⟨_, bn⟩ := nums_iff.1 b2
  have e1 := Nm.take_short n (Nm.short l.length ++ (encL l ++ r)) (by omega)
  have e2 := Nm.take_short m (Nm.short k.length ++ (encL k ++ q)) (by omega)
  have e3 : Nm.short n ++ (Nm.short l.length ++ (encL l ++ r)) = Nm.short m ++ (Nm.short k.length ++ (encL k ++ q)) := by
    have := h
    unfold enc at this
    simpa [List.append_assoc] using this
  rw [e3, e2] at e1
  injection e1 with e1
  injection e1 with e4 e5
  have f1 := takeC_enc l r a16 (fun x hx => may1_wide (aall x hx))
  have f2 := takeC_enc k q b16 (fun x hx => may1_wide (ball x hx))
  rw [← e5, f2] at f1
  injection f1 with f1
  injection f1 with f3 f4
  exact ⟨e4.symm, f3.symm, f4.symm⟩
theorem apart {n m : Nat} {l k : List Op} (hl : ok n l = true) (hk : ok m k = true) :
    (enc n l).take (min (enc n l).length (enc m k).length) = (enc m k).take (min (enc n l).length (enc m k).length) ↔ n = m ∧ l = k := by
  constructor
  · intro h
    rcases Nat.le_total (enc n l).length (enc m k).length with hle | hle
    · rw [Nat.min_eq_left hle, List.take_length] at h
      have : enc n l ++ (enc m k).drop (enc n l).length = enc m k ++ [] := by
        conv => lhs; lhs; rw [h]
        rw [List.take_append_drop, List.append_nil]
      obtain ⟨e1, e2, _⟩ := enc_one hl hk this
      exact ⟨e1, e2⟩
    · rw [Nat.min_eq_right hle, List.take_length] at h
      have : enc n l ++ [] = enc m k ++ (enc n l).drop (enc m k).length := by
        conv => rhs; lhs; rw [← h]
        rw [List.take_append_drop, List.append_nil]
      obtain ⟨e1, e2, _⟩ := enc_one hl hk this
      exact ⟨e1, e2⟩
  · rintro ⟨rfl, rfl⟩; rfl
/-- what is cut off is no batch -/
theorem dec_cut {n : Nat} {l : List Op} (h : ok n l = true) {k : Nat} (hk : k < (enc n l).length) : dec ((enc n l).take k) = none := by
  cases hd : dec ((enc n l).take k) with
  | none => rfl
  | some x =>
    obtain ⟨m, j⟩ := x
    obtain ⟨e, ho⟩ := dec_back hd
    have e2 : enc m j ++ (enc n l).drop k = enc n l ++ [] := by rw [← e, List.take_append_drop, List.append_nil]
    obtain ⟨_, _, e3⟩ := enc_one ho h e2
    have := congrArg List.length e3
    simp at this
    omega
theorem dec_more {n : Nat} {l : List Op} (h : ok n l = true) {r : List UInt8} (hr : r ≠ []) : dec (enc n l ++ r) = none := by
  cases hd : dec (enc n l ++ r) with
  | none => rfl
  | some x =>
    obtain ⟨m, j⟩ := x
    obtain ⟨e, ho⟩ := dec_back hd
    have e2 : enc n l ++ r = enc m j ++ [] := by rw [e, List.append_nil]
    exact absurd (enc_one h ho e2).2.2 hr
theorem short_ne (n : Nat) : 1 ≤ (Nm.short n).length := by
  unfold Nm.short Nm.shortA
  split <;> simp
theorem enc_pos (n : Nat) (l : List Op) : 1 ≤ (enc n l).length := by
  unfold enc
  rw [List.length_append]
  have := short_ne n
  omega
theorem sized_len {t : List UInt8} (h : t.length ≤ 100) : (sized t).length ≤ t.length + 1 ∧ (sized t).length ≤ 101 := by
  unfold sized
  rw [List.length_append, Nm.short_len _ (by omega), Nm.sz_small _ (by omega)]
  omega
theorem enc1_len {x : Op} (h : may1 x = true) : (enc1 x).length ≤ 203 := by
  obtain ⟨_, h2, h3, _⟩ := may1_iff.1 h
  have := sized_len h2
  have := sized_len h3
  unfold enc1
  split
  · simp only [List.length_cons]; omega
  · simp only [List.length_cons, List.length_append]; omega
theorem encL_len {l : List Op} (h : ∀ x ∈ l, may1 x = true) : (encL l).length ≤ 203 * l.length := by
  induction l with
  | nil => simp [encL]
  | cons x l ih =>
    have h1 := enc1_len (h x List.mem_cons_self)
    have h2 := ih (fun y hy => h y (List.mem_cons_of_mem _ hy))
    simp only [encL, List.length_append, List.length_cons]
    omega
theorem enc_len {n : Nat} {l : List Op} (h : ok n l = true) : (enc n l).length ≤ 3268 := by
  obtain ⟨a1, a2⟩ := ok_iff.1 h
  obtain ⟨_, a16, aall⟩ := may_iff.1 a1
  obtain ⟨_, an⟩ := nums_iff.1 a2
  have h1 := encL_len aall
  have h2 := Nm.sz_le n (by omega)
  unfold enc
  rw [List.length_append, List.length_append, Nm.short_len _ (by omega), Nm.short_len _ (by omega), Nm.sz_small l.length (by omega)]
  omega
theorem encL_app (l m : List Op) : encL (l ++ m) = encL l ++ encL m := by
  induction l with
  | nil => rfl
  | cons x l ih => simp only [List.cons_append, encL, ih, List.append_assoc]
theorem encL_snoc (l : List Op) (x : Op) : encL (l ++ [x]) = encL l ++ enc1 x := by rw [encL_app]; simp [encL]
theorem mayAll_snoc (l : List Op) (x : Op) : mayAll (l ++ [x]) = (mayAll l && may1 x) := by simp [mayAll]
/-- how many bytes keys and values have -/
def size (l : List Op) : Nat := (l.map fun x => x.key.length + x.val.length).sum
theorem size_snoc (l : List Op) (x : Op) : size (l ++ [x]) = size l + (x.key.length + x.val.length) := by simp [size]
theorem may_single (x : Op) : may [x] = may1 x := by simp [may, mayAll]
end Bt
end Go.Proofs.YtnnmalpnjlnnlaaGreat

/-
  Tables of package mem in plain mathematics: the order of entries, what a put makes, links level by level, how many entries a search passes.
-/
namespace Go.Proofs.YtnnmalpnjlnnlaaGreat
set_option linter.unusedVariables false
set_option maxRecDepth 100000
namespace Mm
theorem less_eq : ∀ (x y : List UInt8), Op.bytesLess x y = decide (x < y)
  | [], [] => by simp [Op.bytesLess]
  | _ :: _, [] => by simp [Op.bytesLess]
  | [], _ :: _ => by simp [Op.bytesLess]
  | a :: x, b :: y => by
    rw [Op.bytesLess, less_eq x y]
    simp only [List.cons_lt_cons_iff]
    by_cases h1 : a < b <;> by_cases h2 : a = b <;> by_cases h3 : x < y <;> simp [h1, h2, h3]
theorem lt_trans {a b c : List UInt8} (h : a < b) (k : b < c) : a < c := List.lt_trans h k
theorem lt_irrefl (a : List UInt8) : ¬ a < a := List.lt_irrefl a
theorem lt_total {a b : List UInt8} (h : ¬ a < b) (k : ¬ b < a) : a = b := List.le_antisymm (List.not_lt.1 k) (List.not_lt.1 h)
structure Ent where
  key : List UInt8
  seq : Nat
  del : Bool
  val : List UInt8
theorem ent_eq (a b : Ent) : (a.key = b.key ∧ a.seq = b.seq ∧ a.del = b.del ∧ a.val = b.val) ↔ a = b := by
  obtain ⟨d, k, v, z⟩ := a
  obtain ⟨d', k', v', z'⟩ := b
  constructor
  · rintro ⟨h1, h2, h3, h4⟩
    simp only at h1 h2 h3 h4
    subst h1 h2 h3 h4
    rfl
  · intro h
    rw [h]
    exact ⟨rfl, rfl, rfl, rfl⟩
instance entDec : DecidableEq Ent := fun a b => decidable_of_iff _ (ent_eq a b)
def zent : Ent := ⟨[], 0, false, []⟩
/-- is a key and a number ahead of another one? -/
def ahd (k : List UInt8) (s : Nat) (k' : List UInt8) (s' : Nat) : Bool := if k = k' then decide (s' < s) else decide (k < k')
def Ent.ah (x : Ent) (k : List UInt8) (s : Nat) : Bool := ahd x.key x.seq k s
theorem ahd_iff {k k' : List UInt8} {s s' : Nat} : ahd k s k' s' = true ↔ k < k' ∨ (k = k' ∧ s' < s) := by
  unfold ahd
  split
  · rename_i h; subst h; simp [lt_irrefl]
  · rename_i h; simp [h]
theorem ahd_trans {a b c : List UInt8} {s t u : Nat} (h : ahd a s b t = true) (k : ahd b t c u = true) : ahd a s c u = true := by
  rw [ahd_iff] at *
  rcases h with h | ⟨rfl, h⟩
  · rcases k with k | ⟨rfl, k⟩
    · exact .inl (lt_trans h k)
    · exact .inl h
  · rcases k with k | ⟨rfl, k⟩
    · exact .inl k
    · exact .inr ⟨rfl, by omega⟩
theorem ahd_irrefl (k : List UInt8) (s : Nat) : ahd k s k s = false := by simp [ahd]
theorem ahd_total {a b : List UInt8} {s t : Nat} (h : ahd a s b t = false) (k : ahd b t a s = false) : a = b ∧ s = t := by
  rw [Bool.eq_false_iff, ne_eq, ahd_iff] at *
  have e : a = b := lt_total (fun x => h (.inl x)) (fun x => k (.inl x))
  subst e
  exact ⟨rfl, by
    have h1 : ¬ t < s := fun x => h (.inr ⟨rfl, x⟩)
    have h2 : ¬ s < t := fun x => k (.inr ⟨rfl, x⟩)
    omega⟩
/-- may an entry be in a table? -/
def may (x : Ent) : Bool := decide (1 ≤ x.key.length) && decide (x.key.length ≤ 100) && decide (x.val.length ≤ 100) && (!x.del || decide (x.val = [])) && decide (1 ≤ x.seq) && decide (x.seq ≤ 1099511627776)
theorem may_iff {x : Ent} : may x = true ↔ 1 ≤ x.key.length ∧ x.key.length ≤ 100 ∧ x.val.length ≤ 100 ∧ (x.del = true → x.val = []) ∧ 1 ≤ x.seq ∧ x.seq ≤ 1099511627776 := by
  unfold may
  cases hd : x.del <;> simp [and_assoc]
abbrev Tv := Ent × Nat
def ahT (k : List UInt8) (s : Nat) (x : Tv) : Bool := x.1.ah k s
/-- those that are ahead of a key and a number, and the others -/
def A (T : List Tv) (k : List UInt8) (s : Nat) : List Tv := T.takeWhile (ahT k s)
def Z (T : List Tv) (k : List UInt8) (s : Nat) : List Tv := T.dropWhile (ahT k s)
theorem AZ (T : List Tv) (k : List UInt8) (s : Nat) : A T k s ++ Z T k s = T := List.takeWhile_append_dropWhile
structure Good (T : List Tv) : Prop where
  rise : T.Pairwise (fun x y => ahd x.1.key x.1.seq y.1.key y.1.seq = true)
  may : ∀ x ∈ T, may x.1 = true
  low : ∀ x ∈ T, 1 ≤ x.2
  high : ∀ x ∈ T, x.2 ≤ 8
def has (T : List Tv) (k : List UInt8) (s : Nat) : Bool := match Z T k s with
  | [] => false
  | x :: _ => decide (x.1.key = k) && decide (x.1.seq = s)
def code (T : List Tv) (e : Ent) (h : Int) : Int := if may e = false then 2 else if h < 1 ∨ 8 < h then 1 else if has T e.key e.seq then 11 else 0
def put (T : List Tv) (e : Ent) (h : Int) : List Tv := if code T e h = 0 then A T e.key e.seq ++ (e, h.toNat) :: Z T e.key e.seq else T
def ents (T : List Tv) : List Ent := T.map Prod.fst
def hts (T : List Tv) : List Nat := T.map Prod.snd
def sizeE (e : Ent) : Nat := e.key.length + e.val.length
def size (T : List Tv) : Nat := (T.map (fun x => sizeE x.1)).sum
def get (T : List Tv) (k : List UInt8) (s : Nat) : Option Ent := match Z T k s with
  | [] => none
  | x :: _ => if x.1.key = k then some x.1 else none
theorem A_ah {T : List Tv} {k : List UInt8} {s : Nat} : ∀ x ∈ A T k s, ahT k s x = true := fun x hx => by
  unfold A at hx
  induction T with
  | nil => simp at hx
  | cons y T ih =>
    rw [List.takeWhile_cons] at hx
    split at hx
    · rename_i h
      rcases List.mem_cons.1 hx with rfl | hx
      · exact h
      · exact ih hx
    · simp at hx
theorem Z_head {T : List Tv} {k : List UInt8} {s : Nat} {x : Tv} {r : List Tv} (h : Z T k s = x :: r) : ahT k s x = false := by
  unfold Z at h
  induction T with
  | nil => simp at h
  | cons y T ih =>
    rw [List.dropWhile_cons] at h
    split at h
    · exact ih h
    · rename_i hy
      injection h with h1 h2
      subst h1
      simpa using hy
theorem Good.left {T : List Tv} (g : Good T) (k : List UInt8) (s : Nat) : (A T k s).Pairwise (fun x y => ahd x.1.key x.1.seq y.1.key y.1.seq = true) := by
  have := g.rise; rw [← AZ T k s, List.pairwise_append] at this; exact this.1
theorem Good.right {T : List Tv} (g : Good T) (k : List UInt8) (s : Nat) : (Z T k s).Pairwise (fun x y => ahd x.1.key x.1.seq y.1.key y.1.seq = true) := by
  have := g.rise; rw [← AZ T k s, List.pairwise_append] at this; exact this.2.1
/-- all behind the first that isn't ahead aren't -/
theorem Good.Z_not {T : List Tv} (g : Good T) {k : List UInt8} {s : Nat} : ∀ x ∈ Z T k s, ahT k s x = false := fun x hx => by
  have hr := g.right k s
  cases hz : Z T k s with
  | nil => rw [hz] at hx; simp at hx
  | cons y r =>
    rw [hz] at hx hr
    have hy := Z_head hz
    rcases List.mem_cons.1 hx with rfl | hx
    · exact hy
    · have hyx := (List.pairwise_cons.1 hr).1 x hx
      rw [Bool.eq_false_iff, ne_eq]
      intro hax
      have := ahd_trans hyx hax
      rw [show ahd y.1.key y.1.seq k s = ahT k s y from rfl, hy] at this
      cases this
theorem has_false {T : List Tv} (g : Good T) {k : List UInt8} {s : Nat} (h : has T k s = false) : ∀ x ∈ Z T k s, ahd k s x.1.key x.1.seq = true := fun x hx => by
  have hr := g.right k s
  unfold has at h
  cases hz : Z T k s with
  | nil => rw [hz] at hx; simp at hx
  | cons y r =>
    rw [hz] at hx hr h
    have hy := Z_head hz
    have hky : ahd k s y.1.key y.1.seq = true := by
      cases hc : ahd k s y.1.key y.1.seq with
      | true => rfl
      | false =>
        have := ahd_total hc hy
        simp [← this.1, ← this.2] at h
    rcases List.mem_cons.1 hx with rfl | hx
    · exact hky
    · exact ahd_trans hky ((List.pairwise_cons.1 hr).1 x hx)
theorem has_iff {T : List Tv} (g : Good T) {k : List UInt8} {s : Nat} : has T k s = true ↔ ∃ x ∈ T, x.1.key = k ∧ x.1.seq = s := by
  constructor
  · intro h
    unfold has at h
    cases hz : Z T k s with
    | nil => rw [hz] at h; simp at h
    | cons y r =>
      rw [hz] at h
      simp at h
      exact ⟨y, by rw [← AZ T k s, hz]; simp, h.1, h.2⟩
  · rintro ⟨x, hx, rfl, rfl⟩
    cases hh : has T x.1.key x.1.seq with
    | true => rfl
    | false =>
      rw [← AZ T x.1.key x.1.seq, List.mem_append] at hx
      rcases hx with hx | hx
      · have := A_ah x hx
        unfold ahT Ent.ah at this
        rw [ahd_irrefl] at this; cases this
      · have := has_false g hh x hx
        rw [ahd_irrefl] at this; cases this
theorem code_zero {T : List Tv} {e : Ent} {h : Int} : code T e h = 0 ↔ may e = true ∧ 1 ≤ h ∧ h ≤ 8 ∧ has T e.key e.seq = false := by
  unfold code
  cases hm : may e with
  | false => simp
  | true =>
    simp only [Bool.true_eq_false, if_false]
    by_cases hh : h < 1 ∨ 8 < h
    · rw [if_pos hh]; simp; omega
    · rw [if_neg hh]
      cases has T e.key e.seq <;> simp <;> omega
theorem put_no {T : List Tv} {e : Ent} {h : Int} (c : code T e h ≠ 0) : put T e h = T := by unfold put; rw [if_neg c]
theorem put_yes {T : List Tv} {e : Ent} {h : Int} (c : code T e h = 0) : put T e h = A T e.key e.seq ++ (e, h.toNat) :: Z T e.key e.seq := by unfold put; rw [if_pos c]
theorem Good.put {T : List Tv} (g : Good T) (e : Ent) (h : Int) : Good (put T e h) := by
  by_cases c : code T e h = 0
  · rw [put_yes c]
    obtain ⟨h1, h2, h3, h4⟩ := code_zero.1 c
    have hmem : ∀ x, x ∈ A T e.key e.seq ++ (e, h.toNat) :: Z T e.key e.seq → x = (e, h.toNat) ∨ x ∈ T := fun x hx => by
      rw [← AZ T e.key e.seq]
      simp only [List.mem_append, List.mem_cons] at hx ⊢
      exact or_left_comm.1 hx
    refine ⟨?_, fun x hx => ?_, fun x hx => ?_, fun x hx => ?_⟩
    · rw [List.pairwise_append]
      refine ⟨g.left _ _, List.pairwise_cons.2 ⟨fun x hx => has_false g h4 x hx, g.right _ _⟩, fun a ha b hb => ?_⟩
      have h5 := A_ah a ha
      rcases List.mem_cons.1 hb with rfl | hb
      · exact h5
      · exact ahd_trans h5 (has_false g h4 b hb)
    · rcases hmem x hx with rfl | hx
      · exact h1
      · exact g.may x hx
    · rcases hmem x hx with rfl | hx
      · simp only; omega
      · exact g.low x hx
    · rcases hmem x hx with rfl | hx
      · simp only; omega
      · exact g.high x hx
  · rw [put_no c]; exact g
theorem good_nil : Good [] := ⟨List.Pairwise.nil, by simp, by simp, by simp⟩
theorem put_len {T : List Tv} {e : Ent} {h : Int} (c : code T e h = 0) : (put T e h).length = T.length + 1 := by
  rw [put_yes c]
  conv => rhs; rw [← AZ T e.key e.seq]
  simp; omega
theorem put_len_le (T : List Tv) (e : Ent) (h : Int) : (put T e h).length ≤ T.length + 1 := by
  by_cases c : code T e h = 0
  · rw [put_len c]; omega
  · rw [put_no c]; omega
theorem put_size {T : List Tv} {e : Ent} {h : Int} (c : code T e h = 0) : size (put T e h) = size T + sizeE e := by
  rw [put_yes c]
  conv => rhs; rw [← AZ T e.key e.seq]
  simp [size]; omega
theorem put_mem {T : List Tv} {e : Ent} {h : Int} (c : code T e h = 0) {x : Tv} : x ∈ put T e h ↔ x = (e, h.toNat) ∨ x ∈ T := by
  rw [put_yes c]
  conv => rhs; rw [← AZ T e.key e.seq]
  simp only [List.mem_append, List.mem_cons]
  exact or_left_comm
theorem size_le {T : List Tv} (g : Good T) : size T ≤ 200 * T.length := by
  have hm := g.may
  clear g
  induction T with
  | nil => simp [size]
  | cons x T ih =>
    have h1 := may_iff.1 (hm x List.mem_cons_self)
    have h2 := ih (fun y hy => hm y (List.mem_cons_of_mem _ hy))
    simp only [size, List.map_cons, List.sum_cons, List.length_cons, sizeE] at *
    omega
/-- one link from each to the next, through l to the end -/
def Ch (g : Nat → Option Nat) : Nat → List Nat → Prop
  | a, [] => g a = none
  | a, b :: l => g a = some b ∧ Ch g b l
def lst : Nat → List Nat → Nat
  | a, [] => a
  | _, b :: l => lst b l
theorem lst_app (a : Nat) : ∀ (u v : List Nat), lst a (u ++ v) = lst (lst a u) v := fun u => by
  induction u generalizing a with
  | nil => intro v; rfl
  | cons b u ih => intro v; exact ih b v
theorem lst_ne (a b : Nat) {u : List Nat} (h : u ≠ []) : lst a u = lst b u := by
  cases u with
  | nil => exact absurd rfl h
  | cons c u => rfl
theorem lst_mem (a : Nat) : ∀ (u : List Nat), lst a u = a ∨ lst a u ∈ u := fun u => by
  induction u generalizing a with
  | nil => exact .inl rfl
  | cons b u ih =>
    refine .inr ?_
    rcases ih b with h | h
    · rw [lst, h]; exact List.mem_cons_self
    · rw [lst]; exact List.mem_cons_of_mem _ h
theorem Ch.at {g : Nat → Option Nat} {a : Nat} {u v : List Nat} (h : Ch g a (u ++ v)) : Ch g (lst a u) v := by
  induction u generalizing a with
  | nil => exact h
  | cons b u ih => exact ih h.2
theorem Ch.congr {g g' : Nat → Option Nat} {a : Nat} {l : List Nat} (h : Ch g a l) (k : ∀ c ∈ a :: l, g' c = g c) : Ch g' a l := by
  induction l generalizing a with
  | nil => exact (k a List.mem_cons_self).trans h
  | cons b l ih => exact ⟨(k a List.mem_cons_self).trans h.1, ih h.2 (fun c hc => k c (List.mem_cons_of_mem _ hc))⟩
theorem Ch.ins {g g' : Nat → Option Nat} {a x : Nat} {u v : List Nat} (h : Ch g a (u ++ v)) (hn : (a :: (u ++ v)).Nodup) (hx : x ∉ a :: (u ++ v)) (h1 : g' x = g (lst a u)) (h2 : g' (lst a u) = some x) (h3 : ∀ c, c ≠ x → c ≠ lst a u → g' c = g c) : Ch g' a (u ++ x :: v) := by
  induction u generalizing a with
  | nil =>
    simp only [List.nil_append, lst] at *
    refine ⟨h2, ?_⟩
    cases v with
    | nil => exact h1.trans h
    | cons c v =>
      refine ⟨h1.trans h.1, h.2.congr fun d hd => h3 d (fun e => ?_) (fun e => ?_)⟩
      · subst e; exact hx (List.mem_cons_of_mem _ hd)
      · subst e; exact (List.nodup_cons.1 hn).1 hd
  | cons b u ih =>
    simp only [List.cons_append, lst] at *
    have hab : a ≠ lst b u := fun e => (List.nodup_cons.1 hn).1 (by
      rw [e]
      rcases lst_mem b u with h' | h'
      · rw [h']; exact List.mem_cons_self
      · exact List.mem_cons_of_mem _ (List.mem_append.2 (.inl h')))
    refine ⟨(h3 a (fun e => hx (by rw [e]; exact List.mem_cons_self)) hab).trans h.1, ih h.2 (List.nodup_cons.1 hn).2 (fun e => hx (List.mem_cons_of_mem _ e)) h1 h2 h3⟩
/-- an entry with its tower, and where it lies -/
structure Nd where
  b : Nat
  e : Ent
  h : Nat
def Nd.v (x : Nd) : Tv := (x.e, x.h)
def Nd.ah (k : List UInt8) (s : Nat) (x : Nd) : Bool := x.e.ah k s
def view (N : List Nd) : List Tv := N.map Nd.v
def blks (N : List Nd) : List Nat := N.map Nd.b
def fl (j : Nat) (N : List Nd) : List Nd := N.filter (fun x => decide (j < x.h))
def nA (N : List Nd) (k : List UInt8) (s : Nat) : List Nd := N.takeWhile (Nd.ah k s)
def nZ (N : List Nd) (k : List UInt8) (s : Nat) : List Nd := N.dropWhile (Nd.ah k s)
theorem nAZ (N : List Nd) (k : List UInt8) (s : Nat) : nA N k s ++ nZ N k s = N := List.takeWhile_append_dropWhile
theorem view_A (N : List Nd) (k : List UInt8) (s : Nat) : view (nA N k s) = A (view N) k s := by
  unfold view nA A
  rw [List.takeWhile_map]
  rfl
theorem view_Z (N : List Nd) (k : List UInt8) (s : Nat) : view (nZ N k s) = Z (view N) k s := by
  unfold view nZ Z
  rw [List.dropWhile_map]
  rfl
theorem view_app (a b : List Nd) : view (a ++ b) = view a ++ view b := by simp [view]
theorem blks_app (a b : List Nd) : blks (a ++ b) = blks a ++ blks b := by simp [blks]
theorem fl_app (j : Nat) (a b : List Nd) : fl j (a ++ b) = fl j a ++ fl j b := by simp [fl]
/-- how many of these heights a search passes above a level -/
def stp (j : Nat) : List Nat → Nat
  | [] => 0
  | h :: r => (if j < h ∧ ∀ x ∈ r, x ≤ h then 1 else 0) + stp j r
theorem stp_none {j : Nat} {l : List Nat} (h : ∀ x ∈ l, x ≤ j) : stp j l = 0 := by
  induction l with
  | nil => rfl
  | cons a l ih =>
    rw [stp, ih (fun x hx => h x (List.mem_cons_of_mem _ hx)), if_neg]
    intro hc
    have := h a List.mem_cons_self
    omega
theorem stp_one {j : Nat} {l : List Nat} (h : ∀ x ∈ l, x ≤ j + 1) : stp j l = (l.filter (fun x => decide (j < x))).length := by
  induction l with
  | nil => rfl
  | cons a l ih =>
    have ha := h a List.mem_cons_self
    have hl := fun x hx => h x (List.mem_cons_of_mem _ hx)
    rw [stp, ih hl, List.filter_cons]
    by_cases hj : j < a
    · rw [if_pos ⟨hj, fun x hx => by have := hl x hx; omega⟩, if_pos (by simpa using hj)]
      simp; omega
    · rw [if_neg (fun c => hj c.1), if_neg (by simpa using hj)]
      omega
theorem stp_le (j : Nat) (l : List Nat) : stp j l ≤ l.length := by
  induction l with
  | nil => simp [stp]
  | cons a l ih => rw [stp]; simp only [List.length_cons]; split <;> omega
theorem stp_pos {l : List Nat} (h : ∀ x ∈ l, 1 ≤ x) (hl : l ≠ []) : 1 ≤ stp 0 l := by
  induction l with
  | nil => exact absurd rfl hl
  | cons a l ih =>
    rw [stp]
    cases l with
    | nil => rw [if_pos ⟨by have := h a List.mem_cons_self; omega, by simp⟩]; omega
    | cons b l => have := ih (fun x hx => h x (List.mem_cons_of_mem _ hx)) (by simp); omega
theorem stp_all {c : Nat} (hc : 1 ≤ c) {l : List Nat} (h : ∀ x ∈ l, x = c) : stp 0 l = l.length := by
  induction l with
  | nil => rfl
  | cons a l ih =>
    rw [stp, ih (fun x hx => h x (List.mem_cons_of_mem _ hx)), if_pos ⟨by have := h a List.mem_cons_self; omega, fun x hx => by rw [h a List.mem_cons_self, h x (List.mem_cons_of_mem _ hx)]; exact Nat.le_refl _⟩]
    simp; omega
def hs (N : List Nd) : List Nat := N.map Nd.h
theorem fl_hs (j : Nat) (N : List Nd) : ((hs N).filter (fun x => decide (j < x))).length = (fl j N).length := by
  unfold hs fl
  rw [List.filter_map, List.length_map]
  rfl
theorem fl_nil {j : Nat} {N : List Nd} (h : ∀ x ∈ hs N, x ≤ j) : fl j N = [] := by
  unfold fl
  rw [List.filter_eq_nil_iff]
  intro x hx
  have := h x.h (List.mem_map.2 ⟨x, hx, rfl⟩)
  simp; omega
/-- a level below: it begins where the one above ended -/
theorem lower (j : Nat) (N : List Nd) : ∃ u v, fl j N = u ++ v ∧ (∀ p, lst p (blks (fl (j + 1) N)) = lst p (blks u)) ∧ stp (j + 1) (hs N) + v.length = stp j (hs N) := by
  by_cases hall : ∀ x ∈ hs N, x ≤ j + 1
  · refine ⟨[], fl j N, rfl, fun p => ?_, ?_⟩
    · rw [fl_nil hall]
    · rw [stp_none hall, stp_one hall, fl_hs]; omega
  · induction N with
    | nil => exact absurd (by simp [hs]) hall
    | cons x N ih =>
      by_cases hr : ∀ y ∈ hs N, y ≤ j + 1
      · have hx : j + 1 < x.h := by
          rcases Nat.lt_or_ge (j + 1) x.h with h | h
          · exact h
          · exact absurd (fun y hy => by
              rcases List.mem_cons.1 hy with rfl | hy
              · exact h
              · exact hr y hy) hall
        have e1 : fl (j + 1) (x :: N) = [x] := by
          have := fl_nil hr
          unfold fl at *
          rw [List.filter_cons, if_pos (by simpa using hx), this]
        refine ⟨[x], fl j N, ?_, fun p => by rw [e1], ?_⟩
        · unfold fl
          rw [List.filter_cons, if_pos (by simp; omega)]
          rfl
        · have h0 : ∀ y ∈ hs N, y ≤ x.h := fun y hy => by have := hr y hy; omega
          show stp (j + 1) (x.h :: hs N) + _ = stp j (x.h :: hs N)
          rw [stp, stp, stp_none hr, stp_one hr, fl_hs, if_pos ⟨hx, h0⟩, if_pos ⟨by omega, h0⟩]
      · obtain ⟨u, v, h1, h2, h3⟩ := ih hr
        obtain ⟨y, hy, hyl⟩ : ∃ y, y ∈ hs N ∧ j + 1 < y := by
          apply Classical.byContradiction
          intro hc
          exact hr (fun y hy => Nat.le_of_not_lt (fun h => hc ⟨y, hy, h⟩))
        have hst : (if j + 1 < x.h ∧ ∀ z ∈ hs N, z ≤ x.h then 1 else 0) = (if j < x.h ∧ ∀ z ∈ hs N, z ≤ x.h then 1 else 0) := by
          by_cases hz : ∀ z ∈ hs N, z ≤ x.h
          · have := hz y hy
            rw [if_pos ⟨by omega, hz⟩, if_pos ⟨by omega, hz⟩]
          · rw [if_neg (fun c => hz c.2), if_neg (fun c => hz c.2)]
        have hne : blks (fl (j + 1) N) ≠ [] := by
          obtain ⟨z, hz, rfl⟩ := List.mem_map.1 hy
          intro hc
          have : z.b ∈ blks (fl (j + 1) N) := List.mem_map.2 ⟨z, List.mem_filter.2 ⟨hz, by simpa using hyl⟩, rfl⟩
          rw [hc] at this
          simp at this
        have hs3 : stp (j + 1) (hs (x :: N)) + v.length = stp j (hs (x :: N)) := by
          show stp (j + 1) (x.h :: hs N) + _ = stp j (x.h :: hs N)
          rw [stp, stp, hst]; omega
        by_cases hx : j < x.h
        · refine ⟨x :: u, v, ?_, fun p => ?_, hs3⟩
          · rw [show fl j (x :: N) = x :: fl j N by unfold fl; rw [List.filter_cons, if_pos (by simpa using hx)], h1]
            rfl
          · show _ = lst x.b (blks u)
            rw [← h2 x.b]
            by_cases hx1 : j + 1 < x.h
            · rw [show fl (j + 1) (x :: N) = x :: fl (j + 1) N by unfold fl; rw [List.filter_cons, if_pos (by simpa using hx1)]]
              rfl
            · rw [show fl (j + 1) (x :: N) = fl (j + 1) N by unfold fl; rw [List.filter_cons, if_neg (by simpa using hx1)]]
              exact lst_ne _ _ hne
        · refine ⟨u, v, ?_, fun p => ?_, hs3⟩
          · rw [show fl j (x :: N) = fl j N by unfold fl; rw [List.filter_cons, if_neg (by simpa using hx)], h1]
          · rw [show fl (j + 1) (x :: N) = fl (j + 1) N by unfold fl; rw [List.filter_cons, if_neg (by simp; omega)]]
            exact h2 p
end Mm
end Go.Proofs.YtnnmalpnjlnnlaaGreat

/-
  What the laws of layer 7 need of tables, in plain mathematics.
-/
namespace Go.Proofs.YtnnmalpnjlnnlaaGreat
set_option linter.unusedVariables false
set_option maxRecDepth 100000
namespace Mm
/-- is an entry of a key, up to a number? -/
def mt (k : List UInt8) (s : Nat) (x : Ent) : Bool := decide (x.key = k) && decide (x.seq ≤ s)
theorem mt_iff {k : List UInt8} {s : Nat} {x : Ent} : mt k s x = true ↔ x.key = k ∧ x.seq ≤ s := by simp [mt]
theorem mt_ahead {k : List UInt8} {s : Nat} {x : Ent} (h : x.ah k s = true) : mt k s x = false := by
  rw [Bool.eq_false_iff, ne_eq, mt_iff]
  rintro ⟨h1, h2⟩
  unfold Ent.ah at h
  rw [ahd_iff] at h
  rcases h with h | h
  · rw [h1] at h; exact lt_irrefl _ h
  · omega
theorem entsA (T : List Tv) (k : List UInt8) (s : Nat) : ents (A T k s) = (ents T).takeWhile (fun e => e.ah k s) := by
  unfold ents A; rw [List.takeWhile_map]; rfl
theorem entsZ (T : List Tv) (k : List UInt8) (s : Nat) : ents (Z T k s) = (ents T).dropWhile (fun e => e.ah k s) := by
  unfold ents Z; rw [List.dropWhile_map]; rfl
theorem ents_len (T : List Tv) : (ents T).length = T.length := by simp [ents]
theorem hts_len (T : List Tv) : (hts T).length = T.length := by simp [hts]
theorem ents_at {T : List Tv} {i : Nat} {x : Tv} (h : T[i]? = some x) : (ents T)[i]? = some x.1 := by unfold ents; rw [List.getElem?_map, h]; rfl
theorem at_ents {T : List Tv} {i : Nat} {e : Ent} (h : (ents T)[i]? = some e) : ∃ x, T[i]? = some x ∧ x.1 = e := by
  unfold ents at h
  rw [List.getElem?_map, Option.map_eq_some_iff] at h
  exact h
theorem Good.before {T : List Tv} (g : Good T) {i j : Nat} {x y : Ent} (hij : i < j) (hx : (ents T)[i]? = some x) (hy : (ents T)[j]? = some y) : ahd x.key x.seq y.key y.seq = true := by
  obtain ⟨a, ha, rfl⟩ := at_ents hx
  obtain ⟨b, hb, rfl⟩ := at_ents hy
  have h1 := (List.getElem?_eq_some_iff.1 ha)
  have h2 := (List.getElem?_eq_some_iff.1 hb)
  obtain ⟨h3, rfl⟩ := h1
  obtain ⟨h4, rfl⟩ := h2
  exact List.pairwise_iff_getElem.1 g.rise i j h3 h4 hij
theorem get_find {T : List Tv} (g : Good T) (k : List UInt8) (s : Nat) : get T k s = (ents T).find? (mt k s) := by
  have e : ents T = ents (A T k s) ++ ents (Z T k s) := by conv => lhs; rw [← AZ T k s]
                                                           simp [ents]
  have h1 : (ents (A T k s)).find? (mt k s) = none := by
    rw [List.find?_eq_none]
    intro x hx
    obtain ⟨y, hy, rfl⟩ := List.mem_map.1 hx
    rw [mt_ahead (A_ah y hy)]; simp
  rw [e, List.find?_append, h1, Option.none_or]
  unfold get
  cases hz : Z T k s with
  | nil => rfl
  | cons z r =>
    have hza := Z_head hz
    have hr := g.right k s
    rw [hz] at hr
    simp only [ents, List.map_cons, List.find?_cons]
    by_cases hk : z.1.key = k
    · have hs : mt k s z.1 = true := by
        rw [mt_iff]
        refine ⟨hk, Nat.le_of_not_lt fun hc => ?_⟩
        have : ahT k s z = true := by unfold ahT Ent.ah; rw [ahd_iff]; exact .inr ⟨hk, hc⟩
        rw [hza] at this; cases this
      rw [hs, if_pos hk]
    · have hs : mt k s z.1 = false := by rw [Bool.eq_false_iff, ne_eq, mt_iff]; exact fun c => hk c.1
      rw [hs, if_neg hk]
      symm
      simp only
      rw [List.find?_eq_none]
      intro x hx
      obtain ⟨y, hy, rfl⟩ := List.mem_map.1 hx
      have hzy := (List.pairwise_cons.1 hr).1 y hy
      have hkz : k < z.1.key := Classical.byContradiction fun hc => hk (lt_total (fun h => by
        have : ahT k s z = true := by unfold ahT Ent.ah; rw [ahd_iff]; exact .inl h
        rw [hza] at this; cases this) hc)
      have hky : k < y.1.key := by
        rw [ahd_iff] at hzy
        rcases hzy with h | h
        · exact lt_trans hkz h
        · rw [← h.1]; exact hkz
      rw [mt_iff]
      rintro ⟨h5, _⟩
      rw [h5] at hky
      exact lt_irrefl _ hky
/-- the first of some entries that is of a key, up to a number -/
def bst (k : List UInt8) (s : Nat) (E : List Ent) : Option Ent := E.find? (mt k s)
theorem bst_step {k : List UInt8} {s : Nat} {E : List Ent} {i : Nat} {y : Ent} (h : E[i]? = some y) : bst k s (E.take (i + 1)) = ((bst k s (E.take i)).or (if mt k s y then some y else none)) := by
  unfold bst
  rw [List.take_add_one, h, List.find?_append]
  cases hm : mt k s y <;> simp [hm]
theorem bst_newer {T : List Tv} (g : Good T) {k : List UInt8} {s : Nat} {i : Nat} {y b : Ent} (h : (ents T)[i]? = some y) (hb : bst k s ((ents T).take i) = some b) (hk : y.key = k) : y.seq < b.seq := by
  unfold bst at hb
  have h1 := List.find?_some hb
  obtain ⟨hbk, _⟩ := mt_iff.1 h1
  obtain ⟨j, hj⟩ := List.getElem?_of_mem (List.mem_of_find?_eq_some hb)
  rw [List.getElem?_take] at hj
  split at hj
  · rename_i hji
    have := g.before hji hj h
    rw [ahd_iff] at this
    rcases this with h2 | h2
    · rw [hbk, hk] at h2; exact absurd h2 (lt_irrefl _)
    · exact h2.2
  · cases hj
/-- an entry's key is ahead of a key just if it is less: no entry has a greater number -/
theorem Good.aht {T : List Tv} (g : Good T) (k : List UInt8) {x : Tv} (hx : x ∈ T) : ahT k 1099511627776 x = decide (x.1.key < k) := by
  have h1 := may_iff.1 (g.may x hx)
  unfold ahT Ent.ah ahd
  split
  · rename_i h
    rw [decide_eq_false (show ¬ 1099511627776 < x.1.seq by omega), decide_eq_false (show ¬ x.1.key < k by rw [h]; exact lt_irrefl _)]
  · rfl
theorem dropWhile_congr {α : Type} {p q : α → Bool} : ∀ {l : List α}, (∀ x ∈ l, p x = q x) → l.dropWhile p = l.dropWhile q
  | [], _ => rfl
  | x :: l, h => by
    rw [List.dropWhile_cons, List.dropWhile_cons, h x List.mem_cons_self, dropWhile_congr (fun y hy => h y (List.mem_cons_of_mem _ hy))]
theorem Good.from {T : List Tv} (g : Good T) (k : List UInt8) : ents (Z T k 1099511627776) = (ents T).dropWhile (fun e => decide (e.key < k)) := by
  rw [entsZ]
  refine dropWhile_congr fun e he => ?_
  obtain ⟨x, hx, rfl⟩ := List.mem_map.1 he
  exact g.aht k hx
theorem drop_first {p : Ent → Bool} : ∀ {E : List Ent} {j : Nat}, (∀ i x, i < j → E[i]? = some x → p x = true) → (∀ x, E[j]? = some x → p x = false) → E.dropWhile p = E.drop j
  | [], j, _, _ => by simp
  | x :: E, 0, _, h2 => by rw [List.dropWhile_cons, h2 x rfl]; rfl
  | x :: E, j + 1, h1, h2 => by
    rw [List.dropWhile_cons, h1 0 x (by omega) rfl]
    simp only [if_true, List.drop_succ_cons]
    exact drop_first (fun i y hi hy => h1 (i + 1) y (by omega) (by simpa using hy)) (fun y hy => h2 y (by simpa using hy))
/-- entries from a key on, one by one -/
theorem Good.cnt {T : List Tv} (g : Good T) (k : List UInt8) (s : Nat) : ((ents T).filter (fun e => e.ah k s)).length = (A T k s).length := by
  have e : ents T = ents (A T k s) ++ ents (Z T k s) := by conv => lhs; rw [← AZ T k s]
                                                           simp [ents]
  rw [e, List.filter_append, List.length_append]
  have h1 : (ents (A T k s)).filter (fun e => e.ah k s) = ents (A T k s) := by
    rw [List.filter_eq_self]
    intro x hx
    obtain ⟨y, hy, rfl⟩ := List.mem_map.1 hx
    exact A_ah y hy
  have h2 : (ents (Z T k s)).filter (fun e => e.ah k s) = [] := by
    rw [List.filter_eq_nil_iff]
    intro x hx
    obtain ⟨y, hy, rfl⟩ := List.mem_map.1 hx
    have := g.Z_not y hy
    unfold ahT at this
    simp [this]
  rw [h1, h2, ents_len]; rfl
theorem cnt_step {p : Ent → Bool} {E : List Ent} {i : Nat} {y : Ent} (h : E[i]? = some y) : ((E.take (i + 1)).filter p).length = ((E.take i).filter p).length + (if p y then 1 else 0) := by
  rw [List.take_add_one, h, List.filter_append, List.length_append]
  cases hp : p y <;> simp [hp]
theorem cnt_le {p : Ent → Bool} {E : List Ent} (i : Nat) : ((E.take i).filter p).length ≤ E.length := Nat.le_trans (List.length_filter_le _ _) (by rw [List.length_take]; omega)
theorem A_sub {T : List Tv} {k : List UInt8} {s : Nat} {x : Tv} (h : x ∈ A T k s) : x ∈ T := by rw [← AZ T k s]; exact List.mem_append.2 (.inl h)
theorem A_len_le (T : List Tv) (k : List UInt8) (s : Nat) : (A T k s).length ≤ T.length := by
  conv => rhs; rw [← AZ T k s]
  simp
theorem steps_le (T : List Tv) (k : List UInt8) (s : Nat) : stp 0 (hts (A T k s)) ≤ (A T k s).length := by
  have := stp_le 0 (hts (A T k s)); rw [hts_len] at this; exact this
theorem Good.steps_pos {T : List Tv} (g : Good T) (k : List UInt8) (s : Nat) (h : (A T k s) ≠ []) : 1 ≤ stp 0 (hts (A T k s)) :=
  stp_pos (fun x hx => by obtain ⟨y, hy, rfl⟩ := List.mem_map.1 hx; exact g.low y (A_sub hy)) (by simpa [hts] using h)
theorem steps_all {T : List Tv} {c : Nat} (hc : 1 ≤ c) (h : ∀ x ∈ T, x.2 = c) (k : List UInt8) (s : Nat) : stp 0 (hts (A T k s)) = (A T k s).length := by
  rw [stp_all hc (fun x hx => by obtain ⟨y, hy, rfl⟩ := List.mem_map.1 hx; exact h y (A_sub hy)), hts_len]
/-- heights are as they are put -/
theorem put_high {T : List Tv} {c : Nat} (h : ∀ x ∈ T, x.2 = c) (e : Ent) : ∀ x ∈ put T e (c : Nat), x.2 = c := fun x hx => by
  by_cases hc : code T e (c : Nat) = 0
  · rw [put_mem hc] at hx
    rcases hx with rfl | hx
    · rfl
    · exact h x hx
  · rw [put_no hc] at hx; exact h x hx
theorem has_ents {T U : List Tv} (h : ents T = ents U) (k : List UInt8) (s : Nat) : has T k s = has U k s := by
  have e : ents (Z T k s) = ents (Z U k s) := by rw [entsZ, entsZ, h]
  unfold has
  cases h1 : Z T k s with
  | nil =>
    cases h2 : Z U k s with
    | nil => rfl
    | cons y r => rw [h1, h2] at e; simp [ents] at e
  | cons x r =>
    cases h2 : Z U k s with
    | nil => rw [h1, h2] at e; simp [ents] at e
    | cons y r' =>
      rw [h1, h2] at e
      simp only [ents, List.map_cons, List.cons.injEq] at e
      simp only [e.1]
theorem get_ents {T U : List Tv} (g : Good T) (g' : Good U) (h : ents T = ents U) (k : List UInt8) (s : Nat) : get T k s = get U k s := by rw [get_find g, get_find g', h]
theorem code_ents {T U : List Tv} (h : ents T = ents U) (e : Ent) {a b : Int} (ha : 1 ≤ a ∧ a ≤ 8) (hb : 1 ≤ b ∧ b ≤ 8) : code T e a = code U e b := by
  unfold code
  rw [if_neg (show ¬ (a < 1 ∨ 8 < a) by omega), if_neg (show ¬ (b < 1 ∨ 8 < b) by omega), has_ents h]
theorem put_ents {T U : List Tv} (h : ents T = ents U) (e : Ent) {a b : Int} (ha : 1 ≤ a ∧ a ≤ 8) (hb : 1 ≤ b ∧ b ≤ 8) : ents (put T e a) = ents (put U e b) := by
  have hc := code_ents h e ha hb
  by_cases c : code T e a = 0
  · rw [put_yes c, put_yes (hc ▸ c)]
    have e1 : ents (A T e.key e.seq) = ents (A U e.key e.seq) := by rw [entsA, entsA, h]
    have e2 : ents (Z T e.key e.seq) = ents (Z U e.key e.seq) := by rw [entsZ, entsZ, h]
    unfold ents at *
    simp only [List.map_append, List.map_cons, e1, e2]
  · rw [put_no c, put_no (hc ▸ c)]; exact h
theorem A_ents {T U : List Tv} (h : ents T = ents U) (k : List UInt8) (s : Nat) : (A T k s).length = (A U k s).length := by
  rw [← ents_len, ← ents_len, entsA, entsA, h]
theorem size_ents {T U : List Tv} (h : ents T = ents U) : size T = size U := by
  have : ∀ V : List Tv, size V = ((ents V).map sizeE).sum := fun V => by simp [size, ents, Function.comp_def]
  rw [this, this, h]
theorem len_ents {T U : List Tv} (h : ents T = ents U) : T.length = U.length := by rw [← ents_len, ← ents_len, h]
end Mm
end Go.Proofs.YtnnmalpnjlnnlaaGreat

/-
  Rows of entries in plain mathematics: what a row is, what is seen, what is newest, what lies between, what is got, what rows are together.
-/
namespace Go.Proofs.YtnnmalpnjlnnlaaGreat
set_option linter.unusedVariables false
set_option maxRecDepth 100000
namespace Mg
open Mm
/-- is an entry ahead of another one? -/
def ab (x y : Ent) : Bool := ahd x.key x.seq y.key y.seq
theorem ab_trans {x y z : Ent} (h : ab x y = true) (k : ab y z = true) : ab x z = true := ahd_trans h k
theorem ab_irrefl (x : Ent) : ab x x = false := ahd_irrefl _ _
theorem ab_asymm {x y : Ent} (h : ab x y = true) : ab y x = false := by
  cases k : ab y x with
  | false => rfl
  | true => have := ab_trans h k; rw [ab_irrefl] at this; cases this
theorem ab_total {x y : Ent} (h : ab x y = false) (k : ab y x = false) : x.key = y.key ∧ x.seq = y.seq := ahd_total h k
theorem ab_same {x y : Ent} (h1 : x.key = y.key) (h2 : x.seq = y.seq) : ab x y = false := by unfold ab; rw [h1, h2]; exact ahd_irrefl _ _
theorem ab_left {x y z : Ent} (h1 : x.key = y.key) (h2 : x.seq = y.seq) : ab x z = ab y z := by unfold ab; rw [h1, h2]
theorem ab_right {x y z : Ent} (h1 : x.key = y.key) (h2 : x.seq = y.seq) : ab z x = ab z y := by unfold ab; rw [h1, h2]
theorem ab_iff {x y : Ent} : ab x y = true ↔ x.key < y.key ∨ (x.key = y.key ∧ y.seq < x.seq) := ahd_iff
def Rw (l : List Ent) : Prop := l.Pairwise (fun x y => ab x y = true)
def row : List Ent → Bool
  | [] => true
  | [_] => true
  | x :: y :: l => ab x y && row (y :: l)
theorem row_iff : ∀ {l : List Ent}, row l = true ↔ Rw l
  | [] => by simp [row, Rw]
  | [_] => by simp [row, Rw]
  | x :: y :: l => by
    have ih := row_iff (l := y :: l)
    rw [row, Bool.and_eq_true, ih]
    unfold Rw
    rw [List.pairwise_cons (a := x)]
    constructor
    · rintro ⟨h1, h2⟩
      refine ⟨fun z hz => ?_, h2⟩
      rcases List.mem_cons.1 hz with rfl | hz
      · exact h1
      · exact ab_trans h1 ((List.pairwise_cons.1 h2).1 z hz)
    · rintro ⟨h1, h2⟩
      exact ⟨h1 y List.mem_cons_self, h2⟩
theorem row_adj : ∀ {l : List Ent}, row l = true ↔ ∀ j x y, l[j]? = some x → l[j + 1]? = some y → ab x y = true
  | [] => by simp [row]
  | [a] => by
    simp only [row, true_iff]
    intro j x y _ h
    simp at h
  | a :: b :: l => by
    have ih := row_adj (l := b :: l)
    rw [row, Bool.and_eq_true, ih]
    constructor
    · rintro ⟨h1, h2⟩ j x y hx hy
      cases j with
      | zero => simp at hx hy; subst hx hy; exact h1
      | succ j => exact h2 j x y (by simpa using hx) (by simpa using hy)
    · intro h
      exact ⟨h 0 a b rfl rfl, fun j x y hx hy => h (j + 1) x y (by simpa using hx) (by simpa using hy)⟩
theorem row_not {l : List Ent} {j : Nat} {x y : Ent} (hx : l[j]? = some x) (hy : l[j + 1]? = some y) (h : ab x y = false) : row l = false := by
  cases k : row l with
  | false => rfl
  | true => have := row_adj.1 k j x y hx hy; rw [h] at this; cases this
theorem Rw.lt {l : List Ent} (h : Rw l) {i j : Nat} {x y : Ent} (hx : l[i]? = some x) (hy : l[j]? = some y) (hij : i < j) : ab x y = true := by
  obtain ⟨hi, rfl⟩ := List.getElem?_eq_some_iff.1 hx
  obtain ⟨hj, rfl⟩ := List.getElem?_eq_some_iff.1 hy
  exact List.pairwise_iff_getElem.1 h i j hi hj hij
theorem Rw.idx {l : List Ent} (h : Rw l) {i j : Nat} {x y : Ent} (hx : l[i]? = some x) (hy : l[j]? = some y) (hab : ab x y = true) : i < j := by
  rcases Nat.lt_trichotomy i j with k | k | k
  · exact k
  · subst k; rw [hx] at hy; cases hy; rw [ab_irrefl] at hab; cases hab
  · have := h.lt hy hx k; have h2 := ab_asymm this; rw [h2] at hab; cases hab
theorem Rw.filter {l : List Ent} (h : Rw l) (p : Ent → Bool) : Rw (l.filter p) := h.sublist List.filter_sublist
/-- is an entry the first one of its key, in a row, whose number is at most s? -/
def first (l : List Ent) (s : Nat) (x : Ent) : Bool := decide (x.seq ≤ s) && l.all (fun y => !(decide (y.key = x.key) && decide (x.seq < y.seq)) || decide (s < y.seq))
theorem first_iff {l : List Ent} {s : Nat} {x : Ent} : first l s x = true ↔ x.seq ≤ s ∧ ∀ y ∈ l, y.key = x.key → x.seq < y.seq → s < y.seq := by
  unfold first
  rw [Bool.and_eq_true, decide_eq_true_iff, List.all_eq_true]
  refine and_congr_right fun _ => forall_congr' fun y => forall_congr' fun _ => ?_
  by_cases h1 : y.key = x.key <;> by_cases h2 : x.seq < y.seq <;> simp [h1, h2]
/-- the same, told by the entry ahead of it -/
def isF (l : List Ent) (i : Nat) (x : Ent) (s : Nat) : Bool := decide (x.seq ≤ s) && (match i with
  | 0 => true
  | j + 1 => match l[j]? with
    | none => true
    | some y => !decide (y.key = x.key) || decide (s < y.seq))
theorem isF_first {l : List Ent} (h : Rw l) {i : Nat} {x : Ent} (hx : l[i]? = some x) (s : Nat) : isF l i x s = first l s x := by
  rw [Bool.eq_iff_iff, first_iff]
  unfold isF
  rw [Bool.and_eq_true, decide_eq_true_iff]
  refine and_congr_right fun hs => ?_
  cases i with
  | zero =>
    simp only [true_iff]
    intro y hy h1 h2
    obtain ⟨k, hk⟩ := List.getElem?_of_mem hy
    have : ab y x = true := ab_iff.2 (.inr ⟨h1, h2⟩)
    exact absurd (h.idx hk hx this) (by omega)
  | succ j =>
    have hj : j < l.length := by have := (List.getElem?_eq_some_iff.1 hx).1; omega
    simp only
    rw [List.getElem?_eq_getElem hj]
    have hp : l[j]? = some l[j] := List.getElem?_eq_getElem hj
    generalize l[j] = p at hp
    have hpx := h.lt hp hx (by omega)
    simp only [Bool.or_eq_true, Bool.not_eq_true', decide_eq_false_iff_not, decide_eq_true_iff]
    constructor
    · intro hc y hy h1 h2
      obtain ⟨k, hk⟩ := List.getElem?_of_mem hy
      have hyx : ab y x = true := ab_iff.2 (.inr ⟨h1, h2⟩)
      have hkj := h.idx hk hx hyx
      rcases Nat.lt_or_ge k j with hlt | hge
      · have hyp := h.lt hk hp hlt
        rw [ab_iff] at hyp hpx
        have hkey : p.key = x.key := by
          rcases hyp with e | ⟨e, _⟩
          · rcases hpx with e2 | ⟨e2, _⟩
            · have := lt_trans e e2; rw [h1] at this; exact absurd this (lt_irrefl _)
            · exact e2
          · rw [← e, h1]
        have hlt2 : p.seq < y.seq := by
          rcases hyp with e | ⟨_, e⟩
          · rw [h1, hkey] at e; exact absurd e (lt_irrefl _)
          · exact e
        rcases hc with hc | hc
        · exact absurd hkey hc
        · omega
      · have : k = j := by omega
        subst this
        rw [hk] at hp; cases hp
        rcases hc with hc | hc
        · exact absurd h1 hc
        · exact hc
    · intro hc
      by_cases he : p.key = x.key
      · refine .inr (hc p (List.mem_of_getElem? hp) he ?_)
        rcases ab_iff.1 hpx with e | ⟨_, e⟩
        · rw [he] at e; exact absurd e (lt_irrefl _)
        · exact e
      · exact .inl he
def seenP (l : List Ent) (s : Nat) (x : Ent) : Bool := first l s x && !x.del
def newP (l : List Ent) (s : Nat) (x : Ent) : Bool := decide (s < x.seq) || first l s x
def inr (a b : List UInt8) (x : Ent) : Bool := !decide (x.key < a) && (decide (b = []) || decide (x.key < b))
def seen (l : List Ent) (s : Nat) : List Ent := l.filter (seenP l s)
def newest (l : List Ent) (s : Nat) : List Ent := l.filter (newP l s)
def between (l : List Ent) (a b : List UInt8) : List Ent := l.filter (inr a b)
theorem filter_step {p : Ent → Bool} {l : List Ent} {i : Nat} {x : Ent} (h : l[i]? = some x) : (l.take (i + 1)).filter p = (l.take i).filter p ++ (if p x then [x] else []) := by
  rw [List.take_add_one, h, List.filter_append]
  by_cases hp : p x = true <;> simp [hp]
/-- the first entry that isn't ahead -/
theorem up_find {r : List Ent} (h : Rw r) {k : List UInt8} {s i : Nat} (h1 : ∀ j x, j < i → r[j]? = some x → x.ah k s = true) (h2 : ∀ x, r[i]? = some x → x.ah k s = false) :
    r.find? (mt k s) = (match r[i]? with
      | none => none
      | some x => if x.key = k then some x else none) := by
  have hs : r = r.take i ++ r.drop i := (List.take_append_drop i r).symm
  have e1 : (r.take i).find? (mt k s) = none := by
    rw [List.find?_eq_none]
    intro x hx
    obtain ⟨j, hj⟩ := List.getElem?_of_mem hx
    rw [List.getElem?_take] at hj
    split at hj
    · rename_i hlt
      rw [mt_ahead (h1 j x hlt hj)]; simp
    · cases hj
  have e2 : r.find? (mt k s) = (r.drop i).find? (mt k s) := by
    conv => lhs; rw [hs]
    rw [List.find?_append, e1]; rfl
  rw [e2]
  cases hx : r[i]? with
  | none =>
    rw [List.drop_eq_nil_of_le (List.getElem?_eq_none_iff.1 hx)]
    rfl
  | some x =>
    have hd : r.drop i = x :: r.drop (i + 1) := by rw [List.drop_eq_getElem?_toList_append, hx]; rfl
    have hn := h2 x hx
    rw [hd]
    simp only
    by_cases hk : x.key = k
    · rw [if_pos hk, List.find?_cons_of_pos]
      rw [mt_iff]
      refine ⟨hk, ?_⟩
      unfold Ent.ah ahd at hn
      rw [if_pos hk] at hn
      simp at hn
      exact hn
    · rw [if_neg hk, List.find?_eq_none]
      intro y hy
      have hlt : k < x.key := by
        unfold Ent.ah ahd at hn
        rw [if_neg hk] at hn
        have hn2 : ¬ x.key < k := by simpa using hn
        rcases Classical.em (k < x.key) with e | e
        · exact e
        · exact absurd (lt_total hn2 e) hk
      have hle : k < y.key := by
        rcases List.mem_cons.1 hy with rfl | hy
        · exact hlt
        · obtain ⟨j, hj⟩ := List.getElem?_of_mem hy
          rw [List.getElem?_drop] at hj
          have := h.lt hx hj (by omega)
          rcases ab_iff.1 this with e | ⟨e, _⟩
          · exact lt_trans hlt e
          · rw [← e]; exact hlt
      rw [mt_iff]
      rintro ⟨e, _⟩
      rw [e] at hle
      exact lt_irrefl _ hle
def better (acc x : Option Ent) : Option Ent := match x with
  | none => acc
  | some x => match acc with
    | none => some x
    | some b => if b.seq < x.seq then some x else some b
def gotS (k : List UInt8) (s : Nat) (acc : Option Ent) (r : List Ent) : Option Ent := if row r then better acc (r.find? (mt k s)) else acc
def got (rows : List (List Ent)) (k : List UInt8) (s : Nat) : Option Ent := rows.foldl (gotS k s) none
theorem got_step {rows : List (List Ent)} {i : Nat} {r : List Ent} (h : rows[i]? = some r) (k : List UInt8) (s : Nat) : got (rows.take (i + 1)) k s = gotS k s (got (rows.take i) k s) r := by
  unfold got
  rw [List.take_add_one, h, List.foldl_append]
  rfl
/-- which entry has a key and a number -/
def look (l : List Ent) (k : List UInt8) (s : Nat) : Option Ent := l.find? (fun x => decide (x.key = k) && decide (x.seq = s))
theorem look_app (l m : List Ent) (k : List UInt8) (s : Nat) : look (l ++ m) k s = (look l k s).or (look m k s) := List.find?_append
theorem look_some {l : List Ent} {k : List UInt8} {s : Nat} {x : Ent} (h : look l k s = some x) : x ∈ l ∧ x.key = k ∧ x.seq = s := by
  have h1 := List.find?_some h
  rw [Bool.and_eq_true, decide_eq_true_iff, decide_eq_true_iff] at h1
  exact ⟨List.mem_of_find?_eq_some h, h1.1, h1.2⟩
theorem look_none {l : List Ent} {k : List UInt8} {s : Nat} (h : look l k s = none) {x : Ent} (hx : x ∈ l) (h1 : x.key = k) (h2 : x.seq = s) : False := by
  have := List.find?_eq_none.1 h x hx
  simp [h1, h2] at this
theorem look_not {l : List Ent} {k : List UInt8} {s : Nat} (h : ∀ x ∈ l, x.key = k → x.seq = s → False) : look l k s = none := by
  unfold look
  rw [List.find?_eq_none]
  intro x hx hc
  rw [Bool.and_eq_true, decide_eq_true_iff, decide_eq_true_iff] at hc
  exact h x hx hc.1 hc.2
theorem look_one {x : Ent} : look [x] x.key x.seq = some x := by unfold look; rw [List.find?_cons_of_pos (by simp)]
theorem look_cons (x : Ent) (l : List Ent) : look (x :: l) x.key x.seq = some x := by unfold look; rw [List.find?_cons_of_pos (by simp)]
theorem look_other {x : Ent} {k : List UInt8} {s : Nat} (h : ¬ (x.key = k ∧ x.seq = s)) : look [x] k s = none := look_not fun y hy h1 h2 => by
  rw [List.mem_singleton] at hy; subst hy; exact h ⟨h1, h2⟩
theorem look_mem {l : List Ent} (h : Rw l) {x : Ent} (hx : x ∈ l) : look l x.key x.seq = some x := by
  cases hl : look l x.key x.seq with
  | none => exact absurd (look_none hl hx rfl rfl) id
  | some y =>
    obtain ⟨hy, h1, h2⟩ := look_some hl
    obtain ⟨i, hi⟩ := List.getElem?_of_mem hx
    obtain ⟨j, hj⟩ := List.getElem?_of_mem hy
    rcases Nat.lt_trichotomy i j with e | e | e
    · have := h.lt hi hj e; rw [ab_same h1.symm h2.symm] at this; cases this
    · subst e; rw [hi] at hj; exact hj.symm
    · have := h.lt hj hi e; rw [ab_same h1 h2] at this; cases this
theorem uniq : ∀ {l m : List Ent}, Rw l → Rw m → (∀ k s, look l k s = look m k s) → l = m
  | [], [], _, _, _ => rfl
  | [], y :: m, _, _, h => by have := h y.key y.seq; rw [look_cons] at this; cases this
  | x :: l, [], _, _, h => by have := h x.key x.seq; rw [look_cons] at this; cases this
  | x :: l, y :: m, h1, h2, h => by
    have hxm : x ∈ y :: m := (look_some ((h x.key x.seq).symm.trans (look_cons x l))).1
    have hyl : y ∈ x :: l := (look_some ((h y.key y.seq).trans (look_cons y m))).1
    have exy : x = y := by
      rcases List.mem_cons.1 hxm with e | e
      · exact e
      · rcases List.mem_cons.1 hyl with e2 | e2
        · exact e2.symm
        · have a1 := (List.pairwise_cons.1 h1).1 y e2
          have a2 := (List.pairwise_cons.1 h2).1 x e
          rw [ab_asymm a1] at a2; cases a2
    subst exy
    congr 1
    refine uniq (List.pairwise_cons.1 h1).2 (List.pairwise_cons.1 h2).2 fun k s => ?_
    by_cases hk : x.key = k ∧ x.seq = s
    · obtain ⟨rfl, rfl⟩ := hk
      rw [look_not fun z hz e1 e2 => ?_, look_not fun z hz e1 e2 => ?_]
      · have := (List.pairwise_cons.1 h2).1 z hz; rw [ab_same e1.symm e2.symm] at this; cases this
      · have := (List.pairwise_cons.1 h1).1 z hz; rw [ab_same e1.symm e2.symm] at this; cases this
    · have := h k s
      rw [show x :: l = [x] ++ l from rfl, show x :: m = [x] ++ m from rfl, look_app, look_app, look_other hk] at this
      simpa using this
/-- an entry more, if none has its key and number -/
def ins : List Ent → Ent → List Ent
  | [], x => [x]
  | y :: l, x => if ab y x then y :: ins l x else if y.key = x.key ∧ y.seq = x.seq then y :: l else x :: y :: l
theorem ins_mem : ∀ {l : List Ent} {x z : Ent}, z ∈ ins l x → z = x ∨ z ∈ l
  | [], x, z, h => by simpa [ins] using h
  | y :: l, x, z, h => by
    unfold ins at h
    split at h
    · rcases List.mem_cons.1 h with rfl | h
      · exact .inr List.mem_cons_self
      · rcases ins_mem h with e | e
        · exact .inl e
        · exact .inr (List.mem_cons_of_mem _ e)
    · split at h
      · exact .inr h
      · rcases List.mem_cons.1 h with e | h
        · exact .inl e
        · exact .inr h
theorem ins_row : ∀ {l : List Ent} {x : Ent}, Rw l → Rw (ins l x)
  | [], x, _ => by simp [ins, Rw]
  | y :: l, x, h => by
    unfold ins
    have hc := List.pairwise_cons.1 h
    split
    · rename_i hyx
      refine List.pairwise_cons.2 ⟨fun z hz => ?_, ins_row hc.2⟩
      rcases ins_mem hz with rfl | hz
      · exact hyx
      · exact hc.1 z hz
    · rename_i hyx
      split
      · exact h
      · rename_i hs
        have hxy : ab x y = true := by
          cases k : ab x y with
          | true => rfl
          | false => exact absurd (ab_total (Bool.eq_false_iff.2 hyx) k) hs
        refine List.pairwise_cons.2 ⟨fun z hz => ?_, h⟩
        rcases List.mem_cons.1 hz with rfl | hz
        · exact hxy
        · exact ab_trans hxy (hc.1 z hz)
theorem ins_look : ∀ {l : List Ent} {x : Ent}, Rw l → ∀ k s, look (ins l x) k s = (look l k s).or (look [x] k s)
  | [], x, _, k, s => by simp [ins, look]
  | y :: l, x, h, k, s => by
    have hc := List.pairwise_cons.1 h
    unfold ins
    split
    · rw [show y :: ins l x = [y] ++ ins l x from rfl, show y :: l = [y] ++ l from rfl, look_app, look_app, ins_look hc.2, Option.or_assoc]
    · rename_i hyx
      split
      · rename_i hs
        by_cases hk : x.key = k ∧ x.seq = s
        · obtain ⟨rfl, rfl⟩ := hk
          have e : look (y :: l) x.key x.seq = some y := by rw [← hs.1, ← hs.2]; exact look_cons y l
          rw [e]; rfl
        · rw [look_other hk, Option.or_none]
      · rename_i hs
        have hxy : ab x y = true := by
          cases k : ab x y with
          | true => rfl
          | false => exact absurd (ab_total (Bool.eq_false_iff.2 hyx) k) hs
        rw [show x :: y :: l = [x] ++ (y :: l) from rfl, look_app]
        by_cases hk : x.key = k ∧ x.seq = s
        · obtain ⟨rfl, rfl⟩ := hk
          have e : look (y :: l) x.key x.seq = none := look_not fun z hz e1 e2 => by
            have hxz : ab x z = true := by
              rcases List.mem_cons.1 hz with rfl | hz
              · exact hxy
              · exact ab_trans hxy (hc.1 z hz)
            rw [ab_same e1.symm e2.symm] at hxz; cases hxz
          rw [e]; simp
        · rw [look_other hk]; simp
def insAll (l : List Ent) (m : List Ent) : List Ent := m.foldl ins l
theorem insAll_row : ∀ {m l : List Ent}, Rw l → Rw (insAll l m)
  | [], l, h => h
  | x :: m, l, h => insAll_row (m := m) (l := ins l x) (ins_row h)
theorem insAll_look : ∀ {m l : List Ent}, Rw l → ∀ k s, look (insAll l m) k s = (look l k s).or (look m k s)
  | [], l, _, k, s => by simp [insAll, look]
  | x :: m, l, h, k, s => by
    rw [show insAll l (x :: m) = insAll (ins l x) m from rfl, insAll_look (ins_row h), ins_look h, Option.or_assoc, ← look_app]
    rfl
/-- rows together -/
def tog (rows : List (List Ent)) : List Ent := insAll [] rows.flatten
theorem tog_row (rows : List (List Ent)) : Rw (tog rows) := insAll_row (by simp [Rw])
theorem tog_look (rows : List (List Ent)) (k : List UInt8) (s : Nat) : look (tog rows) k s = look rows.flatten k s := by
  unfold tog
  rw [insAll_look (by simp [Rw])]
  simp [look]
theorem tog_uniq {rows : List (List Ent)} {L : List Ent} (h : Rw L) (k : ∀ k s, look L k s = look rows.flatten k s) : L = tog rows := uniq h (tog_row rows) fun a b => by rw [k, tog_look]
theorem ins_len : ∀ (l : List Ent) (x : Ent), (ins l x).length ≤ l.length + 1
  | [], x => by simp [ins]
  | y :: l, x => by
    unfold ins
    split
    · have := ins_len l x; simp; omega
    · split <;> simp
theorem insAll_len : ∀ (m l : List Ent), (insAll l m).length ≤ l.length + m.length
  | [], l => by simp [insAll]
  | x :: m, l => by
    have h1 := insAll_len m (ins l x)
    have h2 := ins_len l x
    rw [show insAll l (x :: m) = insAll (ins l x) m from rfl, List.length_cons]; omega
theorem tog_len (rows : List (List Ent)) : (tog rows).length ≤ rows.flatten.length := by
  have := insAll_len rows.flatten []; simpa [tog] using this
/-- a list with an entry that isn't ahead of its last one -/
def wn (L : List Ent) (x : Ent) : List Ent := match L.getLast? with
  | none => L ++ [x]
  | some z => if ab z x then L ++ [x] else L
theorem wn_len (L : List Ent) (x : Ent) : (wn L x).length ≤ L.length + 1 := by
  unfold wn
  split
  · simp
  · split <;> simp
/-- what has been told, and what is left -/
structure Jn (rows : List (List Ent)) (L : List Ent) (rem : List (List Ent)) : Prop where
  row : Rw L
  each : ∀ r ∈ rem, Rw r
  lk : ∀ k s, look rows.flatten k s = (look L k s).or (look rem.flatten k s)
  last : ∀ x ∈ L, ∀ y ∈ rem.flatten, ab y x = false
theorem Jn.start {rows : List (List Ent)} (h : ∀ r ∈ rows, Rw r) : Jn rows [] rows := ⟨by simp [Rw], h, fun k s => by simp [look], fun x hx => by simp at hx⟩
theorem Jn.done {rows : List (List Ent)} {L : List Ent} {rem : List (List Ent)} (h : Jn rows L rem) (k : ∀ r ∈ rem, r = []) : L = tog rows := by
  have e : rem.flatten = [] := by rw [List.flatten_eq_nil_iff]; exact k
  exact tog_uniq h.row fun a b => by rw [h.lk, e]; simp [look]
def sn (x : Ent) (p : Nat) (y : Ent) (q : Nat) : Bool := if x.key = y.key ∧ x.seq = y.seq then decide (p < q) else ab x y
theorem sn_iff {x y : Ent} {p q : Nat} : sn x p y q = true ↔ ab x y = true ∨ ((x.key = y.key ∧ x.seq = y.seq) ∧ p < q) := by
  unfold sn
  split
  · rename_i h; rw [ab_same h.1 h.2]; simp [h]
  · rename_i h; simp [h]
theorem sn_asymm {x y : Ent} {p q : Nat} (h : sn x p y q = true) : sn y q x p = false := by
  rw [Bool.eq_false_iff, ne_eq, sn_iff]
  rcases sn_iff.1 h with h | ⟨⟨h1, h2⟩, h3⟩
  · rintro (k | ⟨⟨k1, k2⟩, _⟩)
    · rw [ab_asymm h] at k; cases k
    · rw [ab_same k1.symm k2.symm] at h; cases h
  · rintro (k | ⟨_, k⟩)
    · rw [ab_same h1.symm h2.symm] at k; cases k
    · omega
theorem sn_ntrans {x y z : Ent} {p q r : Nat} (h : sn y q x p = false) (k : sn z r y q = false) : sn z r x p = false := by
  rw [Bool.eq_false_iff, ne_eq, sn_iff] at *
  have h1 : ¬ ab y x = true := fun e => h (.inl e)
  have k1 : ¬ ab z y = true := fun e => k (.inl e)
  rintro (e | ⟨⟨e1, e2⟩, e3⟩)
  · rcases Classical.em (ab y z = true) with e4 | e4
    · exact h1 (ab_trans e4 e)
    · obtain ⟨e5, e6⟩ := ab_total (Bool.eq_false_iff.2 e4) (Bool.eq_false_iff.2 k1)
      exact h1 (by rw [ab_left e5 e6]; exact e)
  · have hxz : ab x y = ab z y := ab_left e1.symm e2.symm
    have : x.key = y.key ∧ x.seq = y.seq := ab_total (by rw [hxz]; exact Bool.eq_false_iff.2 k1) (Bool.eq_false_iff.2 h1)
    have a1 : ¬ q < p := fun e => h (.inr ⟨⟨this.1.symm, this.2.symm⟩, e⟩)
    have a2 : ¬ r < q := fun e => k (.inr ⟨⟨e1.trans this.1, e2.trans this.2⟩, e⟩)
    omega
theorem flat_mem {rem : List (List Ent)} {y : Ent} (h : y ∈ rem.flatten) : ∃ (q : Nat) (r : List Ent), rem[q]? = some r ∧ y ∈ r := by
  obtain ⟨r, hr, hy⟩ := List.mem_flatten.1 h
  obtain ⟨q, hq⟩ := List.getElem?_of_mem hr
  exact ⟨q, r, hq, hy⟩
theorem rem_split {rem : List (List Ent)} {p : Nat} {r : List Ent} (h : rem[p]? = some r) : rem = rem.take p ++ r :: rem.drop (p + 1) := by
  conv => lhs; rw [← List.take_append_drop p rem]
  rw [List.drop_eq_getElem?_toList_append, h]; rfl
theorem set_split {rem : List (List Ent)} {p : Nat} {r : List Ent} (h : rem[p]? = some r) (t : List Ent) : rem.set p t = rem.take p ++ t :: rem.drop (p + 1) := by
  rw [List.set_eq_take_append_cons_drop, if_pos (List.getElem?_eq_some_iff.1 h).1]
theorem Jn.step {rows : List (List Ent)} {L : List Ent} {rem : List (List Ent)} (h : Jn rows L rem) {x : Ent} {t : List Ent} {p : Nat} (hp : rem[p]? = some (x :: t))
    (hmin : ∀ q y u, rem[q]? = some (y :: u) → sn y q x p = false) : Jn rows (wn L x) (rem.set p t) := by
  have hsp := rem_split hp
  have hst := set_split hp t
  have hrw : ∀ {q : Nat} {r : List Ent}, rem[q]? = some r → Rw r := fun hq => h.each _ (List.mem_of_getElem? hq)
  have hm2 : ∀ y ∈ rem.flatten, ab y x = false := fun y hy => by
    obtain ⟨q, r, hq, hyr⟩ := flat_mem hy
    cases r with
    | nil => simp at hyr
    | cons y0 u =>
      have h0 := hmin q y0 u hq
      rw [Bool.eq_false_iff, ne_eq, sn_iff] at h0
      have h1 : ¬ ab y0 x = true := fun e => h0 (.inl e)
      rcases List.mem_cons.1 hyr with rfl | hyu
      · exact Bool.eq_false_iff.2 h1
      · rw [Bool.eq_false_iff]
        intro e
        exact h1 (ab_trans ((List.pairwise_cons.1 (hrw hq)).1 y hyu) e)
  have hxf : x ∈ rem.flatten := List.mem_flatten.2 ⟨_, List.mem_of_getElem? hp, List.mem_cons_self⟩
  have hlook : look rem.flatten x.key x.seq = some x := by
    rw [hsp, List.flatten_append, look_app, look_not fun z hz e1 e2 => ?_]
    · rw [List.flatten_cons, look_app, look_cons]; rfl
    · obtain ⟨q, r, hq, hzr⟩ := flat_mem hz
      rw [List.getElem?_take] at hq
      split at hq
      · rename_i hqp
        cases r with
        | nil => simp at hzr
        | cons y0 u =>
          have h0 := hmin q y0 u hq
          rw [Bool.eq_false_iff, ne_eq, sn_iff] at h0
          rcases List.mem_cons.1 hzr with rfl | hzu
          · exact h0 (.inr ⟨⟨e1, e2⟩, hqp⟩)
          · refine h0 (.inl ?_)
            rw [← ab_right e1 e2]
            exact (List.pairwise_cons.1 (hrw hq)).1 z hzu
      · cases hq
  have hother : ∀ k s, ¬ (x.key = k ∧ x.seq = s) → look (rem.set p t).flatten k s = look rem.flatten k s := fun k s hk => by
    rw [hst]
    conv => rhs; rw [hsp]
    rw [List.flatten_append, List.flatten_append, look_app, look_app, List.flatten_cons, List.flatten_cons, look_app, look_app, show x :: t = [x] ++ t from rfl, look_app, look_other hk]
    simp
  have hsub : ∀ y ∈ (rem.set p t).flatten, y ∈ rem.flatten := fun y hy => by
    rw [hst, List.flatten_append, List.flatten_cons] at hy
    rw [hsp, List.flatten_append, List.flatten_cons]
    simp only [List.mem_append] at hy ⊢
    rcases hy with hy | hy | hy
    · exact .inl hy
    · exact .inr (.inl (List.mem_cons_of_mem _ hy))
    · exact .inr (.inr hy)
  have hrows : ∀ r ∈ rem.set p t, Rw r := fun r hr => by
    rw [hst] at hr
    rcases List.mem_append.1 hr with hr | hr
    · exact h.each r (List.mem_of_mem_take hr)
    · rcases List.mem_cons.1 hr with rfl | hr
      · exact (List.pairwise_cons.1 (hrw hp)).2
      · exact h.each r (List.mem_of_mem_drop hr)
  unfold wn
  split
  · rename_i hl
    have hL : L = [] := List.getLast?_eq_none_iff.1 hl
    subst hL
    refine ⟨by simp [Rw], hrows, fun k s => ?_, fun z hz y hy => ?_⟩
    · rw [h.lk]
      by_cases hk : x.key = k ∧ x.seq = s
      · obtain ⟨rfl, rfl⟩ := hk
        rw [hlook, List.nil_append, look_one]; rfl
      · rw [hother k s hk, List.nil_append, look_other hk]; rfl
    · rw [List.nil_append, List.mem_singleton] at hz
      subst hz
      exact hm2 y (hsub y hy)
  · rename_i z hl
    have hz : z ∈ L := List.mem_of_getLast? hl
    split
    · rename_i hzx
      have hall : ∀ u ∈ L, ab u x = true := fun u hu => by
        obtain ⟨i, hi⟩ := List.getElem?_of_mem hu
        rw [List.getLast?_eq_getElem?] at hl
        have hil := (List.getElem?_eq_some_iff.1 hi).1
        rcases Nat.lt_or_ge i (L.length - 1) with e | e
        · exact ab_trans (h.row.lt hi hl e) hzx
        · have : i = L.length - 1 := by omega
          rw [this, hl] at hi; cases hi; exact hzx
      refine ⟨?_, hrows, fun k s => ?_, fun u hu y hy => ?_⟩
      · unfold Rw
        rw [List.pairwise_append]
        exact ⟨h.row, by simp, fun u hu v hv => by rw [List.mem_singleton] at hv; subst hv; exact hall u hu⟩
      · rw [h.lk, look_app]
        by_cases hk : x.key = k ∧ x.seq = s
        · obtain ⟨rfl, rfl⟩ := hk
          have hn : look L x.key x.seq = none := look_not fun u hu e1 e2 => by
            have := hall u hu; rw [ab_same e1 e2] at this; cases this
          rw [hn, hlook, look_one]; rfl
        · rw [hother k s hk, look_other hk]; simp
      · rcases List.mem_append.1 hu with hu | hu
        · exact h.last u hu y (hsub y hy)
        · rw [List.mem_singleton] at hu
          subst hu
          exact hm2 y (hsub y hy)
    · rename_i hzx
      obtain ⟨e1, e2⟩ := ab_total (Bool.eq_false_iff.2 hzx) (h.last z hz x hxf)
      refine ⟨h.row, hrows, fun k s => ?_, fun u hu y hy => h.last u hu y (hsub y hy)⟩
      rw [h.lk]
      by_cases hk : x.key = k ∧ x.seq = s
      · obtain ⟨rfl, rfl⟩ := hk
        cases hL : look L x.key x.seq with
        | none => exact absurd (look_none hL hz e1 e2) id
        | some v => rfl
      · rw [hother k s hk]
end Mg
end Go.Proofs.YtnnmalpnjlnnlaaGreat

/-
  A heap in plain mathematics: what a swap, a way up and a way down leave.
-/
namespace Go.Proofs.YtnnmalpnjlnnlaaGreat
set_option linter.unusedVariables false
set_option maxRecDepth 100000
namespace Hp
variable {α : Type} {s : α → α → Bool}
/-- two places of a list, changed for each other -/
def sg (i j k : Nat) : Nat := if k = i then j else if k = j then i else k
def sw (l : List α) (i j : Nat) : List α := match l[i]?, l[j]? with
  | some x, some y => (l.set i y).set j x
  | _, _ => l
theorem sw_of {l : List α} {i j : Nat} {x y : α} (hx : l[i]? = some x) (hy : l[j]? = some y) : sw l i j = (l.set i y).set j x := by unfold sw; rw [hx, hy]
theorem sw_len (l : List α) (i j : Nat) : (sw l i j).length = l.length := by
  unfold sw; split <;> simp
theorem sw_get {l : List α} {i j : Nat} (hi : i < l.length) (hj : j < l.length) (k : Nat) : (sw l i j)[k]? = l[sg i j k]? := by
  rw [sw_of (List.getElem?_eq_getElem hi) (List.getElem?_eq_getElem hj)]
  unfold sg
  rw [List.getElem?_set, List.length_set]
  by_cases h1 : k = j
  · subst h1
    rw [if_pos rfl, if_pos hj]
    by_cases h2 : k = i
    · subst h2; rw [if_pos rfl, List.getElem?_eq_getElem hi]
    · rw [if_neg h2, if_pos rfl, List.getElem?_eq_getElem hi]
  · rw [if_neg (fun e => h1 e.symm), List.getElem?_set]
    by_cases h2 : k = i
    · subst h2; rw [if_pos rfl, if_pos hi, if_pos rfl, List.getElem?_eq_getElem hj]
    · rw [if_neg (fun e => h2 e.symm), if_neg h2, if_neg h1]
theorem sw_perm (l : List α) (i j : Nat) : (sw l i j).Perm l := by
  unfold sw
  split
  · rename_i x y hx hy
    obtain ⟨hi, rfl⟩ := List.getElem?_eq_some_iff.1 hx
    obtain ⟨hj, rfl⟩ := List.getElem?_eq_some_iff.1 hy
    have h := Array.swap_perm (xs := l.toArray) (i := i) (j := j) (by simpa using hi) (by simpa using hj)
    have h2 : ((l.toArray).swap i j (by simpa using hi) (by simpa using hj)).toList.Perm l := by
      have := h.toList; simpa using this
    have h3 : ((l.toArray).swap i j (by simpa using hi) (by simpa using hj)).toList = (l.set i l[j]).set j l[i] := by
      simp [Array.swap]
    rw [h3] at h2
    exact h2
  · exact List.Perm.refl _
/-- each one is level with, or behind, the one above it, but maybe the one at i -/
structure Up (s : α → α → Bool) (l : List α) (i : Nat) : Prop where
  ord : ∀ (j : Nat) (x y : α), 0 < j → j ≠ i → l[j]? = some x → l[(j - 1) / 2]? = some y → s x y = false
  kid : ∀ (j : Nat) (x y : α), 0 < j → 0 < i → (j - 1) / 2 = i → l[j]? = some x → l[(i - 1) / 2]? = some y → s x y = false
def Is (s : α → α → Bool) (l : List α) : Prop := ∀ (j : Nat) (x y : α), 0 < j → l[j]? = some x → l[(j - 1) / 2]? = some y → s x y = false
structure Down (s : α → α → Bool) (l : List α) (i : Nat) : Prop where
  ord : ∀ (j : Nat) (x y : α), 0 < j → (j - 1) / 2 ≠ i → l[j]? = some x → l[(j - 1) / 2]? = some y → s x y = false
  kid : ∀ (j : Nat) (x y : α), 0 < j → 0 < i → (j - 1) / 2 = i → l[j]? = some x → l[(i - 1) / 2]? = some y → s x y = false
theorem Is.push {l : List α} (h : Is s l) (x : α) : Up s (l ++ [x]) l.length := by
  refine ⟨fun j a b hj hne ha hb => ?_, fun j a b hj hi he ha hb => ?_⟩
  · have hjl : j < l.length := by have := (List.getElem?_eq_some_iff.1 ha).1; simp at this; omega
    rw [List.getElem?_append_left hjl] at ha
    rw [List.getElem?_append_left (by omega)] at hb
    exact h j a b hj ha hb
  · have := (List.getElem?_eq_some_iff.1 ha).1; simp at this; omega
theorem Up.zero {l : List α} (h : Up s l 0) : Is s l := fun j x y hj hx hy => h.ord j x y hj (by omega) hx hy
theorem Up.stop {l : List α} {i : Nat} (h : Up s l i) (hi : 0 < i) {x y : α} (hx : l[i]? = some x) (hy : l[(i - 1) / 2]? = some y) (hs : s x y = false) : Is s l := fun j a b hj ha hb => by
  by_cases e : j = i
  · subst e; rw [hx] at ha; rw [hy] at hb; cases ha; cases hb; exact hs
  · exact h.ord j a b hj e ha hb
section
variable (asym : ∀ {x y : α}, s x y = true → s y x = false) (nt : ∀ {x y z : α}, s y x = false → s z y = false → s z x = false)
include asym nt
theorem Up.swap {l : List α} {i : Nat} (h : Up s l i) (hi : 0 < i) {x a : α} (hx : l[i]? = some x) (ha : l[(i - 1) / 2]? = some a) (hs : s x a = true) : Up s (sw l i ((i - 1) / 2)) ((i - 1) / 2) := by
  have hil := (List.getElem?_eq_some_iff.1 hx).1
  have hpl := (List.getElem?_eq_some_iff.1 ha).1
  have hg := sw_get hil hpl
  have hax := asym hs
  generalize hp : (i - 1) / 2 = p at *
  have hpi : p ≠ i := by omega
  refine ⟨fun j u v hj hne hu hv => ?_, fun j u v hj hp0 he hu hv => ?_⟩
  · rw [hg] at hu hv
    unfold sg at hu hv
    rw [if_neg hne] at hu
    by_cases e1 : j = i
    · rw [if_pos e1, ha] at hu
      rw [e1, hp, if_neg hpi, if_pos rfl, hx] at hv
      cases hu; cases hv; exact hax
    · rw [if_neg e1] at hu
      by_cases e2 : (j - 1) / 2 = i
      · rw [if_pos e2, ha] at hv
        cases hv
        exact h.kid j u a hj hi e2 hu (by rw [hp]; exact ha)
      · rw [if_neg e2] at hv
        by_cases e3 : (j - 1) / 2 = p
        · rw [if_pos e3, hx] at hv
          cases hv
          exact nt hax (h.ord j u a hj e1 hu (by rw [e3]; exact ha))
        · rw [if_neg e3] at hv
          exact h.ord j u v hj e1 hu hv
  · rw [hg] at hu hv
    unfold sg at hu hv
    rw [if_neg (show (p - 1) / 2 ≠ i by omega), if_neg (show (p - 1) / 2 ≠ p by omega)] at hv
    have hva : s a v = false := h.ord p a v hp0 hpi ha hv
    rw [if_neg (show j ≠ p by omega)] at hu
    by_cases e1 : j = i
    · rw [if_pos e1, ha] at hu; cases hu; exact hva
    · rw [if_neg e1] at hu
      exact nt hva (h.ord j u a hj e1 hu (by rw [he]; exact ha))
end
theorem Down.swap {l : List α} {i b : Nat} (h : Down s l i) (hb : b = 2 * i + 1 ∨ b = 2 * i + 2) {x y : α} (hx : l[i]? = some x) (hy : l[b]? = some y)
    (hbest : ∀ c u, (c = i ∨ c = 2 * i + 1 ∨ c = 2 * i + 2) → l[c]? = some u → s u y = false) : Down s (sw l i b) b := by
  have hil := (List.getElem?_eq_some_iff.1 hx).1
  have hbl := (List.getElem?_eq_some_iff.1 hy).1
  have hg := sw_get hil hbl
  refine ⟨fun j u v hj hne hu hv => ?_, fun j u v hj hb0 he hu hv => ?_⟩
  · rw [hg] at hu hv
    unfold sg at hu hv
    rw [if_neg hne] at hv
    by_cases e1 : j = b
    · have e2 : (j - 1) / 2 = i := by omega
      rw [if_neg (show j ≠ i by omega), if_pos e1, hx] at hu
      rw [if_pos e2, hy] at hv
      cases hu; cases hv
      exact hbest i x (.inl rfl) hx
    · by_cases e2 : j = i
      · have e3 : (j - 1) / 2 ≠ i := by omega
        rw [if_pos e2, hy] at hu
        rw [if_neg e3] at hv
        cases hu
        exact h.kid b y v (by omega) (by omega) (by omega) hy (by rw [← e2]; exact hv)
      · rw [if_neg e2, if_neg e1] at hu
        by_cases e3 : (j - 1) / 2 = i
        · rw [if_pos e3, hy] at hv
          cases hv
          exact hbest j u (by omega) hu
        · rw [if_neg e3] at hv
          exact h.ord j u v hj e3 hu hv
  · rw [hg] at hu hv
    unfold sg at hu hv
    have e1 : (b - 1) / 2 = i := by omega
    rw [if_pos e1, hy] at hv
    cases hv
    rw [if_neg (show j ≠ i by omega), if_neg (show j ≠ b by omega)] at hu
    exact h.ord j u y hj (by omega) hu (by rw [he]; exact hy)
theorem Is.top (nt : ∀ {x y z : α}, s y x = false → s z y = false → s z x = false) {l : List α} (h : Is s l) {r : α} (h0 : l[0]? = some r) (hir : ∀ x : α, s x x = false) : ∀ (j : Nat) (x : α), l[j]? = some x → s x r = false := fun j => by
  induction j using Nat.strongRecOn with
  | ind j ih =>
    intro x hx
    by_cases hj : j = 0
    · subst hj; rw [h0] at hx; cases hx; exact hir _
    · have hlt := (List.getElem?_eq_some_iff.1 hx).1
      have hy : l[(j - 1) / 2]? = some l[(j - 1) / 2] := List.getElem?_eq_getElem (by omega)
      exact nt (ih ((j - 1) / 2) (by omega) _ hy) (h j x _ (by omega) hx hy)
theorem Down.stop {l : List α} {i : Nat} (h : Down s l i) {x : α} (hx : l[i]? = some x) (hbest : ∀ c u, (c = i ∨ c = 2 * i + 1 ∨ c = 2 * i + 2) → l[c]? = some u → s u x = false) : Is s l := fun j a b hj ha hb => by
  by_cases e : (j - 1) / 2 = i
  · rw [e, hx] at hb; cases hb
    exact hbest j a (by omega) ha
  · exact h.ord j a b hj e ha hb
theorem Is.pop {l : List α} (h : Is s l) {n : Nat} (hn : l.length = n + 1) : Down s ((sw l 0 n).take n) 0 := by
  refine ⟨fun j x y hj hne hx hy => ?_, fun j x y hj h0 => absurd h0 (by omega)⟩
  have hjn : j < n := by
    have := (List.getElem?_eq_some_iff.1 hx).1
    rw [List.length_take, sw_len] at this; omega
  rw [List.getElem?_take, if_pos (by omega), sw_get (by omega) (by omega)] at hx hy
  unfold sg at hx hy
  rw [if_neg (by omega), if_neg (by omega)] at hx
  rw [if_neg hne, if_neg (by omega)] at hy
  exact h j x y hj hx hy
theorem pop_perm {l : List α} {n : Nat} (hn : l.length = n + 1) {r : α} (h0 : l[0]? = some r) : (r :: (sw l 0 n).take n).Perm l := by
  have h1 : (sw l 0 n) = (sw l 0 n).take n ++ [r] := by
    conv => lhs; rw [← List.take_append_drop n (sw l 0 n)]
    congr 1
    have hr : (sw l 0 n)[n]? = some r := by
      rw [sw_get (by omega) (by omega)]
      unfold sg
      by_cases e : n = 0
      · subst e; rw [if_pos rfl]; exact h0
      · rw [if_neg e, if_pos rfl]; exact h0
    rw [List.drop_eq_getElem?_toList_append, hr, List.drop_eq_nil_of_le (by rw [sw_len]; omega)]; rfl
  refine List.Perm.trans ?_ (sw_perm l 0 n)
  conv => rhs; rw [h1]
  exact List.perm_append_comm (l₁ := [r])
end Hp
end Go.Proofs.YtnnmalpnjlnnlaaGreat

/-
  Blocks in plain mathematics: what two texts share, a row's bytes, how they are read back.
-/
namespace Go.Proofs.YtnnmalpnjlnnlaaGreat
set_option linter.unusedVariables false
set_option maxRecDepth 100000
namespace Bk
open Mm
/-- how many bytes two texts share -/
def sh : List UInt8 → List UInt8 → Nat
  | a :: x, b :: y => if a = b then sh x y + 1 else 0
  | _, _ => 0
theorem sh_nil (b : List UInt8) : sh [] b = 0 := by cases b <;> rfl
theorem sh_nil2 (a : List UInt8) : sh a [] = 0 := by cases a <;> rfl
theorem sh_le : ∀ (a b : List UInt8), sh a b ≤ a.length ∧ sh a b ≤ b.length
  | [], b => by rw [sh_nil]; simp
  | a :: x, [] => by rw [sh_nil2]; simp
  | a :: x, b :: y => by
    have := sh_le x y
    simp only [sh, List.length_cons]
    split <;> omega
theorem sh_comm : ∀ (a b : List UInt8), sh a b = sh b a
  | [], b => by rw [sh_nil, sh_nil2]
  | a :: x, [] => by rw [sh_nil, sh_nil2]
  | a :: x, b :: y => by
    have := sh_comm x y
    simp only [sh, this, eq_comm]
theorem sh_self : ∀ (a : List UInt8), sh a a = a.length
  | [] => rfl
  | a :: x => by simp [sh, sh_self x]
theorem sh_app : ∀ (m a b : List UInt8), sh (m ++ a) (m ++ b) = m.length + sh a b
  | [], a, b => by simp
  | c :: m, a, b => by simp [sh, sh_app m a b]; omega
theorem sh_take : ∀ (a b : List UInt8), a.take (sh a b) = b.take (sh a b)
  | [], b => by rw [sh_nil]; simp
  | a :: x, [] => by rw [sh_nil2]; simp
  | a :: x, b :: y => by
    have := sh_take x y
    simp only [sh]
    split
    · rename_i h; subst h; simp [this]
    · simp
theorem sh_get : ∀ (a b : List UInt8) (j : Nat), j < sh a b → a[j]? = b[j]?
  | [], b, j, h => by rw [sh_nil] at h; omega
  | a :: x, [], j, h => by rw [sh_nil2] at h; omega
  | a :: x, b :: y, j, h => by
    simp only [sh] at h
    split at h
    · rename_i e
      subst e
      cases j with
      | zero => rfl
      | succ j => simpa using sh_get x y j (by omega)
    · omega
theorem sh_end : ∀ (a b : List UInt8), sh a b < a.length → sh a b < b.length → a[sh a b]? ≠ b[sh a b]?
  | [], b, h, _ => by simp at h
  | a :: x, [], _, h => by simp at h
  | a :: x, b :: y, h1, h2 => by
    simp only [sh] at h1 h2 ⊢
    split
    · rename_i e
      rw [if_pos e] at h1 h2
      simp only [List.length_cons] at h1 h2
      simpa using sh_end x y (by omega) (by omega)
    · rename_i e
      simp [e]
/-- where two texts have been the same so far -/
theorem sh_more {a b : List UInt8} {k : Nat} (h : ∀ j, j < k → a[j]? = b[j]?) (ha : k ≤ a.length) (hb : k ≤ b.length) : k ≤ sh a b := by
  by_cases hc : k ≤ sh a b
  · exact hc
  · exact absurd (h _ (by omega)) (sh_end a b (by omega) (by omega))
theorem sh_at {a b : List UInt8} {k : Nat} (h : ∀ j, j < k → a[j]? = b[j]?) (ha : k ≤ a.length) (hb : k ≤ b.length) (he : k = a.length ∨ k = b.length ∨ a[k]? ≠ b[k]?) : sh a b = k := by
  have h1 := sh_more h ha hb
  have h2 := sh_le a b
  rcases he with e | e | e
  · omega
  · omega
  · by_cases hc : sh a b = k
    · exact hc
    · exact absurd (sh_get a b k (by omega)) e
def mk (d : Bool) : UInt8 := if d then 1 else 0
/-- an entry's bytes, but for the n first ones of its key -/
def encE (n : Nat) (x : Ent) : List UInt8 := Nm.short n ++ (Bt.sized (x.key.drop n) ++ (Nm.short x.seq ++ (mk x.del :: Bt.sized x.val)))
def keyAt (l : List Ent) (i : Nat) : List UInt8 := (l[i]?.map Ent.key).getD []
/-- how many bytes the key of the entry i shares with the one ahead of it -/
def shr (l : List Ent) (i : Nat) : Nat := if i % 4 = 0 then 0 else sh (keyAt l (i - 1)) (keyAt l i)
def piece (l : List Ent) (i : Nat) : List UInt8 := match l[i]? with
  | none => []
  | some x => encE (shr l i) x
/-- the bytes of k entries -/
def E (l : List Ent) (k : Nat) : List UInt8 := ((List.range k).map (piece l)).flatten
/-- the places of the whole keys among k entries -/
def P (l : List Ent) (k : Nat) : List UInt8 := ((List.range k).map fun i => if i % 4 = 0 then Nm.long (E l i).length else []).flatten
theorem E_zero (l : List Ent) : E l 0 = [] := rfl
theorem P_zero (l : List Ent) : P l 0 = [] := rfl
theorem E_succ (l : List Ent) (k : Nat) : E l (k + 1) = E l k ++ piece l k := by unfold E; rw [List.range_succ, List.map_append, List.flatten_append]; simp
theorem P_yes {l : List Ent} {k : Nat} (h : k % 4 = 0) : P l (k + 1) = P l k ++ Nm.long (E l k).length := by unfold P; rw [List.range_succ, List.map_append, List.flatten_append]; simp [h]
theorem P_no {l : List Ent} {k : Nat} (h : k % 4 ≠ 0) : P l (k + 1) = P l k := by unfold P; rw [List.range_succ, List.map_append, List.flatten_append]; simp [h]
theorem piece_is {l : List Ent} {k : Nat} {x : Ent} (h : l[k]? = some x) : piece l k = encE (shr l k) x := by unfold piece; rw [h]
theorem keyAt_some {l : List Ent} {k : Nat} {x : Ent} (h : l[k]? = some x) : keyAt l k = x.key := by unfold keyAt; rw [h]; rfl
theorem shr_le {l : List Ent} {k : Nat} {x : Ent} (h : l[k]? = some x) : shr l k ≤ x.key.length := by
  unfold shr
  split
  · omega
  · rw [keyAt_some h]; exact (sh_le _ _).2
/-- the key that is ahead of the entry k -/
def pre (l : List Ent) (k : Nat) : List UInt8 := if k = 0 then [] else keyAt l (k - 1)
theorem pre_succ {l : List Ent} {k : Nat} {x : Ent} (h : l[k]? = some x) : pre l (k + 1) = x.key := by unfold pre; rw [if_neg (by omega), Nat.add_sub_cancel, keyAt_some h]
/-- what is shared, told by the key ahead -/
theorem shr_pre {l : List Ent} {k : Nat} {x : Ent} (h : l[k]? = some x) : shr l k = sh (if k % 4 = 0 then [] else pre l k) x.key := by
  unfold shr
  split
  · rename_i e; rw [sh_nil]
  · rename_i e
    rw [keyAt_some h]
    unfold pre
    rw [if_neg (by omega)]
theorem shr_take {l : List Ent} {k : Nat} {x : Ent} (h : l[k]? = some x) : shr l k ≤ (pre l k).length ∧ (pre l k).take (shr l k) = x.key.take (shr l k) := by
  rw [shr_pre h]
  split
  · rw [sh_nil]; simp
  · exact ⟨(sh_le _ _).1, sh_take _ _⟩
/-- is a row one of which a block is made? -/
def isB (l : List Ent) : Bool := decide (1 ≤ l.length) && decide (l.length ≤ 32) && l.all may && Mg.row l
theorem isB_iff {l : List Ent} : isB l = true ↔ 1 ≤ l.length ∧ l.length ≤ 32 ∧ (∀ x ∈ l, may x = true) ∧ Mg.row l = true := by
  unfold isB; simp [and_assoc]
def enc (l : List Ent) : List UInt8 := E l l.length ++ (P l l.length ++ Nm.long l.length)
def encS (l : List Ent) : List UInt8 := if isB l then enc l else []
def encC (l : List Ent) : Int := if isB l then 0 else 2
theorem enc_yes {l : List Ent} (h : isB l = true) : encS l = enc l ∧ encC l = 0 := by unfold encS encC; rw [h]; exact ⟨rfl, rfl⟩
theorem enc_no {l : List Ent} (h : isB l = false) : encS l = [] ∧ encC l = 2 := by unfold encS encC; rw [h]; exact ⟨rfl, rfl⟩
/-- at most so many bytes of a text, and what is left; none at all where there aren't so many -/
def pc (n : Nat) (R : List UInt8) : List UInt8 × List UInt8 := if n ≤ 100 ∧ n ≤ R.length then (R.take n, R.drop n) else ([], [])
def tx (R : List UInt8) : List UInt8 × List UInt8 := pc (Nm.takeN R) (Nm.takeR R)
/-- an entry that is read behind a key, and what is left -/
def rdE (A R : List UInt8) : Ent × List UInt8 :=
  let t := tx (Nm.takeR R)
  let m := pc 1 (Nm.takeR t.2)
  let v := tx m.2
  (⟨A.take (min (Nm.takeN R) A.length) ++ t.1, Nm.takeN t.2, decide (m.1 = [1]), v.1⟩, v.2)
def rd : Nat → List UInt8 → List UInt8 → List Ent
  | 0, _, _ => []
  | c + 1, A, R => (rdE A R).1 :: rd c (rdE A R).1.key (rdE A R).2
def count (s : List UInt8) : Nat := if s.length < 8 then 0 else if Nm.unl (s.drop (s.length - 8)) ≤ 32 then Nm.unl (s.drop (s.length - 8)) else 0
def read (s : List UInt8) : List Ent := rd (count s) [] s
def dec (s : List UInt8) : Option (List Ent) := if isB (read s) = true ∧ enc (read s) = s then some (read s) else none
theorem takeN_short {n : Nat} (h : n < 18446744073709551616) (s : List UInt8) : Nm.takeN (Nm.short n ++ s) = n ∧ Nm.takeR (Nm.short n ++ s) = s := by
  unfold Nm.takeN Nm.takeR; rw [Nm.take_short n s h]; exact ⟨rfl, rfl⟩
theorem tx_sized {t : List UInt8} (h : t.length ≤ 100) (r : List UInt8) : tx (Bt.sized t ++ r) = (t, r) := by
  unfold tx Bt.sized
  rw [List.append_assoc, (takeN_short (by omega) _).1, (takeN_short (by omega) _).2]
  unfold pc
  rw [if_pos ⟨h, by simp⟩]
  simp
theorem rdE_enc {A T : List UInt8} {n : Nat} {x : Ent} (hx : may x = true) (h1 : n ≤ A.length) (h2 : n ≤ x.key.length) (h3 : A.take n = x.key.take n) : rdE A (encE n x ++ T) = (x, T) := by
  obtain ⟨k1, k2, k3, k4, k5, k6⟩ := may_iff.1 hx
  have hk : (x.key.drop n).length ≤ 100 := by rw [List.length_drop]; omega
  unfold rdE encE
  simp only [List.append_assoc, List.cons_append]
  rw [(takeN_short (by omega) _).1, (takeN_short (by omega) _).2, tx_sized hk]
  simp only
  rw [(takeN_short (by omega) _).1, (takeN_short (by omega) _).2]
  have hp : pc 1 (mk x.del :: (Bt.sized x.val ++ T)) = ([mk x.del], Bt.sized x.val ++ T) := by unfold pc; rw [if_pos ⟨by omega, by simp⟩]; simp
  rw [hp]
  simp only
  rw [tx_sized k3]
  simp only
  rw [Nat.min_eq_left h1, h3, List.take_append_drop]
  obtain ⟨k, s, d, v⟩ := x
  cases d <;> simp [mk]
/-- the bytes of the entries from k on -/
def F (l : List Ent) : Nat → Nat → List UInt8
  | _, 0 => []
  | k, c + 1 => piece l k ++ F l (k + 1) c
theorem F_app (l : List Ent) : ∀ (c k : Nat), E l k ++ F l k c = E l (k + c)
  | 0, k => by simp [F]
  | c + 1, k => by rw [F, ← List.append_assoc, ← E_succ, F_app l c (k + 1), show k + 1 + c = k + (c + 1) by omega]
theorem F_all (l : List Ent) (c : Nat) : F l 0 c = E l c := by have := F_app l c 0; rw [E_zero, List.nil_append, Nat.zero_add] at this; exact this
theorem rd_enc {l : List Ent} (hl : ∀ x ∈ l, may x = true) (T : List UInt8) : ∀ (c k : Nat), k + c = l.length → rd c (pre l k) (F l k c ++ T) = l.drop k
  | 0, k, h => by rw [rd, List.drop_of_length_le (by omega)]
  | c + 1, k, h => by
    have hk : k < l.length := by omega
    have hx : l[k]? = some l[k] := List.getElem?_eq_getElem hk
    have hm : l[k] ∈ l := List.getElem_mem hk
    rw [List.drop_eq_getElem_cons hk]
    generalize l[k] = x at hx hm
    obtain ⟨s1, s2⟩ := shr_take hx
    rw [rd, F, piece_is hx, List.append_assoc, rdE_enc (hl x hm) s1 (shr_le hx) s2]
    simp only
    rw [← pre_succ hx, rd_enc hl T c (k + 1) (by omega)]
theorem count_enc {l : List Ent} (h : l.length ≤ 32) : count (enc l) = l.length := by
  have e8 := Nm.long_len l.length
  have hd : (enc l).drop ((enc l).length - 8) = Nm.long l.length := by
    unfold enc
    rw [← List.append_assoc]
    have : (E l l.length ++ P l l.length ++ Nm.long l.length).length - 8 = (E l l.length ++ P l l.length).length := by rw [List.length_append (as := E l l.length ++ P l l.length), e8]; omega
    rw [this, List.drop_left]
  unfold count
  rw [hd, Nm.unl_long _ (by omega), if_neg (by unfold enc; simp only [List.length_append]; omega), if_pos h]
theorem read_enc {l : List Ent} (h : isB l = true) : read (enc l) = l := by
  obtain ⟨h1, h2, h3, h4⟩ := isB_iff.1 h
  unfold read
  rw [count_enc h2]
  have := rd_enc h3 (P l l.length ++ Nm.long l.length) l.length 0 (by omega)
  rw [F_all] at this
  unfold enc
  simpa [pre] using this
theorem dec_enc {l : List Ent} (h : isB l = true) : dec (enc l) = some l := by
  unfold dec
  rw [read_enc h, if_pos ⟨h, rfl⟩]
theorem dec_back {s : List UInt8} {l : List Ent} (h : dec s = some l) : isB l = true ∧ enc l = s := by
  unfold dec at h
  split at h
  · rename_i hc
    injection h with h
    rw [← h]; exact hc
  · cases h
theorem dec_read {s : List UInt8} {l : List Ent} (h : dec s = some l) : read s = l := by
  unfold dec at h
  split at h
  · injection h
  · cases h
/-- whatever was read: it is told just if it has these bytes -/
theorem dec_none {s : List UInt8} {L : List Ent} (h : dec s = none) : ¬ (isB L = true ∧ enc L = s) := fun ⟨h1, h2⟩ => by
  rw [← h2, dec_enc h1] at h; cases h
theorem mem_rd : ∀ (c : Nat) (A R : List UInt8) (x : Ent), x ∈ rd c A R → x.key.length ≤ A.length + 100 * c ∧ x.val.length ≤ 100
  | 0, A, R, x, h => by simp [rd] at h
  | c + 1, A, R, x, h => by
    have hpc : ∀ n Q, (pc n Q).1.length ≤ 100 := fun n Q => by
      unfold pc
      split
      · rename_i h; simp; omega
      · simp
    have hk : (rdE A R).1.key.length ≤ A.length + 100 := by
      have := hpc (Nm.takeN (Nm.takeR R)) (Nm.takeR (Nm.takeR R))
      simp only [rdE, List.length_append, List.length_take]
      unfold tx
      omega
    rw [rd] at h
    rcases List.mem_cons.1 h with rfl | h
    · exact ⟨by omega, by simp only [rdE]; exact hpc _ _⟩
    · have := mem_rd c _ _ x h
      exact ⟨by omega, this.2⟩
theorem rd_len : ∀ (c : Nat) (A R : List UInt8), (rd c A R).length = c
  | 0, _, _ => rfl
  | c + 1, A, R => by simp [rd, rd_len c]
theorem count_le (s : List UInt8) : count s ≤ 32 := by
  unfold count
  split
  · omega
  · split <;> omega
theorem encE_len {n : Nat} {x : Ent} (hx : may x = true) (hn : n ≤ x.key.length) : (encE n x).length + n ≤ x.key.length + x.val.length + 10 ∧ x.key.length + x.val.length ≤ (encE n x).length + n := by
  obtain ⟨k1, k2, k3, k4, k5, k6⟩ := may_iff.1 hx
  have z1 : (Nm.short n).length = 1 := by rw [Nm.short_len _ (by omega), Nm.sz_small _ (by omega)]
  have z2 : (Nm.short (x.key.length - n)).length = 1 := by rw [Nm.short_len _ (by omega), Nm.sz_small _ (by omega)]
  have z3 : (Nm.short x.val.length).length = 1 := by rw [Nm.short_len _ (by omega), Nm.sz_small _ (by omega)]
  have z4 : (Nm.short x.seq).length ≤ 6 := by
    rw [Nm.short_len _ (by omega)]
    by_cases h1 : 128 ≤ x.seq
    · rw [Nm.sz_big _ h1]
      by_cases h2 : 128 ≤ x.seq / 128
      · rw [Nm.sz_big _ h2]
        by_cases h3 : 128 ≤ x.seq / 128 / 128
        · rw [Nm.sz_big _ h3]
          by_cases h4 : 128 ≤ x.seq / 128 / 128 / 128
          · rw [Nm.sz_big _ h4]
            by_cases h5 : 128 ≤ x.seq / 128 / 128 / 128 / 128
            · rw [Nm.sz_big _ h5, Nm.sz_small _ (by omega)]; omega
            · rw [Nm.sz_small _ (by omega)]; omega
          · rw [Nm.sz_small _ (by omega)]; omega
        · rw [Nm.sz_small _ (by omega)]; omega
      · rw [Nm.sz_small _ (by omega)]; omega
    · rw [Nm.sz_small _ (by omega)]; omega
  unfold encE Bt.sized
  simp only [List.length_append, List.length_cons, List.length_drop, z1, z2, z3]
  omega
theorem piece_len {l : List Ent} (h : ∀ x ∈ l, may x = true) (k : Nat) : (piece l k).length ≤ 210 := by
  unfold piece
  split
  · simp
  · rename_i x hx
    have hm := h x (List.mem_of_getElem? hx)
    have := (encE_len hm (shr_le hx)).1
    obtain ⟨k1, k2, k3, k4, k5, k6⟩ := may_iff.1 hm
    omega
theorem E_len {l : List Ent} (h : ∀ x ∈ l, may x = true) : ∀ (k : Nat), (E l k).length ≤ 210 * k
  | 0 => by simp [E]
  | k + 1 => by
    have := E_len h k
    have := piece_len h k
    rw [E_succ, List.length_append]; omega
theorem P_len (l : List Ent) : ∀ (k : Nat), (P l k).length = 8 * ((k + 3) / 4)
  | 0 => by simp [P]
  | k + 1 => by
    have := P_len l k
    by_cases h : k % 4 = 0
    · rw [P_yes h, List.length_append, Nm.long_len]; omega
    · rw [P_no h]; omega
theorem enc_len {l : List Ent} (h : isB l = true) : (enc l).length ≤ 7000 := by
  obtain ⟨h1, h2, h3, h4⟩ := isB_iff.1 h
  have e1 := E_len h3 l.length
  have e2 := P_len l l.length
  unfold enc
  simp only [List.length_append, Nm.long_len]
  omega
end Bk
end Go.Proofs.YtnnmalpnjlnnlaaGreat

/-
  Filters of keys in plain mathematics: a key's mix and bits, a filter as bytes, which bit is set in it, how many are.
-/
namespace Go.Proofs.YtnnmalpnjlnnlaaGreat
set_option linter.unusedVariables false
set_option maxRecDepth 100000
namespace Bm
def mul (m : Nat) (b : UInt8) : Nat := ((m ^^^ b.toNat) * 1099511628211) % 18446744073709551616
def mix (l : List UInt8) : Nat := l.foldl mul 14695981039346656037
def rot (x : Nat) : Nat := x / 131072 + (x % 131072) * 140737488355328
def sum (m i : Nat) : Nat := (m + i * rot m) % 18446744073709551616
def bits (k : List UInt8) (n : Nat) : List Nat := if n = 0 then [] else (List.range 4).map fun i => sum (mix k) i % n
def hasB (f : List UInt8) (c : Nat) : Bool := (f.getD (c / 8) 0).toNat.testBit (c % 8)
def setB (f : List UInt8) (c : Nat) : List UInt8 := f.set (c / 8) (f.getD (c / 8) 0 ||| UInt8.ofNat (2 ^ (c % 8)))
def fil (n : Nat) (bs : List Nat) : List UInt8 := bs.foldl setB (List.replicate n 0)
def all (ks : List (List UInt8)) (n : Nat) : List Nat := ks.flatMap fun k => bits k n
def made (ks : List (List UInt8)) : List UInt8 := fil (ks.length + 1) (all ks (8 * (ks.length + 1)))
def may (f k : List UInt8) : Bool := (bits k (8 * f.length)).all (hasB f)
def full (f : List UInt8) : Nat := (List.range (8 * f.length)).countP (hasB f)
def makeS (ks : List (List UInt8)) : List UInt8 := if ks.length ≤ 1000 then made ks else []
def makeE (ks : List (List UInt8)) : Int := if ks.length ≤ 1000 then 0 else 4

theorem mul_lt (m : Nat) (b : UInt8) : mul m b < 18446744073709551616 := Nat.mod_lt _ (by decide)
theorem mix_snoc (l : List UInt8) (b : UInt8) : mix (l ++ [b]) = mul (mix l) b := by unfold mix; rw [List.foldl_append, List.foldl_cons, List.foldl_nil]
theorem fold_lt (l : List UInt8) : ∀ m, m < 18446744073709551616 → l.foldl mul m < 18446744073709551616 := by
  induction l with
  | nil => intro m h; exact h
  | cons b l ih => intro m _; exact ih _ (mul_lt m b)
theorem mix_lt (l : List UInt8) : mix l < 18446744073709551616 := fold_lt l _ (by decide)
theorem rot_lt (x : Nat) (h : x < 18446744073709551616) : rot x < 18446744073709551616 := by unfold rot; omega
theorem sum_lt (m i : Nat) : sum m i < 18446744073709551616 := Nat.mod_lt _ (by decide)
theorem sum_zero (m : Nat) (h : m < 18446744073709551616) : sum m 0 = m := by unfold sum; omega
theorem sum_succ (m i : Nat) : sum m (i + 1) = (sum m i + rot m) % 18446744073709551616 := by
  unfold sum
  have : (i + 1) * rot m = i * rot m + rot m := by rw [Nat.add_mul, Nat.one_mul]
  rw [this]
  generalize i * rot m = X
  omega
theorem rot_or (x : Nat) (h : x < 18446744073709551616) : (x * 140737488355328 % 18446744073709551616) ||| (x / 131072) = rot x := by
  have e : x * 140737488355328 % 18446744073709551616 = 2 ^ 47 * (x % 131072) := by
    show _ = 140737488355328 * (x % 131072)
    omega
  rw [e, ← Nat.two_pow_add_eq_or_of_lt (by show x / 131072 < 140737488355328; omega)]
  show 140737488355328 * (x % 131072) + x / 131072 = rot x
  unfold rot; omega
theorem bits_len (k : List UInt8) (n : Nat) : (bits k n).length = if n = 0 then 0 else 4 := by unfold bits; split <;> simp
theorem bits_lt (k : List UInt8) (n : Nat) : ∀ c ∈ bits k n, c < n := by
  unfold bits
  split
  · intro c h; cases h
  · intro c h
    rw [List.mem_map] at h
    obtain ⟨i, _, rfl⟩ := h
    exact Nat.mod_lt _ (by omega)
theorem set_len (f : List UInt8) (c : Nat) : (setB f c).length = f.length := by unfold setB; simp
theorem pow_byte (k : Nat) (h : k < 8) : (UInt8.ofNat (2 ^ k)).toNat = 2 ^ k := by
  have : ∀ k : Fin 8, (UInt8.ofNat (2 ^ k.val)).toNat = 2 ^ k.val := by decide
  exact this ⟨k, h⟩
theorem has_set (f : List UInt8) (b c : Nat) (hb : b / 8 < f.length) : hasB (setB f b) c = (hasB f c || decide (c = b)) := by
  unfold hasB setB
  by_cases h : c / 8 = b / 8
  · rw [h]
    have e : (f.set (b / 8) (f.getD (b / 8) 0 ||| UInt8.ofNat (2 ^ (b % 8)))).getD (b / 8) 0 = f.getD (b / 8) 0 ||| UInt8.ofNat (2 ^ (b % 8)) := by
      rw [List.getD_eq_getElem?_getD, List.getElem?_set_self hb]; rfl
    rw [e, UInt8.toNat_or, Nat.testBit_or, pow_byte _ (by omega), Nat.testBit_two_pow]
    congr 1
    by_cases h2 : b % 8 = c % 8
    · rw [decide_eq_true h2, decide_eq_true (by omega)]
    · rw [decide_eq_false h2, decide_eq_false (by omega)]
  · have e : (f.set (b / 8) (f.getD (b / 8) 0 ||| UInt8.ofNat (2 ^ (b % 8)))).getD (c / 8) 0 = f.getD (c / 8) 0 := by
      rw [List.getD_eq_getElem?_getD, List.getElem?_set_ne (by omega), ← List.getD_eq_getElem?_getD]
    rw [e, decide_eq_false (by omega), Bool.or_false]
theorem has_none (n c : Nat) : hasB (List.replicate n 0) c = false := by
  unfold hasB
  have : (List.replicate n (0 : UInt8)).getD (c / 8) 0 = 0 := by
    rw [List.getD_eq_getElem?_getD, List.getElem?_replicate]; split <;> rfl
  rw [this]; simp
theorem has_out (f : List UInt8) (c : Nat) (h : 8 * f.length ≤ c) : hasB f c = false := by
  unfold hasB
  have : f.getD (c / 8) 0 = 0 := by
    rw [List.getD_eq_getElem?_getD, List.getElem?_eq_none (by omega)]; rfl
  rw [this]; simp
theorem fold_len (bs : List Nat) : ∀ f : List UInt8, (bs.foldl setB f).length = f.length := by
  induction bs with
  | nil => intro f; rfl
  | cons b bs ih => intro f; rw [List.foldl_cons, ih, set_len]
theorem fold_has (bs : List Nat) : ∀ f : List UInt8, (∀ b ∈ bs, b < 8 * f.length) → ∀ c, hasB (bs.foldl setB f) c = (hasB f c || decide (c ∈ bs)) := by
  induction bs with
  | nil => intro f _ c; simp
  | cons b bs ih =>
    intro f h c
    have hb := h b (by simp)
    rw [List.foldl_cons, ih _ (by rw [set_len]; exact fun x hx => h x (by simp [hx])) c, has_set f b c (by omega), Bool.or_assoc]
    congr 1
    by_cases h1 : c = b <;> by_cases h2 : c ∈ bs <;> simp [h1, h2]
theorem fil_len (n : Nat) (bs : List Nat) : (fil n bs).length = n := by unfold fil; rw [fold_len]; simp
theorem fil_has (n : Nat) (bs : List Nat) (h : ∀ b ∈ bs, b < 8 * n) (c : Nat) : hasB (fil n bs) c = decide (c ∈ bs) := by
  unfold fil
  rw [fold_has _ _ (by simpa using h), has_none, Bool.false_or]
theorem fil_snoc (n : Nat) (bs : List Nat) (b : Nat) : fil n (bs ++ [b]) = setB (fil n bs) b := by unfold fil; simp
theorem all_lt (ks : List (List UInt8)) (n : Nat) : ∀ c ∈ all ks n, c < n := by
  intro c h
  unfold all at h
  rw [List.mem_flatMap] at h
  obtain ⟨k, _, hk⟩ := h
  exact bits_lt k n c hk
theorem all_mem {ks : List (List UInt8)} {n c : Nat} : c ∈ all ks n ↔ ∃ k, k ∈ ks ∧ c ∈ bits k n := by unfold all; rw [List.mem_flatMap]
theorem all_snoc (ks : List (List UInt8)) (k : List UInt8) (n : Nat) : all (ks ++ [k]) n = all ks n ++ bits k n := by unfold all; simp
theorem made_len (ks : List (List UInt8)) : (made ks).length = ks.length + 1 := fil_len _ _
theorem made_has (ks : List (List UInt8)) (c : Nat) : hasB (made ks) c = decide (c ∈ all ks (8 * (ks.length + 1))) := fil_has _ _ (all_lt _ _) c
theorem byte_ext (a b : UInt8) (h : ∀ k, k < 8 → a.toNat.testBit k = b.toNat.testBit k) : a = b := by
  refine UInt8.toNat_inj.1 (Nat.eq_of_testBit_eq fun k => ?_)
  by_cases hk : k < 8
  · exact h k hk
  · have ha : a.toNat < 2 ^ k := Nat.lt_of_lt_of_le a.toNat_lt (Nat.pow_le_pow_right (by decide) (by omega) : 2 ^ 8 ≤ 2 ^ k)
    have hb : b.toNat < 2 ^ k := Nat.lt_of_lt_of_le b.toNat_lt (Nat.pow_le_pow_right (by decide) (by omega) : 2 ^ 8 ≤ 2 ^ k)
    rw [Nat.testBit_lt_two_pow ha, Nat.testBit_lt_two_pow hb]
theorem ext {f g : List UInt8} (hl : f.length = g.length) (h : ∀ c, c < 8 * f.length → hasB f c = hasB g c) : f = g := by
  refine List.ext_getElem hl fun i h1 h2 => byte_ext _ _ fun k hk => ?_
  have := h (8 * i + k) (by omega)
  unfold hasB at this
  rw [show (8 * i + k) / 8 = i by omega, show (8 * i + k) % 8 = k by omega, List.getD_eq_getElem?_getD, List.getD_eq_getElem?_getD, List.getElem?_eq_getElem h1, List.getElem?_eq_getElem h2] at this
  exact this
theorem has_take (f : List UInt8) (n c : Nat) (h : c < 8 * n) : hasB (f.take n) c = hasB f c := by
  unfold hasB
  rw [List.getD_eq_getElem?_getD, List.getD_eq_getElem?_getD, List.getElem?_take, if_pos (by omega)]
theorem fil_take (m n : Nat) (bs : List Nat) (hm : n ≤ m) (h : ∀ b ∈ bs, b < 8 * n) : (fil m bs).take n = fil n bs := by
  refine ext (by rw [List.length_take, fil_len, fil_len]; omega) fun c hc => ?_
  rw [List.length_take, fil_len] at hc
  rw [has_take _ _ _ (by omega), fil_has m bs (fun b hb => by have := h b hb; omega), fil_has n bs h]
/-- of each key of which a filter is made it is told that it may be -/
theorem made_may {ks : List (List UInt8)} {k : List UInt8} (h : k ∈ ks) : may (made ks) k = true := by
  unfold may
  rw [List.all_eq_true, made_len]
  intro c hc
  rw [made_has, decide_eq_true (all_mem.2 ⟨k, h, hc⟩)]
/-- the same keys, in what order ever -/
theorem made_same {ks js : List (List UInt8)} (hl : ks.length = js.length) (h : ∀ k, k ∈ ks ↔ k ∈ js) : made ks = made js := by
  refine ext (by rw [made_len, made_len, hl]) fun c _ => ?_
  rw [made_has, made_has, hl]
  congr 1
  refine propext ⟨fun hc => ?_, fun hc => ?_⟩
  · obtain ⟨k, hk, hb⟩ := all_mem.1 hc
    exact all_mem.2 ⟨k, (h k).1 hk, hb⟩
  · obtain ⟨k, hk, hb⟩ := all_mem.1 hc
    exact all_mem.2 ⟨k, (h k).2 hk, hb⟩
theorem cnt_more (p : Nat → Bool) (a : Nat) : ∀ L : List Nat, L.Nodup → L.countP (fun c => p c || decide (c = a)) = L.countP p + (if a ∈ L ∧ p a = false then 1 else 0) := by
  intro L
  induction L with
  | nil => intro _; simp
  | cons x L ih =>
    intro hn
    rw [List.nodup_cons] at hn
    rw [List.countP_cons, List.countP_cons, ih hn.2]
    by_cases hx : x = a
    · subst hx
      have : ¬ (x ∈ L ∧ p x = false) := fun h => hn.1 h.1
      rw [if_neg this]
      cases p x <;> simp
    · rw [decide_eq_false hx, Bool.or_false]
      by_cases h2 : a ∈ L ∧ p a = false
      · have h3 : a ∈ x :: L ∧ p a = false := ⟨List.mem_cons_of_mem _ h2.1, h2.2⟩
        rw [if_pos h2, if_pos h3]; omega
      · have h3 : ¬ (a ∈ x :: L ∧ p a = false) := fun h => h2 ⟨by
          rcases List.mem_cons.1 h.1 with e | e
          · exact absurd e.symm hx
          · exact e, h.2⟩
        rw [if_neg h2, if_neg h3]; omega
theorem full_set (f : List UInt8) (b : Nat) (hb : b < 8 * f.length) : full (setB f b) = full f + (if hasB f b = true then 0 else 1) := by
  unfold full
  rw [set_len]
  have e : (List.range (8 * f.length)).countP (hasB (setB f b)) = (List.range (8 * f.length)).countP (fun c => hasB f c || decide (c = b)) := by
    congr 1; funext c; exact has_set f b c (by omega)
  rw [e, cnt_more _ _ _ List.nodup_range]
  congr 1
  cases hasB f b <;> simp [hb]
theorem full_none (n : Nat) : full (List.replicate n 0) = 0 := by
  unfold full
  rw [List.countP_eq_zero]
  intro c _
  rw [has_none]; decide
theorem full_fil (n : Nat) : ∀ (bs : List Nat), (∀ b ∈ bs, b < 8 * n) → full (fil n bs) ≤ bs.length := by
  intro bs
  have : ∀ (bs : List Nat) (f : List UInt8), (∀ b ∈ bs, b < 8 * f.length) → full (bs.foldl setB f) ≤ full f + bs.length := by
    intro bs
    induction bs with
    | nil => intro f _; exact Nat.le_refl _
    | cons b bs ih =>
      intro f h
      rw [List.foldl_cons]
      have h1 := ih (setB f b) (by rw [set_len]; exact fun x hx => h x (by simp [hx]))
      have h2 := full_set f b (h b (by simp))
      rw [List.length_cons]
      split at h2 <;> omega
  intro h
  have h1 := this bs (List.replicate n 0) (by simpa using h)
  rw [full_none] at h1
  unfold fil; omega
theorem full_pos (f : List UInt8) (c : Nat) (hc : c < 8 * f.length) (h : hasB f c = true) : 0 < full f := by
  unfold full
  rw [List.countP_pos_iff]
  exact ⟨c, List.mem_range.2 hc, h⟩
theorem all_len (ks : List (List UInt8)) (n : Nat) : (all ks n).length ≤ 4 * ks.length := by
  induction ks with
  | nil => simp [all]
  | cons k ks ih =>
    have e : all (k :: ks) n = bits k n ++ all ks n := by simp [all]
    rw [e, List.length_append, bits_len, List.length_cons]
    split <;> omega
theorem made_full (ks : List (List UInt8)) : full (made ks) ≤ 4 * ks.length := by
  have h1 := full_fil (ks.length + 1) (all ks (8 * (ks.length + 1))) (all_lt _ _)
  have h2 := all_len ks (8 * (ks.length + 1))
  unfold made; omega
theorem made_zero (ks : List (List UInt8)) : (full (made ks) = 0) = (ks = []) := by
  refine propext ⟨fun h => ?_, fun h => ?_⟩
  · cases ks with
    | nil => rfl
    | cons k ks =>
      exfalso
      have hm : sum (mix k) 0 % (8 * ((k :: ks).length + 1)) ∈ bits k (8 * ((k :: ks).length + 1)) := by
        unfold bits
        rw [if_neg (by omega), List.mem_map]
        exact ⟨0, by simp, rfl⟩
      have := full_pos (made (k :: ks)) (sum (mix k) 0 % (8 * ((k :: ks).length + 1))) (by rw [made_len]; exact Nat.mod_lt _ (by omega)) (by
        rw [made_has, decide_eq_true]
        exact all_mem.2 ⟨k, by simp, hm⟩)
      omega
  · subst h
    have := made_full []
    simpa using this
/-- how many bits a byte has set -/
def pc (b : UInt8) : Nat := (List.range 8).countP fun k => b.toNat.testBit k
theorem full_snoc (f : List UInt8) (b : UInt8) : full (f ++ [b]) = full f + pc b := by
  unfold full
  have e : 8 * (f ++ [b]).length = 8 * f.length + 8 := by simp; omega
  rw [e, List.range_add, List.countP_append, List.countP_map]
  congr 1
  · refine List.countP_congr fun c hc => ?_
    have := List.mem_range.1 hc
    unfold hasB
    rw [List.getD_eq_getElem?_getD, List.getD_eq_getElem?_getD, List.getElem?_append_left (by omega)]
  · unfold pc
    refine List.countP_congr fun c hc => ?_
    have := List.mem_range.1 hc
    unfold hasB
    rw [Function.comp, show (8 * f.length + c) / 8 = f.length by omega, show (8 * f.length + c) % 8 = c by omega, List.getD_eq_getElem?_getD, List.getElem?_append_right (by omega)]
    simp
theorem full_nil : full [] = 0 := rfl
theorem full_le (f : List UInt8) : full f ≤ 8 * f.length := by
  unfold full
  have := List.countP_le_length (p := hasB f) (l := List.range (8 * f.length))
  simpa using this
/-- more bits set -/
theorem may_more {f g k : List UInt8} (hl : f.length = g.length) (h : ∀ c, hasB f c = true → hasB g c = true) (hm : may f k = true) : may g k = true := by
  unfold may at *
  rw [List.all_eq_true] at *
  rw [← hl]
  exact fun c hc => h c (hm c hc)
theorem full_more {f g : List UInt8} (hl : f.length = g.length) (h : ∀ c, hasB f c = true → hasB g c = true) : full f ≤ full g := by
  unfold full
  rw [hl]
  exact List.countP_mono_left fun c _ hc => h c hc
end Bm
end Go.Proofs.YtnnmalpnjlnnlaaGreat

