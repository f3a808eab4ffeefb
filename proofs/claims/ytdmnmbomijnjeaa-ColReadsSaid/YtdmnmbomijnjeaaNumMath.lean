/-
  The plain mathematics of numbers as bytes (short, long, falling bytes; signed numbers as unsigned ones; how many bits): no program is named here.
-/
import Derived.WalkKit
namespace Go.Proofs.Ytdmnmbomijnjeaa
open Go.RowKit
namespace Nm

theorem xor_ones (x : Nat) (h : x < 18446744073709551616) : 18446744073709551615 ^^^ x = 18446744073709551615 - x := by
  have e : (BitVec.allOnes 64 ^^^ BitVec.ofNat 64 x).toNat = 2 ^ 64 - 1 - x := by
    rw [BitVec.allOnes_xor, BitVec.toNat_not, BitVec.toNat_ofNat, Nat.mod_eq_of_lt h]
  rw [BitVec.toNat_xor, BitVec.toNat_allOnes, BitVec.toNat_ofNat, Nat.mod_eq_of_lt h] at e
  exact e
theorem b_notu (x : Int) (h0 : 0 ≤ x) (h1 : x ≤ 18446744073709551615) : bits BinOp.xor IntKind.u64 IntKind.u64.max x = 18446744073709551615 - x := by
  have e : IntKind.u64.max = 18446744073709551615 := by decide
  rw [e, u64_xor _ _ (by omega) (by omega) h0 (by omega)]
  have : (18446744073709551615 : Int).toNat = 18446744073709551615 := rfl
  rw [this, xor_ones _ (by omega)]; omega
theorem b_noti (x : Int) (h0 : -9223372036854775808 ≤ x) (h1 : x ≤ 9223372036854775807) : bits BinOp.xor IntKind.i64 (-1) x = - x - 1 := by
  show IntKind.i64.wrap ((BitVec.ofInt 64 (-1) ^^^ BitVec.ofInt 64 x).toNat : Int) = _
  have e : BitVec.ofInt 64 (-1) = BitVec.allOnes 64 := by decide
  rw [e, BitVec.allOnes_xor, BitVec.toNat_not, BitVec.toNat_ofInt]
  have e3 : (x % ((2 ^ 64 : Nat) : Int)) = x % 18446744073709551616 := rfl
  rw [e3]
  have e4 : (2 ^ 64 - 1 : Nat) = 18446744073709551615 := rfl
  rw [e4, IntKind.wrap_i64]
  omega
theorem nat_or1 (x : Nat) : x ||| 1 = x / 2 * 2 + 1 := by
  rcases Nat.mod_two_eq_zero_or_one x with h | h
  · rw [nat_join 1 x 1 (by omega) (by omega)]; omega
  · have e : x = (x - 1) ||| 1 := by rw [nat_join 1 (x - 1) 1 (by omega) (by omega)]; omega
    rw [e, Nat.or_assoc, Nat.or_self, ← e]; omega
theorem b_and1 (x : Int) (h0 : 0 ≤ x) (h1 : x ≤ 18446744073709551615) : bits BinOp.and IntKind.u64 x 1 = x % 2 := by go_bits2
theorem b_or1 (x : Int) (h0 : 0 ≤ x) (h1 : x ≤ 18446744073709551615) : bits BinOp.or IntKind.u64 x 1 = x / 2 * 2 + 1 := by
  rw [u64_or _ _ h0 (by omega) (by omega) (by omega)]
  rw [show (1 : Int).toNat = 1 from rfl, nat_or1]; omega
theorem b_or128 (x : Int) (h0 : 0 ≤ x) (h1 : x ≤ 255) : bits BinOp.or IntKind.u8 x 128 = x % 128 + 128 := by
  have H : ∀ n : Fin 256, bits BinOp.or IntKind.u8 (n.val : Int) 128 = (n.val : Int) % 128 + 128 := by decide +kernel
  have := H ⟨x.toNat, by omega⟩
  simpa [Int.toNat_of_nonneg h0] using this
theorem b_not128 (x : Int) (h0 : 0 ≤ x) (h1 : x ≤ 255) : bits BinOp.andNot IntKind.u8 x 128 = x % 128 := by go_bits2
theorem b_and128 (x : Int) (h0 : 0 ≤ x) (h1 : x ≤ 255) : bits BinOp.and IntKind.u8 x 128 = x / 128 * 128 := by go_bits2
theorem b_or8 (x y : Int) (h0 : 0 ≤ x) (h1 : x ≤ 72057594037927935) (h2 : 0 ≤ y) (h3 : y ≤ 255) : bits BinOp.or IntKind.u64 (x * 256) y = x * 256 + y := by go_bits2

/-! short bytes -/
def shortA : Nat → Nat → List UInt8
  | 0, _ => []
  | f + 1, n => if n < 128 then [n.toUInt8] else (n % 128 + 128).toUInt8 :: shortA f (n / 128)
def short (n : Nat) : List UInt8 := shortA 10 n
/-- how many short bytes -/
def sz (n : Nat) : Nat := (bitLen (n / 2 * 2 + 1) + 6) / 7

theorem bitLen_half (x : Nat) (h : x ≠ 0) : bitLen x = 1 + bitLen (x / 2) := by
  by_cases h2 : x / 2 = 0
  · have : x = 1 := by omega
    subst this; decide
  · exact bitLen_shift x 1 (by simpa using h2)
theorem bitLen_odd (n : Nat) : bitLen (n / 2 * 2 + 1) = max (bitLen n) 1 := by
  rw [bitLen_half _ (by omega), show (n / 2 * 2 + 1) / 2 = n / 2 from by omega]
  by_cases h : n = 0
  · subst h; decide
  · rw [bitLen_half n h]; omega
theorem bitLen_le64 (n : Nat) (h : n < 18446744073709551616) : bitLen n ≤ 64 := by
  by_cases h0 : n = 0
  · subst h0; decide
  · have := (bitLen_spec n).2 h0
    rcases Nat.lt_or_ge 64 (bitLen n) with h1 | h1
    · have : 2 ^ 64 ≤ 2 ^ (bitLen n - 1) := Nat.pow_le_pow_right (by omega) (by omega)
      omega
    · exact h1
theorem bitLen_128 (n : Nat) (h : 128 ≤ n) : bitLen n = 7 + bitLen (n / 128) := bitLen_shift n 7 (by show n / 128 ≠ 0; omega)
theorem bitLen_pos (n : Nat) (h : n ≠ 0) : 1 ≤ bitLen n := by rw [bitLen_half n h]; omega
theorem bitLen_lt128 (n : Nat) (h : n < 128) : bitLen n ≤ 7 := by
  have H : ∀ i : Fin 128, bitLen i.val ≤ 7 := by decide +kernel
  exact H ⟨n, h⟩
theorem sz_max (n : Nat) : sz n = max ((bitLen n + 6) / 7) 1 := by unfold sz; rw [bitLen_odd]; omega
theorem sz_small (n : Nat) (h : n < 128) : sz n = 1 := by
  rw [sz_max]; have := bitLen_lt128 n h; omega
theorem sz_big (n : Nat) (h : 128 ≤ n) : sz n = 1 + sz (n / 128) := by
  rw [sz_max, sz_max, bitLen_128 n h]; have := bitLen_pos (n / 128) (by omega); omega
theorem sz_le (n : Nat) (h : n < 18446744073709551616) : 1 ≤ sz n ∧ sz n ≤ 10 := by
  rw [sz_max]; have := bitLen_le64 n h; omega
theorem shortA_len : ∀ (f n : Nat), sz n ≤ f → (shortA f n).length = sz n
  | 0, n, h => by rw [sz_max] at h; omega
  | f + 1, n, h => by
    unfold shortA
    split
    · rw [sz_small n ‹_›]; rfl
    · rw [sz_big n (by omega)] at h ⊢
      simp only [List.length_cons]
      rw [shortA_len f (n / 128) (by omega)]; omega
theorem short_len (n : Nat) (h : n < 18446744073709551616) : (short n).length = sz n := shortA_len 10 n (sz_le n h).2
/-- byte i of the short bytes -/
def shortAt (n i : Nat) : Nat := if i + 1 < sz n then n / 128 ^ i % 128 + 128 else n / 128 ^ i % 128
theorem shortA_at : ∀ (f n i : Nat), sz n ≤ f → i < sz n → (shortA f n)[i]? = some (shortAt n i).toUInt8
  | 0, n, i, h, _ => by rw [sz_max] at h; omega
  | f + 1, n, i, h, hi => by
    unfold shortA
    split
    · rename_i hn
      have h1 := sz_small n hn
      have : i = 0 := by omega
      subst this
      unfold shortAt; rw [h1]; simp [Nat.mod_eq_of_lt hn]
    · have h1 := sz_big n (by omega)
      cases i with
      | zero => unfold shortAt; rw [if_pos (by have := sz_max (n / 128); omega)]; simp
      | succ j =>
        rw [List.getElem?_cons_succ, shortA_at f (n / 128) j (by omega) (by omega)]
        unfold shortAt
        have e : n / 128 / 128 ^ j = n / 128 ^ (j + 1) := by rw [Nat.div_div_eq_div_mul, Nat.pow_succ, Nat.mul_comm]
        rw [e, h1]
        by_cases hj : j + 1 < sz (n / 128)
        · rw [if_pos hj, if_pos (by omega)]
        · rw [if_neg hj, if_neg (by omega)]
theorem short_at (n i : Nat) (h : n < 18446744073709551616) (hi : i < sz n) : (short n)[i]? = some (shortAt n i).toUInt8 :=
  shortA_at 10 n i (sz_le n h).2 hi

/-! taking -/
def takeL : Nat → Nat → Nat → List UInt8 → Option (Nat × List UInt8)
  | 0, _, _, _ => none
  | _ + 1, _, _, [] => none
  | f + 1, i, acc, c :: r =>
    if 128 ≤ c.toNat then takeL f (i + 1) (acc + c.toNat % 128 * 128 ^ i) r
    else if (0 < i ∧ c.toNat = 0) ∨ (i = 9 ∧ 1 < c.toNat) then none else some (acc + c.toNat % 128 * 128 ^ i, r)
def take (l : List UInt8) : Option (Nat × List UInt8) := takeL 10 0 0 l
def takeN (l : List UInt8) : Nat := ((take l).getD (0, [])).1
def takeR (l : List UInt8) : List UInt8 := ((take l).getD (0, [])).2
def takeB (l : List UInt8) : Bool := (take l).isSome

theorem u8_of (n : Nat) (h : n < 256) : n.toUInt8.toNat = n := by
  show n % 256 = n; omega
theorem u8_back (c : UInt8) : c.toNat.toUInt8 = c := by
  apply UInt8.toNat.inj; exact u8_of _ c.toNat_lt

theorem takeL_short : ∀ (f i m acc : Nat) (s : List UInt8), f + i = 10 → sz m ≤ f → m < 2 ^ (64 - 7 * i) → (0 < i → 0 < m) →
    takeL f i acc (shortA f m ++ s) = some (acc + m * 128 ^ i, s)
  | 0, i, m, acc, s, _, h, _, _ => by rw [sz_max] at h; omega
  | f + 1, i, m, acc, s, hf, h, hm, hp => by
    unfold shortA
    split
    · rename_i hn
      have e := u8_of m (by omega)
      simp only [List.cons_append, List.nil_append, takeL, e]
      rw [if_neg (by omega), if_neg, Nat.mod_eq_of_lt hn]
      rintro (⟨h1, h2⟩ | ⟨h1, h2⟩)
      · have := hp h1; omega
      · subst h1; omega
    · rename_i hn
      have e := u8_of (m % 128 + 128) (by omega)
      have h1 := sz_big m (by omega)
      simp only [List.cons_append, takeL, e]
      rw [if_pos (by omega)]
      have hi : i + 1 ≤ 9 := by
        rcases Nat.lt_or_ge i 9 with h9 | h9
        · omega
        · have : i = 9 := by omega
          subst this; omega
      have hm2 : m / 128 < 2 ^ (64 - 7 * (i + 1)) := by
        rw [Nat.div_lt_iff_lt_mul (by omega), show 128 = 2 ^ 7 from rfl, ← Nat.pow_add]
        rw [show 64 - 7 * (i + 1) + 7 = 64 - 7 * i from by omega]; exact hm
      rw [takeL_short f (i + 1) (m / 128) _ s (by omega) (by omega) hm2 (by omega)]
      congr 2
      rw [Nat.pow_succ]
      have : (m % 128 + 128) % 128 = m % 128 := by omega
      rw [this, Nat.add_assoc]
      congr 1
      have e3 : m = m % 128 + 128 * (m / 128) := by omega
      rw [show m / 128 * (128 ^ i * 128) = 128 * (m / 128) * 128 ^ i from by
        rw [Nat.mul_comm (128 ^ i) 128, ← Nat.mul_assoc, Nat.mul_comm (m / 128) 128], ← Nat.add_mul, ← e3]
theorem take_short (n : Nat) (s : List UInt8) (h : n < 18446744073709551616) : take (short n ++ s) = some (n, s) := by
  have := takeL_short 10 0 n 0 s rfl (sz_le n h).2 (by simpa using h) (by omega)
  simpa [take, short] using this
theorem takeL_back : ∀ (f i acc : Nat) (l : List UInt8) (n : Nat) (r : List UInt8), f + i = 10 → takeL f i acc l = some (n, r) →
    ∃ m, n = acc + m * 128 ^ i ∧ l = shortA f m ++ r ∧ sz m ≤ f ∧ m < 2 ^ (64 - 7 * i) ∧ (0 < i → 0 < m)
  | 0, _, _, _, _, _, _, h => by simp [takeL] at h
  | _ + 1, _, _, [], _, _, _, h => by simp [takeL] at h
  | f + 1, i, acc, c :: t, n, r, hf, h => by
    have hc := c.toNat_lt
    simp only [takeL] at h
    split at h
    · rename_i h1
      obtain ⟨m, e1, e2, e3, e4, e5⟩ := takeL_back f (i + 1) _ t n r (by omega) h
      have hm := e5 (by omega)
      have hfi : i + 1 ≤ 9 := by
        rcases Nat.lt_or_ge i 9 with h9 | h9
        · omega
        · have : f = 0 := by omega
          subst this; simp [takeL] at h
      refine ⟨c.toNat % 128 + 128 * m, ?_, ?_, ?_, ?_, fun _ => by omega⟩
      · rw [e1, Nat.pow_succ, Nat.add_mul, Nat.add_assoc]
        congr 2
        rw [Nat.mul_comm (128 ^ i) 128, ← Nat.mul_assoc, Nat.mul_comm m 128]
      · unfold shortA
        rw [if_neg (by omega)]
        have a1 : (c.toNat % 128 + 128 * m) % 128 + 128 = c.toNat := by omega
        have a2 : (c.toNat % 128 + 128 * m) / 128 = m := by omega
        rw [a1, a2, u8_back, e2]; rfl
      · rw [sz_big _ (by omega), show (c.toNat % 128 + 128 * m) / 128 = m from by omega]; omega
      · have : 2 ^ (64 - 7 * i) = 2 ^ (64 - 7 * (i + 1)) * 128 := by
          rw [show 64 - 7 * i = 64 - 7 * (i + 1) + 7 from by omega, Nat.pow_add]
        omega
    · rename_i h1
      split at h
      · simp at h
      · rename_i h2
        simp only [Option.some.injEq, Prod.mk.injEq] at h
        obtain ⟨rfl, rfl⟩ := h
        refine ⟨c.toNat, ?_, ?_, ?_, ?_, fun h0 => ?_⟩
        · rw [Nat.mod_eq_of_lt (by omega)]
        · unfold shortA; rw [if_pos (by omega), u8_back]; rfl
        · rw [sz_small _ (by omega)]; omega
        · rcases Nat.lt_or_ge i 9 with h9 | h9
          · have : 2 ^ 8 ≤ 2 ^ (64 - 7 * i) := Nat.pow_le_pow_right (by omega) (by omega)
            omega
          · have : i = 9 := by omega
            subst this
            omega
        · omega
theorem take_back (l : List UInt8) (n : Nat) (r : List UInt8) (h : take l = some (n, r)) : l = short n ++ r ∧ n < 18446744073709551616 := by
  obtain ⟨m, e1, e2, _, e4, _⟩ := takeL_back 10 0 0 l n r rfl h
  simp at e1
  subst e1
  exact ⟨e2, by simpa using e4⟩

/-- the number of the sevens -/
def val : List UInt8 → Nat
  | [] => 0
  | c :: r => c.toNat % 128 + 128 * val r
theorem val_snoc : ∀ (l : List UInt8) (c : UInt8), val (l ++ [c]) = val l + c.toNat % 128 * 128 ^ l.length
  | [], c => by simp [val]
  | a :: l, c => by
    simp only [List.cons_append, val, List.length_cons, val_snoc l c, Nat.pow_succ]
    rw [Nat.mul_add, Nat.add_assoc]
    congr 2
    rw [Nat.mul_comm (128 ^ l.length) 128, ← Nat.mul_assoc, ← Nat.mul_assoc, Nat.mul_comm 128 (c.toNat % 128)]
theorem val_lt : ∀ (l : List UInt8), val l < 128 ^ l.length
  | [] => by simp [val]
  | a :: l => by
    have := val_lt l
    simp only [val, List.length_cons, Nat.pow_succ]; omega
/-- the first k bytes all say that there are more -/
def More (l : List UInt8) (k : Nat) : Prop := k ≤ l.length ∧ ∀ j, j < k → 128 ≤ (l.getD j 0).toNat
theorem More.zero (l : List UInt8) : More l 0 := ⟨Nat.zero_le _, fun _ h => by omega⟩
theorem More.next {l : List UInt8} {k : Nat} (h : More l k) (hk : k < l.length) (hc : 128 ≤ (l.getD k 0).toNat) : More l (k + 1) :=
  ⟨hk, fun j hj => by
    rcases Nat.lt_or_ge j k with h1 | h1
    · exact h.2 j h1
    · have : j = k := by omega
      subst this; exact hc⟩
theorem take_snoc' (l : List UInt8) (k : Nat) (h : k < l.length) : l.take (k + 1) = l.take k ++ [l.getD k 0] := by
  rw [List.take_succ_eq_append_getElem h]; congr 1; rw [List.getD_eq_getElem?_getD, List.getElem?_eq_getElem h]; rfl
theorem More.take {l : List UInt8} : ∀ {k : Nat}, More l k → k ≤ 10 → ∀ r, Nm.take (l.take k ++ r) = takeL (10 - k) k (val (l.take k)) r
  | 0, _, _, r => by simp [Nm.take, val]
  | k + 1, h, hk, r => by
    have h1 : More l k := ⟨by have := h.1; omega, fun j hj => h.2 j (by omega)⟩
    have hl := h.1
    have hc := h.2 k (by omega)
    rw [take_snoc' l k (by omega), List.append_assoc, More.take h1 (by omega)]
    rw [show 10 - k = (10 - (k + 1)) + 1 from by omega]
    simp only [List.cons_append, List.nil_append, takeL]
    rw [if_pos hc, val_snoc, List.length_take_of_le (by omega)]
theorem More.takeAll {l : List UInt8} {k : Nat} (h : More l k) (hk : k ≤ 10) : Nm.take l = takeL (10 - k) k (val (l.take k)) (l.drop k) := by
  rw [← More.take h hk, List.take_append_drop]
theorem More.nothing {l : List UInt8} {k : Nat} (h : More l k) (hk : k = 10 ∨ (k ≤ 10 ∧ k = l.length)) : Nm.take l = none := by
  rw [More.takeAll h (by omega)]
  rcases hk with rfl | ⟨h1, h2⟩
  · rfl
  · rw [h2, List.drop_length]
    rcases Nat.lt_or_ge l.length 10 with h9 | h9
    · rw [show 10 - l.length = (9 - l.length) + 1 from by omega]; rfl
    · rw [show 10 - l.length = 0 from by omega]; rfl
/-- may the bytes end so? -/
def endB (k : Nat) (c : UInt8) : Bool := !decide ((0 < k ∧ c.toNat = 0) ∨ (k = 9 ∧ 1 < c.toNat))
theorem More.last {l : List UInt8} {k : Nat} (h : More l k) (hk : k < 10) (hl : k < l.length) (hc : ¬ 128 ≤ (l.getD k 0).toNat) :
    Nm.take l = if endB k (l.getD k 0) then some (val (l.take (k + 1)), l.drop (k + 1)) else none := by
  rw [More.takeAll h (by omega), show 10 - k = (9 - k) + 1 from by omega]
  have e : l.drop k = l.getD k 0 :: l.drop (k + 1) := by
    rw [List.drop_eq_getElem_cons hl]; congr 1; rw [List.getD_eq_getElem?_getD, List.getElem?_eq_getElem hl]; rfl
  rw [e]
  simp only [takeL]
  rw [if_neg hc, take_snoc' l k hl, val_snoc, List.length_take_of_le (by omega)]
  unfold endB
  by_cases hb : (0 < k ∧ (l.getD k 0).toNat = 0) ∨ (k = 9 ∧ 1 < (l.getD k 0).toNat)
  · rw [if_pos hb, if_neg (by rw [decide_eq_true hb]; decide)]
  · rw [if_neg hb, if_pos (by rw [decide_eq_false hb]; decide)]
/-- the document's way: the short bytes of the number are these -/
theorem More.same {l : List UInt8} {k : Nat} (h : More l k) (hk : k < 10) (hl : k < l.length) (hc : ¬ 128 ≤ (l.getD k 0).toNat) :
    (short (val (l.take (k + 1)) % 18446744073709551616) = l.take (k + 1)) ↔ endB k (l.getD k 0) = true := by
  have hM : More (l.take (k + 1)) k := by
    refine ⟨by rw [List.length_take_of_le (by omega)]; omega, fun j hj => ?_⟩
    have := h.2 j hj
    rwa [List.getD_eq_getElem?_getD, List.getElem?_take_of_lt (by omega), ← List.getD_eq_getElem?_getD]
  have eg : (l.take (k + 1)).getD k 0 = l.getD k 0 := by
    rw [List.getD_eq_getElem?_getD, List.getElem?_take_of_lt (by omega), ← List.getD_eq_getElem?_getD]
  have hL := hM.last hk (by rw [List.length_take_of_le (by omega)]; omega) (by rw [eg]; exact hc)
  rw [eg, List.take_take, Nat.min_self] at hL
  constructor
  · intro e
    have := take_short (val (l.take (k + 1)) % 18446744073709551616) [] (Nat.mod_lt _ (by omega))
    rw [List.append_nil, e, hL] at this
    by_cases hb : endB k (l.getD k 0) = true
    · exact hb
    · rw [if_neg hb] at this; simp at this
  · intro hb
    rw [if_pos hb] at hL
    obtain ⟨e1, e2⟩ := take_back _ _ _ hL
    rw [Nat.mod_eq_of_lt e2]
    have : (l.take (k + 1)).drop (k + 1) = [] := by simp
    rw [this, List.append_nil] at e1
    exact e1.symm

/-! long bytes -/
def beB : Nat → Nat → List UInt8
  | 0, _ => []
  | k + 1, n => (n / 256 ^ k).toUInt8 :: beB k n
def long (n : Nat) : List UInt8 := beB 8 n
theorem beB_len : ∀ (k n : Nat), (beB k n).length = k
  | 0, _ => rfl
  | k + 1, n => by simp [beB, beB_len k n]
theorem long_len (n : Nat) : (long n).length = 8 := beB_len 8 n
theorem long_eq (n : Nat) : long n = [(n / 72057594037927936).toUInt8, (n / 281474976710656).toUInt8, (n / 1099511627776).toUInt8, (n / 4294967296).toUInt8, (n / 16777216).toUInt8, (n / 65536).toUInt8, (n / 256).toUInt8, n.toUInt8] := by
  simp [long, beB]
theorem u8_mod (n : Nat) : n.toUInt8.toNat = n % 256 := rfl
theorem beB_less : ∀ (k n m : Nat), Op.bytesLess (beB k n) (beB k m) = decide (n % 256 ^ k < m % 256 ^ k)
  | 0, n, m => by simp [beB, Op.bytesLess, Nat.mod_one]
  | k + 1, n, m => by
    simp only [beB, Op.bytesLess, beB_less k n m]
    have hp : 0 < 256 ^ k := Nat.pow_pos (by omega)
    have dn := Nat.mod_pow_succ (b := 256) (k := k) (x := n)
    have dm := Nat.mod_pow_succ (b := 256) (k := k) (x := m)
    have ln := Nat.mod_lt n hp
    have lm := Nat.mod_lt m hp
    rw [dn, dm]
    have e1 : ((n / 256 ^ k).toUInt8 < (m / 256 ^ k).toUInt8) ↔ (n / 256 ^ k % 256 < m / 256 ^ k % 256) := by
      rw [UInt8.lt_iff_toNat_lt, u8_mod, u8_mod]
    have e2 : ((n / 256 ^ k).toUInt8 == (m / 256 ^ k).toUInt8) = decide (n / 256 ^ k % 256 = m / 256 ^ k % 256) := by
      rw [Bool.eq_iff_iff, beq_iff_eq, decide_eq_true_iff, ← u8_mod, ← u8_mod]
      exact ⟨fun h => by rw [h], fun h => UInt8.toNat.inj h⟩
    rw [e2]
    generalize n / 256 ^ k % 256 = a at *
    generalize m / 256 ^ k % 256 = b at *
    generalize n % 256 ^ k = c at *
    generalize m % 256 ^ k = d at *
    generalize 256 ^ k = p at *
    rw [Bool.eq_iff_iff, Bool.or_eq_true, Bool.and_eq_true, decide_eq_true_iff, decide_eq_true_iff, decide_eq_true_iff, decide_eq_true_iff, e1]
    rcases Nat.lt_trichotomy a b with h | h | h
    · have h2 : p * (a + 1) ≤ p * b := Nat.mul_le_mul_left _ h
      rw [Nat.mul_add, Nat.mul_one] at h2
      constructor
      · intro _; omega
      · intro _; exact Or.inl h
    · subst h
      constructor
      · rintro (h | h) <;> omega
      · intro h; exact Or.inr ⟨rfl, by omega⟩
    · have h2 : p * (b + 1) ≤ p * a := Nat.mul_le_mul_left _ h
      rw [Nat.mul_add, Nat.mul_one] at h2
      constructor
      · rintro (h | h) <;> omega
      · intro h; omega
theorem long_less (n m : Nat) (hn : n < 18446744073709551616) (hm : m < 18446744073709551616) : Op.bytesLess (long n) (long m) = decide (n < m) := by
  unfold long
  rw [beB_less, show (256 ^ 8 : Nat) = 18446744073709551616 from rfl, Nat.mod_eq_of_lt hn, Nat.mod_eq_of_lt hm]
/-- the number that the bytes make, the highest first -/
def num (l : List UInt8) : Nat := l.foldl (fun a c => a * 256 + c.toNat) 0
theorem num_snoc (l : List UInt8) (c : UInt8) : num (l ++ [c]) = num l * 256 + c.toNat := by simp [num]
theorem num_lt (l : List UInt8) : num l < 256 ^ l.length := by
  unfold num
  suffices h : ∀ (l : List UInt8) (a : Nat), l.foldl (fun a c => a * 256 + c.toNat) a < (a + 1) * 256 ^ l.length by
    simpa using h l 0
  intro l
  induction l with
  | nil => intro a; simp
  | cons c l ih =>
    intro a
    have := ih (a * 256 + c.toNat)
    have hc := c.toNat_lt
    have h2 : (a * 256 + c.toNat + 1) * 256 ^ l.length ≤ ((a + 1) * 256) * 256 ^ l.length := Nat.mul_le_mul_right _ (by omega)
    simp only [List.foldl_cons, List.length_cons, Nat.pow_succ]
    rw [Nat.mul_comm (256 ^ l.length) 256, ← Nat.mul_assoc]
    omega
def unl (l : List UInt8) : Nat := if l.length = 8 then num l else 0
def unlB (l : List UInt8) : Bool := l.length == 8
theorem num_beB : ∀ (k n a : Nat), (beB k n).foldl (fun a c => a * 256 + c.toNat) a = a * 256 ^ k + n % 256 ^ k
  | 0, n, a => by simp [beB, Nat.mod_one]
  | k + 1, n, a => by
    simp only [beB, List.foldl_cons, num_beB k n, u8_mod]
    have dn := Nat.mod_pow_succ (b := 256) (k := k) (x := n)
    rw [dn, Nat.add_mul, Nat.pow_succ, Nat.mul_assoc, Nat.mul_comm 256 (256 ^ k), Nat.mul_comm (n / 256 ^ k % 256) (256 ^ k)]
    omega
theorem unl_long (n : Nat) (h : n < 18446744073709551616) : unl (long n) = n := by
  unfold unl
  rw [if_pos (long_len n), num, long, num_beB, show (256 ^ 8 : Nat) = 18446744073709551616 from rfl]
  omega
theorem unlB_long (n : Nat) : unlB (long n) = true := by unfold unlB; rw [long_len]; rfl
theorem unl_lt (l : List UInt8) : unl l < 18446744073709551616 := by
  unfold unl
  split
  · have := num_lt l
    rw [‹l.length = 8›] at this
    exact this
  · omega
def turn (n : Nat) : Nat := 18446744073709551615 - n
def fall (n : Nat) : List UInt8 := long (turn n)
def unf (l : List UInt8) : Nat := if l.length = 8 then turn (num l) else 0

/-! signed numbers -/
def foldN (m : Int) : Int := if m < 0 then -2 * m - 1 else 2 * m
def unfoldN (n : Int) : Int := if n % 2 = 0 then n / 2 else - (n / 2) - 1
theorem foldN_bd (m : Int) (h1 : -9223372036854775808 ≤ m) (h2 : m ≤ 9223372036854775807) : 0 ≤ foldN m ∧ foldN m ≤ 18446744073709551615 := by unfold foldN; split <;> omega
theorem unfoldN_bd (n : Int) (h1 : 0 ≤ n) (h2 : n ≤ 18446744073709551615) : -9223372036854775808 ≤ unfoldN n ∧ unfoldN n ≤ 9223372036854775807 := by unfold unfoldN; split <;> omega
theorem unfold_fold (m : Int) : unfoldN (foldN m) = m := by unfold unfoldN foldN; split <;> split <;> omega
theorem fold_unfold (n : Int) (h1 : 0 ≤ n) : foldN (unfoldN n) = n := by unfold unfoldN foldN; split <;> split <;> omega
/-- does it fit? -/
def fitsN (n b : Int) : Bool := decide (n.toNat < 2 ^ b.toNat)
theorem fits_neg (n b : Int) (h : 0 ≤ n) (hb : b < 0) : fitsN n b = (n == 0) := by
  unfold fitsN
  rw [show b.toNat = 0 from by omega, Bool.eq_iff_iff, decide_eq_true_iff, beq_iff_eq]; omega
theorem fits_pos (n b : Int) (h : 0 ≤ n) (h2 : n ≤ 18446744073709551615) : fitsN n b = (n / 2 ^ (min b.toNat 64) == 0) := by
  obtain ⟨k, rfl⟩ := Int.eq_ofNat_of_zero_le h
  unfold fitsN
  rw [Bool.eq_iff_iff, decide_eq_true_iff, beq_iff_eq, Int.toNat_natCast]
  generalize hj : b.toNat = j
  have e : ((k : Int) / 2 ^ (min j 64) = 0) ↔ (k / 2 ^ (min j 64) = 0) := by
    rw [show ((2 : Int) ^ (min j 64)) = ((2 ^ (min j 64) : Nat) : Int) from by norm_cast]
    norm_cast
  rw [e, Nat.div_eq_zero_iff]
  have hp : 0 < 2 ^ min j 64 := Nat.pow_pos (by omega)
  rcases Nat.le_total j 64 with h1 | h1
  · rw [Nat.min_eq_left h1] at hp ⊢; omega
  · rw [Nat.min_eq_right h1] at hp ⊢
    have : 2 ^ 64 ≤ 2 ^ j := Nat.pow_le_pow_right (by omega) h1
    omega
theorem fits_bitLen (n : Nat) : fitsN n (bitLen n) = true := by
  unfold fitsN; rw [decide_eq_true_iff, Int.toNat_natCast, Int.toNat_natCast]; exact (bitLen_spec n).1
theorem fits_less (n : Nat) (h : n ≠ 0) : fitsN n ((bitLen n : Nat) - 1 : Int) = false := by
  unfold fitsN; rw [decide_eq_false_iff_not, Int.toNat_natCast]
  have := (bitLen_spec n).2 h
  have h1 := bitLen_pos n h
  rw [show ((bitLen n : Nat) - 1 : Int).toNat = bitLen n - 1 from by omega]; omega
theorem fits_mono (n a b : Int) (h : a ≤ b) (hf : fitsN n a = true) : fitsN n b = true := by
  unfold fitsN at *; rw [decide_eq_true_iff] at *
  have : 2 ^ a.toNat ≤ 2 ^ b.toNat := Nat.pow_le_pow_right (by omega) (by omega)
  omega
theorem fits_64 (n : Int) (h2 : n ≤ 18446744073709551615) : fitsN n 64 = true := by
  unfold fitsN; rw [decide_eq_true_iff, show ((64 : Int).toNat) = 64 from rfl]; omega

end Nm
end Go.Proofs.Ytdmnmbomijnjeaa
