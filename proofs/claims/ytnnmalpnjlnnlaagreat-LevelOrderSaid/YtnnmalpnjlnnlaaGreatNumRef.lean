/-
  What the document's own answers for numbers (package screeref01) compute, each for every input: the same as the program's functions.
-/
import Derived.Test.YtnnmalpnjlnnlaaGreatNumFns
namespace Go.Proofs.YtnnmalpnjlnnlaaGreat
open Go.ChangeShapes Go.WideShapes Go.ChangeAt Go.RowKit
set_option linter.unusedVariables false
set_option maxRecDepth 100000
set_option maxHeartbeats 400000
/-- bytes as cells -/
def cellsOf (l : List UInt8) : List Value := l.map fun c => Value.int .u8 (c.toNat : Int)
theorem conv_owned {w : World} {base : Nat} {v : Value} {n : Nat} {l : List UInt8} (h : w.ownsRow base 5 1 v n (cellsOf l)) :
    (convert 99 9 v).run Tryz.prog w = .ok (.string (bs l)) w := by
  have hl : l.length = n := by simpa [cellsOf] using h.1
  rcases h.2 with ⟨rfl, rfl⟩ | ⟨g, cap, cur, rfl, -⟩
  · have e : l = [] := List.eq_nil_of_length_eq_zero hl
    subst e
    exact run_convert_bytes_nil w 99 5 Tryz.underlying99 Tryz.underlying5 _ _ 9 Tryz.underlying9
  · subst hl
    refine run_convert_bytes_back _ 99 9 5 _ cap l Tryz.underlying99 Tryz.underlying5 Tryz.underlying9 ?_
    intro j hj
    exact h.cells rfl j _ (by simp [cellsOf, hj])
/-- L are the first short bytes of n, y is the number that is left -/
def ShortRest (n : Nat) (L : List UInt8) (y : Nat) : Prop := ∃ f, L.length + f = 10 ∧ Nm.sz y ≤ f ∧ Nm.short n = L ++ Nm.shortA f y ∧ y ≤ n
theorem ShortRest.start (n : Nat) (h : n < 18446744073709551616) : ShortRest n [] n := ⟨10, rfl, (Nm.sz_le n h).2, rfl, Nat.le_refl _⟩
theorem ShortRest.next {n y : Nat} {L : List UInt8} (h : ShortRest n L y) (hy : 128 ≤ y) : ShortRest n (L ++ [(y % 128 + 128).toUInt8]) (y / 128) := by
  obtain ⟨f, h1, h2, h3, h4⟩ := h
  have hz := Nm.sz_big y hy
  have hz1 : 1 ≤ Nm.sz (y / 128) := by rw [Nm.sz_max]; omega
  match f, h1, h2, h3 with
  | 0, h1, h2, h3 => omega
  | f + 1, h1, h2, h3 =>
    refine ⟨f, by simp; omega, by omega, ?_, by omega⟩
    rw [h3, Nm.shortA, if_neg (by omega), List.append_assoc]; rfl
theorem ShortRest.done {n y : Nat} {L : List UInt8} (h : ShortRest n L y) (hy : y < 128) : L ++ [y.toUInt8] = Nm.short n := by
  obtain ⟨f, h1, h2, h3, h4⟩ := h
  have hz1 : 1 ≤ Nm.sz y := by rw [Nm.sz_max]; omega
  match f, h1, h2, h3 with
  | 0, h1, h2, h3 => omega
  | f + 1, h1, h2, h3 => rw [h3, Nm.shortA, if_pos hy]
theorem ShortRest.len {n y : Nat} {L : List UInt8} (h : ShortRest n L y) : L.length ≤ 10 := by
  obtain ⟨f, h1, _⟩ := h; omega
theorem cellsOf_snoc (l : List UInt8) (c : UInt8) (x : Int) (h : x = (c.toNat : Int)) : cellsOf l ++ [Value.int .u8 x] = cellsOf (l ++ [c]) := by
  subst h; simp [cellsOf]
theorem cellsOf_len (l : List UInt8) : (cellsOf l).length = l.length := by simp [cellsOf]
theorem rshort_any (n : Int) (h1 : 0 ≤ n) (h2 : n ≤ 18446744073709551615) (w : World) :
    Calls Tryz.prog 64 #[.int .u64 n] w fun e w' => e = .returned (.string (bs (Nm.short n.toNat))) ∧ Kept w w' := by
  obtain ⟨i0, hi, hz0, hz1, hz2⟩ := info_parts info5
  have HI := Lib.hid hi; clear hi
  have HZ0 := Lib.hid hz0; clear hz0
  have HZ1 := Lib.hid hz1; clear hz1
  have HZ2 := Lib.hid hz2; clear hz2
  go_enter Tryz.func64, Tryz.ntmps64
  go_wp2_with fail
  go_loopw [0, 3] (fun x v wr => ∃ (y : Nat) (L : List UInt8), x = .int .u64 y ∧ wr.ownsRow w.heap.size 5 1 v L.length (cellsOf L) ∧ Kept w wr ∧ ShortRest n.toNat L y) (fun x _ _ => (intOf x).toNat)
  case atStart => exact ⟨n.toNat, [], by simp; omega, World.ownsRow_lit (base := w.heap.size) (e := 5) (size := 1) w #[] 0 (Nat.le_refl _) (by unfold maxLen; omega) rfl, (Kept.refl _).alloc _, ShortRest.start _ (by omega)⟩
  case round =>
    obtain ⟨y, L, rfl, hown, hk, hR⟩ := hrel
    have hL := hR.len
    have hyn : y ≤ n.toNat := by obtain ⟨_, _, _, _, h⟩ := hR; exact h
    have hsz : w.heap.size ≤ wr.heap.size := Below.size hk
    by_cases hy : 128 ≤ y
    · go_wp2_with (at_builtin; refine wpList_append_own _ rfl _ _ 99 rfl w.heap.size 5 i0 (.int .u8 0) 1 1 Tryz.underlying99 HI.out HZ0.out HZ1.out HZ2.out rfl (by decide) _ L.length (cellsOf L) rfl (hown.alloc _) ⟨wr.heap.size, 0, none⟩ 1 1 [.int .u8 ((y : Int) % 128 + 128)] rfl rfl (cell_one_new _ _ _) (by intro u hu; simp at hu; subst hu; rfl) (by unfold maxLen; omega) (by omega) (by simp; omega) ?_; intro v' w1 hown' hgrow _)
      have hk1 : Kept w w1 := Below.grown ((hk.alloc _)) hgrow (by simp; omega) (fun k hk => (hown.lt k hk).1)
      rw [cellsOf_snoc L (y % 128 + 128).toUInt8 _ (by rw [Nm.u8_of _ (by omega)]; omega)] at hown'
      have hown1 : w1.ownsRow w.heap.size 5 1 v' (L ++ [(y % 128 + 128).toUInt8]).length (cellsOf (L ++ [(y % 128 + 128).toUInt8])) := by simpa using hown'
      clear hown hown' hgrow
      go_wp2_with fail
      go_roundw
      case rel => exact ⟨y / 128, L ++ [(y % 128 + 128).toUInt8], by go_num, hown1, hk1, hR.next hy⟩
      case measure => simp [intOf]; omega
    · go_wp2_with (at_builtin; refine wpList_append_own _ rfl _ _ 99 rfl w.heap.size 5 i0 (.int .u8 0) 1 1 Tryz.underlying99 HI.out HZ0.out HZ1.out HZ2.out rfl (by decide) _ L.length (cellsOf L) rfl (hown.alloc _) ⟨wr.heap.size, 0, none⟩ 1 1 [.int .u8 (y : Int)] rfl rfl (cell_one_new _ _ _) (by intro u hu; simp at hu; subst hu; rfl) (by unfold maxLen; omega) (by omega) (by simp; omega) ?_; intro v' w1 hown' hgrow _)
      have hk1 : Kept w w1 := Below.grown ((hk.alloc _)) hgrow (by simp; omega) (fun k hk => (hown.lt k hk).1)
      rw [cellsOf_snoc L y.toUInt8 _ (by rw [Nm.u8_of _ (by omega)])] at hown'
      have hcv := conv_owned hown'
      rw [hR.done (by omega)] at hcv
      clear hown hown' hgrow
      rw [hcv]
      go_wp2_with fail
      go_ret
      exact ⟨rfl, hk1⟩
theorem rlong_cells (n : Int) (h1 : 0 ≤ n) (h2 : n ≤ 18446744073709551615) : #[Value.int IntKind.u8 (n / 256 / 256 / 256 / 256 / 256 / 256 / 256 % 256),
                Value.int IntKind.u8 (n / 256 / 256 / 256 / 256 / 256 / 256 % 256),
                Value.int IntKind.u8 (n / 256 / 256 / 256 / 256 / 256 % 256),
                Value.int IntKind.u8 (n / 256 / 256 / 256 / 256 % 256),
                Value.int IntKind.u8 (n / 256 / 256 / 256 % 256), Value.int IntKind.u8 (n / 256 / 256 % 256),
                Value.int IntKind.u8 (n / 256 % 256), Value.int IntKind.u8 (n % 256)] = ((Nm.long n.toNat).map fun c => Value.int .u8 (c.toNat : Int)).toArray := by
  rw [← long_cells n h1 h2]
  have e : ∀ {a b c d e f g h a' b' c' d' e' f' g' h' : Int}, a = a' → b = b' → c = c' → d = d' → e = e' → f = f' → g = g' → h = h' →
    #[Value.int IntKind.u8 a, .int .u8 b, .int .u8 c, .int .u8 d, .int .u8 e, .int .u8 f, .int .u8 g, .int .u8 h] = #[Value.int IntKind.u8 a', .int .u8 b', .int .u8 c', .int .u8 d', .int .u8 e', .int .u8 f', .int .u8 g', .int .u8 h'] := by
    intros; subst_vars; rfl
  apply e <;> omega
theorem turn_le (n : Nat) : (0 : Int) ≤ ((Nm.turn n : Nat) : Int) ∧ ((Nm.turn n : Nat) : Int) ≤ 18446744073709551615 := by unfold Nm.turn; omega
def HalfK (n k y : Nat) : Prop := y = n / 2 ^ k
theorem HalfK.next {n k y : Nat} (h : HalfK n k y) : HalfK n (k + 1) (y / 2) := by
  unfold HalfK at *; rw [h, Nat.div_div_eq_div_mul, Nat.pow_succ]
theorem rnum_acc (V : Nat) (c : UInt8) (k : Nat) (hk : k ≤ 7) (hV : V < 256 ^ k) : V * 256 + c.toNat ≤ 18446744073709551615 ∧ V ≤ 72057594037927935 := by
  have hc := c.toNat_lt
  have h7 : 256 ^ k ≤ 256 ^ 7 := Nat.pow_le_pow_right (by omega) hk
  have h8 : V < 72057594037927936 := by omega
  omega
end Go.Proofs.YtnnmalpnjlnnlaaGreat
