/-
  What Mix and Bits of package bloom, and the two functions of the library that it calls, compute, each for every input.
-/
import Derived.Test.YtecjnebfhbdnaaaPackMath
import Derived.Test.YtecjnebfhbdnaaaPackFrame
import Derived.WalkMore
import Derived.Laws.MakeOwn
import Derived.Laws.OwnMore
namespace Go.Proofs.Ytecjnebfhbdnaaa
open Go.ChangeShapes Go.WideShapes Go.ChangeAt Go.RowKit
set_option linter.unusedVariables false
set_option maxRecDepth 100000
set_option maxHeartbeats 400000

theorem bmul_eq (m : Nat) (hm : m < 18446744073709551616) (b : UInt8) : IntKind.u64.wrap (bits .xor .u64 (m : Int) ((b.toNat : Nat) : Int) * 1099511628211) = ((Bm.mul m b : Nat) : Int) := by
  rw [u64_xor_nat m b.toNat hm (by have := b.toNat_lt; omega), IntKind.wrap_u64]
  unfold Bm.mul
  generalize m ^^^ b.toNat = X
  omega
theorem u8_u64 (b : UInt8) : IntKind.u64.wrap ((b.toNat : Nat) : Int) = ((b.toNat : Nat) : Int) := by
  rw [IntKind.wrap_u64]; have := b.toNat_lt; omega
theorem bmix_any (s : ByteArray) (hs : s.size ≤ maxLen) (w : World) :
    Calls Try.prog 85 #[.string s] w fun e w' => e = .returned (.int .u64 ((Bm.mix s.data.toList : Nat) : Int)) ∧ w = w' := by
  unfold maxLen at hs
  go_enter Try.func85, Try.ntmps85
  go_wp2_with fail
  go_loop [3, 7] (fun c i => ∃ k : Nat, k ≤ s.size ∧ i = .int .i64 k ∧ c = .int .u64 ((Bm.mix (s.data.toList.take k) : Nat) : Int)) (fun _ i => s.size - (intOf i).toNat)
  case atStart => exact ⟨0, Nat.zero_le _, rfl, rfl⟩
  case round =>
    obtain ⟨k, hk, rfl, rfl⟩ := hrel
    by_cases hlt : k < s.size
    · have hst : Bm.mix (s.data.toList.take (k + 1)) = Bm.mul (Bm.mix (s.data.toList.take k)) s[k] := by
        rw [Nm.take_snoc' _ k (by simpa using hlt), Bm.mix_snoc, getD_of s k hlt]
      have hm := bmul_eq (Bm.mix (s.data.toList.take k)) (Bm.mix_lt _) s[k]
      have hc := u8_u64 s[k]
      have HST := Lib.hid hst; clear hst
      go_wp2_with fail
      go_round
      case rel => exact ⟨k + 1, by omega, by go_num, by rw [HST.out]⟩
      case measure => simp [intOf]; omega
    · have e : k = s.size := by omega
      subst e
      have ht : s.data.toList.take s.size = s.data.toList := List.take_of_length_le (by simp)
      have HT := Lib.hid ht; clear ht
      go_wp2_with fail
      go_ret
      exact ⟨by rw [HT.out]; rfl, rfl⟩
theorem rotl_any (x : Nat) (hx : x < 18446744073709551616) (w : World) :
    Calls Try.prog 86 #[.int .u64 (x : Int), .int .i64 (-17)] w fun e w' => e = .returned (.int .u64 ((Bm.rot x : Nat) : Int)) ∧ w = w' := by
  have hw : bits BinOp.and IntKind.u64 (IntKind.u64.wrap (-17)) 63 = 47 := by decide +kernel
  go_enter Try.func86, Try.ntmps86
  go_wp2_with fail
  go_ret
  have e : IntKind.u64.wrap ((x : Int) * 140737488355328) = ((x * 140737488355328 % 18446744073709551616 : Nat) : Int) := by rw [IntKind.wrap_u64]; omega
  have e2 : (x : Int) / 131072 = ((x / 131072 : Nat) : Int) := by omega
  have e3 := Bm.rot_or x hx
  rw [e, e2, u64_or_nat _ _ (by omega) (by omega), e3]
  exact ⟨rfl, rfl⟩
theorem made_v (T E : TypeId) (z : Value) (b : Nat) (hu : Try.prog.underlying T = some (.slice E)) (hi : (Try.prog.info? E).map (fun i => (i.zero, i.size, i.bytes)) = some (some z, 1, b)) (hz : z.cells = #[z])
    (k : IntKind) (n : Nat) (hn : (b : Int) * n ≤ 281474976710656) (h63 : n ≤ 9223372036854775807) (w : World) :
    (Instr.makeSlice T (.int k (n : Int)) (.int k (n : Int))).run Try.prog w = .ok (.slice (some ⟨w.heap.size, 0, none⟩) n n) (w.alloc (.cells (List.replicate n z).toArray E)) := by
  obtain ⟨i0, hi0, hz0, hz1, hz2⟩ := info_parts hi
  have hr := run_make (P := Try.prog) w T E i0 z hu hi0 hz0 k k n n (by omega) (by omega) (by rw [hz2]; exact hn) (by omega)
  rw [hr, hz1, hz, Nat.mul_one]
  simp only [Int.toNat_natCast]
  congr 3
  exact Array.toList_inj.1 (by rw [toList_madeCells_one])
theorem infoI : (Try.prog.info? 3).map (fun i => (i.zero, i.size, i.bytes)) = some (some (.int .i64 0), 1, 8) := by kernel_rfl
def Ins (w : World) (A : Option Addr) (l : List Nat) : Prop := ∀ (j x : Nat), l[j]? = some x → ∃ b o, A = some ⟨b, o, none⟩ ∧ b < w.heap.size ∧ w.cell? ⟨b, o + j, none⟩ = some (.int .i64 (x : Int))
theorem Ins.kept {w w' : World} {A : Option Addr} {l : List Nat} (h : Ins w A l) (k : Kept w w') : Ins w' A l := fun j x hx => by
  obtain ⟨b, o, e, hb, hc⟩ := h j x hx
  exact ⟨b, o, e, Nat.lt_of_lt_of_le hb (Below.size k), by rw [kept_cell k hb]; exact hc⟩
theorem bits_four (m n : Nat) (k : List UInt8) (hm : m = Bm.mix k) (hn : n ≠ 0) : Bm.bits k n = [Bm.sum m 0 % n, Bm.sum m 1 % n, Bm.sum m 2 % n, Bm.sum m 3 % n] := by
  subst hm; unfold Bm.bits; rw [if_neg hn]; rfl
theorem ins_new (w : World) (t : TypeId) (l : List Nat) : Ins (w.alloc (.cells (l.map fun x : Nat => Value.int .i64 (x : Int)).toArray t)) (some ⟨w.heap.size, 0, none⟩) l := fun j x hx => by
  refine ⟨w.heap.size, 0, rfl, by simp, ?_⟩
  simp [hx]
theorem bwrap64 (m n : Nat) (hn : 0 < n) (h : n ≤ 9223372036854775807) : wrap64 ((m : Int) % (n : Int)) = ((m % n : Nat) : Int) := by
  have h1 : m % n < n := Nat.mod_lt _ hn
  have e : (m : Int) % (n : Int) = ((m % n : Nat) : Int) := (Int.natCast_emod m n).symm
  rw [e]; unfold wrap64; omega
theorem bbits_any (s : ByteArray) (hs : s.size ≤ maxLen) (n : Int) (h0 : -9223372036854775808 ≤ n) (h1 : n ≤ 9223372036854775807) (w : World) :
    Calls Try.prog 62 #[.string s, .int .i64 n] w fun e w' => ∃ A c, e = .returned (.slice A (Bm.bits s.data.toList n.toNat).length c) ∧ Ins w' A (Bm.bits s.data.toList n.toNat) ∧ (∀ b o, A = some ⟨b, o, none⟩ → w.heap.size ≤ b) ∧ Kept w w' := by
  have hmx := bmix_any s hs
  by_cases hn : n < 1
  · have e : n.toNat = 0 := by omega
    have d : decide (n < 1) = true := by simp; omega
    rw [e]
    go_enter Try.func62, Try.ntmps62
    go_wp2_with fail
    go_ret
    exact ⟨none, 0, rfl, fun j x hx => by simp [Bm.bits] at hx, (fun b o h => by cases h), Kept.refl _⟩
  · have d : decide (n < 1) = false := by simp; omega
    obtain ⟨N, rfl⟩ : ∃ N : Nat, n = (N : Int) := ⟨n.toNat, by omega⟩
    rw [Int.toNat_natCast]
    have hr := rotl_any (Bm.mix s.data.toList) (Bm.mix_lt _)
    have hb := bits_four _ N s.data.toList rfl (by omega)
    have hlt := Bm.mix_lt s.data.toList
    have hs1 := Bm.sum_succ (Bm.mix s.data.toList) 0
    have hs2 := Bm.sum_succ (Bm.mix s.data.toList) 1
    have hs3 := Bm.sum_succ (Bm.mix s.data.toList) 2
    have hs4 := Bm.sum_succ (Bm.mix s.data.toList) 3
    rw [Bm.sum_zero _ hlt] at hs1 hb
    rw [hb]
    have l1 := Bm.sum_lt (Bm.mix s.data.toList) 1
    have l2 := Bm.sum_lt (Bm.mix s.data.toList) 2
    have l3 := Bm.sum_lt (Bm.mix s.data.toList) 3
    have l4 := Bm.sum_lt (Bm.mix s.data.toList) 4
    have lr := Bm.rot_lt _ hlt
    simp only [Nat.zero_add, Nat.reduceAdd] at hs1 hs2 hs3 hs4
    generalize Bm.rot (Bm.mix s.data.toList) = st at *
    generalize Bm.sum (Bm.mix s.data.toList) 1 = m1 at *
    generalize Bm.sum (Bm.mix s.data.toList) 2 = m2 at *
    generalize Bm.sum (Bm.mix s.data.toList) 3 = m3 at *
    generalize Bm.sum (Bm.mix s.data.toList) 4 = m4 at *
    generalize Bm.mix s.data.toList = m0 at *
    have a1 : IntKind.u64.wrap ((m0 : Int) + (st : Int)) = (m1 : Int) := by rw [IntKind.wrap_u64]; omega
    have a2 : IntKind.u64.wrap ((m1 : Int) + (st : Int)) = (m2 : Int) := by rw [IntKind.wrap_u64]; omega
    have a3 : IntKind.u64.wrap ((m2 : Int) + (st : Int)) = (m3 : Int) := by rw [IntKind.wrap_u64]; omega
    have a4 : IntKind.u64.wrap ((m3 : Int) + (st : Int)) = (m4 : Int) := by rw [IntKind.wrap_u64]; omega
    have wn : IntKind.u64.wrap (N : Int) = (N : Int) := by rw [IntKind.wrap_u64]; omega
    have hN : (N : Int) ≠ 0 := by omega
    have hmk := fun w => made_v 83 3 (.int .i64 0) 8 Try.underlying83 infoI rfl .i64 4 (by decide) (by decide) w
    simp only [Int.cast_ofNat_Int] at hmk
    clear hb hs1 hs2 hs3 hs4
    go_enter Try.func62, Try.ntmps62
    go_wp2_with fail
    refine (hmx _).mono ?_
    rintro e w1 ⟨rfl, rfl⟩
    go_wp2_with fail
    refine (hr _).mono ?_
    rintro e w1 ⟨rfl, rfl⟩
    go_wp2_with fail
    refine wp_loop_rounds 5 ?_
    iterate 4 (rw [rounds_succ]; go_wp2_with fail)
    rw [rounds_succ]; go_wp2_with fail
    go_ret
    rw [bwrap64 m0 N (by omega) (by omega), bwrap64 m1 N (by omega) (by omega), bwrap64 m2 N (by omega) (by omega), bwrap64 m3 N (by omega) (by omega)]
    exact ⟨_, 4, rfl, ins_new w 3 [m0 % N, m1 % N, m2 % N, m3 % N], (fun b o h => by cases h; exact Nat.le_refl _), (Kept.refl _).alloc _⟩
def tabOk (T : ByteArray) : Bool := (List.range 256).all fun i => (T.data.toList.getD i 0).toNat == Bm.pc (UInt8.ofNat i)
theorem bpc_le (b : UInt8) : Bm.pc b ≤ 8 := by
  unfold Bm.pc
  have := List.countP_le_length (p := fun k => b.toNat.testBit k) (l := List.range 8)
  simpa using this
theorem tab_at (T : ByteArray) (b : UInt8) (h : b.toNat < T.size) (ht : tabOk T = true) : wrap64 (((T[b.toNat]'h).toNat : Nat) : Int) = ((Bm.pc b : Nat) : Int) := by
  unfold tabOk at ht
  rw [List.all_eq_true] at ht
  have h1 := ht b.toNat (List.mem_range.2 b.toNat_lt)
  rw [beq_iff_eq, getD_of T b.toNat h, UInt8.ofNat_toNat] at h1
  rw [h1]
  have := bpc_le b
  unfold wrap64; omega
theorem btest (v : UInt8) (k : Nat) : (bits BinOp.and IntKind.u8 (((v.toNat : Nat) : Int) / 2 ^ k) 1 == 0) = !(v.toNat.testBit k) := by
  have hv := v.toNat_lt
  have h1 : v.toNat / 2 ^ k < 256 := Nat.lt_of_le_of_lt (Nat.div_le_self _ _) hv
  have e : (((v.toNat : Nat) : Int) / 2 ^ k) = ((v.toNat / 2 ^ k : Nat) : Int) := by rw [Int.natCast_ediv, Int.natCast_pow]; rfl
  rw [e, show (1 : Int) = ((1 : Nat) : Int) from rfl, u8_and_nat _ _ h1 (by decide)]
  unfold Nat.testBit
  rw [Nat.shiftRight_eq_div_pow, Nat.and_comm 1]
  cases h : (v.toNat / 2 ^ k &&& 1) with
  | zero => rfl
  | succ n => simp; omega
theorem bhas_at (s : ByteArray) (x : Nat) (h : x / 8 < s.size) : Bm.hasB s.data.toList x = (s[x / 8]'h).toNat.testBit (x % 8) := by
  unfold Bm.hasB
  rw [getD_of s (x / 8) h]
theorem bmay_any (s k : ByteArray) (hs : s.size ≤ 1152921504606846975) (hk : k.size ≤ maxLen) (w : World) :
    Calls Try.prog 72 #[.string s, .string k] w fun e w' => e = .returned (.bool (Bm.may s.data.toList k.data.toList)) ∧ Kept w w' := by
  have hb := bbits_any k hk (8 * s.size) (by omega) (by omega)
  have hm8 : ((s.size : Int) * 8) = 8 * s.size := by omega
  have hm : Bm.may s.data.toList k.data.toList = (Bm.bits k.data.toList (8 * s.size)).all (Bm.hasB s.data.toList) := by unfold Bm.may; rw [toList_size]
  have hlt := Bm.bits_lt k.data.toList (8 * s.size)
  rw [show (8 * (s.size : Int)).toNat = 8 * s.size by omega] at hb
  rw [hm]
  have HM8 := Lib.hid hm8
  have HLT := Lib.hid hlt
  have hl4 : (Bm.bits k.data.toList (8 * s.size)).length ≤ 4 := by rw [Bm.bits_len]; split <;> omega
  clear hm hm8 hlt
  generalize Bm.bits k.data.toList (8 * s.size) = L at *
  go_enter Try.func72, Try.ntmps72
  go_wp2_with fail
  rw [HM8.out]
  refine (hb _).mono ?_
  rintro e w1 ⟨A, c, rfl, hA, _, g1⟩
  go_wp2_with fail
  go_loopw [13] (fun t wr => ∃ j : Nat, j ≤ L.length ∧ t = .int .i64 j ∧ (L.take j).all (Bm.hasB s.data.toList) = true ∧ wr = w1) (fun t _ => L.length - (intOf t).toNat)
  case atStart => exact ⟨0, Nat.zero_le _, rfl, rfl, rfl⟩
  case round =>
    obtain ⟨j, hj, rfl, hall, rfl⟩ := hrel
    by_cases hlt : j < L.length
    · have hx : L[j]? = some L[j] := List.getElem?_eq_getElem hlt
      have hmem : L[j] ∈ L := List.getElem_mem hlt
      have hnx : L.take (j + 1) = L.take j ++ [L[j]] := by rw [List.take_add_one, hx]; rfl
      have HN := Lib.hid hnx
      clear hnx
      generalize L[j] = x at hx hmem HN
      obtain ⟨b, o, rfl, hb1, hcell⟩ := hA j x hx
      have hx8 := HLT.out x hmem
      have h8 : x / 8 < s.size := by omega
      have hbt := btest s[x / 8] (x % 8)
      rw [← bhas_at s x h8] at hbt
      cases hh : Bm.hasB s.data.toList x with
      | true =>
        rw [hh] at hbt
        have hall2 : (L.take (j + 1)).all (Bm.hasB s.data.toList) = true := by rw [HN.out, List.all_append, hall]; simp [hh]
        simp only [Bool.not_true] at hbt
        clear hh
        go_wp2_with fail
        go_roundw
        case rel => exact ⟨j + 1, by omega, by go_num, hall2, trivial⟩
        case measure => simp [intOf]; omega
      | false =>
        rw [hh] at hbt
        have hno : L.all (Bm.hasB s.data.toList) = false := List.all_eq_false.2 ⟨x, hmem, by rw [hh]; decide⟩
        simp only [Bool.not_false] at hbt
        clear hh
        have HNO := Lib.hid hno; clear hno
        go_wp2_with fail
        go_ret
        exact ⟨by rw [HNO.out]; rfl, g1⟩
    · have e : j = L.length := by omega
      subst e
      rw [List.take_length] at hall
      have HALL := Lib.hid hall; clear hall
      go_wp2_with fail
      go_ret
      exact ⟨by rw [HALL.out]; rfl, g1⟩
end Go.Proofs.Ytecjnebfhbdnaaa
