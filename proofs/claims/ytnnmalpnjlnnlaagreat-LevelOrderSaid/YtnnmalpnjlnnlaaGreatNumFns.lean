/-
  What Take, Unlong, Unfall, Long, Fall and Short of package num compute, each for every input (its kind's bounds; a string's length as the form bounds it).
-/
import Derived.Test.YtnnmalpnjlnnlaaGreatNumLeaf
import Derived.Deep.QuietTactic
import Derived.BigQuiet
import Derived.Lib.Strings
import Derived.Lib.IndexBytes
import Derived.Laws.BytesArg
import Derived.Laws.IdiomStrings
namespace Go.Proofs.YtnnmalpnjlnnlaaGreat
open Go.ChangeShapes Go.WideShapes Go.ChangeAt Go.RowKit
set_option linter.unusedVariables false
set_option maxRecDepth 100000
set_option maxHeartbeats 400000

def bs (l : List UInt8) : ByteArray := ⟨l.toArray⟩
def md (n : Nat) : Nat := n % 18446744073709551616
theorem getD_of (s : ByteArray) (k : Nat) (h : k < s.size) : s.data.toList.getD k 0 = s[k] := by
  rw [List.getD_eq_getElem?_getD, List.getElem?_eq_getElem (by simpa using h)]; rfl
theorem or_step (V x k : Nat) (hk : k ≤ 9) (hV : V < 128 ^ k) : V ||| (x * 128 ^ k % 18446744073709551616) = (V + x * 128 ^ k) % 18446744073709551616 := by
  have p : 128 ^ k = 2 ^ (7 * k) := by rw [show 128 = 2 ^ 7 from rfl, ← Nat.pow_mul]
  have q : 18446744073709551616 = 2 ^ (7 * k) * 2 ^ (64 - 7 * k) := by rw [← Nat.pow_add, show 7 * k + (64 - 7 * k) = 64 from by omega]
  rw [p] at hV ⊢
  have hp : 0 < 2 ^ (7 * k) := Nat.pow_pos (by omega)
  rw [q, Nat.mul_comm x, Nat.mul_mod_mul_left, Nat.mod_mul, Nat.add_mul_mod_self_left, Nat.mod_eq_of_lt hV, Nat.add_mul_div_left _ _ hp, Nat.div_eq_of_lt hV, Nat.zero_add, Nat.or_comm, nat_join (7 * k) _ _ (by simp) hV, Nat.add_comm]
theorem acc_step (V k : Nat) (c : UInt8) (hk : k ≤ 9) (hV : V < 128 ^ k) :
    bits BinOp.or IntKind.u64 ((md V : Nat) : Int) (IntKind.u64.wrap (IntKind.u64.wrap (bits BinOp.andNot IntKind.u8 ((c.toNat : Nat) : Int) 128) * 2 ^ (7 * k))) = ((md (V + c.toNat % 128 * 128 ^ k) : Nat) : Int) := by
  have hc := c.toNat_lt
  rw [Nm.b_not128 _ (by omega) (by omega), IntKind.wrap_u64, IntKind.wrap_u64]
  have e1 : ((c.toNat : Int) % 128 % 18446744073709551616 * 2 ^ (7 * k) % 18446744073709551616) = ((c.toNat % 128 * 128 ^ k % 18446744073709551616 : Nat) : Int) := by
    rw [show (128 : Nat) ^ k = 2 ^ (7 * k) from by rw [show 128 = 2 ^ 7 from rfl, ← Nat.pow_mul], show (c.toNat : Int) % 128 % 18446744073709551616 = ((c.toNat % 128 : Nat) : Int) from by omega]
    generalize c.toNat % 128 = x
    rw [Int.natCast_emod, Int.natCast_mul, Int.natCast_pow]; rfl
  have hV9 : V < 18446744073709551616 := by
    have : 128 ^ k ≤ 128 ^ 9 := Nat.pow_le_pow_right (by omega) hk
    omega
  unfold md
  rw [e1, Nat.mod_eq_of_lt hV9, u64_or_nat _ _ hV9 (Nat.mod_lt _ (by omega)), or_step V _ k hk hV]
theorem val_step (s : ByteArray) (k : Nat) (h : k < s.size) : Nm.val (s.data.toList.take (k + 1)) = Nm.val (s.data.toList.take k) + s[k].toNat % 128 * 128 ^ k := by
  rw [Nm.take_snoc' _ k (by simpa using h), Nm.val_snoc, List.length_take_of_le (by simp; omega), getD_of s k h]
theorem val_lt_k (l : List UInt8) (k : Nat) (h : k ≤ l.length) : Nm.val (l.take k) < 128 ^ k := by
  have := Nm.val_lt (l.take k)
  rwa [List.length_take_of_le h] at this
theorem md_id {n : Nat} (h : n < 18446744073709551616) : md n = n := Nat.mod_eq_of_lt h
theorem bs_data (l : List UInt8) : (bs l).data.toList = l := rfl
theorem bs_of {s : ByteArray} {l : List UInt8} (h : s.data.toList = l) : s = bs l := by
  subst h; rfl
theorem extract_end (s : ByteArray) (a : Nat) : s.extract a s.size = bs (s.data.toList.drop a) := bs_of (Lib.extract_to_end s a)
theorem ret_take {s : ByteArray} {a : Int} {b : ByteArray} {c : Bool} (o : Option (Nat × List UInt8)) (h : Nm.take s.data.toList = o) (h1 : a = (((o.getD (0, [])).1 : Nat) : Int)) (h2 : b = bs (o.getD (0, [])).2) (h3 : c = o.isSome) :
    Ending.returned (.tuple #[.int .u64 a, .string b, .bool c]) = .returned (.tuple #[.int .u64 (Nm.takeN s.data.toList), .string (bs (Nm.takeR s.data.toList)), .bool (Nm.takeB s.data.toList)]) := by
  unfold Nm.takeN Nm.takeR Nm.takeB
  rw [h, h1, h2, h3]
theorem take_any (s : ByteArray) (hs : s.size ≤ maxLen) (w : World) :
    Calls Tryz.prog 109 #[.string s] w fun e w' => e = .returned (.tuple #[.int .u64 (Nm.takeN s.data.toList), .string (bs (Nm.takeR s.data.toList)), .bool (Nm.takeB s.data.toList)]) ∧ Kept w w' := by
  unfold maxLen at hs
  go_enter Tryz.func109, Tryz.ntmps109
  go_wp2_with fail
  all_goals
    go_loop [5, 11] (fun t i => ∃ k : Nat, k ≤ 10 ∧ k ≤ s.size ∧ i = .int .i64 k ∧ t = .int .u64 (md (Nm.val (s.data.toList.take k))) ∧ Nm.More s.data.toList k) (fun _ i => 10 - (intOf i).toNat)
    case atStart => exact ⟨0, Nat.zero_le _, Nat.zero_le _, rfl, rfl, Nm.More.zero _⟩
    case round =>
      obtain ⟨k, hk, hks, rfl, rfl, hM⟩ := hrel
      have hsl : s.data.toList.length = s.size := by simp
      have HL := Lib.hid hsl; clear hsl
      by_cases hlt : k < 10 ∧ k < s.size
      · obtain ⟨hk1, hk2⟩ := hlt
        have hc8 := s[k].toNat_lt
        have HV := Lib.hid (val_step s k hk2)
        have hV := val_lt_k s.data.toList k (by rw [HL.out]; exact hks)
        have HA := Lib.hid (acc_step (Nm.val (s.data.toList.take k)) k s[k] (by omega) hV)
        have HG := Lib.hid (getD_of s k hk2)
        by_cases hc : 128 ≤ s[k].toNat
        · have hb : (bits BinOp.and IntKind.u8 (s[k].toNat : Int) 128 == 0) = false := by
            rw [Nm.b_and128 _ (by omega) (by omega), beq_eq_false_iff_ne]; omega
          go_wp2_with fail
          go_round
          case rel => exact ⟨k + 1, by omega, by omega, by go_num, by rw [HV.out, HA.out], hM.next (by rw [HL.out]; exact hk2) (by rw [HG.out]; exact hc)⟩
          case measure => simp [intOf]; omega
        · have hb : (bits BinOp.and IntKind.u8 (s[k].toNat : Int) 128 == 0) = true := by
            rw [Nm.b_and128 _ (by omega) (by omega), beq_iff_eq]; omega
          have HT := Lib.hid (hM.last hk1 (by rw [HL.out]; exact hk2) (by rw [HG.out]; exact hc))
          rcases Bool.eq_false_or_eq_true (Nm.endB k s[k]) with he | he
          · go_wp2_with (go_at_call 131; refine (mayEnd_any k s[k] (by omega) _).mono ?_; rintro e w' ⟨rfl, rfl⟩)
            go_quiet (fail)
            go_wp2_with fail
            go_ret3
            rw [HA.out, ← HV.out, extract_end]
            have hT := HT.out
            rw [HG.out, if_pos he] at hT
            rw [md_id (Nm.take_back _ _ _ hT).2]
            exact ⟨ret_take _ hT rfl rfl rfl, kept_drewN _ _⟩
          · go_wp2_with (go_at_call 131; refine (mayEnd_any k s[k] (by omega) _).mono ?_; rintro e w' ⟨rfl, rfl⟩)
            go_ret3
            exact ⟨ret_take none (by rw [HT.out, HG.out, he]; rfl) rfl rfl rfl, Kept.refl _⟩
      · go_wp2_with fail
        go_ret3
        exact ⟨ret_take none (hM.nothing (by rw [HL.out]; omega)) rfl rfl rfl, Kept.refl _⟩

theorem num_step (s : ByteArray) (k : Nat) (h : k < s.size) : Nm.num (s.data.toList.take (k + 1)) = Nm.num (s.data.toList.take k) * 256 + s[k].toNat := by
  rw [Nm.take_snoc' _ k (by simpa using h), Nm.num_snoc, getD_of s k h]
theorem num_acc (V : Nat) (c : UInt8) (k : Nat) (hk : k ≤ 7) (hV : V < 256 ^ k) :
    bits BinOp.or IntKind.u64 (IntKind.u64.wrap ((V : Int) * 256)) (IntKind.u64.wrap ((c.toNat : Nat) : Int)) = ((V * 256 + c.toNat : Nat) : Int) := by
  have hc := c.toNat_lt
  have h7 : 256 ^ k ≤ 256 ^ 7 := Nat.pow_le_pow_right (by omega) hk
  have h8 : V < 72057594037927936 := by omega
  rw [IntKind.wrap_u64, IntKind.wrap_u64, show (V : Int) * 256 % 18446744073709551616 = (V : Int) * 256 from by omega, show ((c.toNat : Nat) : Int) % 18446744073709551616 = ((c.toNat : Nat) : Int) from by omega, Nm.b_or8 _ _ (by omega) (by omega) (by omega) (by omega)]
  omega
theorem num_lt_k (l : List UInt8) (k : Nat) (h : k ≤ l.length) : Nm.num (l.take k) < 256 ^ k := by
  have := Nm.num_lt (l.take k)
  rwa [List.length_take_of_le h] at this
theorem ret_unl {a b : Int} {c d : Bool} (h : a = b) (h2 : c = d) : Ending.returned (.tuple #[.int .u64 a, .bool c]) = .returned (.tuple #[.int .u64 b, .bool d]) := by rw [h, h2]
theorem conv_row (w : World) (l : List UInt8) (cells : Array Value) (t : TypeId) (n cap : Nat) (hn : n = l.length) (hc : cells = (l.map fun c => Value.int .u8 (c.toNat : Int)).toArray) :
    (convert 99 9 (.slice (some ⟨w.heap.size, 0, none⟩) n cap)).run Tryz.prog (w.alloc (.cells cells t)) = .ok (.string (bs l)) (w.alloc (.cells cells t)) := by
  subst hn hc
  refine run_convert_bytes_back _ 99 9 5 _ cap l Tryz.underlying99 Tryz.underlying5 Tryz.underlying9 ?_
  intro j hj
  have ea : (⟨w.heap.size, 0, none⟩ : Addr).add j = ⟨w.heap.size, j, none⟩ := by unfold Addr.add; split <;> simp_all
  rw [ea]
  simp [hj]
theorem long_cells (n : Int) (h1 : 0 ≤ n) (h2 : n ≤ 18446744073709551615) : #[Value.int IntKind.u8 (n / 72057594037927936), Value.int IntKind.u8 (n / 281474976710656 % 256),
          Value.int IntKind.u8 (n / 1099511627776 % 256), Value.int IntKind.u8 (n / 4294967296 % 256),
          Value.int IntKind.u8 (n / 16777216 % 256), Value.int IntKind.u8 (n / 65536 % 256),
          Value.int IntKind.u8 (n / 256 % 256), Value.int IntKind.u8 (n % 256)] = ((Nm.long n.toNat).map fun c => Value.int .u8 (c.toNat : Int)).toArray := by
  rw [Nm.long_eq]
  simp only [List.map_cons, List.map_nil, Nm.u8_mod]
  have e : ∀ {a b c d e f g h a' b' c' d' e' f' g' h' : Int}, a = a' → b = b' → c = c' → d = d' → e = e' → f = f' → g = g' → h = h' →
    #[Value.int IntKind.u8 a, .int .u8 b, .int .u8 c, .int .u8 d, .int .u8 e, .int .u8 f, .int .u8 g, .int .u8 h] = [Value.int IntKind.u8 a', .int .u8 b', .int .u8 c', .int .u8 d', .int .u8 e', .int .u8 f', .int .u8 g', .int .u8 h'].toArray := by
    intros; subst_vars; rfl
  apply e <;> omega
def shArr (n k : Nat) : Array Value := ((List.range (Nm.sz n)).map fun i => Value.int .u8 (if i < k then ((n / 128 ^ i % 128 + 128 : Nat) : Int) else 0)).toArray
theorem shArr_size (n k : Nat) : (shArr n k).size = Nm.sz n := by simp [shArr]
theorem shArr_get (n k i : Nat) (h : i < Nm.sz n) : (shArr n k)[i]? = some (Value.int .u8 (if i < k then ((n / 128 ^ i % 128 + 128 : Nat) : Int) else 0)) := by
  simp [shArr, h]
theorem shArr_made (n : Nat) : madeCells (Value.int .u8 0).cells (Nm.sz n * 1) = shArr n 0 := by
  apply Array.ext (by simp [size_madeCells, shArr_size])
  intro i h1 h2
  rw [size_madeCells] at h1
  have := shArr_get n 0 i (by omega)
  rw [Array.getElem?_eq_getElem h2] at this
  rw [Option.some.inj this]
  simp [madeCells, Value.cells, Nat.mod_one]
theorem shArr_step (n k : Nat) (h : k < Nm.sz n) : (shArr n k).setIfInBounds k (Value.int .u8 ((n / 128 ^ k % 128 + 128 : Nat) : Int)) = shArr n (k + 1) := by
  apply Array.ext_getElem?
  intro i
  rw [Array.getElem?_setIfInBounds, shArr_size]
  by_cases hi : i < Nm.sz n
  · rw [shArr_get n (k + 1) i hi, shArr_get n k i hi]
    by_cases hk : k = i
    · subst hk; simp [h]
    · rw [if_neg hk]
      by_cases h3 : i < k
      · rw [if_pos h3, if_pos (by omega)]
      · rw [if_neg h3, if_neg (by omega)]
  · rw [if_neg (by omega)]
    rw [Array.getElem?_eq_none (by rw [shArr_size]; omega), Array.getElem?_eq_none (by rw [shArr_size]; omega)]
theorem or_byte (n : Int) (k : Nat) (h1 : 0 ≤ n) : bits BinOp.or IntKind.u8 (n / 2 ^ (7 * k) % 256) 128 = ((n.toNat / 128 ^ k % 128 + 128 : Nat) : Int) := by
  obtain ⟨m, rfl⟩ := Int.eq_ofNat_of_zero_le h1
  have e : ((m : Int) / 2 ^ (7 * k)) = ((m / 128 ^ k : Nat) : Int) := by
    rw [show (128 : Nat) ^ k = 2 ^ (7 * k) from by rw [show 128 = 2 ^ 7 from rfl, ← Nat.pow_mul], Int.natCast_ediv, Int.natCast_pow]; rfl
  rw [e, Nm.b_or128 _ (by omega) (by omega), Int.toNat_natCast]
  omega
theorem shArr_last (n : Nat) (hn : n < 18446744073709551616) : (shArr n (Nm.sz n)).setIfInBounds (Nm.sz n - 1) (Value.int .u8 ((n / 128 ^ (Nm.sz n - 1) % 128 : Nat) : Int)) = ((Nm.short n).map fun c => Value.int .u8 (c.toNat : Int)).toArray := by
  have hz := Nm.sz_le n hn
  apply Array.ext_getElem?
  intro i
  rw [Array.getElem?_setIfInBounds, shArr_size]
  have e0 : ((Nm.short n).map fun c => Value.int .u8 (c.toNat : Int)).toArray[i]? = ((Nm.short n)[i]?).map fun c => Value.int .u8 (c.toNat : Int) := by simp
  rw [e0]
  by_cases hi : i < Nm.sz n
  · rw [Nm.short_at n i hn hi, shArr_get n _ i hi, if_pos hi]
    unfold Nm.shortAt
    by_cases hk : Nm.sz n - 1 = i
    · rw [if_pos hk, if_pos (by omega), if_neg (by omega), Option.map_some, Nm.u8_of _ (by omega), ← hk]
    · rw [if_neg hk, if_pos (by omega), Option.map_some, Nm.u8_of _ (by omega)]
  · rw [if_neg (by omega), Array.getElem?_eq_none (by rw [shArr_size]; omega), List.getElem?_eq_none (by rw [Nm.short_len n hn]; omega)]; rfl
def topB (n k : Nat) : Nat := n / 128 ^ k % 128 + 128
theorem topB_low (n k : Nat) : bits BinOp.andNot IntKind.u8 ((topB n k : Nat) : Int) 128 = ((n / 128 ^ k % 128 : Nat) : Int) := by
  unfold topB
  generalize n / 128 ^ k = x
  rw [Nm.b_not128 _ (by omega) (by omega)]; omega
theorem info5 : (Tryz.prog.info? 5).map (fun i => (i.zero, i.size, i.bytes)) = some (some (.int .u8 0), 1, 1) := by kernel_rfl
theorem short_any (n : Int) (h1 : 0 ≤ n) (h2 : n ≤ 18446744073709551615) (w : World) :
    Calls Tryz.prog 88 #[.int .u64 n] w fun e w' => e = .returned (.string (bs (Nm.short n.toNat))) ∧ Kept w w' := by
  have hz := Nm.sz_le n.toNat (by omega)
  have hmk : ∀ wx : World, (Instr.makeSlice 99 (.int .i64 (Nm.sz n.toNat)) (.int .i64 (Nm.sz n.toNat))).run Tryz.prog wx = .ok (.slice (some ⟨wx.heap.size, 0, none⟩) (Nm.sz n.toNat) (Nm.sz n.toNat)) (wx.alloc (.cells (shArr n.toNat 0) 5)) := by
    intro wx
    obtain ⟨i0, hi, hz0, hz1, hz2⟩ := info_parts info5
    have := run_make (P := Tryz.prog) wx 99 5 i0 (.int .u8 0) Tryz.underlying99 hi hz0 .i64 .i64 (Nm.sz n.toNat) (Nm.sz n.toNat) (by omega) (by omega) (by rw [hz2]; omega) (by omega)
    rw [Int.toNat_natCast, hz1, shArr_made] at this
    exact this
  go_enter Tryz.func88, Tryz.ntmps88
  go_wp2_with (go_at_call 108; refine (shortSize_any _ h1 h2 _).mono ?_; rintro e w' ⟨rfl, rfl⟩)
  clear hmk
  go_loopw [11] (fun i wr => ∃ k : Nat, k ≤ Nm.sz n.toNat ∧ i = .int .i64 k ∧ wr = w.alloc (.cells (shArr n.toNat k) 5)) (fun i _ => Nm.sz n.toNat - (intOf i).toNat)
  case atStart => exact ⟨0, Nat.zero_le _, rfl, rfl⟩
  case round =>
    obtain ⟨k, hk, rfl, rfl⟩ := hrel
    by_cases hlt : k < Nm.sz n.toNat
    · have hcell : (shArr n.toNat k)[k]? = some (.int .u8 0) := by rw [shArr_get _ _ _ hlt]; simp
      have HO := Lib.hid (or_byte n k h1)
      have HS := Lib.hid (shArr_step n.toNat k hlt)
      go_wp2_with fail
      rw [HO.out, HS.out]
      go_roundw
      case rel => exact ⟨k + 1, by omega, by go_num, rfl⟩
      case measure => simp [intOf]; omega
    · have ek : k = Nm.sz n.toNat := by omega
      subst ek
      have hcell : (shArr n.toNat (Nm.sz n.toNat))[Nm.sz n.toNat - 1]? = some (.int .u8 ((topB n.toNat (Nm.sz n.toNat - 1) : Nat) : Int)) := by
        rw [shArr_get _ _ _ (by omega), if_pos (by omega)]; rfl
      have hcv := conv_row w (Nm.short n.toNat) _ 5 (Nm.sz n.toNat) (Nm.sz n.toNat) (Nm.short_len _ (by omega)).symm (by rw [← shArr_last n.toNat (by omega), ← topB_low])
      go_wp2_with fail
      go_ret
      exact ⟨rfl, (Kept.refl _).alloc _⟩
