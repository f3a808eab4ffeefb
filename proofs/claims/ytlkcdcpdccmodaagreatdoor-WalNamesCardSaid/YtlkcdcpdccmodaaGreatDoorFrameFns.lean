/-
  What the functions of package frame compute, each for every input: the seal, Make, Take, All, Join.
-/
import Derived.Test.YtlkcdcpdccmodaaGreatDoorFrameMath
import Derived.Test.YtlkcdcpdccmodaaGreatDoorBuilder
namespace Go.Proofs.YtlkcdcpdccmodaaGreatDoor
open Go.ChangeShapes Go.WideShapes Go.ChangeAt Go.RowKit
set_option linter.unusedVariables false
set_option maxRecDepth 100000
set_option maxHeartbeats 400000

theorem b_xor8 (a b : UInt8) : bits BinOp.xor IntKind.u8 ((a.toNat : Nat) : Int) ((b.toNat : Nat) : Int) = (((a ^^^ b).toNat : Nat) : Int) := by
  rw [u8_xor_nat _ _ a.toNat_lt b.toNat_lt, UInt8.toNat_xor]
theorem seal_step (s : ByteArray) (k : Nat) (h : k < s.size) : Fr.sealOf (s.data.toList.take (k + 1)) = Fr.sealOf (s.data.toList.take k) ^^^ s[k] := by
  rw [Nm.take_snoc' _ k (by simpa using h), Fr.sealOf_snoc, getD_of s k h]
theorem seal_any (s : ByteArray) (hs : s.size ≤ maxLen) (w : World) :
    Calls Tryz.prog 74 #[.string s] w fun e w' => e = .returned (.int .u8 ((Fr.sealOf s.data.toList).toNat : Nat)) ∧ w = w' := by
  unfold maxLen at hs
  go_enter Tryz.func74, Tryz.ntmps74
  go_wp2_with fail
  go_loop [3, 7] (fun c i => ∃ k : Nat, k ≤ s.size ∧ i = .int .i64 k ∧ c = .int .u8 ((Fr.sealOf (s.data.toList.take k)).toNat : Nat)) (fun _ i => s.size - (intOf i).toNat)
  case atStart => exact ⟨0, Nat.zero_le _, rfl, rfl⟩
  case round =>
    obtain ⟨k, hk, rfl, rfl⟩ := hrel
    by_cases hlt : k < s.size
    · have hst := seal_step s k hlt
      have hx := b_xor8 (Fr.sealOf (s.data.toList.take k)) s[k]
      have HST := Lib.hid hst; clear hst
      go_wp2_with fail
      go_round
      case rel => exact ⟨k + 1, by omega, by go_num, by rw [HST.out, UInt8.toNat_xor]⟩
      case measure => simp [intOf]; omega
    · have e : k = s.size := by omega
      subst e
      have ht : s.data.toList.take s.size = s.data.toList := List.take_of_length_le (by simp)
      have HT := Lib.hid ht; clear ht
      go_wp2_with fail
      go_ret
      exact ⟨by rw [HT.out]; rfl, rfl⟩
theorem fbs_app (a b : List UInt8) : bs a ++ bs b = bs (a ++ b) := bs_of (by simp [bs, ByteArray.data_append])
theorem fbs_size (l : List UInt8) : (bs l).size = l.length := by simp [bs, ByteArray.size]
theorem fbs_self (s : ByteArray) : bs s.data.toList = s := (bs_of rfl).symm
theorem make_any (s : ByteArray) (hs : s.size ≤ maxLen) (w : World) :
    Calls Tryz.prog 42 #[.string s] w fun e w' => e = .returned (.tuple #[.string (bs (Fr.makeS s.data.toList)), .int .i64 (Fr.makeE s.data.toList)]) ∧ Kept w w' := by
  have hm := hs
  unfold maxLen at hs
  by_cases hl : s.size ≤ 8000
  · have e1 : Fr.makeS s.data.toList = Nm.short s.size ++ (s.data.toList ++ [Fr.sealOf s.data.toList]) := by
      unfold Fr.makeS Fr.mk; rw [if_pos (by simpa using hl)]; simp
    have e2 : Fr.makeE s.data.toList = 0 := by unfold Fr.makeE; rw [if_pos (by simpa using hl)]
    rw [e1, e2]
    clear e1 e2
    have hsh := short_any (s.size : Int) (by omega) (by omega)
    have z1 : (bs (Nm.short s.size)).size ≤ 2 := by rw [fbs_size, Nm.short_len _ (by omega)]; exact (Fr.sz_two _ hl).2
    have z2 : (bs (Nm.short s.size) ++ s).size ≤ 8002 := by rw [ByteArray.size_append]; omega
    have z3 : (bs [Fr.sealOf s.data.toList]).size = 1 := rfl
    go_enter Tryz.func42, Tryz.ntmps42
    go_wp2_with fail
    refine (hsh _).mono ?_
    rintro e w1 ⟨rfl, g1⟩
    go_wp2_with fail
    refine (seal_any s hm _).mono ?_
    rintro e w2 ⟨rfl, rfl⟩
    have hcv := conv_row w1 [Fr.sealOf s.data.toList] #[.int .u8 ((Fr.sealOf s.data.toList).toNat : Nat)] 5 1 1 rfl rfl
    go_wp2_with fail
    go_ret2
    refine ⟨?_, kept_trans g1 ((Kept.refl _).alloc _)⟩
    have e : bs (Nm.short s.size) ++ s ++ bs [Fr.sealOf s.data.toList] = bs (Nm.short s.size ++ (s.data.toList ++ [Fr.sealOf s.data.toList])) := by
      rw [← List.append_assoc, ← fbs_app, ← fbs_app, fbs_self]
    rw [e]
    rfl
  · have e1 : Fr.makeS s.data.toList = [] := by unfold Fr.makeS; rw [if_neg (by simpa using hl)]
    have e2 : Fr.makeE s.data.toList = 5 := by unfold Fr.makeE; rw [if_neg (by simpa using hl)]
    rw [e1, e2]
    clear e1 e2
    go_enter Tryz.func42, Tryz.ntmps42
    go_wp2_with fail
    go_ret2
    exact ⟨rfl, Kept.refl _⟩
/-- Take, where the bytes begin with a number -/
theorem takeT_ok {s t r : List UInt8} (h : Fr.take s = some (t, r)) : Fr.takeT s = t ∧ Fr.takeR s = r ∧ Fr.takeE s = 0 := by
  have hn : s ≠ [] := by rintro rfl; cases h
  unfold Fr.takeT Fr.takeR Fr.takeE
  rw [h, if_neg hn]; exact ⟨rfl, rfl, rfl⟩
theorem takeT_no {s : List UInt8} (hn : s ≠ []) (h : Fr.take s = none) : Fr.takeT s = [] ∧ Fr.takeR s = [] ∧ Fr.takeE s = 2 := by
  unfold Fr.takeT Fr.takeR Fr.takeE
  rw [h, if_neg hn]; exact ⟨rfl, rfl, rfl⟩
theorem take_of_num {s : List UInt8} {n : Nat} {b : List UInt8} (h : Nm.take s = some (n, b)) : Fr.take s = if n ≤ 8000 ∧ n < b.length ∧ b.getD n 0 = Fr.sealOf (b.take n) then some (b.take n, b.drop (n + 1)) else none := by
  unfold Fr.take; rw [h]
theorem extract_take (b : List UInt8) (n : Nat) : (bs b).extract 0 n = bs (b.take n) := bs_of (by simp [bs])
theorem extract_drop (b : List UInt8) (n : Nat) : (bs b).extract n (bs b).size = bs (b.drop n) := by rw [extract_end]; rfl
theorem fquiet_l {P : Program} {f : FuncId} {args : Array Value} {w : World} {n : Nat} {v : Value} (h : Calls P f args (w.drewN n) fun e w' => e = .returned v ∧ w.drewN n = w') :
    Calls P f args (w.drewN n) fun e w'' => e = .returned v ∧ ∃ m, w'' = w.drewN m := h.mono fun _ _ k => ⟨k.1, n, k.2.symm⟩
theorem ntake_some {s : ByteArray} (hs : s.size ≤ maxLen) {n : Nat} {b : List UInt8} (h : Nm.take s.data.toList = some (n, b)) (w : World) :
    Calls Tryz.prog 103 #[.string s] w fun e w' => e = .returned (.tuple #[.int .u64 n, .string (bs b), .bool true]) ∧ Kept w w' := by
  have := take_any s hs w
  unfold Nm.takeN Nm.takeR Nm.takeB at this
  rw [h] at this
  exact this
theorem ntake_none {s : ByteArray} (hs : s.size ≤ maxLen) (h : Nm.take s.data.toList = none) (w : World) :
    Calls Tryz.prog 103 #[.string s] w fun e w' => e = .returned (.tuple #[.int .u64 0, .string (bs []), .bool false]) ∧ Kept w w' := by
  have := take_any s hs w
  unfold Nm.takeN Nm.takeR Nm.takeB at this
  rw [h] at this
  exact this
theorem ftake_empty (s : ByteArray) (h : (s.toList == []) = true) (w : World) :
    Calls Tryz.prog 90 #[.string s] w fun e w' => e = .returned (.tuple #[.string (bs []), .string (bs []), .int .i64 10]) ∧ Kept w w' := by
  go_enter Tryz.func90, Tryz.ntmps90
  go_wp2_with fail
  go_ret3
  exact ⟨rfl, Kept.refl _⟩
theorem ftake_none (s : ByteArray) (hs : s.size ≤ maxLen) (h : (s.toList == []) = false) (hn : Nm.take s.data.toList = none) (w : World) :
    Calls Tryz.prog 90 #[.string s] w fun e w' => e = .returned (.tuple #[.string (bs []), .string (bs []), .int .i64 2]) ∧ Kept w w' := by
  have HC := Lib.hid (ntake_none hs hn)
  clear hn
  go_enter Tryz.func90, Tryz.ntmps90
  go_wp2_with fail
  refine (HC.out _).mono ?_
  rintro e w1 ⟨rfl, g1⟩
  go_wp2_with fail
  go_ret3
  exact ⟨rfl, g1⟩
theorem ftake_big (s : ByteArray) (hs : s.size ≤ maxLen) (h : (s.toList == []) = false) {n : Nat} {b : List UInt8} (hn : Nm.take s.data.toList = some (n, b)) (hb : n < 18446744073709551616) (h8 : 8000 < n ∨ b.length ≤ n) (w : World) :
    Calls Tryz.prog 90 #[.string s] w fun e w' => e = .returned (.tuple #[.string (bs []), .string (bs []), .int .i64 2]) ∧ Kept w w' := by
  have HC := Lib.hid (ntake_some hs hn)
  clear hn
  have hbl := fbs_size b
  by_cases h81 : 8000 < n
  · have d1 : decide ((8000 : Int) < (n : Int)) = true := by simp; omega
    clear h8
    go_enter Tryz.func90, Tryz.ntmps90
    go_wp2_with fail
    refine (HC.out _).mono ?_
    rintro e w1 ⟨rfl, g1⟩
    go_wp2_with fail
    go_ret3
    exact ⟨rfl, g1⟩
  · have d1 : decide ((8000 : Int) < (n : Int)) = false := by simp; omega
    have h82 : (bs b).size ≤ n := by omega
    have d2 : decide (((bs b).size : Int) ≤ (n : Int)) = true := by simp; omega
    have h83 : n ≤ 8000 := by omega
    clear h8 h81 hbl
    go_enter Tryz.func90, Tryz.ntmps90
    go_wp2_with fail
    refine (HC.out _).mono ?_
    rintro e w1 ⟨rfl, g1⟩
    go_wp2_with fail
    go_ret3
    exact ⟨rfl, g1⟩
theorem ftake_fits (s : ByteArray) (hs : s.size ≤ maxLen) (h : (s.toList == []) = false) {n : Nat} {b : List UInt8} (hn : Nm.take s.data.toList = some (n, b)) (h8 : n ≤ 8000) (hl : n < b.length) (w : World) :
    Calls Tryz.prog 90 #[.string s] w fun e w' => e = .returned (if b.getD n 0 = Fr.sealOf (b.take n) then .tuple #[.string (bs (b.take n)), .string (bs (b.drop (n + 1))), .int .i64 0] else .tuple #[.string (bs []), .string (bs []), .int .i64 2]) ∧ Kept w w' := by
  have HC := Lib.hid (ntake_some hs hn)
  have hbs : (bs b).size = b.length := fbs_size b
  have hbl : b.length ≤ s.size := by
    have e := (Nm.take_back _ _ _ hn).1
    have e2 := congrArg List.length e
    rw [toList_size, List.length_append] at e2
    omega
  have hmx : (bs b).size ≤ 9223372036854775807 := by unfold maxLen at hs; omega
  have hlt : n < (bs b).size := by omega
  have d1 : decide ((8000 : Int) < (n : Int)) = false := by simp; omega
  have d2 : decide (((bs b).size : Int) ≤ (n : Int)) = false := by simp; omega
  have hx : (bs b).extract 0 n = bs (b.take n) := extract_take b n
  have hsz : (bs (b.take n)).size ≤ maxLen := by rw [fbs_size, List.length_take]; unfold maxLen; omega
  have hse := seal_any (bs (b.take n)) hsz
  have hg : (bs b)[n]'hlt = b.getD n 0 := by rw [← getD_of (bs b) n hlt]; rfl
  have HSE := Lib.hid hse; have HG := Lib.hid hg; have HBS := Lib.hid hbs
  clear hn hbl hse hg hbs hl hs
  by_cases hc : b.getD n 0 = Fr.sealOf (b.take n)
  · rw [if_pos hc]
    have d3 : ((((bs b)[n]'hlt).toNat : Int) != ((Fr.sealOf (bs (b.take n)).data.toList).toNat : Int)) = false := by
      rw [HG.out, hc]; simp [bs]
    have HCC := Lib.hid hc; clear hc
    go_enter Tryz.func90, Tryz.ntmps90
    go_wp2_with fail
    refine (HC.out _).mono ?_
    rintro e w1 ⟨rfl, g1⟩
    go_wp2_with fail
    go_quiet ((go_at_call 74; exact fquiet_l (HSE.out _)))
    go_wp2_with fail
    go_quiet (fail)
    go_wp2_with fail
    go_ret3
    refine ⟨?_, kept_trans g1 (kept_trans (kept_drewN _ _) (kept_drewN _ _))⟩
    rw [extract_drop]
    rfl
  · rw [if_neg hc]
    have d3 : ((((bs b)[n]'hlt).toNat : Int) != ((Fr.sealOf (bs (b.take n)).data.toList).toNat : Int)) = true := by
      rw [HG.out]
      simp only [bs_data, bne_iff_ne, ne_eq]
      intro e
      exact hc (UInt8.toNat_inj.1 (by omega))
    have HCC := Lib.hid hc; clear hc
    go_enter Tryz.func90, Tryz.ntmps90
    go_wp2_with fail
    refine (HC.out _).mono ?_
    rintro e w1 ⟨rfl, g1⟩
    go_wp2_with fail
    go_quiet ((go_at_call 74; exact fquiet_l (HSE.out _)))
    go_wp2_with fail
    go_ret3
    exact ⟨rfl, kept_trans g1 (kept_drewN _ _)⟩
theorem ftake_any (s : ByteArray) (hs : s.size ≤ maxLen) (w : World) :
    Calls Tryz.prog 90 #[.string s] w fun e w' => e = .returned (.tuple #[.string (bs (Fr.takeT s.data.toList)), .string (bs (Fr.takeR s.data.toList)), .int .i64 (Fr.takeE s.data.toList)]) ∧ Kept w w' := by
  by_cases h0 : s.data.toList = []
  · have e0 : (s.toList == []) = true := by rw [Lib.toList_data, h0]; rfl
    have := ftake_empty s e0 w
    unfold Fr.takeT Fr.takeR Fr.takeE
    rw [h0]
    exact this
  · have e0 : (s.toList == []) = false := by
      rw [Lib.toList_data]
      cases h : s.data.toList with
      | nil => exact absurd h h0
      | cons => rfl
    cases hn : Nm.take s.data.toList with
    | none =>
      obtain ⟨e1, e2, e3⟩ := takeT_no h0 (by unfold Fr.take; rw [hn])
      rw [e1, e2, e3]
      exact ftake_none s hs e0 hn w
    | some x =>
      obtain ⟨n, b⟩ := x
      have ht := take_of_num hn
      by_cases h8 : n ≤ 8000 ∧ n < b.length
      · by_cases hc : b.getD n 0 = Fr.sealOf (b.take n)
        · rw [if_pos ⟨h8.1, h8.2, hc⟩] at ht
          obtain ⟨e1, e2, e3⟩ := takeT_ok ht
          rw [e1, e2, e3]
          have := ftake_fits s hs e0 hn h8.1 h8.2 w
          rw [if_pos hc] at this
          exact this
        · rw [if_neg (fun h => hc h.2.2)] at ht
          obtain ⟨e1, e2, e3⟩ := takeT_no h0 ht
          rw [e1, e2, e3]
          have := ftake_fits s hs e0 hn h8.1 h8.2 w
          rw [if_neg hc] at this
          exact this
      · rw [if_neg (fun h => h8 ⟨h.1, h.2.1⟩)] at ht
        obtain ⟨e1, e2, e3⟩ := takeT_no h0 ht
        rw [e1, e2, e3]
        exact ftake_big s hs e0 hn (Nm.take_back _ _ _ hn).2 (by omega) w
end Go.Proofs.YtlkcdcpdccmodaaGreatDoor
