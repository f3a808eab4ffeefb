/-
  What the document's own Make, Take, All and Join of layer 4 (package screeref04) compute: the same as the program's.
-/
import Derived.Test.YtlkcdcpdccmodaaGreatDoorFrameLawBack
import Derived.Test.YtlkcdcpdccmodaaGreatDoorNumRefTake
namespace Go.Proofs.YtlkcdcpdccmodaaGreatDoor
open Go.ChangeShapes Go.WideShapes Go.ChangeAt Go.RowKit
set_option linter.unusedVariables false
set_option maxRecDepth 100000
set_option maxHeartbeats 1000000

theorem conv_one (c : UInt8) (b : Nat) (W : World) (h : W.cell? ⟨b, 0, none⟩ = some (.int .u8 ((c.toNat : Nat) : Int))) :
    (convert 106 9 (.slice (some ⟨b, 0, none⟩) 1 1)).run Tryz.prog W = .ok (.string (bs [c])) W :=
  conv_cells [c] rfl fun j hj => by
    have : j = 0 := by simpa using hj
    subst this; exact h
theorem kc1 {W W1 : World} (a : Addr) (v : Value) (k : Kept W W1) (h : W.cell? a = some v) : W1.cell? a = some v := by
  rw [kept_cell k (World.block_lt_of_cell? W _ h)]; exact h
set_option maxRecDepth 100000 in
theorem rmake_any (s : ByteArray) (hs : s.size ≤ maxLen) (w : World) :
    Calls Tryz.prog 44 #[.string s] w fun e w' => e = .returned (.tuple #[.string (bs (Fr.makeS s.data.toList)), .int .i64 (Fr.makeE s.data.toList)]) ∧ Kept w w' := by
  have hm := hs
  unfold maxLen at hs
  by_cases hl : s.size ≤ 8000
  · have e1 : Fr.makeS s.data.toList = Nm.short s.size ++ (s.data.toList ++ [Fr.sealOf s.data.toList]) := by
      unfold Fr.makeS Fr.mk; rw [if_pos (by simpa using hl)]; simp
    have e2 : Fr.makeE s.data.toList = 0 := by unfold Fr.makeE; rw [if_pos (by simpa using hl)]
    rw [e1, e2]
    clear e1 e2
    have d1 : decide ((8000 : Int) < (s.size : Int)) = false := by simp; omega
    have hsh := rshort_any (s.size : Int) (by omega) (by omega)
    have z1 : (bs (Nm.short s.size)).size ≤ 2 := by rw [fbs_size, Nm.short_len _ (by omega)]; exact (Fr.sz_two _ hl).2
    have z2 : (bs (Nm.short s.size) ++ s).size ≤ 8002 := by rw [ByteArray.size_append]; omega
    have z3 : (bs [Fr.sealOf s.data.toList]).size = 1 := rfl
    have e : bs (Nm.short s.size) ++ s ++ bs [Fr.sealOf s.data.toList] = bs (Nm.short s.size ++ (s.data.toList ++ [Fr.sealOf s.data.toList])) := by
      rw [← List.append_assoc, ← fbs_app, ← fbs_app, fbs_self]
    have HE := Lib.hid e; clear e
    have HSH := Lib.hid hsh; clear hsh
    go_enter Tryz.func44, Tryz.ntmps44
    go_wp2_with fail
    go_loop [4, 5] (fun c i => ∃ k : Nat, k ≤ s.size ∧ i = .int .i64 k ∧ c = .int .u8 ((Fr.sealOf (s.data.toList.take k)).toNat : Nat)) (fun _ i => s.size - (intOf i).toNat)
    case atStart => exact ⟨0, Nat.zero_le _, rfl, rfl⟩
    case round =>
      obtain ⟨k, hk, rfl, rfl⟩ := hrel
      by_cases hlt : k < s.size
      · have hst := seal_step s k hlt
        have hx := b_xor8 (Fr.sealOf (s.data.toList.take k)) s[k]
        have HST := Lib.hid hst; clear hst
        go_wp2_with fail
        go_round
        case rel => exact ⟨k + 1, by omega, by go_num, by rw [HST.out, UInt8.toNat_xor]⟩
        case measure => simp [intOf]; omega
      · have e : k = s.size := by omega
        subst e
        have ht : s.data.toList.take s.size = s.data.toList := List.take_of_length_le (by simp)
        rw [ht]
        clear ht
        have hcv := conv_one (Fr.sealOf s.data.toList)
        generalize hcc : Fr.sealOf s.data.toList = c at *
        have HCC := Lib.hid hcc; clear hcc
        have q1 : IntKind.u64.wrap (s.size : Int) = (s.size : Int) := by rw [IntKind.wrap_u64]; omega
        go_wp2_with fail
        go_region_with (go_at_call 76; refine (HSH.out _).mono ?_; rintro e w1 ⟨rfl, g1⟩; rw [Int.toNat_natCast]; have q9 := kc1 ⟨w.heap.size, 0, none⟩ (.int .u8 ((c.toNat : Nat) : Int)) g1; try simp at q9)
        all_goals
          clear hcv q9 q1
          go_wp2_with fail
          go_ret2
          refine ⟨by rw [HE.out, HCC.out]; simp [go_sem], ?_⟩
          first
            | exact kept_trans (kept_of_drew g1) ((Kept.refl _).alloc _)
            | exact kept_trans ((kept_of_drew (Kept.refl w.drew)).alloc _) g1
  · have e1 : Fr.makeS s.data.toList = [] := by unfold Fr.makeS; rw [if_neg (by simpa using hl)]
    have e2 : Fr.makeE s.data.toList = 5 := by unfold Fr.makeE; rw [if_neg (by simpa using hl)]
    rw [e1, e2]
    clear e1 e2
    go_enter Tryz.func44, Tryz.ntmps44
    go_wp2_with fail
    go_ret2
    exact ⟨rfl, Kept.refl _⟩
theorem rntake_some {s : ByteArray} (hs : s.size ≤ maxLen) {n : Nat} {b : List UInt8} (h : Nm.take s.data.toList = some (n, b)) (w : World) :
    Calls Tryz.prog 104 #[.string s] w fun e w' => e = .returned (.tuple #[.int .u64 n, .string (bs b), .bool true]) ∧ Kept w w' := by
  have := rtake_any s hs w
  unfold Nm.takeN Nm.takeR Nm.takeB at this
  rw [h] at this
  exact this
theorem rntake_none {s : ByteArray} (hs : s.size ≤ maxLen) (h : Nm.take s.data.toList = none) (w : World) :
    Calls Tryz.prog 104 #[.string s] w fun e w' => e = .returned (.tuple #[.int .u64 0, .string (bs []), .bool false]) ∧ Kept w w' := by
  have := rtake_any s hs w
  unfold Nm.takeN Nm.takeR Nm.takeB at this
  rw [h] at this
  exact this
theorem rftake_empty (s : ByteArray) (h : ((s.size : Int) == 0) = true) (w : World) :
    Calls Tryz.prog 91 #[.string s] w fun e w' => e = .returned (.tuple #[.string (bs []), .string (bs []), .int .i64 10]) ∧ Kept w w' := by
  go_enter Tryz.func91, Tryz.ntmps91
  go_wp2_with fail
  go_ret3
  exact ⟨rfl, Kept.refl _⟩
theorem rftake_none (s : ByteArray) (hs : s.size ≤ maxLen) (h : ((s.size : Int) == 0) = false) (hn : Nm.take s.data.toList = none) (w : World) :
    Calls Tryz.prog 91 #[.string s] w fun e w' => e = .returned (.tuple #[.string (bs []), .string (bs []), .int .i64 2]) ∧ Kept w w' := by
  have HC := Lib.hid (rntake_none hs hn)
  clear hn
  go_enter Tryz.func91, Tryz.ntmps91
  go_wp2_with fail
  refine (HC.out _).mono ?_
  rintro e w1 ⟨rfl, g1⟩
  go_wp2_with fail
  go_ret3
  exact ⟨rfl, g1⟩
theorem rftake_big (s : ByteArray) (hs : s.size ≤ maxLen) (h : ((s.size : Int) == 0) = false) {n : Nat} {b : List UInt8} (hn : Nm.take s.data.toList = some (n, b)) (hb : n < 18446744073709551616) (h8 : 8000 < n ∨ b.length ≤ n) (w : World) :
    Calls Tryz.prog 91 #[.string s] w fun e w' => e = .returned (.tuple #[.string (bs []), .string (bs []), .int .i64 2]) ∧ Kept w w' := by
  have HC := Lib.hid (rntake_some hs hn)
  clear hn
  have hbl := fbs_size b
  by_cases h81 : 8000 < n
  · have d1 : decide ((8000 : Int) < (n : Int)) = true := by simp; omega
    clear h8
    go_enter Tryz.func91, Tryz.ntmps91
    go_wp2_with fail
    refine (HC.out _).mono ?_
    rintro e w1 ⟨rfl, g1⟩
    go_wp2_with fail
    go_ret3
    exact ⟨rfl, g1⟩
  · have d1 : decide ((8000 : Int) < (n : Int)) = false := by simp; omega
    have h82 : (bs b).size ≤ n := by omega
    have d2 : decide (((bs b).size : Int) < (n : Int) + 1) = true := by simp; omega
    have h83 : n ≤ 8000 := by omega
    clear h8 h81 hbl
    go_enter Tryz.func91, Tryz.ntmps91
    go_wp2_with fail
    refine (HC.out _).mono ?_
    rintro e w1 ⟨rfl, g1⟩
    go_wp2_with fail
    go_ret3
    exact ⟨rfl, g1⟩
theorem rftake_fits (s : ByteArray) (hs : s.size ≤ maxLen) (h : ((s.size : Int) == 0) = false) {n : Nat} {b : List UInt8} (hn : Nm.take s.data.toList = some (n, b)) (h8 : n ≤ 8000) (hl : n < b.length) (w : World) :
    Calls Tryz.prog 91 #[.string s] w fun e w' => e = .returned (if b.getD n 0 = Fr.sealOf (b.take n) then .tuple #[.string (bs (b.take n)), .string (bs (b.drop (n + 1))), .int .i64 0] else .tuple #[.string (bs []), .string (bs []), .int .i64 2]) ∧ Kept w w' := by
  have HC := Lib.hid (rntake_some hs hn)
  have hbs : (bs b).size = b.length := fbs_size b
  have hsb := (Nm.take_back _ _ _ hn).1
  have hbl : (Nm.short n).length + b.length = s.size := by
    have e2 := congrArg List.length hsb
    rw [toList_size, List.length_append] at e2
    omega
  have hsn : (Nm.short n).length ≤ 2 := by rw [Nm.short_len _ (by omega)]; exact (Fr.sz_two _ h8).2
  have hsm : s.size ≤ 9223372036854775807 := by unfold maxLen at hs; omega
  have hmx : (bs b).size ≤ 9223372036854775807 := by omega
  have hlt : n < (bs b).size := by omega
  have d1 : decide ((8000 : Int) < (n : Int)) = false := by simp; omega
  have d2 : decide (((bs b).size : Int) < (n : Int) + 1) = false := by simp; omega
  have hx : (bs b).extract 0 n = bs (b.take n) := extract_take b n
  have htl : (b.take n).length = n := by rw [List.length_take]; omega
  have hsz : (bs (b.take n)).size ≤ maxLen := by rw [fbs_size, htl]; unfold maxLen; omega
  have hse := rmake_any (bs (b.take n)) hsz
  rw [bs_data, show Fr.makeS (b.take n) = Fr.mk (b.take n) from by unfold Fr.makeS; rw [if_pos (by omega)], show Fr.makeE (b.take n) = 0 from by unfold Fr.makeE; rw [if_pos (by omega)]] at hse
  have hml : (Fr.mk (b.take n)).length = (Nm.short n).length + n + 1 := by unfold Fr.mk; rw [List.length_append, htl, List.length_append, htl, List.length_singleton]; omega
  have hmz : (bs (Fr.mk (b.take n))).size ≤ s.size := by rw [fbs_size]; omega
  have hpre : s.extract 0 (bs (Fr.mk (b.take n))).size = bs (Nm.short n ++ (b.take n ++ [b.getD n 0])) := by
    refine bs_of ?_
    rw [fbs_size, hml, Lib.extract_data]
    simp only [Nat.sub_zero, List.drop_zero]
    rw [hsb]
    conv => lhs; rw [Fr.drop_getD b n hl]
    rw [show Nm.short n ++ (b.take n ++ b.getD n 0 :: b.drop (n + 1)) = (Nm.short n ++ (b.take n ++ [b.getD n 0])) ++ b.drop (n + 1) from by simp]
    rw [List.take_append_of_le_length (by simp [htl]; omega), List.take_of_length_le (by simp [htl]; omega)]
  have hsuf : s.extract (bs (Fr.mk (b.take n))).size s.size = bs (b.drop (n + 1)) := by
    rw [extract_end, fbs_size, hml, hsb]
    congr 1
    rw [List.drop_append, show (Nm.short n).length + n + 1 - (Nm.short n).length = n + 1 from by omega, List.drop_of_length_le (by omega)]
    rfl
  have hiff : (bs (Fr.mk (b.take n))).toList = (bs (Nm.short n ++ (b.take n ++ [b.getD n 0]))).toList ↔ b.getD n 0 = Fr.sealOf (b.take n) := by
    rw [Lib.toList_data, Lib.toList_data, bs_data, bs_data]
    unfold Fr.mk
    rw [htl]
    constructor
    · intro e
      have := List.append_cancel_left (List.append_cancel_left e)
      simp at this
      exact this.symm
    · intro e; rw [e]
  have HSE := Lib.hid hse; have HBS := Lib.hid hbs; have HIF := Lib.hid hiff; have HSUF := Lib.hid hsuf
  clear hn hbl hse hbs hl hs hsb hml hiff hsuf htl
  generalize Fr.mk (b.take n) = M at *
  generalize Nm.short n ++ (b.take n ++ [b.getD n 0]) = P at *
  by_cases hc : b.getD n 0 = Fr.sealOf (b.take n)
  · rw [if_pos hc]
    have d3 : ((bs M).toList == (bs P).toList) = true := by rw [beq_iff_eq]; exact HIF.out.2 hc
    have d4 : ((bs M).toList != (bs P).toList) = false := by simp [bne, d3]
    have HCC := Lib.hid hc; clear hc
    go_enter Tryz.func91, Tryz.ntmps91
    go_wp2_with fail
    refine (HC.out _).mono ?_
    rintro e w1 ⟨rfl, g1⟩
    go_wp2_with fail
    refine (HSE.out _).mono ?_
    rintro e w2 ⟨rfl, g2⟩
    go_wp2_with fail
    go_quiet (fail)
    go_wp2_with fail
    go_ret3
    rw [HSUF.out]
    exact ⟨rfl, kept_trans g1 (kept_trans g2 (kept_drewN _ _))⟩
  · rw [if_neg hc]
    have d3 : ((bs M).toList == (bs P).toList) = false := by rw [beq_eq_false_iff_ne]; exact fun e => hc (HIF.out.1 e)
    have d4 : ((bs M).toList != (bs P).toList) = true := by simp [bne, d3]
    have HCC := Lib.hid hc; clear hc
    go_enter Tryz.func91, Tryz.ntmps91
    go_wp2_with fail
    refine (HC.out _).mono ?_
    rintro e w1 ⟨rfl, g1⟩
    go_wp2_with fail
    refine (HSE.out _).mono ?_
    rintro e w2 ⟨rfl, g2⟩
    go_wp2_with fail
    go_ret3
    exact ⟨rfl, kept_trans g1 g2⟩
theorem rftake_any (s : ByteArray) (hs : s.size ≤ maxLen) (w : World) :
    Calls Tryz.prog 91 #[.string s] w fun e w' => e = .returned (.tuple #[.string (bs (Fr.takeT s.data.toList)), .string (bs (Fr.takeR s.data.toList)), .int .i64 (Fr.takeE s.data.toList)]) ∧ Kept w w' := by
  have hz := toList_size s
  by_cases h0 : s.data.toList = []
  · have e0 : ((s.size : Int) == 0) = true := by rw [h0] at hz; simp at hz; simp [← hz]
    have := rftake_empty s e0 w
    unfold Fr.takeT Fr.takeR Fr.takeE
    rw [h0]
    exact this
  · have e0 : ((s.size : Int) == 0) = false := by
      rw [beq_eq_false_iff_ne]
      intro e
      exact h0 (List.eq_nil_of_length_eq_zero (by omega))
    cases hn : Nm.take s.data.toList with
    | none =>
      obtain ⟨e1, e2, e3⟩ := takeT_no h0 (by unfold Fr.take; rw [hn])
      rw [e1, e2, e3]
      exact rftake_none s hs e0 hn w
    | some x =>
      obtain ⟨n, b⟩ := x
      have ht := take_of_num hn
      by_cases h8 : n ≤ 8000 ∧ n < b.length
      · by_cases hc : b.getD n 0 = Fr.sealOf (b.take n)
        · rw [if_pos ⟨h8.1, h8.2, hc⟩] at ht
          obtain ⟨e1, e2, e3⟩ := takeT_ok ht
          rw [e1, e2, e3]
          have := rftake_fits s hs e0 hn h8.1 h8.2 w
          rw [if_pos hc] at this
          exact this
        · rw [if_neg (fun h => hc h.2.2)] at ht
          obtain ⟨e1, e2, e3⟩ := takeT_no h0 ht
          rw [e1, e2, e3]
          have := rftake_fits s hs e0 hn h8.1 h8.2 w
          rw [if_neg hc] at this
          exact this
      · rw [if_neg (fun h => h8 ⟨h.1, h.2.1⟩)] at ht
        obtain ⟨e1, e2, e3⟩ := takeT_no h0 ht
        rw [e1, e2, e3]
        exact rftake_big s hs e0 hn (Nm.take_back _ _ _ hn).2 (by omega) w
end Go.Proofs.YtlkcdcpdccmodaaGreatDoor
