/-
  BatchBack and BatchCuts of the statements of layer 5 return true, whatever the input.
-/
import Derived.Test.YtalcmiaohclnjaaBatchAwake
namespace Go.Proofs.Ytalcmiaohclnjaa
open Go.ChangeShapes Go.WideShapes Go.ChangeAt Go.RowKit
set_option linter.unusedVariables false
set_option maxHeartbeats 1000000

theorem ok_sane {n : Nat} {l : List Bt.Op} (h : Bt.ok n l = true) : Sane l ∧ l.length ≤ 16 := by
  obtain ⟨h1, _⟩ := Bt.ok_iff.1 h
  obtain ⟨_, h16, hall⟩ := Bt.may_iff.1 h1
  refine ⟨fun x hx => ?_, h16⟩
  obtain ⟨_, q1, q2, _⟩ := Bt.may1_iff.1 (hall x hx)
  unfold maxLen; omega
theorem encode_nat (n : Nat) (A : Option Addr) (c : Nat) (l : List Bt.Op) (hok : Bt.ok n l = true) (w : World) (hA : Ops w A l) :
    Calls Try.prog 12 #[.int .u64 n, .slice A l.length c] w fun e w' => e = .returned (.tuple #[.string (bs (Bt.enc n l)), .int .i64 0]) ∧ Kept w w' := by
  obtain ⟨_, h2⟩ := Bt.nums_iff.1 (Bt.ok_iff.1 hok).2
  exact encode_ok (n : Int) A c l (by omega) (by omega) hok w hA
theorem decode_enc (n : Nat) (l : List Bt.Op) (hok : Bt.ok n l = true) (w : World) :
    Calls Try.prog 20 #[.string (bs (Bt.enc n l))] w fun e w' => ∃ A c, e = .returned (.tuple #[.int .u64 n, .slice A l.length c, .int .i64 0]) ∧ Ops w' A l ∧ Kept w w' :=
  decode_some (bs (Bt.enc n l)) (by rw [fbs_size]; have := Bt.enc_len hok; omega) (by rw [bs_data]; exact Bt.dec_enc hok) w
theorem encode_not (n : Int) (A : Option Addr) (c : Nat) (l : List Bt.Op) (h1 : 0 ≤ n) (h2 : n ≤ 18446744073709551615) (hf : Few l) (hno : Bt.ok n.toNat l = false) (w : World) (hA : Ops w A l) :
    Calls Try.prog 12 #[.int .u64 n, .slice A l.length c] w fun e w' => ∃ E : Int, e = .returned (.tuple #[.string (bs []), .int .i64 E]) ∧ (E == 0) = false ∧ Kept w w' := by
  have hl := hf.1
  have := encode_any n A c l h1 h2 (by unfold maxLen; omega) hf.sane w hA
  have e1 : Bt.encS n.toNat l = [] := by unfold Bt.encS; rw [hno]; rfl
  have e2 : (Bt.encE n.toNat l == 0) = false := by
    rw [beq_eq_false_iff_ne, ne_eq, Bt.encE_ok, hno]; simp
  rw [e1] at this
  exact this.mono fun e w' h => ⟨_, h.1, e2, h.2⟩
theorem same_self (A1 A2 : Option Addr) (c1 c2 : Nat) (l : List Bt.Op) (hl : l.length ≤ maxLen) (w : World) (h1 : Ops w A1 l) (h2 : Ops w A2 l) :
    Calls Try.prog 19 #[.slice A1 l.length c1, .slice A2 l.length c2] w fun e w' => e = .returned (.bool true) ∧ Kept w w' := by
  have := same_any A1 A2 c1 c2 l l hl hl w h1 h2
  rw [decide_eq_true rfl] at this
  exact this
set_option maxHeartbeats 4000000 in
set_option maxRecDepth 100000 in
theorem BatchBack_walk {w : World} (n : Int) (A : Option Addr) (c : Nat) (l : List Bt.Op) (s : ByteArray) (hn : (Lit.int .u64 n).wf = true) (hA : Ops w A l) (hl : l.length ≤ maxLen ∧ Sane l ∧ l.length ≤ c ∧ c ≤ maxLen ∧ (A = none → c = 0)) (hs : s.size ≤ maxLen) :
    Calls Try.prog 5 #[.int .u64 n, .slice A l.length c, .string s] w fun e w' => e = .returned (.bool true) ∧ Kept w w' := by
  obtain ⟨hl1, hl2, _⟩ := hl
  obtain ⟨h1, h2⟩ := bounds_u64 hn
  have HS := Lib.hid hl2
  clear hl2 hn
  unfold maxLen at hs
  have hcast : ((n.toNat : Nat) : Int) = n := Int.toNat_of_nonneg h1
  have HCA := Lib.hid hcast; clear hcast
  go_enter Try.func5, Try.ntmps5
  go_wp2_with fail
  refine (bawake_any _).mono ?_
  rintro e w1 ⟨rfl, g1⟩
  go_wp2_with fail
  refine (blarge_any A c l hl1 HS.out _ (hA.kept g1)).mono ?_
  rintro e w2 ⟨B, rfl, hB, g2⟩
  have g12 := kept_trans g1 g2
  have A2 := Lib.hid (hA.kept g12)
  cases B with
  | true =>
    go_wp2_with fail
    go_ret
    exact ⟨rfl, g12⟩
  | false =>
    have hfew := hB rfl
    have h40 := hfew.1
    clear hB hl1 g1 g2
    by_cases hbig : 8192 < s.size
    · have d : decide ((8192 : Int) < (s.size : Int)) = true := by simp; omega
      go_wp2_with fail
      go_ret
      exact ⟨rfl, g12⟩
    · have d : decide ((8192 : Int) < (s.size : Int)) = false := by simp; omega
      cases hok : Bt.ok n.toNat l with
      | false =>
        have hen := Lib.hid (encode_not n A c l h1 h2 hfew hok _ A2.out)
        have hE : ((bs []).toList == []) = true := by rw [Lib.toList_data]; rfl
        have hE2 : ((bs []).toList != []) = false := by rw [Lib.toList_data]; rfl
        clear hok
        go_wp2_with fail
        refine hen.out.mono ?_
        rintro e w3 ⟨E, rfl, hE0, g3⟩
        have g13 := kept_trans g12 g3
        cases hd : Bt.dec s.data.toList with
        | none =>
          have hdn := Lib.hid (decode_none s (by omega) hd)
          clear hd
          go_wp2_with fail
          refine (hdn.out _).mono ?_
          rintro e W1 ⟨rfl, k1⟩
          go_wp2_with fail
          go_ret
          exact ⟨rfl, kept_trans g13 k1⟩
        | some y =>
          obtain ⟨m, k⟩ := y
          obtain ⟨he, hok2⟩ := Bt.dec_back hd
          have hdn := Lib.hid (decode_some s (by omega) hd)
          obtain ⟨hsn, h16⟩ := ok_sane hok2
          have hen := Lib.hid (fun A c W (h : Ops W A k) => encode_nat m A c k hok2 W h)
          have hmy := Lib.hid (fun A c W (h : Ops W A k) => may_any A c k (by unfold maxLen; omega) hsn W h)
          have hm1 : Bt.may k = true := (Bt.ok_iff.1 hok2).1
          have hq : ((bs (Bt.enc m k)).toList == s.toList) = true := by rw [← he, fbs_self]; simp
          have HM := Lib.hid hm1
          clear hd he hok2 hsn hm1
          go_wp2_with fail
          refine (hdn.out _).mono ?_
          rintro e W1 ⟨A9, c9, rfl, o1, k1⟩
          go_wp2_with fail
          refine (hen.out A9 c9 _ o1).mono ?_
          rintro e W2 ⟨rfl, k2⟩
          go_wp2_with fail
          refine (hmy.out A9 c9 _ (o1.kept k2)).mono ?_
          rintro e W3 ⟨rfl, k3⟩
          rw [HM.out]
          go_wp2_with fail
          go_ret
          exact ⟨rfl, kept_trans g13 (kept_trans k1 (kept_trans k2 k3))⟩
      | true =>
        have hen := Lib.hid (encode_ok n A c l h1 h2 hok _ A2.out)
        have hde := decode_enc n.toNat l hok
        rw [HCA.out] at hde
        have HDE := Lib.hid hde
        clear hok hde
        go_wp2_with fail
        refine hen.out.mono ?_
        rintro e w3 ⟨rfl, g3⟩
        go_wp2_with fail
        refine (HDE.out _).mono ?_
        rintro e w4 ⟨A4, c4, rfl, o4, g4⟩
        go_wp2_with fail
        refine (same_self A A4 c c4 l (by unfold maxLen; omega) _ ((A2.out.kept g3).kept g4) o4).mono ?_
        rintro e w5 ⟨rfl, g5⟩
        have g15 := kept_trans g12 (kept_trans g3 (kept_trans g4 g5))
        cases hd : Bt.dec s.data.toList with
        | none =>
          have hdn := Lib.hid (decode_none s (by omega) hd)
          clear hd
          go_wp2_with fail
          refine (hdn.out _).mono ?_
          rintro e W1 ⟨rfl, k1⟩
          go_wp2_with fail
          go_ret
          exact ⟨rfl, kept_trans g15 k1⟩
        | some y =>
          obtain ⟨m, k⟩ := y
          obtain ⟨he, hok2⟩ := Bt.dec_back hd
          have hdn := Lib.hid (decode_some s (by omega) hd)
          obtain ⟨hsn, h16⟩ := ok_sane hok2
          have hen := Lib.hid (fun A c W (h : Ops W A k) => encode_nat m A c k hok2 W h)
          have hmy := Lib.hid (fun A c W (h : Ops W A k) => may_any A c k (by unfold maxLen; omega) hsn W h)
          have hm1 : Bt.may k = true := (Bt.ok_iff.1 hok2).1
          have hq : ((bs (Bt.enc m k)).toList == s.toList) = true := by rw [← he, fbs_self]; simp
          have HM := Lib.hid hm1
          clear hd he hok2 hsn hm1
          go_wp2_with fail
          refine (hdn.out _).mono ?_
          rintro e W1 ⟨A9, c9, rfl, o1, k1⟩
          go_wp2_with fail
          refine (hen.out A9 c9 _ o1).mono ?_
          rintro e W2 ⟨rfl, k2⟩
          go_wp2_with fail
          refine (hmy.out A9 c9 _ (o1.kept k2)).mono ?_
          rintro e W3 ⟨rfl, k3⟩
          rw [HM.out]
          go_wp2_with fail
          go_ret
          exact ⟨rfl, kept_trans g15 (kept_trans k1 (kept_trans k2 k3))⟩
theorem BatchCuts_walk {w : World} (n : Int) (A : Option Addr) (c : Nat) (l : List Bt.Op) (t : Int) (m : ByteArray) (hn : (Lit.int .u64 n).wf = true) (hA : Ops w A l) (hl : l.length ≤ maxLen ∧ Sane l ∧ l.length ≤ c ∧ c ≤ maxLen ∧ (A = none → c = 0)) (ht : (Lit.int .u16 t).wf = true) (hm : m.size ≤ maxLen) :
    Calls Try.prog 8 #[.int .u64 n, .slice A l.length c, .int .u16 t, .string m] w fun e w' => e = .returned (.bool true) ∧ Kept w w' := by
  obtain ⟨hl1, hl2, _⟩ := hl
  obtain ⟨h1, h2⟩ := bounds_u64 hn
  obtain ⟨t1, t2⟩ := bounds_u16 ht
  have HS := Lib.hid hl2
  clear hl2 hn ht
  unfold maxLen at hm
  go_enter Try.func8, Try.ntmps8
  go_wp2_with fail
  refine (bawake_any _).mono ?_
  rintro e w1 ⟨rfl, g1⟩
  go_wp2_with fail
  refine (blarge_any A c l hl1 HS.out _ (hA.kept g1)).mono ?_
  rintro e w2 ⟨B, rfl, hB, g2⟩
  have g12 := kept_trans g1 g2
  have A2 := Lib.hid (hA.kept g12)
  cases B with
  | true =>
    go_wp2_with fail
    go_ret
    exact ⟨rfl, g12⟩
  | false =>
    have hfew := hB rfl
    have h40 := hfew.1
    clear hB hl1 g1 g2
    by_cases hbig : 300 < m.size
    · have d : decide ((300 : Int) < (m.size : Int)) = true := by simp; omega
      go_wp2_with fail
      go_ret
      exact ⟨rfl, g12⟩
    · have d : decide ((300 : Int) < (m.size : Int)) = false := by simp; omega
      cases hok : Bt.ok n.toNat l with
      | false =>
        have hen := Lib.hid (encode_not n A c l h1 h2 hfew hok _ A2.out)
        clear hok
        go_wp2_with fail
        refine hen.out.mono ?_
        rintro e w3 ⟨E, rfl, hE0, g3⟩
        go_wp2_with fail
        go_ret
        exact ⟨rfl, kept_trans g12 g3⟩
      | true =>
        have hen := Lib.hid (encode_ok n A c l h1 h2 hok _ A2.out)
        have hlen := Bt.enc_len hok
        have hpos := Bt.enc_pos n.toNat l
        have hcut : ∀ k, k < (Bt.enc n.toNat l).length → Bt.dec ((Bt.enc n.toNat l).take k) = none := fun k hk => Bt.dec_cut hok hk
        have hmore : ∀ r, r ≠ [] → Bt.dec (Bt.enc n.toNat l ++ r) = none := fun r hr => Bt.dec_more hok hr
        have hself := Bt.dec_enc hok
        generalize Bt.enc n.toNat l = E at *
        have hz := fbs_size E
        have hmod : t % ((bs E).size : Int) = ((t.toNat % E.length : Nat) : Int) := by rw [hz, Int.natCast_emod, Int.toNat_of_nonneg t1]
        have hk : t.toNat % E.length < E.length := Nat.mod_lt _ (by omega)
        generalize t.toNat % E.length = k at hmod hk
        have hd1 := decode_none ((bs E).extract 0 k) (by rw [extract_take, fbs_size, List.length_take]; omega) (by rw [extract_take, bs_data]; exact hcut k hk)
        have hz1 : 1 ≤ (bs E).size := by omega
        have hz2 : (bs E).size ≤ 3268 := by omega
        have hk2 : k ≤ (bs E).size := by omega
        have hd0 : ((bs E).size : Int) ≠ 0 := by omega
        have HD1 := Lib.hid hd1
        by_cases hm0 : m.data.toList = []
        · have e0 : (m.toList == []) = true := by rw [Lib.toList_data, hm0]; rfl
          have e1 : (m.toList != []) = false := by rw [Lib.toList_data, hm0]; rfl
          have hd2 := decode_some (bs E ++ m) (by rw [ByteArray.size_append]; omega) (n := n.toNat) (l := l) (by rw [ByteArray.data_append, Array.toList_append, hm0, List.append_nil, bs_data]; exact hself)
          have HD2 := Lib.hid hd2
          clear hok hlen hpos hcut hmore hself hz hd1 hd2 hm0
          go_wp2_with fail
          refine hen.out.mono ?_
          rintro e w3 ⟨rfl, g3⟩
          go_wp2_with fail
          refine (HD1.out _).mono ?_
          rintro e w4 ⟨rfl, g4⟩
          go_wp2_with fail
          refine (HD2.out _).mono ?_
          rintro e w5 ⟨A5, c5, rfl, o5, g5⟩
          go_wp2_with fail
          go_ret
          exact ⟨rfl, kept_trans g12 (kept_trans g3 (kept_trans g4 g5))⟩
        · have e0 : (m.toList == []) = false := by
            rw [Lib.toList_data]
            cases h : m.data.toList with
            | nil => exact absurd h hm0
            | cons => rfl
          have e1 : (m.toList != []) = true := by simp [bne, e0]
          have hd2 := decode_none (bs E ++ m) (by rw [ByteArray.size_append]; omega) (by rw [ByteArray.data_append, Array.toList_append, bs_data]; exact hmore _ hm0)
          have HD2 := Lib.hid hd2
          clear hok hlen hpos hcut hmore hself hz hd1 hd2 hm0
          go_wp2_with fail
          refine hen.out.mono ?_
          rintro e w3 ⟨rfl, g3⟩
          go_wp2_with fail
          refine (HD1.out _).mono ?_
          rintro e w4 ⟨rfl, g4⟩
          go_wp2_with fail
          refine (HD2.out _).mono ?_
          rintro e w5 ⟨rfl, g5⟩
          go_wp2_with fail
          go_ret
          exact ⟨rfl, kept_trans g12 (kept_trans g3 (kept_trans g4 g5))⟩
end Go.Proofs.Ytalcmiaohclnjaa
