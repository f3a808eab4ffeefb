/-
  FrameTakes and FrameOne of the statements of layer 4 return true, whatever strings.
-/
import Derived.Test.YtbaekbddfnfbeaaFrameAwake
namespace Go.Proofs.Ytbaekbddfnfbeaa
open Go.ChangeShapes Go.WideShapes Go.ChangeAt Go.RowKit
set_option linter.unusedVariables false
set_option maxHeartbeats 1000000

theorem nil_beq (r : List UInt8) : ((bs r).toList == []) = decide (r = []) := by
  rw [Lib.toList_data, bs_data]
  cases r with
  | nil => rfl
  | cons x r => simp
set_option maxRecDepth 100000 in
theorem FrameTakes_walk {w : World} (s : ByteArray) (hs : s.size ≤ maxLen) :
    Calls Try.prog 9 #[.string s] w fun e w' => e = .returned (.bool true) ∧ Kept w w' := by
  unfold maxLen at hs
  by_cases hbig : 8192 < s.size
  · have d : decide ((8192 : Int) < (s.size : Int)) = true := by simp; omega
    go_enter Try.func9, Try.ntmps9
    go_wp2_with fail
    refine (fawake_any _).mono ?_
    rintro e w1 ⟨rfl, g1⟩
    go_wp2_with fail
    go_ret
    exact ⟨rfl, g1⟩
  · have d : decide ((8192 : Int) < (s.size : Int)) = false := by simp; omega
    obtain ⟨l, r, hR⟩ := Fr.reads_some s.data.toList
    have hfew := hR.few.1
    rw [toList_size] at hfew
    have hall := all_any s (by omega) l r hR
    have hstart : s = bs (Fr.join (l.drop 0) ++ r) := by rw [List.drop_zero, ← hR.eq, fbs_self]
    have hrest : ∀ k, (bs (Fr.join (l.drop k) ++ r)).size ≤ 8192 := fun k => by
      have := fall_len hR k
      rw [toList_size] at this
      rw [fbs_size]; omega
    have hlen : (Fr.join l).length + r.length = s.size := by have := hR.len; rw [toList_size] at this; exact this
    have H := Lib.hid hR; have HS := Lib.hid hstart; have HR := Lib.hid hrest; have HL := Lib.hid hlen
    clear hR hstart hrest hbig hlen
    go_enter Try.func9, Try.ntmps9
    go_wp2_with fail
    refine (fawake_any _).mono ?_
    rintro e w1 ⟨rfl, g1⟩
    go_wp2_with fail
    refine (hall _).mono ?_
    rintro e w2 ⟨A, c, rfl, hT, g2⟩
    go_wp2_with fail
    go_loopw [5, 26] (fun v t wr => ∃ k : Nat, k ≤ l.length ∧ t = .int .i64 k ∧ v = .string (bs (Fr.join (l.drop k) ++ r)) ∧ Kept w2 wr) (fun _ t _ => l.length - (intOf t).toNat)
    case atStart => exact ⟨0, Nat.zero_le _, rfl, by rw [← HS.out], Kept.refl _⟩
    case round =>
      obtain ⟨k, hk, rfl, rfl, hkr⟩ := hrel
      have hsz := HR.out k
      have hc := ftake_any (bs (Fr.join (l.drop k) ++ r)) (by unfold maxLen; omega)
      rw [bs_data] at hc
      by_cases hlt : k < l.length
      · have hx : l[k]? = some l[k] := List.getElem?_eq_getElem hlt
        generalize l[k] = x at hx
        obtain ⟨b, o, rfl, hb, hcell⟩ := (hT.kept hkr) k x hx
        obtain ⟨e1, e2, e3⟩ := takeT_ok (H.out.at hx)
        rw [e1, e2, e3] at hc
        have hm : (bs (Fr.join (l.drop (k + 1)) ++ r)).size < (bs (Fr.join (l.drop k) ++ r)).size := by rw [fbs_size, fbs_size]; exact (Fr.take_less (H.out.at hx)).1
        clear e1 e2 e3 hx
        generalize Fr.join (l.drop k) ++ r = R0 at *
        generalize hR1 : Fr.join (l.drop (k + 1)) ++ r = R1 at *
        have HR1 := Lib.hid hR1; clear hR1
        have d1 : decide (((bs R0).size : Int) ≤ ((bs R1).size : Int)) = false := by simp; omega
        go_wp2_with fail
        refine (hc _).mono ?_
        rintro e w3 ⟨rfl, g3⟩
        have hcell3 : w3.cell? ⟨b, o + k, none⟩ = some (.string (bs x)) := by rw [kept_cell g3 hb]; exact hcell
        go_wp2_with fail
        go_roundw
        case rel => exact ⟨k + 1, by omega, by go_num, by rw [HR1.out], kept_trans hkr g3⟩
        case measure => simp [intOf]; omega
      · have e : k = l.length := by omega
        subst e
        have hd : Fr.join (l.drop l.length) ++ r = r := by rw [List.drop_length]; rfl
        rw [hd] at hc hsz
        rw [hd]
        have hrs : ((s.size : Int) - ((bs r).size : Int)) = (((Fr.join l).length : Nat) : Int) := by rw [fbs_size]; have := HL.out; omega
        have hq : (((s.size : Int) - ((bs r).size : Int)) == (((Fr.join l).length : Nat) : Int)) = true := by rw [hrs]; simp
        have hn := nil_beq r
        by_cases h0 : r = []
        · have e1 : Fr.takeE r = 10 := by unfold Fr.takeE; rw [if_pos h0]
          rw [e1] at hc
          rw [decide_eq_true h0] at hn
          clear e1 hd h0 hrs
          go_wp2_with fail
          refine (hc _).mono ?_
          rintro e w3 ⟨rfl, g3⟩
          go_wp2_with fail
          go_ret
          exact ⟨rfl, kept_trans g1 (kept_trans g2 (kept_trans hkr g3))⟩
        · obtain ⟨_, _, e1⟩ := takeT_no h0 H.out.stop
          rw [e1] at hc
          rw [decide_eq_false h0] at hn
          clear e1 hd h0 hrs
          go_wp2_with fail
          refine (hc _).mono ?_
          rintro e w3 ⟨rfl, g3⟩
          go_wp2_with fail
          go_ret
          exact ⟨rfl, kept_trans g1 (kept_trans g2 (kept_trans hkr g3))⟩
/-- two frames, as far as the shorter one goes -/
theorem one_min (a b : List UInt8) (ha : a.length ≤ 8000) (hb : b.length ≤ 8000) : (((bs (Fr.mk a)).extract 0 (min (bs (Fr.mk a)).size (bs (Fr.mk b)).size)).toList == ((bs (Fr.mk b)).extract 0 (min (bs (Fr.mk a)).size (bs (Fr.mk b)).size)).toList) = decide (a = b) := by
  rw [fbs_size, fbs_size, extract_take, extract_take, Lib.toList_data, Lib.toList_data, bs_data, bs_data]
  have := Fr.one ha hb
  rw [Bool.eq_iff_iff, beq_iff_eq, decide_eq_true_iff]
  exact this
theorem str_beq (a b : ByteArray) : (a.toList == b.toList) = decide (a.data.toList = b.data.toList) := by
  rw [Lib.toList_data, Lib.toList_data]
  rw [Bool.eq_iff_iff, beq_iff_eq, decide_eq_true_iff]
theorem fmk_yes {s : ByteArray} (h : s.size ≤ 8000) : Fr.makeS s.data.toList = Fr.mk s.data.toList ∧ Fr.makeE s.data.toList = 0 := by
  unfold Fr.makeS Fr.makeE
  rw [if_pos (by rw [toList_size]; exact h), if_pos (by rw [toList_size]; exact h)]; exact ⟨rfl, rfl⟩
theorem fmk_no {s : ByteArray} (h : ¬ s.size ≤ 8000) : Fr.makeS s.data.toList = [] ∧ Fr.makeE s.data.toList = 5 := by
  unfold Fr.makeS Fr.makeE
  rw [if_neg (by rw [toList_size]; exact h), if_neg (by rw [toList_size]; exact h)]; exact ⟨rfl, rfl⟩
theorem one_big (a b : ByteArray) (ha : a.size ≤ maxLen) (hb : b.size ≤ maxLen) (h : 8192 < a.size ∨ 8192 < b.size) (w : World) :
    Calls Try.prog 6 #[.string a, .string b] w fun e w' => e = .returned (.bool true) ∧ Kept w w' := by
  unfold maxLen at ha hb
  by_cases h1 : 8192 < a.size
  · have d : decide ((8192 : Int) < (a.size : Int)) = true := by simp; omega
    go_enter Try.func6, Try.ntmps6
    go_wp2_with fail
    refine (fawake_any _).mono ?_
    rintro e w1 ⟨rfl, g1⟩
    go_wp2_with fail
    go_ret
    exact ⟨rfl, g1⟩
  · have d : decide ((8192 : Int) < (a.size : Int)) = false := by simp; omega
    have d2 : decide ((8192 : Int) < (b.size : Int)) = true := by simp; omega
    go_enter Try.func6, Try.ntmps6
    go_wp2_with fail
    refine (fawake_any _).mono ?_
    rintro e w1 ⟨rfl, g1⟩
    go_wp2_with fail
    go_ret
    exact ⟨rfl, g1⟩
theorem one_no (a b : ByteArray) (d : decide ((8192 : Int) < (a.size : Int)) = false) (d2 : decide ((8192 : Int) < (b.size : Int)) = false) (S T : List UInt8) (E F : Int)
    (HA : Hid (∀ w, Calls Try.prog 19 #[.string a] w fun e w' => e = .returned (.tuple #[.string (bs S), .int .i64 E]) ∧ Kept w w'))
    (HB : Hid (∀ w, Calls Try.prog 19 #[.string b] w fun e w' => e = .returned (.tuple #[.string (bs T), .int .i64 F]) ∧ Kept w w'))
    (h8 : decide ((a.size : Int) ≤ 8000) = (E == 0)) (hE : E = 0 ∨ E = 5) (hF : E = 5 ∨ (F == 0) = false) (w : World) :
    Calls Try.prog 6 #[.string a, .string b] w fun e w' => e = .returned (.bool true) ∧ Kept w w' := by
  have hs : a.size ≤ 8192 := by simp at d; omega
  have hs2 : b.size ≤ 8192 := by simp at d2; omega
  rcases hE with rfl | rfl
  · have hF' : (F == 0) = false := by rcases hF with h | h; cases h; exact h
    have hF2 : (F != 0) = true := by simp [bne, hF']
    have h8' : decide ((a.size : Int) ≤ 8000) = true := h8
    clear h8 hF
    go_enter Try.func6, Try.ntmps6
    go_wp2_with fail
    refine (fawake_any _).mono ?_
    rintro e w1 ⟨rfl, g1⟩
    go_wp2_with fail
    refine (HA.out _).mono ?_
    rintro e w2 ⟨rfl, g2⟩
    go_wp2_with fail
    refine (HB.out _).mono ?_
    rintro e w3 ⟨rfl, g3⟩
    go_wp2_with fail
    go_ret
    exact ⟨rfl, kept_trans g1 (kept_trans g2 g3)⟩
  · have h8' : decide ((a.size : Int) ≤ 8000) = false := h8
    clear h8 hF
    go_enter Try.func6, Try.ntmps6
    go_wp2_with fail
    refine (fawake_any _).mono ?_
    rintro e w1 ⟨rfl, g1⟩
    go_wp2_with fail
    refine (HA.out _).mono ?_
    rintro e w2 ⟨rfl, g2⟩
    go_wp2_with fail
    refine (HB.out _).mono ?_
    rintro e w3 ⟨rfl, g3⟩
    go_wp2_with fail
    go_ret
    exact ⟨rfl, kept_trans g1 (kept_trans g2 g3)⟩
set_option maxRecDepth 100000 in
theorem one_yes (a b : ByteArray) (h1 : a.size ≤ 8000) (h2 : b.size ≤ 8000) (S T : ByteArray) (n : Nat) (q : Bool)
    (HA : Hid (∀ w, Calls Try.prog 19 #[.string a] w fun e w' => e = .returned (.tuple #[.string S, .int .i64 0]) ∧ Kept w w'))
    (HB : Hid (∀ w, Calls Try.prog 19 #[.string b] w fun e w' => e = .returned (.tuple #[.string T, .int .i64 0]) ∧ Kept w w'))
    (hS : S.size ≤ 9000) (hT : T.size ≤ 9000) (hn : n ≤ S.size ∧ n ≤ T.size ∧ 0 < n) (hmin : min (S.size : Int) (T.size : Int) = (n : Int))
    (hq1 : ((S.extract 0 n).toList == (T.extract 0 n).toList) = q) (hq2 : (a.toList == b.toList) = q) (w : World) :
    Calls Try.prog 6 #[.string a, .string b] w fun e w' => e = .returned (.bool true) ∧ Kept w w' := by
  have d : decide ((8192 : Int) < (a.size : Int)) = false := by simp; omega
  have d2 : decide ((8192 : Int) < (b.size : Int)) = false := by simp; omega
  have d3 : decide ((a.size : Int) ≤ 8000) = true := by simp; omega
  obtain ⟨n1, n2, n0⟩ := hn
  have d4 : decide ((0 : Int) < (n : Int)) = true := by simp; omega
  go_enter Try.func6, Try.ntmps6
  go_wp2_with fail
  refine (fawake_any _).mono ?_
  rintro e w1 ⟨rfl, g1⟩
  go_wp2_with fail
  refine (HA.out _).mono ?_
  rintro e w2 ⟨rfl, g2⟩
  go_wp2_with fail
  refine (HB.out _).mono ?_
  rintro e w3 ⟨rfl, g3⟩
  go_wp2_with fail
  go_quiet (fail)
  go_wp2_with fail
  go_ret
  refine ⟨?_, kept_trans g1 (kept_trans g2 (kept_trans g3 (kept_drewN _ _)))⟩
  cases q <;> rfl
theorem FrameOne_walk {w : World} (a b : ByteArray) (ha : a.size ≤ maxLen) (hb : b.size ≤ maxLen) :
    Calls Try.prog 6 #[.string a, .string b] w fun e w' => e = .returned (.bool true) ∧ Kept w w' := by
  by_cases hbig : 8192 < a.size ∨ 8192 < b.size
  · exact one_big a b ha hb hbig w
  · have d : decide ((8192 : Int) < (a.size : Int)) = false := by simp; omega
    have d2 : decide ((8192 : Int) < (b.size : Int)) = false := by simp; omega
    have HA := make_any a ha
    have HB := make_any b hb
    by_cases h1 : a.size ≤ 8000
    · obtain ⟨e1, e2⟩ := fmk_yes h1
      rw [e1, e2] at HA
      by_cases h2 : b.size ≤ 8000
      · obtain ⟨e3, e4⟩ := fmk_yes h2
        rw [e3, e4] at HB
        have l1 : a.data.toList.length ≤ 8000 := by rw [toList_size]; exact h1
        have l2 : b.data.toList.length ≤ 8000 := by rw [toList_size]; exact h2
        have m1 := Fr.mk_lens _ l1
        have m2 := Fr.mk_lens _ l2
        refine one_yes a b h1 h2 _ _ (min (Fr.mk a.data.toList).length (Fr.mk b.data.toList).length) (decide (a.data.toList = b.data.toList)) (Lib.hid HA) (Lib.hid HB) (by rw [fbs_size]; omega) (by rw [fbs_size]; omega) (by rw [fbs_size, fbs_size]; omega) (by rw [fbs_size, fbs_size]; omega) ?_ (str_beq a b) w
        have := one_min a.data.toList b.data.toList l1 l2
        rw [fbs_size, fbs_size] at this
        exact this
      · obtain ⟨e3, e4⟩ := fmk_no h2
        rw [e3, e4] at HB
        exact one_no a b d d2 _ _ 0 5 (Lib.hid HA) (Lib.hid HB) (by simp; omega) (.inl rfl) (.inr rfl) w
    · obtain ⟨e1, e2⟩ := fmk_no h1
      rw [e1, e2] at HA
      exact one_no a b d d2 _ _ 5 _ (Lib.hid HA) (Lib.hid HB) (by simp; omega) (.inr rfl) (.inl rfl) w
end Go.Proofs.Ytbaekbddfnfbeaa
