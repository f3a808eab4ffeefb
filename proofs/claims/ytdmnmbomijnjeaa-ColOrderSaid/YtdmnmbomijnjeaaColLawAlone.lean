/-
  ColAlone: leases are their bytes one behind the other.
-/
import Derived.Test.YtdmnmbomijnjeaaColArgs
namespace Go.Proofs.Ytdmnmbomijnjeaa
open Go.ChangeShapes Go.WideShapes Go.ChangeAt Go.RowKit
set_option linter.unusedVariables false
set_option maxRecDepth 100000
set_option maxHeartbeats 8000000
open Co
theorem codeL (l : List Ls) : (isL l = true → encLC l = 0 ∧ encLS l = encL l) ∧ (isL l = false → encLC l = 2 ∧ encLS l = []) := by
  unfold encLC encLS; exact ⟨fun h => by rw [h]; exact ⟨rfl, rfl⟩, fun h => by rw [h]; exact ⟨rfl, rfl⟩⟩
theorem Lss.tail {w : World} {A : Option Addr} {l : List Ls} (h : Lss w A l) (k c : Nat) (hc : l.length ≤ c) : Lss w (if c = k then A else A.map fun x => x.add (k * 3)) (l.drop k) := fun j x hx => by
  rw [List.getElem?_drop] at hx
  have hlt := (List.getElem?_eq_some_iff.1 hx).1
  rw [if_neg (by omega)]
  obtain ⟨b, o, rfl, hb, hcc⟩ := h (k + j) x hx
  refine ⟨b, o + k * 3, by simp only [Option.map_some]; rw [cladd_at], hb, ?_⟩
  rw [show o + k * 3 + j * 3 = o + (k + j) * 3 by omega]
  exact hcc
theorem ColAlone_walk {w : World} (A : Option Addr) (c : Nat) (L : List Ls) (t : Int) (hA : Lss w A L) (hL : L.length ≤ c ∧ c ≤ maxLen ∧ OkLs L ∧ (A = none → c = 0) ∧ (∀ a, A = some a → a.spot = none ∨ L = [])) (ht : (Lit.int .u8 t).wf = true) :
    Calls Try.prog 9 #[.slice A L.length c, .int .u8 t] w fun e w' => e = .returned (.bool true) ∧ Kept w w' := by
  have hLl : L.length ≤ maxLen := Nat.le_trans hL.1 hL.2.1
  unfold maxLen at hLl
  have ht2 : 0 ≤ t ∧ t ≤ 255 := by
    simp [Lit.wf, IntKind.min, IntKind.max, IntKind.signed, IntKind.bits] at ht
    omega
  obtain ⟨t0, t1⟩ := ht2
  have HA := Lib.hid (fun W (hW : Kept w W) => hA.kept hW)
  by_cases hn : 40 < L.length
  · have d2 : decide ((40 : Int) < (L.length : Int)) = true := decide_eq_true (by omega)
    go_enter Try.func9, Try.ntmps9
    go_wp2_with fail
    refine (clawake_any _).mono ?_
    rintro e w1 ⟨rfl, g1⟩
    go_wp2_with fail
    go_ret
    exact ⟨rfl, g1⟩
  · have d2 : decide ((40 : Int) < (L.length : Int)) = false := decide_eq_false (by omega)
    have hlc := hL.1
    obtain ⟨k, hk⟩ : ∃ k : Nat, t % ((L.length : Int) + 1) = (k : Int) := ⟨(t % ((L.length : Int) + 1)).toNat, by rw [Int.toNat_of_nonneg (Int.emod_nonneg _ (by omega))]⟩
    have hkl : k ≤ L.length := by have := Int.emod_lt_of_pos t (show (0 : Int) < (L.length : Int) + 1 by omega); omega
    have HL := Lib.hid (fun W (hW : Kept w W) => clleases_any (hA.kept hW) (by unfold maxLen; omega) c)
    have HA1 := Lib.hid (fun W (hW : Kept w W) => clleases_any ((hA.kept hW).head k) (by rw [List.length_take]; unfold maxLen; omega) c)
    have HA2 := Lib.hid (fun W (hW : Kept w W) => clleases_any ((hA.kept hW).tail k c hlc) (by rw [List.length_drop]; unfold maxLen; omega) (c - k))
    rw [show (L.take k).length = k from by rw [List.length_take]; omega] at HA1
    rw [List.length_drop] at HA2
    obtain ⟨c1, c2⟩ := codeL L
    obtain ⟨a1, _⟩ := codeL (L.take k)
    obtain ⟨b1, _⟩ := codeL (L.drop k)
    have HUN := Lib.hid (fun W (h : isL (L.take k) = true) => clunlease_any (encL (L.take k)) (by have := encL_len (encL_isL h).2; have := (encL_isL h).1; omega) W)
    have HBL := Lib.hid (fun (h : isL (L.take k) = true) => bL_enc h)
    have HT1 := Lib.hid (show isL L = true → isL (L.take k) = true ∧ isL (L.drop k) = true from fun h => ⟨isL_take k h, isL_drop k h⟩)
    have HSUM := Lib.hid (show encL L = encL (L.take k) ++ encL (L.drop k) from by rw [← encL_app, List.take_append_drop])
    have HSZ := Lib.hid (fun (l : List Ls) (h : isL l = true) => (show (bs (encL l)).size ≤ 100 from by rw [clbs_size]; have := encL_len (encL_isL h).2; have := (encL_isL h).1; omega))
    have HLEN := Lib.hid (show (L.take k).length = k from by rw [List.length_take]; omega)
    have hkc : k ≤ c := by omega
    have hkc2 : (k : Int) ≤ (c : Int) := by omega
    have hkl2 : (k : Int) ≤ (L.length : Int) := by omega
    generalize hHd : L.take k = Hd at *
    generalize hTl : L.drop k = Tl at *
    clear hA hHd hTl HA
    by_cases hck : c = k
    · subst hck
      rw [if_pos rfl, Nat.sub_self] at HA2
      generalize L.length = n at *
      obtain rfl : n = c := by omega
      rw [Nat.sub_self] at HA2
      have hn40 : n ≤ 40 := by omega
      clear hkc hkc2 hkl hkl2 hlc hn
      cases hB : isL L with
      | false =>
        obtain ⟨e1, e2⟩ := c2 hB
        rw [e1, e2] at HL
        have d5 : ((bs []).toList == []) = true := by rw [clbs_list]; rfl
        obtain ⟨C1, hC1⟩ : ∃ C, C = encLC Hd := ⟨_, rfl⟩
        obtain ⟨C2, hC2⟩ : ∃ C, C = encLC Tl := ⟨_, rfl⟩
        rw [← hC1] at HA1
        rw [← hC2] at HA2
        clear c1 c2 a1 b1 e1 e2 hC1 hC2
        go_enter Try.func9, Try.ntmps9
        go_wp2_with fail
        refine (clawake_any _).mono ?_
        rintro e w1 ⟨rfl, g1⟩
        have K1 := Lib.hid g1
        clear g1
        go_wp2_with fail
        refine (HL.out _ K1.out).mono ?_
        rintro e w2 ⟨rfl, g1⟩
        have K2 := Lib.hid (kept_trans K1.out g1)
        clear g1
        go_wp2_with fail
        refine (HA1.out _ K2.out).mono ?_
        rintro e w3 ⟨rfl, g1⟩
        have K3 := Lib.hid (kept_trans K2.out g1)
        clear g1
        go_wp2_with fail
        refine (HA2.out _ K3.out).mono ?_
        rintro e w4 ⟨rfl, g1⟩
        have K4 := Lib.hid (kept_trans K3.out g1)
        clear g1
        go_wp2_with fail
        go_ret
        exact ⟨rfl, K4.out⟩
      | true =>
        obtain ⟨i1, i2⟩ := HT1.out hB
        obtain ⟨e1, e2⟩ := c1 hB
        rw [e1, e2] at HL
        obtain ⟨e3, e4⟩ := a1 i1
        rw [e3, e4] at HA1
        obtain ⟨e5, e6⟩ := b1 i2
        rw [e5, e6] at HA2
        obtain ⟨_, f1, f2⟩ := HBL.out i1
        have HU := Lib.hid (fun W => HUN.out W i1)
        rw [f1, f2, HLEN.out] at HU
        have z1 := HSZ.out Hd i1; have z2 := HSZ.out Tl i2
        have HS2 := Lib.hid (show bs (encL L) = bs (encL Hd) ++ bs (encL Tl) from by rw [HSUM.out]; exact (bs_of (by simp [bs, ByteArray.data_append])).symm)
        rw [HS2.out] at HL
        generalize bs (encL Hd) = T1 at *
        generalize bs (encL Tl) = T2 at *
        have r1 : ∀ W, (Op.stringOp .add T1 T2).run Try.prog W = .ok (.string (T1 ++ T2)) W := fun W => run_string_add_sum W _ _ (by omega)
        clear c1 c2 a1 b1 e1 e2 e3 e4 e5 e6 f1 f2 i1 i2 HUN HBL HT1 HSUM HSZ HLEN hB HS2
        go_enter Try.func9, Try.ntmps9
        go_wp2_with fail
        refine (clawake_any _).mono ?_
        rintro e w1 ⟨rfl, g1⟩
        have K1 := Lib.hid g1
        clear g1
        go_wp2_with fail
        refine (HL.out _ K1.out).mono ?_
        rintro e w2 ⟨rfl, g1⟩
        have K2 := Lib.hid (kept_trans K1.out g1)
        clear g1
        go_wp2_with fail
        refine (HA1.out _ K2.out).mono ?_
        rintro e w3 ⟨rfl, g1⟩
        have K3 := Lib.hid (kept_trans K2.out g1)
        clear g1
        go_wp2_with fail
        refine (HA2.out _ K3.out).mono ?_
        rintro e w4 ⟨rfl, g1⟩
        have K4 := Lib.hid (kept_trans K3.out g1)
        clear g1
        go_wp2_with fail
        refine (HU.out _).mono ?_
        rintro e w5 ⟨A5, c5, rfl, _, _, _, g1⟩
        have K5 := Lib.hid (kept_trans K4.out g1)
        clear g1
        go_wp2_with fail
        go_ret
        exact ⟨rfl, K5.out⟩
    · rw [if_neg hck] at HA2
      have hck' : ¬ ((c : Int) = (k : Int)) := by omega
      cases hB : isL L with
      | false =>
        obtain ⟨e1, e2⟩ := c2 hB
        rw [e1, e2] at HL
        have d5 : ((bs []).toList == []) = true := by rw [clbs_list]; rfl
        obtain ⟨C1, hC1⟩ : ∃ C, C = encLC Hd := ⟨_, rfl⟩
        obtain ⟨C2, hC2⟩ : ∃ C, C = encLC Tl := ⟨_, rfl⟩
        rw [← hC1] at HA1
        rw [← hC2] at HA2
        clear c1 c2 a1 b1 e1 e2 hC1 hC2
        go_enter Try.func9, Try.ntmps9
        go_wp2_with fail
        refine (clawake_any _).mono ?_
        rintro e w1 ⟨rfl, g1⟩
        have K1 := Lib.hid g1
        clear g1
        go_wp2_with fail
        refine (HL.out _ K1.out).mono ?_
        rintro e w2 ⟨rfl, g1⟩
        have K2 := Lib.hid (kept_trans K1.out g1)
        clear g1
        go_wp2_with fail
        refine (HA1.out _ K2.out).mono ?_
        rintro e w3 ⟨rfl, g1⟩
        have K3 := Lib.hid (kept_trans K2.out g1)
        clear g1
        go_wp2_with fail
        refine (HA2.out _ K3.out).mono ?_
        rintro e w4 ⟨rfl, g1⟩
        have K4 := Lib.hid (kept_trans K3.out g1)
        clear g1
        go_wp2_with fail
        go_ret
        exact ⟨rfl, K4.out⟩
      | true =>
        obtain ⟨i1, i2⟩ := HT1.out hB
        obtain ⟨e1, e2⟩ := c1 hB
        rw [e1, e2] at HL
        obtain ⟨e3, e4⟩ := a1 i1
        rw [e3, e4] at HA1
        obtain ⟨e5, e6⟩ := b1 i2
        rw [e5, e6] at HA2
        obtain ⟨_, f1, f2⟩ := HBL.out i1
        have HU := Lib.hid (fun W => HUN.out W i1)
        rw [f1, f2, HLEN.out] at HU
        have z1 := HSZ.out Hd i1; have z2 := HSZ.out Tl i2
        have HS2 := Lib.hid (show bs (encL L) = bs (encL Hd) ++ bs (encL Tl) from by rw [HSUM.out]; exact (bs_of (by simp [bs, ByteArray.data_append])).symm)
        rw [HS2.out] at HL
        generalize bs (encL Hd) = T1 at *
        generalize bs (encL Tl) = T2 at *
        have r1 : ∀ W, (Op.stringOp .add T1 T2).run Try.prog W = .ok (.string (T1 ++ T2)) W := fun W => run_string_add_sum W _ _ (by omega)
        clear c1 c2 a1 b1 e1 e2 e3 e4 e5 e6 f1 f2 i1 i2 HUN HBL HT1 HSUM HSZ HLEN hB HS2
        go_enter Try.func9, Try.ntmps9
        go_wp2_with fail
        refine (clawake_any _).mono ?_
        rintro e w1 ⟨rfl, g1⟩
        have K1 := Lib.hid g1
        clear g1
        go_wp2_with fail
        refine (HL.out _ K1.out).mono ?_
        rintro e w2 ⟨rfl, g1⟩
        have K2 := Lib.hid (kept_trans K1.out g1)
        clear g1
        go_wp2_with fail
        refine (HA1.out _ K2.out).mono ?_
        rintro e w3 ⟨rfl, g1⟩
        have K3 := Lib.hid (kept_trans K2.out g1)
        clear g1
        go_wp2_with fail
        refine (HA2.out _ K3.out).mono ?_
        rintro e w4 ⟨rfl, g1⟩
        have K4 := Lib.hid (kept_trans K3.out g1)
        clear g1
        go_wp2_with fail
        refine (HU.out _).mono ?_
        rintro e w5 ⟨A5, c5, rfl, _, _, _, g1⟩
        have K5 := Lib.hid (kept_trans K4.out g1)
        clear g1
        go_wp2_with fail
        go_ret
        exact ⟨rfl, K5.out⟩
end Go.Proofs.Ytdmnmbomijnjeaa
