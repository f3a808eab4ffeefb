/-
  FrameCut of the statements of layer 4 returns true, whatever texts and wherever their frames are cut off.
-/
import Derived.Test.YtbaekbddfnfbeaaFrameLawBack
import Derived.OpenShut
namespace Go.Proofs.Ytbaekbddfnfbeaa
open Go.ChangeShapes Go.WideShapes Go.ChangeAt Go.RowKit
set_option linter.unusedVariables false
set_option maxHeartbeats 2000000

set_option maxRecDepth 100000 in
theorem cut_go (A : Option Addr) (c : Nat) (l : List (List UInt8)) (t : Int) (b : ByteArray) (k : Nat) (m : List (List UInt8)) (N : Nat) (hqm : m.length ≤ maxLen)
    (hb : b.size ≤ 900000) (t0 : 0 ≤ t) (t1 : t ≤ 65535) (hk : k ≤ b.size) (hkk : t % ((b.size : Int) + 1) = (k : Int)) (hcap : l.length ≤ c) (hcm : c ≤ 9223372036854775807) (hm : m.length ≤ l.length) (h100 : l.length ≤ 100) (hNk : N ≤ k) (hN : (bs (Fr.join m)).size = N)
    (HLG : Hid (∀ w, Txs w A l → Calls Try.prog 11 #[.slice A l.length c] w fun e w' => ∃ B, e = .returned (.bool B) ∧ Kept w w'))
    (HJN : Hid (∀ w, Txs w A l → Calls Try.prog 17 #[.slice A l.length c] w fun e w' => e = .returned (.tuple #[.string b, .int .i64 0]) ∧ Kept w w'))
    (HAL : Hid (∀ w, Calls Try.prog 12 #[.string (b.extract 0 k)] w fun e w' => ∃ A c, e = .returned (.tuple #[.slice A m.length c, .int .i64 N]) ∧ Txs w' A m ∧ Kept w w'))
    (HTM : Hid (∀ w, Txs w A l → Txs w A m)) (HF : Hid (Fr.Fit m)) (HJ : Hid ((Fr.join m).length ≤ 16006000))
    (h : (m.length = l.length ∧ N = b.size) ∨ (∃ x, l[m.length]? = some x ∧ x.length ≤ 8000 ∧ k < N + (Fr.mk x).length)) (w : World) (hA : Txs w A l) :
    Calls Try.prog 5 #[.slice A l.length c, .int .u16 t] w fun e w' => e = .returned (.bool true) ∧ Kept w w' := by
  have d1 : decide ((l.length : Int) < (m.length : Int)) = false := by simp; omega
  have d2 : decide ((k : Int) < (N : Int)) = false := by simp; omega
  have d3 : ((N : Int) != ((bs (Fr.join m)).size : Int)) = false := by simp [hN]
  have HN := Lib.hid hN; clear hN
  have hbz : (bs (Fr.join m)).size ≤ 900000 := by rw [HN.out]; omega
  rcases h with ⟨h1, h2⟩ | ⟨x, hx, hx8, hkx⟩
  · have d4 : ((m.length : Int) == (l.length : Int)) = true := by simp [h1]
    have d5 : ((N : Int) == (b.size : Int)) = true := by simp [h2]
    clear h1 h2
    go_enter Try.func5, Try.ntmps5
    go_wp2_with fail
    refine (fawake_any _).mono ?_
    rintro e w1 ⟨rfl, g1⟩
    go_wp2_with fail
    refine (HLG.out _ (hA.kept g1)).mono ?_
    rintro e w2 ⟨B, rfl, g2⟩
    have hA2 := (hA.kept g1).kept g2
    cases B with
    | true =>
      go_wp2_with fail
      go_ret
      exact ⟨rfl, kept_trans g1 g2⟩
    | false =>
      go_wp2_with fail
      refine (HJN.out _ hA2).mono ?_
      rintro e w3 ⟨rfl, g3⟩
      have hA3 := hA2.kept g3
      clear hA hA2
      go_wp2_with fail
      refine (HAL.out _).mono ?_
      rintro e w4 ⟨A2, c2, rfl, hT4, g4⟩
      have hA4 := hA3.kept g4
      go_wp2_with fail
      refine (ftexts_any A2 A c2 c m m hqm hqm _ hT4 (HTM.out _ hA4)).mono ?_
      rintro e w5 ⟨rfl, g5⟩
      rw [decide_eq_true rfl]
      have hA5 := hA4.kept g5
      go_wp2_with fail
      refine (join_fit A c m HF.out HJ.out _ (HTM.out _ hA5)).mono ?_
      rintro e w6 ⟨rfl, g6⟩
      have hA6 := hA5.kept g6
      go_wp2_with fail
      go_ret
      exact ⟨rfl, kept_trans g1 (kept_trans g2 (kept_trans g3 (kept_trans g4 (kept_trans g5 g6))))⟩
  · have hlt : m.length < l.length := (List.getElem?_eq_some_iff.1 hx).1
    have d4 : ((m.length : Int) == (l.length : Int)) = false := by simp; omega
    have hml := (Fr.mk_lens x hx8).2
    have hmk := make_any (bs x) (by rw [fbs_size]; unfold maxLen; omega)
    rw [bs_data, show Fr.makeS x = Fr.mk x from by unfold Fr.makeS; rw [if_pos hx8], show Fr.makeE x = 0 from by unfold Fr.makeE; rw [if_pos hx8]] at hmk
    have hmz : (bs (Fr.mk x)).size ≤ 9000 := by rw [fbs_size]; omega
    have d5 : decide ((k : Int) < (N : Int) + ((bs (Fr.mk x)).size : Int)) = true := by rw [fbs_size]; simp; omega
    obtain ⟨b0, o0, rfl, _, _⟩ := hA _ _ hx
    have HXX := Lib.hid hx; have HMK := Lib.hid hmk
    clear hx hmk hkx
    go_enter Try.func5, Try.ntmps5
    go_wp2_with fail
    refine (fawake_any _).mono ?_
    rintro e w1 ⟨rfl, g1⟩
    go_wp2_with fail
    refine (HLG.out _ (hA.kept g1)).mono ?_
    rintro e w2 ⟨B, rfl, g2⟩
    have hA2 := (hA.kept g1).kept g2
    cases B with
    | true =>
      go_wp2_with fail
      go_ret
      exact ⟨rfl, kept_trans g1 g2⟩
    | false =>
      go_wp2_with fail
      refine (HJN.out _ hA2).mono ?_
      rintro e w3 ⟨rfl, g3⟩
      have hA3 := hA2.kept g3
      clear hA hA2
      go_wp2_with fail
      refine (HAL.out _).mono ?_
      rintro e w4 ⟨A2, c2, rfl, hT4, g4⟩
      have hA4 := hA3.kept g4
      go_wp2_with fail
      refine (ftexts_any A2 (some ⟨b0, o0, none⟩) c2 c m m hqm hqm _ hT4 (HTM.out _ hA4)).mono ?_
      rintro e w5 ⟨rfl, g5⟩
      rw [decide_eq_true rfl]
      have hA5 := hA4.kept g5
      go_wp2_with fail
      refine (join_fit (some ⟨b0, o0, none⟩) c m HF.out HJ.out _ (HTM.out _ hA5)).mono ?_
      rintro e w6 ⟨rfl, g6⟩
      have hA6 := hA5.kept g6
      obtain ⟨b1, o1, ee, _, hcell⟩ := hA6 _ _ HXX.out
      cases ee
      go_wp2_with fail
      refine (HMK.out _).mono ?_
      rintro e w7 ⟨rfl, g7⟩
      go_wp2_with fail
      go_ret
      exact ⟨rfl, kept_trans g1 (kept_trans g2 (kept_trans g3 (kept_trans g4 (kept_trans g5 (kept_trans g6 g7)))))⟩
theorem cut_not (A : Option Addr) (c : Nat) (l : List (List UInt8)) (t : Int) (HL : Hid (l.length ≤ maxLen)) (HX : Hid (∀ x ∈ l, x.length ≤ maxLen)) (h : 100 < l.length ∨ ¬ Fr.Fit l) (w : World) (hA : Txs w A l) :
    Calls Try.prog 5 #[.slice A l.length c, .int .u16 t] w fun e w' => e = .returned (.bool true) ∧ Kept w w' := by
  have H := Lib.hid h; clear h
  go_enter Try.func5, Try.ntmps5
  go_wp2_with fail
  refine (fawake_any _).mono ?_
  rintro e w1 ⟨rfl, g1⟩
  go_wp2_with fail
  refine (flarge_any A c l HL.out HX.out _ (hA.kept g1)).mono ?_
  rintro e w2 ⟨B, rfl, hB, g2⟩
  have hA2 := (hA.kept g1).kept g2
  cases B with
  | true =>
    go_wp2_with fail
    go_ret
    exact ⟨rfl, kept_trans g1 g2⟩
  | false =>
    have h100 := hB rfl
    have hf : ¬ Fr.Fit l := by rcases H.out with h | h; omega; exact h
    have hjn := join_no A c l (by omega) HX.out hf _ hA2
    clear hB hf
    go_wp2_with fail
    refine hjn.mono ?_
    rintro e w3 ⟨rfl, g3⟩
    go_wp2_with fail
    go_ret
    exact ⟨rfl, kept_trans g1 (kept_trans g2 g3)⟩
theorem FrameCut_walk {w : World} (A : Option Addr) (c : Nat) (l : List (List UInt8)) (t : Int) (hA : Txs w A l) (hl : l.length ≤ maxLen ∧ (∀ x ∈ l, x.length ≤ maxLen) ∧ l.length ≤ c ∧ c ≤ maxLen) (ht : (Lit.int .u16 t).wf = true) :
    Calls Try.prog 5 #[.slice A l.length c, .int .u16 t] w fun e w' => e = .returned (.bool true) ∧ Kept w w' := by
  obtain ⟨hl1, hl2, hl3, hl4⟩ := hl
  have htb : 0 ≤ t ∧ t ≤ 65535 := by
    simp [Lit.wf, IntKind.min, IntKind.max, IntKind.signed, IntKind.bits] at ht
    omega
  by_cases hn : 100 < l.length ∨ ¬ Fr.Fit l
  · exact cut_not A c l t (Lib.hid hl1) (Lib.hid hl2) hn w hA
  · have h100 : l.length ≤ 100 := by omega
    have hf : Fr.Fit l := Classical.byContradiction fun h => hn (.inr h)
    have hmost := Fr.join_most l hf
    have hmod : t % ((((bs (Fr.join l)).size : Nat) : Int) + 1) = ((t.toNat % ((Fr.join l).length + 1) : Nat) : Int) := by
      rw [fbs_size, Int.natCast_emod, Int.toNat_of_nonneg htb.1]; rfl
    have hk : t.toNat % ((Fr.join l).length + 1) ≤ (Fr.join l).length := by have := Nat.mod_lt t.toNat (show 0 < (Fr.join l).length + 1 by omega); omega
    generalize t.toNat % ((Fr.join l).length + 1) = k at hmod hk
    obtain ⟨m, r, hR⟩ := Fr.reads_some ((Fr.join l).take k)
    obtain ⟨c1, c2, c3⟩ := Fr.cut hf hR
    have hlen := hR.len
    rw [List.length_take] at hlen
    have hall := all_any ((bs (Fr.join l)).extract 0 k) (by rw [extract_take, fbs_size, List.length_take]; omega) m r (by rw [extract_take, bs_data]; exact hR)
    refine cut_go A c l t (bs (Fr.join l)) k m (Fr.join m).length (by unfold maxLen; omega) (by rw [fbs_size]; omega) htb.1 htb.2 (by rw [fbs_size]; exact hk) hmod hl3 (by unfold maxLen at hl4; omega) c1 h100 (by omega) (fbs_size _)
      (Lib.hid fun w hA => (flarge_any A c l hl1 hl2 w hA).mono fun e w' h => by obtain ⟨B, e1, _, k1⟩ := h; exact ⟨B, e1, k1⟩) (Lib.hid fun w hA => join_fit A c l hf (by omega) w hA) (Lib.hid hall) (Lib.hid fun w h => by rw [c2]; exact h.take _) (Lib.hid hR.fit) (Lib.hid (by omega)) ?_ w hA
    by_cases he : m.length = l.length
    · refine .inl ⟨he, ?_⟩
      rw [he, List.take_length] at c2
      rw [c2, fbs_size]
    · have hlt : m.length < l.length := by omega
      have hx : l[m.length]? = some l[m.length] := List.getElem?_eq_getElem hlt
      exact .inr ⟨_, hx, hf _ (List.mem_of_getElem? hx), c3 _ hx⟩
end Go.Proofs.Ytbaekbddfnfbeaa
