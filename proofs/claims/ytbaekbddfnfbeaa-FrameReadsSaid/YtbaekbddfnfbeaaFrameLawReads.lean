/-
  FrameReads of the statements of layer 4 returns true, whatever bytes and texts.
-/
import Derived.Test.YtbaekbddfnfbeaaFrameRefAll
namespace Go.Proofs.Ytbaekbddfnfbeaa
open Go.ChangeShapes Go.WideShapes Go.ChangeAt Go.RowKit
set_option linter.unusedVariables false
set_option maxHeartbeats 2000000

set_option maxRecDepth 100000 in
theorem FrameReads_walk {w : World} (s : ByteArray) (A : Option Addr) (c : Nat) (l : List (List UInt8)) (hs : s.size ≤ maxLen) (hA : Txs w A l) (hl : l.length ≤ maxLen ∧ (∀ x ∈ l, x.length ≤ maxLen) ∧ l.length ≤ c ∧ c ≤ maxLen) :
    Calls Try.prog 3 #[.string s, .slice A l.length c] w fun e w' => e = .returned (.bool true) ∧ Kept w w' := by
  obtain ⟨hl1, hl2, _⟩ := hl
  have HX := Lib.hid hl2; clear hl2
  have hsm := hs
  unfold maxLen at hs
  by_cases hbig : 8192 < s.size
  · have d : decide ((8192 : Int) < (s.size : Int)) = true := by simp; omega
    go_enter Try.func3, Try.ntmps3
    go_wp2_with fail
    refine (fawake_any _).mono ?_
    rintro e w1 ⟨rfl, g1⟩
    go_wp2_with fail
    go_ret
    exact ⟨rfl, g1⟩
  · have d : decide ((8192 : Int) < (s.size : Int)) = false := by simp; omega
    obtain ⟨m, r, hR⟩ := Fr.reads_some s.data.toList
    have hfew := hR.few.1
    rw [toList_size] at hfew
    have hml : m.length ≤ maxLen := by unfold maxLen; omega
    have HALL := Lib.hid (all_any s (by omega) m r hR)
    have HALL2 := Lib.hid (rall_any s (by omega) m r hR)
    have HT := Lib.hid (ftake_any s hsm)
    have HT2 := Lib.hid (rftake_any s hsm)
    clear hR hbig hfew
    generalize Fr.takeT s.data.toList = T at *
    generalize Fr.takeR s.data.toList = Q at *
    generalize Fr.takeE s.data.toList = E at *
    generalize (Fr.join m).length = N at *
    go_enter Try.func3, Try.ntmps3
    go_wp2_with fail
    refine (fawake_any _).mono ?_
    rintro e w1 ⟨rfl, g1⟩
    go_wp2_with fail
    refine (flarge_any A c l hl1 HX.out _ (hA.kept g1)).mono ?_
    rintro e w2 ⟨B, rfl, hB, g2⟩
    have hA2 := (hA.kept g1).kept g2
    cases B with
    | true =>
      go_wp2_with fail
      go_ret
      exact ⟨rfl, kept_trans g1 g2⟩
    | false =>
      have h100 := hB rfl
      clear hB
      go_wp2_with fail
      refine (HALL.out _).mono ?_
      rintro e w3 ⟨A3, c3, rfl, hT3, g3⟩
      go_wp2_with fail
      refine (HALL2.out _).mono ?_
      rintro e w4 ⟨A4, c4, rfl, hT4, g4⟩
      go_wp2_with fail
      refine (ftexts_any A3 A4 c3 c4 m m hml hml _ (hT3.kept g4) hT4).mono ?_
      rintro e w5 ⟨rfl, g5⟩
      rw [decide_eq_true rfl]
      clear hT3 hT4
      go_wp2_with fail
      refine (HT.out _).mono ?_
      rintro e w6 ⟨rfl, g6⟩
      go_wp2_with fail
      refine (HT2.out _).mono ?_
      rintro e w7 ⟨rfl, g7⟩
      have g27 : Kept w2 w7 := kept_trans g3 (kept_trans g4 (kept_trans g5 (kept_trans g6 g7)))
      have hA7 := hA2.kept g27
      clear g3 g4 g5 g6 g7 hA2
      go_wp2_with fail
      refine (join_few A c l (by omega) HX.out _ hA7).mono ?_
      rintro e w8 ⟨rfl, g8⟩
      have hA8 := hA7.kept g8
      clear hA7
      go_wp2_with fail
      refine (rjoin_any A c l (by omega) HX.out _ hA8).mono ?_
      rintro e w9 ⟨rfl, g9⟩
      have hA9 := hA8.kept g9
      clear hA8
      generalize Fr.joinS l = J at *
      generalize Fr.joinE l = JE at *
      go_wp2_with fail
      go_loopw [97] (fun t wr => ∃ k : Nat, k ≤ l.length ∧ t = .int .i64 k ∧ Kept w9 wr) (fun t _ => l.length - (intOf t).toNat)
      case atStart => exact ⟨0, Nat.zero_le _, rfl, Kept.refl _⟩
      case round =>
        obtain ⟨k, hk, rfl, hkr⟩ := hrel
        by_cases hlt : k < l.length
        · have hx : l[k]? = some l[k] := List.getElem?_eq_getElem hlt
          have hmem : l[k] ∈ l := List.getElem_mem hlt
          generalize l[k] = x at hx hmem
          obtain ⟨b, o, rfl, hb, hcell⟩ := (hA9.kept hkr) k x hx
          have hxl := HX.out x hmem
          have HC := Lib.hid (make_any (bs x) (by rw [fbs_size]; exact hxl))
          have HC2 := Lib.hid (rmake_any (bs x) (by rw [fbs_size]; exact hxl))
          generalize Fr.makeS (bs x).data.toList = S at *
          generalize Fr.makeE (bs x).data.toList = F at *
          clear hx hmem hxl
          go_wp2_with fail
          refine (HC.out _).mono ?_
          rintro e wa ⟨rfl, ga⟩
          have hcell2 : wa.cell? ⟨b, o + k, none⟩ = some (.string (bs x)) := by rw [kept_cell ga hb]; exact hcell
          go_wp2_with fail
          refine (HC2.out _).mono ?_
          rintro e wb ⟨rfl, gb⟩
          go_wp2_with fail
          go_roundw
          case rel => exact ⟨k + 1, by omega, by go_num, kept_trans hkr (kept_trans ga gb)⟩
          case measure => simp [intOf]; omega
        · go_wp2_with fail
          go_ret
          exact ⟨rfl, kept_trans g1 (kept_trans g2 (kept_trans g27 (kept_trans g8 (kept_trans g9 hkr))))⟩
end Go.Proofs.Ytbaekbddfnfbeaa
