/-
  The walk of screelaw09.BlockBack.
-/
import Derived.Test.YtpnabojfliphpaaBlockArgs
namespace Go.Proofs.Ytpnabojfliphpaa
open Go.ChangeShapes Go.WideShapes Go.ChangeAt Go.RowKit
set_option linter.unusedVariables false
set_option maxRecDepth 100000
set_option maxHeartbeats 4000000

/-- the second half: any bytes -/
theorem kenc_empty {w : World} {A : Option Addr} {l : List Mm.Ent} (c : Nat) (h : Els w A l) (hl : l.length ≤ maxLen) (ho : OkEl l) (hok : Bk.isB l = false) :
    Calls Try.prog 16 #[.slice A l.length c] w fun e w' => e = .returned (.tuple #[.string ⟨#[]⟩, .int .i64 2]) ∧ Kept w w' := kencode_no c h hl ho hok
theorem BlockBack_walk (A : Option Addr) (cap : Nat) (l : List Mm.Ent) (S1 : ByteArray) {w : World} (ha : Els w A l) (hl : l.length ≤ cap ∧ cap ≤ maxLen ∧ OkEs l) (hS : S1.size ≤ maxLen) :
    Calls Try.prog 5 #[.slice A l.length cap, .string S1] w fun e w' => e = .returned (.bool true) ∧ Kept w w' := by
  obtain ⟨s, rfl, es⟩ := bs_back S1
  obtain ⟨hc, hm, ho⟩ := hl
  have HE := Lib.hid ha; have HO := Lib.hid ho
  have hlm : l.length ≤ maxLen := by omega
  have HLG := Lib.hid (fun W (h : Els W A l) => klarge_any cap h hlm ho)
  have hlm2 := hlm
  unfold maxLen at hS hlm2
  clear ha hc hm
  go_enter Try.func5, Try.ntmps5
  go_wp2_with fail
  refine (kawake_any w).mono ?_
  rintro e w1 ⟨rfl, g1⟩
  go_wp2_with fail
  refine (HLG.out _ (HE.out.kept g1)).mono ?_
  rintro e w2 ⟨B, rfl, g2, hB⟩
  have G2 := Lib.hid (kept_trans g1 g2)
  have HB := Lib.hid hB
  clear g1 g2 hB
  cases B with
  | true =>
    go_wp2_with fail
    go_ret
    exact ⟨rfl, G2.out⟩
  | false =>
    obtain ⟨h60, _⟩ := HB.out rfl
    by_cases h3 : 8192 < (bs s).size
    · have d3 : decide ((8192 : Int) < ((bs s).size : Int)) = true := decide_eq_true (by omega)
      go_wp2_with fail
      go_ret
      exact ⟨rfl, G2.out⟩
    · have d3 : decide ((8192 : Int) < ((bs s).size : Int)) = false := decide_eq_false (by omega)
      have HDS := Lib.hid (fun (h : Bk.dec s = none) => kdecode_none (by omega) h)
      have HDS2 := Lib.hid (fun m (h : Bk.dec s = some m) => kdecode_some (l := m) (by omega) h)
      have HDB := Lib.hid (fun m (h : Bk.dec s = some m) => Bk.dec_back h)
      clear es
      cases hb : Bk.isB l with
      | false =>
        have HEN := Lib.hid (kenc_empty cap (HE.out.kept G2.out) hlm (es_el HO.out) hb)
        clear hb
        go_wp2_with fail
        refine HEN.out.mono ?_
        rintro e w3 ⟨rfl, g3⟩
        have G3 := Lib.hid (kept_trans G2.out g3)
        clear g3 HEN
        cases hd : Bk.dec s with
        | none =>
          have HD := Lib.hid (HDS.out hd)
          clear hd HDS HDS2 HDB
          go_wp2_with fail
          refine (HD.out _).mono ?_
          rintro e w4 ⟨rfl, g4⟩
          go_wp2_with fail
          go_ret
          exact ⟨rfl, kept_trans G3.out g4⟩
        | some m =>
          have HD := Lib.hid (HDS2.out m hd)
          obtain ⟨hb2, he2⟩ := HDB.out m hd
          have HE2 := Lib.hid (fun (W : World) B c (h : Els W B m) => kencode_ok c h hb2)
          rw [he2] at HE2
          clear hd HDS HDS2 HDB hb2 he2
          go_wp2_with fail
          refine (HD.out _).mono ?_
          rintro e w4 ⟨B, c, rfl, hel, g4⟩
          have HE3 := Lib.hid (HE2.out w4 B c hel.els)
          have G4 := Lib.hid (kept_trans G3.out g4)
          clear hel g4
          go_wp2_with fail
          refine HE3.out.mono ?_
          rintro e w5 ⟨rfl, g5⟩
          go_wp2_with fail
          go_ret
          exact ⟨ret_bool (by simp), kept_trans G4.out g5⟩
      | true =>
        have HEN := Lib.hid (kencode_ok cap (HE.out.kept G2.out) hb)
        have HD1 := Lib.hid (kdecode_some (by have := Bk.enc_len hb; omega) (Bk.dec_enc hb))
        have hct := kcount_any (Bk.enc l) (by have := Bk.enc_len hb; omega)
        rw [Bk.count_enc (Bk.isB_iff.1 hb).2.1] at hct
        have HCT := Lib.hid hct
        generalize Bk.enc l = E at *
        clear hb hct
        go_wp2_with fail
        refine HEN.out.mono ?_
        rintro e w3 ⟨rfl, g3⟩
        go_wp2_with fail
        refine (HD1.out _).mono ?_
        rintro e w4 ⟨B1, c1, rfl, hel1, g4⟩
        have g34 := kept_trans G2.out (kept_trans g3 g4)
        have HSM := Lib.hid (msame_eq (c1 := cap) (c2 := c1) (HE.out.kept g34) hel1.els rfl rfl (by omega) rfl)
        have G34 := Lib.hid g34
        clear g34 g3 g4 hel1 HEN HD1
        go_wp2_with fail
        refine HSM.out.mono ?_
        rintro e w5 ⟨rfl, g5⟩
        go_wp2_with fail
        refine (HCT.out _).mono ?_
        rintro e w6 ⟨rfl, rfl⟩
        have G3 := Lib.hid (kept_trans G34.out g5)
        clear g5 HSM HCT
        cases hd : Bk.dec s with
        | none =>
          have HD := Lib.hid (HDS.out hd)
          clear hd HDS HDS2 HDB
          go_wp2_with fail
          refine (HD.out _).mono ?_
          rintro e w4 ⟨rfl, g4⟩
          go_wp2_with fail
          go_ret
          exact ⟨rfl, kept_trans G3.out g4⟩
        | some m =>
          have HD := Lib.hid (HDS2.out m hd)
          obtain ⟨hb2, he2⟩ := HDB.out m hd
          have HE2 := Lib.hid (fun (W : World) B c (h : Els W B m) => kencode_ok c h hb2)
          rw [he2] at HE2
          clear hd HDS HDS2 HDB hb2 he2
          go_wp2_with fail
          refine (HD.out _).mono ?_
          rintro e w4 ⟨B, c, rfl, hel, g4⟩
          have HE3 := Lib.hid (HE2.out w4 B c hel.els)
          have G4 := Lib.hid (kept_trans G3.out g4)
          clear hel g4
          go_wp2_with fail
          refine HE3.out.mono ?_
          rintro e w5 ⟨rfl, g5⟩
          go_wp2_with fail
          go_ret
          exact ⟨ret_bool (by simp), kept_trans G4.out g5⟩
end Go.Proofs.Ytpnabojfliphpaa
