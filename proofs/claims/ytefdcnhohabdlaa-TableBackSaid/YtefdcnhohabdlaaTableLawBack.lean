/-
  The walk of screelaw11.TableBack.
-/
import Derived.Test.YtefdcnhohabdlaaTableArgs
import Derived.Test.YtefdcnhohabdlaaTableAwake
import Derived.Test.YtefdcnhohabdlaaBlockArgs
namespace Go.Proofs.Ytefdcnhohabdlaa
open Go.ChangeShapes Go.WideShapes Go.ChangeAt Go.RowKit
set_option linter.unusedVariables false
set_option maxRecDepth 100000
set_option maxHeartbeats 4000000

theorem okEl_es {l : List Mm.Ent} (h : OkEs l) : OkEl l := fun x hx => ⟨(h x hx).1, (h x hx).2.1⟩
theorem okEl_T {l : List Mm.Ent} (h : Tb.isT l = true) : OkEl l := fun x hx => by
  obtain ⟨_, q1, q2, _⟩ := Mm.may_iff.1 ((Tb.isT_iff.1 h).2.2.1 x hx)
  unfold maxLen; omega
theorem tsame_self {W : World} {A B : Option Addr} {l : List Mm.Ent} (hl : l.length ≤ 1000) (c d : Nat) (h1 : Els W A l) (h2 : Els W B l) : Calls Try.prog 14 #[.slice A l.length c, .slice B l.length d] W fun e w' => e = .returned (.bool true) ∧ Kept W w' := by
  have := msame_any A B c d l l hl hl W h1 h2
  rw [decide_eq_true rfl] at this
  exact this.mono fun e w' ⟨h1, q, h2⟩ => ⟨h1, by rw [h2]; exact kept_drewN W q⟩
theorem TableBack_walk (A : Option Addr) (cap : Nat) (l : List Mm.Ent) (S1 : ByteArray) {w : World} (ha : Els w A l) (hl : l.length ≤ cap ∧ cap ≤ maxLen ∧ OkEs l) (hS : S1.size ≤ maxLen) :
    Calls Try.prog 5 #[.slice A l.length cap, .string S1] w fun e w' => e = .returned (.bool true) ∧ Kept w w' := by
  obtain ⟨hc, hm, ho⟩ := hl
  obtain ⟨s, rfl, es⟩ := bs_back S1
  have HLG := Lib.hid (fun (W : World) (k : Kept w W) => tlarge_any cap (ha.kept k) (by omega) (okEl_es ho))
  have HBD0 := Lib.hid (fun (W : World) (k : Kept w W) => tbuild_any cap (ha.kept k) hc hm (okEl_es ho))
  have HAW := Lib.hid (tawake_any w)
  have HT0 := Lib.hid (show Tb.isT l = true ∨ Tb.isT l = false by cases Tb.isT l <;> simp)
  have HELS := Lib.hid ha
  unfold maxLen at hS
  clear ho ha
  by_cases h3 : 16384 < (bs s).size
  · have d3 : decide ((16384 : Int) < ((bs s).size : Int)) = true := decide_eq_true (by omega)
    clear es
    go_enter Try.func5, Try.ntmps5
    go_wp2_with fail
    refine HAW.out.mono ?_
    rintro e w1 ⟨rfl, g1⟩
    have HL1 := Lib.hid (HLG.out w1 g1)
    go_wp2_with fail
    refine HL1.out.mono ?_
    rintro e w2 ⟨B, rfl, g2⟩
    cases B with
    | true =>
      go_wp2_with fail
      go_ret
      exact ⟨rfl, kept_trans g1 g2⟩
    | false =>
      go_wp2_with fail
      go_ret
      exact ⟨rfl, kept_trans g1 g2⟩
  · have d3 : decide ((16384 : Int) < ((bs s).size : Int)) = false := decide_eq_false (by omega)
    have HOPS := Lib.hid (topen_any s (by omega))
    clear es
    go_enter Try.func5, Try.ntmps5
    go_wp2_with fail
    refine HAW.out.mono ?_
    rintro e w1 ⟨rfl, g1⟩
    have HL1 := Lib.hid (HLG.out w1 g1)
    go_wp2_with fail
    refine HL1.out.mono ?_
    rintro e w2 ⟨B, rfl, g2⟩
    cases B with
    | true =>
      go_wp2_with fail
      go_ret
      exact ⟨rfl, kept_trans g1 g2⟩
    | false =>
      have K2 := Lib.hid (kept_trans g1 g2)
      have HBD := Lib.hid (HBD0.out w2 K2.out)
      clear g1 g2 HL1 HLG HAW HBD0
      rcases HT0.out with hT | hT
      · have HT := Lib.hid hT
        have hbd := HBD.out
        rw [(Tb.encS_yes hT).1, (Tb.encS_yes hT).2] at hbd
        have HBDE := Lib.hid hbd
        have HOE := Lib.hid (fun W => topen_enc hT W)
        have hl500 := (Tb.isT_iff.1 hT).2.1
        generalize bs (Tb.enc l) = ES at *
        clear hT hbd HBD HT0
        go_wp2_with fail
        refine HBDE.out.mono ?_
        rintro e w3 ⟨rfl, g3⟩
        go_wp2_with fail
        refine (HOE.out _).mono ?_
        rintro e w4 ⟨p, rfl, hT4, hpw, g4⟩
        have HT4 := Lib.hid hT4
        have K4 := Lib.hid (kept_trans K2.out (kept_trans g3 g4))
        have hall := tall_any hT4
        rw [Tb.tv_all HT.out] at hall
        have HALL := Lib.hid hall
        clear g3 g4 hT4 hall HBDE HOE hpw
        go_wp2_with fail
        refine HALL.out.mono ?_
        rintro e w5 ⟨B5, c5, rfl, hel5, g5⟩
        have K5 := Lib.hid (kept_trans K4.out g5)
        have HSM := Lib.hid (tsame_self (by omega) c5 cap hel5.els (HELS.out.kept K5.out))
        have HT5 := Lib.hid (HT4.out.kept g5)
        clear g5 hel5 HALL
        go_wp2_with fail
        refine HSM.out.mono ?_
        rintro e w6 ⟨rfl, g6⟩
        have K6 := Lib.hid (kept_trans K5.out g6)
        have HLN := Lib.hid (tlen_any (HT5.out.kept g6))
        clear g6 HSM
        go_wp2_with fail
        refine HLN.out.mono ?_
        rintro e w7 ⟨rfl, rfl⟩
        clear HLN
        go_wp2_with fail
        refine (HOPS.out _).mono ?_
        rintro e w10 (⟨m, pp, hd, rfl, hT10, hpp, g10⟩ | ⟨hd, rfl, g10⟩)
        · obtain ⟨hm1, hm2, _⟩ := Tb.dec_back hd
          have hall2 := tall_any hT10
          rw [Tb.tv_all hm1] at hall2
          have HALL2 := Lib.hid hall2
          have HM1 := Lib.hid hm1; have HM2 := Lib.hid hm2
          have K10 := Lib.hid (kept_trans K6.out g10)
          clear hd hT10 hpp g10 hall2 hm1 hm2
          go_wp2_with fail
          refine HALL2.out.mono ?_
          rintro e w11 ⟨B11, c11, rfl, hel11, g11⟩
          have hb2 := tbuild_any c11 hel11.els hel11.cap hel11.most (okEl_T HM1.out)
          rw [(Tb.encS_yes HM1.out).1, (Tb.encS_yes HM1.out).2, HM2.out] at hb2
          have HB2 := Lib.hid hb2
          have K11 := Lib.hid (kept_trans K10.out g11)
          have t9 : ((bs s).toList == (bs s).toList) = true := by simp
          clear hel11 g11 hb2 HALL2
          go_wp2_with fail
          refine HB2.out.mono ?_
          rintro e w12 ⟨rfl, g12⟩
          go_wp2_with fail
          go_ret
          exact ⟨ret_bool (by simp), kept_trans K11.out g12⟩
        · go_wp2_with fail
          go_ret
          exact ⟨rfl, kept_trans K6.out g10⟩
      · have hbd := HBD.out
        rw [(Tb.encS_no hT).1, (Tb.encS_no hT).2] at hbd
        have HBDE := Lib.hid hbd
        have t0 : ((bs []).toList == []) = true := by rw [Lib.toList_data, bs_data]; rfl
        have t00 : (!(bs []).toList == []) = false := by rw [t0]; rfl
        clear hT hbd HBD HT0
        go_wp2_with fail
        refine HBDE.out.mono ?_
        rintro e w3 ⟨rfl, g3⟩
        have K6 := Lib.hid (kept_trans K2.out g3)
        clear g3 HBDE
        go_wp2_with fail
        refine (HOPS.out _).mono ?_
        rintro e w10 (⟨m, pp, hd, rfl, hT10, hpp, g10⟩ | ⟨hd, rfl, g10⟩)
        · obtain ⟨hm1, hm2, _⟩ := Tb.dec_back hd
          have hall2 := tall_any hT10
          rw [Tb.tv_all hm1] at hall2
          have HALL2 := Lib.hid hall2
          have HM1 := Lib.hid hm1; have HM2 := Lib.hid hm2
          have K10 := Lib.hid (kept_trans K6.out g10)
          clear hd hT10 hpp g10 hall2 hm1 hm2
          go_wp2_with fail
          refine HALL2.out.mono ?_
          rintro e w11 ⟨B11, c11, rfl, hel11, g11⟩
          have hb2 := tbuild_any c11 hel11.els hel11.cap hel11.most (okEl_T HM1.out)
          rw [(Tb.encS_yes HM1.out).1, (Tb.encS_yes HM1.out).2, HM2.out] at hb2
          have HB2 := Lib.hid hb2
          have K11 := Lib.hid (kept_trans K10.out g11)
          have t9 : ((bs s).toList == (bs s).toList) = true := by simp
          clear hel11 g11 hb2 HALL2
          go_wp2_with fail
          refine HB2.out.mono ?_
          rintro e w12 ⟨rfl, g12⟩
          go_wp2_with fail
          go_ret
          exact ⟨ret_bool (by simp), kept_trans K11.out g12⟩
        · go_wp2_with fail
          go_ret
          exact ⟨rfl, kept_trans K6.out g10⟩
end Go.Proofs.Ytefdcnhohabdlaa
