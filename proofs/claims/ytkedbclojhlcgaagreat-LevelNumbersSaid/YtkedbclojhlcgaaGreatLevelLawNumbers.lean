/-
  Statement LevelNumbers: the walk.
-/
import Derived.Test.YtkedbclojhlcgaaGreatLevelKit
namespace Go.Proofs.YtkedbclojhlcgaaGreat
open Go.ChangeShapes Go.WideShapes Go.ChangeAt Go.RowKit
set_option linter.unusedVariables false
set_option maxRecDepth 100000
set_option maxHeartbeats 8000000
open Lv
theorem LevelNumbers_walk (A0 : Option Addr) (c0 : Nat) (l : List Ed) {w : World} (ha : Eds w A0 l) (hl : l.length ≤ maxLen) :
    Calls Tryz.prog 10 #[.slice A0 l.length c0] w fun e w' => e = .returned (.bool true) ∧ Kept w w' := by
  have HA := Lib.hid (fun W (hW : Kept w W) => ha.kept hW)
  clear ha
  unfold maxLen at hl
  go_enter Tryz.func10, Tryz.ntmps10
  go_wp2_with fail
  refine (lvawake_any _).mono ?_
  rintro e w1 ⟨rfl, k1⟩
  have K1 := Lib.hid k1
  clear k1
  go_wp2_with fail
  refine (lvnew_any _).mono ?_
  rintro e w2 ⟨p, rfl, hv, _, k2⟩
  have K2 := Lib.hid (kept_trans K1.out k2)
  have HV2 := Lib.hid hv
  clear k2 K1 hv
  go_wp2_with fail
  go_loopw [3, 4] (fun v t wr => ∃ (i p nx lg sq : Nat) (T : Nat → Lvl), i ≤ l.length ∧ i ≤ 40 ∧ v = .pointer (some ⟨p, 0, none⟩) ∧ t = .int .i64 i ∧ Hid (IsV wr p T nx lg sq) ∧ Hid (Lv.Good (verV T nx lg sq)) ∧ Hid (Kept w wr)) (fun _ t _ => l.length - (intOf t).toNat)
  case atStart => exact ⟨0, p, 1, 0, 0, vT0, Nat.zero_le _, Nat.zero_le _, rfl, rfl, HV2, Lib.hid good_vz, K2⟩
  case round =>
    clear HV2 K2
    obtain ⟨i, p, nx, lg, sq, T, hi, hi40, rfl, rfl, HV, HG, HK⟩ := hrel
    by_cases hlt : i < l.length
    · have d1 : decide ((i : Int) < (l.length : Int)) = true := decide_eq_true (by omega)
      by_cases h40 : i < 40
      · have d2 : decide ((i : Int) < 40) = true := decide_eq_true (by omega)
        obtain ⟨x, hx⟩ : ∃ x, l[i]? = some x := ⟨_, List.getElem?_eq_getElem hlt⟩
        obtain ⟨b, o, rfl, hb, _, _⟩ := HA.out w (Kept.refl _) i x hx
        have HX := Lib.hid (fun W (hW : Kept w W) => ed_at (HA.out W hW i x hx))
        have HW := Lib.hid (fun W (hW : Kept w W) => ed_wk (HA.out W hW i x hx))
        have HLG := Lib.hid (fun W (hW : Kept w W) => lvlarge_any (ed_wk (HA.out W hW i x hx)))
        have HAP := Lib.hid (fun W (hW : Kept wr W) (hin : x.In W) => apy_two (HV.out.kept hW) HG.out hin)
        have hev : x.v = .agg #[.slice x.A x.gone.length x.c, (x.T 0).v, (x.T 1).v, (x.T 2).v, (x.T 3).v, .int .u64 (x.nx : Nat), .int .u64 (x.lg : Nat), .int .u64 (x.sq : Nat)] := rfl
        rw [hev] at HLG HAP
        clear hx hev
        unfold EdAt at HX
        generalize (x.T 0).v = y0 at *
        generalize (x.T 1).v = y1 at *
        generalize (x.T 2).v = y2 at *
        generalize (x.T 3).v = y3 at *
        obtain ⟨z0, z1, z2, z3, z4, z5, z6, z7⟩ := HX.out wr HK.out
        go_wp2_with fail
        refine (HLG.out _ HK.out).mono ?_
        rintro r w3 ⟨B, rfl, hB, k3⟩
        have K3 := Lib.hid k3
        have KW3 := Lib.hid (kept_trans HK.out k3)
        clear k3 z0 z1 z2 z3 z4 z5 z6 z7 HLG
        cases B with
        | true =>
          go_wp2_with fail
          go_ret
          exact ⟨rfl, KW3.out⟩
        | false =>
        have HS := Lib.hid (hB rfl)
        clear hB
        obtain ⟨z0, z1, z2, z3, z4, z5, z6, z7⟩ := HX.out w3 KW3.out
        go_wp2_with fail
        refine (HAP.out _ K3.out ((HW.out _ KW3.out).inn HS.out)).mono ?_
        rintro r w4 ⟨hr, k4⟩
        have K4 := Lib.hid (kept_trans K3.out k4)
        have KW4 := Lib.hid (kept_trans KW3.out k4)
        clear k4 z0 z1 z2 z3 z4 z5 z6 z7 HAP K3 KW3
        rcases hr with ⟨c, hc0, _, rfl⟩ | ⟨p2, U, hc, rfl, hv2, hg2, hUl⟩
        · go_wp2_with fail
          go_roundw
          case rel => exact ⟨i + 1, p, nx, lg, sq, T, by omega, by omega, rfl, by go_num, Lib.hid (HV.out.kept K4.out), HG, KW4⟩
          case measure => simp [intOf]; omega
        · have HV2 := Lib.hid hv2; have HG2 := Lib.hid hg2
          have hn := code_nums hc
          dsimp only [verV, Ed.edt] at hn
          have c1 : x.nx = 0 → chg nx x.nx = nx := fun h => by rw [h]; rfl
          have c2 : x.lg = 0 → chg lg x.lg = lg := fun h => by rw [h]; rfl
          have c3 : x.sq = 0 → chg sq x.sq = sq := fun h => by rw [h]; rfl
          clear hc hUl hv2 hg2
          generalize chg nx x.nx = N1 at *
          generalize chg lg x.lg = L1 at *
          generalize chg sq x.sq = S1 at *
          have HNA := Lib.hid (fun W (hW : Kept w4 W) => lvnums_any ((HV.out.kept K4.out).kept hW))
          have HNB := Lib.hid (fun W (hW : Kept w4 W) => lvnums_any (HV2.out.kept hW))
          go_wp2_with fail
          refine (HNA.out _ (Kept.refl _)).mono ?_
          rintro r w5 ⟨rfl, q5, rfl⟩
          have K5 := Lib.hid (kept_drewN w4 q5)
          generalize w4.drewN q5 = w5 at *
          go_wp2_with fail
          refine (HNB.out _ K5.out).mono ?_
          rintro r w6 ⟨rfl, q6, rfl⟩
          have K6 := Lib.hid (kept_trans K5.out (kept_drewN w5 q6))
          generalize w5.drewN q6 = w6 at *
          have KW6 := Lib.hid (kept_trans KW4.out K6.out)
          clear HNA HNB K5
          go_upto_region 13 with fail
          go_cut [107] from 56 to 107 (fun s wx => s = .bool false ∧ wx = w6)
          case first =>
            obtain ⟨z0, z1, z2, z3, z4, z5, z6, z7⟩ := HX.out w6 KW6.out
            have a1 : decide ((N1 : Int) < (nx : Int)) = false := decide_eq_false (by omega)
            have a2 : decide ((L1 : Int) < (lg : Int)) = false := decide_eq_false (by omega)
            have a3 : decide ((S1 : Int) < (sq : Int)) = false := decide_eq_false (by omega)
            have e1 : ((x.nx : Int) == 0) = decide (x.nx = 0) := by by_cases e : x.nx = 0 <;> simp [e]
            have e2 : ((x.lg : Int) == 0) = decide (x.lg = 0) := by by_cases e : x.lg = 0 <;> simp [e]
            have e3 : ((x.sq : Int) == 0) = decide (x.sq = 0) := by by_cases e : x.sq = 0 <;> simp [e]
            have n1 : x.nx = 0 → ((N1 : Int) != (nx : Int)) = false := fun h => by rw [c1 h]; simp
            have n2 : x.lg = 0 → ((L1 : Int) != (lg : Int)) = false := fun h => by rw [c2 h]; simp
            have n3 : x.sq = 0 → ((S1 : Int) != (sq : Int)) = false := fun h => by rw [c3 h]; simp
            obtain ⟨hn1, hn2, hn3⟩ := hn
            clear c1 c2 c3
            generalize (x.nx : Int) = xn at *
            generalize (x.lg : Int) = xl at *
            generalize (x.sq : Int) = xs at *
            by_cases h1 : x.nx = 0 <;> by_cases h2 : x.lg = 0 <;> by_cases h3 : x.sq = 0
            all_goals
              first | rw [decide_eq_true h1] at e1 | rw [decide_eq_false h1] at e1
              first | rw [decide_eq_true h2] at e2 | rw [decide_eq_false h2] at e2
              first | rw [decide_eq_true h3] at e3 | rw [decide_eq_false h3] at e3
              try replace n1 := n1 h1
              try replace n2 := n2 h2
              try replace n3 := n3 h3
              clear h1 h2 h3
              go_wp2_with fail
              go_meet
              exact ⟨by first | rfl | (simp; done) | (simp; omega), rfl⟩
          case rest =>
            obtain ⟨rfl, rfl⟩ := hcut
            clear hn c1 c2 c3
            have HIN := Lib.hid (show (⟨none, 0, [], vT0, 0, 0, 0⟩ : Ed).In wc from ⟨fun j x hx => by simp at hx, tin_none _, by simp, fun l _ => by simp [vT0], by simp, by simp, by simp⟩)
            have HAE := Lib.hid (apy_two (HV2.out.kept K6.out) HG2.out HIN.out)
            go_wp2_with fail
            refine HAE.out.mono ?_
            rintro r w7 ⟨hr, k7⟩
            have K7 := Lib.hid k7
            have HCN := Lib.hid (code_nil HG2.out)
            rcases hr with ⟨c, hc0, hc1, rfl⟩ | ⟨p3, U3, _, rfl, hv3, hg3, hU3⟩
            · exfalso
              rw [show code (verV U N1 L1 S1) (⟨none, 0, [], vT0, 0, 0, 0⟩ : Ed).edt = 0 from HCN.out] at hc1
              exact hc0 hc1
            · have HV3 := Lib.hid (show IsV w7 p3 U3 N1 L1 S1 from hv3)
              have HG3 := Lib.hid (show Lv.Good (verV U3 N1 L1 S1) from hg3)
              have HU3 := Lib.hid (fun l (hl : l < 4) => (hU3 l hl).trans (res_nil _ l))
              clear hv3 hg3 hU3 k7 HIN HAE HCN
              have KW7 := Lib.hid (kept_trans KW6.out K7.out)
              have HE3 := Lib.hid (lvedit_any HV3.out HG3.out)
              go_wp2_with fail
              refine HE3.out.mono ?_
              rintro r w8 ⟨da, rfl, hia, haa, k8⟩
              have K8 := Lib.hid k8
              have HIA := Lib.hid (fun W (hW : Kept w8 W) => hia.kept hW)
              have HAA := Lib.hid haa
              clear hia haa k8 HE3
              have HE4 := Lib.hid (lvedit_any (HV2.out.kept (kept_trans K6.out (kept_trans K7.out K8.out))) HG2.out)
              go_wp2_with fail
              refine HE4.out.mono ?_
              rintro r w9 ⟨db, rfl, hib, hab, k9⟩
              have K9 := Lib.hid k9
              have HSM := Lib.hid (lvrsame_any (HIA.out _ k9) hib)
              have HTT := Lib.hid (show Lv.Alike da.edt db.edt from ⟨HAA.out.1.trans hab.1.symm, fun l hl => ((HAA.out.2.1 l hl).trans (HU3.out l hl)).trans (hab.2.1 l hl).symm, HAA.out.2.2.1.trans hab.2.2.1.symm, HAA.out.2.2.2.1.trans hab.2.2.2.1.symm, HAA.out.2.2.2.2.trans hab.2.2.2.2.symm⟩)
              clear hib hab k9 HE4
              go_wp2_with fail
              refine HSM.out.mono ?_
              rintro r w10 ⟨B, rfl, hB, k10⟩
              obtain rfl : B = true := hB.2 HTT.out
              have K10 := Lib.hid (kept_trans K7.out (kept_trans K8.out (kept_trans K9.out k10)))
              have KW10 := Lib.hid (kept_trans KW6.out K10.out)
              clear hB k10 HSM HTT
              go_wp2_with fail
              go_roundw
              case rel => exact ⟨i + 1, p2, N1, L1, S1, U, by omega, by omega, rfl, by go_num, Lib.hid (HV2.out.kept (kept_trans K6.out K10.out)), HG2, KW10⟩
              case measure => simp [intOf]; omega
      · have d2 : decide ((i : Int) < 40) = false := decide_eq_false (by omega)
        go_wp2_with fail
        go_ret
        exact ⟨by simp, HK.out⟩
    · have d1 : decide ((i : Int) < (l.length : Int)) = false := decide_eq_false (by omega)
      go_wp2_with fail
      go_ret
      exact ⟨by simp, HK.out⟩
end Go.Proofs.YtkedbclojhlcgaaGreat
