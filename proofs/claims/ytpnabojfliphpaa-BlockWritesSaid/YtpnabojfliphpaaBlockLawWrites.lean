/-
  The walk of screelaw09.BlockWrites.
-/
import Derived.Test.YtpnabojfliphpaaBlockRef
import Derived.Test.YtpnabojfliphpaaMergeApp
namespace Go.Proofs.Ytpnabojfliphpaa
open Go.ChangeShapes Go.WideShapes Go.ChangeAt Go.RowKit
set_option linter.unusedVariables false
set_option maxRecDepth 100000
set_option maxHeartbeats 4000000

theorem kown_lit (wr : World) {B : Nat} (hB : B ≤ wr.heap.size) : (wr.alloc (.cells #[] 35)).ownsRow B 35 4 (.slice (some ⟨wr.heap.size, 0, none⟩) 0 0) ([] : List Mm.Ent).length (elc []) :=
  World.ownsRow_lit (base := B) (e := 35) (size := 4) wr #[] 0 hB (by unfold maxLen; omega) rfl
theorem BlockWrites_walk (A : Option Addr) (cap : Nat) (l : List Mm.Ent) (S1 S2 : ByteArray) {w : World} (ha : Els w A l) (hl : l.length ≤ cap ∧ cap ≤ maxLen ∧ OkEs l) (hS1 : S1.size ≤ maxLen) (hS2 : S2.size ≤ maxLen) :
    Calls Try.prog 3 #[.slice A l.length cap, .string S1, .string S2] w fun e w' => e = .returned (.bool true) ∧ Kept w w' := by
  obtain ⟨a, rfl, ea⟩ := bs_back S1
  obtain ⟨b, rfl, eb⟩ := bs_back S2
  obtain ⟨hc, hm, ho⟩ := hl
  have HE := Lib.hid ha; have HO := Lib.hid ho
  have hlm : l.length ≤ maxLen := by omega
  have HLG := Lib.hid (fun W (h : Els W A l) => klarge_any cap h hlm ho)
  have HEN := Lib.hid (fun W B c (h : Els W B l) => kencode_any c h hlm (es_el ho))
  have HRN := Lib.hid (fun W (h : Els W A l) => krencode_any cap h hlm (es_el ho))
  unfold maxLen at hS1 hS2
  clear ha hc hm
  go_enter Try.func3, Try.ntmps3
  go_wp2_with fail
  refine (kawake_any w).mono ?_
  rintro e w1 ⟨rfl, g1⟩
  go_wp2_with fail
  refine (HLG.out _ (HE.out.kept g1)).mono ?_
  rintro e w2 ⟨B, rfl, g2, hB⟩
  have G2 := Lib.hid (kept_trans g1 g2)
  have HB := Lib.hid hB
  clear g1 g2 hB HLG
  cases B with
  | true =>
    go_wp2_with fail
    go_ret
    exact ⟨rfl, G2.out⟩
  | false =>
    obtain ⟨h60, _⟩ := HB.out rfl
    by_cases h3 : 300 < (bs a).size
    · have d3 : decide ((300 : Int) < ((bs a).size : Int)) = true := decide_eq_true (by omega)
      clear ea eb
      go_wp2_with fail
      go_ret
      exact ⟨rfl, G2.out⟩
    · have d3 : decide ((300 : Int) < ((bs a).size : Int)) = false := decide_eq_false (by omega)
      by_cases h4 : 300 < (bs b).size
      · have d4 : decide ((300 : Int) < ((bs b).size : Int)) = true := decide_eq_true (by omega)
        clear ea eb
        go_wp2_with fail
        go_ret
        exact ⟨rfl, G2.out⟩
      · have d4 : decide ((300 : Int) < ((bs b).size : Int)) = false := decide_eq_false (by omega)
        have HSH := Lib.hid (kshared_any a b (by unfold maxLen; omega) (by unfold maxLen; omega))
        have HRS := Lib.hid (krshared_any a b (by unfold maxLen; omega) (by unfold maxLen; omega))
        have HEL := Lib.hid ((HE.out.kept G2.out).kept ((Kept.refl _).alloc (.cells #[] 35)))
        have HO0 := Lib.hid (kown_lit w2 (Nat.le_refl _))
        have hl4 : ([] : List Mm.Ent).length + l.length ≤ 4000 := by simp; omega
        clear ea eb
        generalize Bk.encS l = X at *
        generalize Bk.encC l = Y at *
        generalize Bk.sh a b = Z at *
        go_wp2_with (at_builtin; refine app_es A cap [] l _ _ rfl rfl rfl w2.heap.size (by simp) HO0.out l.length rfl rfl HEL.out hl4 ?_)
        intro v' w3 hown hg
        have hk3 : Kept w2 w3 := Below.grown ((Kept.refl w2).alloc _) hg (by simp) (fun b hb => ((HO0.out.lt b hb).1))
        obtain ⟨B', c', rfl, _, hel⟩ := els_own hown
        have HOW := Lib.hid hel.els
        have HEN2 := Lib.hid (HEN.out w3 B' c' hel.els)
        have G3 := Lib.hid (kept_trans G2.out hk3)
        clear hown hg hk3 hel HEL HO0
        go_wp2_with fail
        refine HEN2.out.mono ?_
        rintro e w4 ⟨rfl, g4⟩
        have HRN2 := Lib.hid (HRN.out _ (HE.out.kept (kept_trans G3.out g4)))
        have G4 := Lib.hid g4
        clear g4 HEN2
        go_wp2_with fail
        refine HRN2.out.mono ?_
        rintro e w5 ⟨rfl, g5⟩
        have K5 := Lib.hid (kept_trans G3.out (kept_trans G4.out g5))
        have G45 := Lib.hid (kept_trans G4.out g5)
        clear g5 HRN2
        go_wp2_with fail
        refine (HSH.out _).mono ?_
        rintro e w6 ⟨rfl, g6⟩
        go_wp2_with fail
        refine (HRS.out _).mono ?_
        rintro e w7 ⟨rfl, g7⟩
        have g67 := kept_trans g6 g7
        have HSM := Lib.hid (msame_eq (c1 := c') (c2 := cap) (HOW.out.kept (kept_trans G45.out g67)) (HE.out.kept (kept_trans K5.out g67)) rfl rfl (by omega) rfl)
        have G67 := Lib.hid g67
        clear g6 g7 g67
        go_wp2_with fail
        refine HSM.out.mono ?_
        rintro e w8 ⟨rfl, g8⟩
        go_wp2_with fail
        go_ret
        exact ⟨rfl, kept_trans K5.out (kept_trans G67.out g8)⟩
end Go.Proofs.Ytpnabojfliphpaa
