/-
  BatchApart of the statements of layer 5 returns true, whatever the input.
-/
import Derived.Test.YtalcmiaohclnjaaBatchLawBack
import Derived.BigQuiet
namespace Go.Proofs.Ytalcmiaohclnjaa
open Go.ChangeShapes Go.WideShapes Go.ChangeAt Go.RowKit
set_option linter.unusedVariables false
set_option maxHeartbeats 1000000

set_option maxHeartbeats 4000000 in
set_option maxRecDepth 100000 in
theorem BatchApart_walk {w : World} (n k : Int) (A : Option Addr) (c : Nat) (l : List Bt.Op) (B : Option Addr) (d : Nat) (m : List Bt.Op) (hn : (Lit.int .u64 n).wf = true) (hk : (Lit.int .u64 k).wf = true) (hA : Ops w A l) (hl : l.length ≤ maxLen ∧ Sane l ∧ l.length ≤ c ∧ c ≤ maxLen ∧ (A = none → c = 0)) (hB : Ops w B m) (hm : m.length ≤ maxLen ∧ Sane m ∧ m.length ≤ d ∧ d ≤ maxLen ∧ (B = none → d = 0)) :
    Calls Try.prog 6 #[.int .u64 n, .int .u64 k, .slice A l.length c, .slice B m.length d] w fun e w' => e = .returned (.bool true) ∧ Kept w w' := by
  obtain ⟨hl1, hl2, _⟩ := hl
  obtain ⟨hm1, hm2, _⟩ := hm
  obtain ⟨n1, n2⟩ := bounds_u64 hn
  obtain ⟨k1, k2⟩ := bounds_u64 hk
  have HS := Lib.hid hl2; have HT := Lib.hid hm2
  clear hl2 hm2 hn hk
  go_enter Try.func6, Try.ntmps6
  go_wp2_with fail
  refine (bawake_any _).mono ?_
  rintro e w1 ⟨rfl, g1⟩
  go_wp2_with fail
  refine (blarge_any A c l hl1 HS.out _ (hA.kept g1)).mono ?_
  rintro e w2 ⟨X, rfl, hX, g2⟩
  have g12 := kept_trans g1 g2
  cases X with
  | true =>
    go_wp2_with fail
    go_ret
    exact ⟨rfl, g12⟩
  | false =>
    have fewl := hX rfl
    have h40 := fewl.1
    have FL := Lib.hid fewl
    clear hX g1 g2 fewl
    go_wp2_with fail
    refine (blarge_any B d m hm1 HT.out _ (hB.kept g12)).mono ?_
    rintro e w3 ⟨Y, rfl, hY, g3⟩
    have g13 := kept_trans g12 g3
    cases Y with
    | true =>
      go_wp2_with fail
      go_ret
      exact ⟨rfl, g13⟩
    | false =>
      have fewm := hY rfl
      have m40 := fewm.1
      have FM := Lib.hid fewm
      clear hY g3 fewm hl1 hm1
      have A3 := Lib.hid (hA.kept g13); have B3 := Lib.hid (hB.kept g13)
      have hea := encode_any n A c l n1 n2 (by unfold maxLen; omega) HS.out w3 A3.out
      have heb := fun W (h : Ops W B m) => encode_any k B d m k1 k2 (by unfold maxLen; omega) HT.out W h
      cases hok : Bt.ok n.toNat l with
      | false =>
        have HEA := Lib.hid (encode_not n A c l n1 n2 FL.out hok w3 A3.out)
        have HEB := Lib.hid heb
        clear hea heb hok
        go_wp2_with fail
        refine HEA.out.mono ?_
        rintro e w4 ⟨E, rfl, hE, g4⟩
        go_wp2_with fail
        refine (HEB.out _ (B3.out.kept g4)).mono ?_
        rintro e w5 ⟨rfl, g5⟩
        go_wp2_with fail
        go_ret
        exact ⟨rfl, kept_trans g13 (kept_trans g4 g5)⟩
      | true =>
        have HEA := Lib.hid (encode_ok n A c l n1 n2 hok w3 A3.out)
        cases hok2 : Bt.ok k.toNat m with
        | false =>
          have HEB := Lib.hid (fun W (h : Ops W B m) => encode_not k B d m k1 k2 FM.out hok2 W h)
          clear hea heb hok hok2
          go_wp2_with fail
          refine HEA.out.mono ?_
          rintro e w4 ⟨rfl, g4⟩
          go_wp2_with fail
          refine (HEB.out _ (B3.out.kept g4)).mono ?_
          rintro e w5 ⟨E, rfl, hE, g5⟩
          go_wp2_with fail
          go_ret
          exact ⟨rfl, kept_trans g13 (kept_trans g4 g5)⟩
        | true =>
          have HEB := Lib.hid (fun W (h : Ops W B m) => encode_ok k B d m k1 k2 hok2 W h)
          have hap := Bt.apart hok hok2
          have la := Bt.enc_len hok
          have lb := Bt.enc_len hok2
          have pa := Bt.enc_pos n.toNat l
          have pb := Bt.enc_pos k.toNat m
          have hsm := Lib.hid (fun W (h1 : Ops W A l) (h2 : Ops W B m) => same_quiet A B c d l m (by unfold maxLen; omega) (by unfold maxLen; omega) W h1 h2)
          generalize Bt.enc n.toNat l = Ea at *
          generalize Bt.enc k.toNat m = Eb at *
          have za := fbs_size Ea
          have zb := fbs_size Eb
          have za1 : 1 ≤ (bs Ea).size := by omega
          have zb1 : 1 ≤ (bs Eb).size := by omega
          have za2 : (bs Ea).size ≤ 3268 := by omega
          have zb2 : (bs Eb).size ≤ 3268 := by omega
          have HAP := Lib.hid hap
          clear hea heb hok hok2 hap la lb pa pb za zb
          have hM : min ((bs Ea).size : Int) ((bs Eb).size : Int) = ((min Ea.length Eb.length : Nat) : Int) := by rw [fbs_size, fbs_size]; omega
          have m1 : 1 ≤ min Ea.length Eb.length := by rw [fbs_size] at za1 zb1; omega
          have m2 : min Ea.length Eb.length ≤ (bs Ea).size := by rw [fbs_size]; omega
          have m3 : min Ea.length Eb.length ≤ (bs Eb).size := by rw [fbs_size]; omega
          have hX : (((bs Ea).extract 0 (min Ea.length Eb.length)).toList == ((bs Eb).extract 0 (min Ea.length Eb.length)).toList) = decide (n.toNat = k.toNat ∧ l = m) := by
            rw [extract_take, extract_take, bs_eq]
            exact decide_eq_decide.2 HAP.out
          generalize min Ea.length Eb.length = M at *
          have d0 : decide ((0 : Int) < (M : Int)) = true := by simp; omega
          have d3 : 0 < M := by omega
          have HM := Lib.hid hM
          clear HAP hM
          by_cases hnk : n = k
          · subst hnk
            have dn : (n == n) = true := by simp
            by_cases hlm : l = m
            · have hX1 : decide (n.toNat = n.toNat ∧ l = m) = true := decide_eq_true ⟨rfl, hlm⟩
              rw [hX1] at hX
              have hD : decide (l = m) = true := decide_eq_true hlm
              have HD := Lib.hid hD
              have hsm2 := hsm.out
              rw [HD.out] at hsm2
              have hsm := Lib.hid hsm2
              clear hX1 hD hlm hsm2
              go_wp2_with fail
              refine HEA.out.mono ?_
              rintro e w4 ⟨rfl, g4⟩
              go_wp2_with fail
              refine (HEB.out _ (B3.out.kept g4)).mono ?_
              rintro e w5 ⟨rfl, g5⟩
              have g35 := kept_trans g4 g5
              have HSM := Lib.hid (fun q => hsm.out (w5.drewN q) (A3.out.kept (kept_trans g35 (kept_drewN _ _))) (B3.out.kept (kept_trans g35 (kept_drewN _ _))))
              go_wp2_with fail
              rw [HM.out]
              go_quiet ((go_at_call 19; exact Calls.quiet_of (HSM.out _)))
              all_goals
                go_wp2_with fail
                go_ret
                exact ⟨rfl, kept_trans g13 (kept_trans g35 (kept_drewN _ _))⟩
            · have hX1 : decide (n.toNat = n.toNat ∧ l = m) = false := decide_eq_false (fun h => hlm h.2)
              rw [hX1] at hX
              have hD : decide (l = m) = false := decide_eq_false hlm
              have HD := Lib.hid hD
              have hsm2 := hsm.out
              rw [HD.out] at hsm2
              have hsm := Lib.hid hsm2
              clear hX1 hD hlm hsm2
              go_wp2_with fail
              refine HEA.out.mono ?_
              rintro e w4 ⟨rfl, g4⟩
              go_wp2_with fail
              refine (HEB.out _ (B3.out.kept g4)).mono ?_
              rintro e w5 ⟨rfl, g5⟩
              have g35 := kept_trans g4 g5
              have HSM := Lib.hid (fun q => hsm.out (w5.drewN q) (A3.out.kept (kept_trans g35 (kept_drewN _ _))) (B3.out.kept (kept_trans g35 (kept_drewN _ _))))
              go_wp2_with fail
              rw [HM.out]
              go_quiet ((go_at_call 19; exact Calls.quiet_of (HSM.out _)))
              all_goals
                go_wp2_with fail
                go_ret
                exact ⟨rfl, kept_trans g13 (kept_trans g35 (kept_drewN _ _))⟩
          · have dn : (n == k) = false := by simpa using hnk
            have hX1 : decide (n.toNat = k.toNat ∧ l = m) = false := decide_eq_false (fun h => hnk (by omega))
            rw [hX1] at hX
            clear hX1
            go_wp2_with fail
            refine HEA.out.mono ?_
            rintro e w4 ⟨rfl, g4⟩
            go_wp2_with fail
            refine (HEB.out _ (B3.out.kept g4)).mono ?_
            rintro e w5 ⟨rfl, g5⟩
            have g35 := kept_trans g4 g5
            have HSM := Lib.hid (fun q => hsm.out (w5.drewN q) (A3.out.kept (kept_trans g35 (kept_drewN _ _))) (B3.out.kept (kept_trans g35 (kept_drewN _ _))))
            go_wp2_with fail
            rw [HM.out]
            go_quiet (fail)
            all_goals
              go_wp2_with fail
              go_ret
              exact ⟨rfl, kept_trans g13 (kept_trans g35 (kept_drewN _ _))⟩
end Go.Proofs.Ytalcmiaohclnjaa
