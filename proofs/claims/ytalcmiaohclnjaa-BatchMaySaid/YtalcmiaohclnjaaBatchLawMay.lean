/-
  BatchNumbers and BatchMay of the statements of layer 5 return true, whatever the input.
-/
import Derived.Test.YtalcmiaohclnjaaBatchLawBack
import Derived.BigQuiet
namespace Go.Proofs.Ytalcmiaohclnjaa
open Go.ChangeShapes Go.WideShapes Go.ChangeAt Go.RowKit
set_option linter.unusedVariables false
set_option maxHeartbeats 1000000

def allK (l : List Bt.Op) (k : Nat) : Bool := decide (1 ≤ l.length) && decide (l.length ≤ 16) && (l.take k).all Bt.may1
theorem allK_end (l : List Bt.Op) : allK l l.length = Bt.may l := by unfold allK Bt.may Bt.mayAll; rw [List.take_length]
theorem allK_step {l : List Bt.Op} {k : Nat} {x : Bt.Op} (hx : l[k]? = some x) : allK l (k + 1) = (allK l k && Bt.may1 x) := by
  unfold allK; rw [ballsnoc hx]; simp [Bool.and_assoc]
theorem Ops.one {w : World} {b o k : Nat} {l : List Bt.Op} {x : Bt.Op} (h : Ops w (some ⟨b, o, none⟩) l) (hx : l[k]? = some x) : Ops w (some ⟨b, o + k * 3, none⟩) [x] := fun j y hy => by
  obtain ⟨b', o', e, hb, h0, h1, h2⟩ := h k x hx
  cases e
  match j, hy with
  | 0, hy => simp at hy; subst hy; exact ⟨b, o + k * 3, rfl, hb, h0, h1, h2⟩
set_option maxHeartbeats 4000000 in
set_option maxRecDepth 100000 in
theorem BatchMay_walk {w : World} (A : Option Addr) (c : Nat) (l : List Bt.Op) (hA : Ops w A l) (hl : l.length ≤ maxLen ∧ Sane l ∧ l.length ≤ c ∧ c ≤ maxLen ∧ (A = none → c = 0)) :
    Calls Try.prog 9 #[.slice A l.length c] w fun e w' => e = .returned (.bool true) ∧ Kept w w' := by
  obtain ⟨hl1, hl2, hc1, hc2, _⟩ := hl
  have HS := Lib.hid hl2
  clear hl2
  go_enter Try.func9, Try.ntmps9
  go_wp2_with fail
  refine (bawake_any _).mono ?_
  rintro e w1 ⟨rfl, g1⟩
  go_wp2_with fail
  refine (blarge_any A c l hl1 HS.out _ (hA.kept g1)).mono ?_
  rintro e w2 ⟨B, rfl, hB, g2⟩
  have g12 := kept_trans g1 g2
  have A2 := Lib.hid (hA.kept g12)
  cases B with
  | true =>
    go_wp2_with fail
    go_ret
    exact ⟨rfl, g12⟩
  | false =>
    have hfew := hB rfl
    have h40 := hfew.1
    have FEW := Lib.hid hfew
    unfold maxLen at hc2
    clear hB hl1 g1 g2 hfew
    by_cases hpos : 0 < l.length
    · by_cases h16 : l.length ≤ 16
      · have d1 : decide ((l.length : Int) ≤ 16) = true := by simp; omega
        have h00 : allK l 0 = true := by unfold allK; rw [List.take_zero, List.all_nil, Bool.and_true, decide_eq_true (by omega : 1 ≤ l.length), Bool.true_and]; exact decide_eq_true (by omega)
        have H00 := Lib.hid h00
        clear h00
        go_wp2_with fail
        go_loopw [3, 21] (fun z t wr => ∃ k : Nat, k ≤ l.length ∧ t = .int .i64 k ∧ z = .bool (allK l k) ∧ Kept w wr ∧ Ops wr A l) (fun _ t _ => l.length - (intOf t).toNat)
        case atStart => exact ⟨0, Nat.zero_le _, rfl, by rw [H00.out], g12, A2.out⟩
        case round =>
          obtain ⟨k, hk, rfl, rfl, hkr, hops⟩ := hrel
          by_cases hlt : k < l.length
          · obtain ⟨x, hx⟩ : ∃ x, l[k]? = some x := ⟨_, List.getElem?_eq_getElem hlt⟩
            obtain ⟨b, o, rfl, hb, c0, c1, c2⟩ := hops k x hx
            have hst := allK_step hx
            have hsx := HS.out x (List.mem_of_getElem? hx)
            have hcm := may_any (some ⟨b, o + k * 3, none⟩) (c - k) [x] (by unfold maxLen; simp) (fun y hy => by simp at hy; rw [hy]; exact hsx) wr (hops.one hx)
            rw [Bt.may_single] at hcm
            have HST := Lib.hid hst; have HCM := Lib.hid hcm; have HOPS := Lib.hid hops
            clear hst hcm hx hsx hops c0 c1 c2
            cases hz : allK l k with
            | false =>
              have hst2 : allK l (k + 1) = false := by rw [HST.out, hz]; rfl
              have HST2 := Lib.hid hst2
              clear hz hst2
              go_wp2_with fail
              go_roundw
              case rel => exact ⟨k + 1, by omega, by go_num, by rw [HST2.out], hkr, HOPS.out⟩
              case measure => simp [intOf]; omega
            | true =>
              have hst2 : allK l (k + 1) = Bt.may1 x := by rw [HST.out, hz]; rfl
              have HST2 := Lib.hid hst2
              clear hz hst2
              go_wp2_with fail
              refine HCM.out.mono ?_
              rintro e w3 ⟨rfl, g3⟩
              go_wp2_with fail
              go_roundw
              case rel => exact ⟨k + 1, by omega, by go_num, by rw [HST2.out], kept_trans hkr g3, HOPS.out.kept g3⟩
              case measure => simp [intOf]; omega
          · have e : k = l.length := by omega
            subst e
            rw [allK_end]
            have hmy := Lib.hid (fun W (h : Ops W A l) => may_any A c l (by unfold maxLen; omega) HS.out W h)
            have HOPS := Lib.hid hops
            clear hops
            cases hm : Bt.may l with
            | false =>
              have hno : Bt.ok (1 : Int).toNat l = false := by unfold Bt.ok; rw [hm]; rfl
              have hen := Lib.hid (encode_not 1 A c l (by omega) (by omega) FEW.out hno _ HOPS.out)
              have HM := Lib.hid hm
              clear hno hm
              go_wp2_with fail
              refine hen.out.mono ?_
              rintro e w3 ⟨E, rfl, hE0, g3⟩
              go_wp2_with fail
              refine (hmy.out _ (HOPS.out.kept g3)).mono ?_
              rintro e w4 ⟨rfl, g4⟩
              rw [HM.out]
              go_wp2_with fail
              go_ret
              exact ⟨rfl, kept_trans hkr (kept_trans g3 g4)⟩
            | true =>
              have hok : Bt.ok (1 : Int).toNat l = true := Bt.ok_iff.2 ⟨hm, Bt.nums_iff.2 ⟨by decide, by have := (Bt.may_iff.1 hm).2.1; simp; omega⟩⟩
              have hen := Lib.hid (encode_ok 1 A c l (by omega) (by omega) hok _ HOPS.out)
              have HM := Lib.hid hm
              clear hok hm
              go_wp2_with fail
              refine hen.out.mono ?_
              rintro e w3 ⟨rfl, g3⟩
              go_wp2_with fail
              refine (hmy.out _ (HOPS.out.kept g3)).mono ?_
              rintro e w4 ⟨rfl, g4⟩
              rw [HM.out]
              go_wp2_with fail
              go_ret
              exact ⟨rfl, kept_trans hkr (kept_trans g3 g4)⟩
      · have d1 : decide ((l.length : Int) ≤ 16) = false := by simp; omega
        have h00 : allK l 0 = false := by unfold allK; rw [List.take_zero, List.all_nil, Bool.and_true, decide_eq_true (by omega : 1 ≤ l.length), Bool.true_and]; exact decide_eq_false (by omega)
        have H00 := Lib.hid h00
        clear h00
        go_wp2_with fail
        go_loopw [3, 21] (fun z t wr => ∃ k : Nat, k ≤ l.length ∧ t = .int .i64 k ∧ z = .bool (allK l k) ∧ Kept w wr ∧ Ops wr A l) (fun _ t _ => l.length - (intOf t).toNat)
        case atStart => exact ⟨0, Nat.zero_le _, rfl, by rw [H00.out], g12, A2.out⟩
        case round =>
          obtain ⟨k, hk, rfl, rfl, hkr, hops⟩ := hrel
          by_cases hlt : k < l.length
          · obtain ⟨x, hx⟩ : ∃ x, l[k]? = some x := ⟨_, List.getElem?_eq_getElem hlt⟩
            obtain ⟨b, o, rfl, hb, c0, c1, c2⟩ := hops k x hx
            have hst := allK_step hx
            have hsx := HS.out x (List.mem_of_getElem? hx)
            have hcm := may_any (some ⟨b, o + k * 3, none⟩) (c - k) [x] (by unfold maxLen; simp) (fun y hy => by simp at hy; rw [hy]; exact hsx) wr (hops.one hx)
            rw [Bt.may_single] at hcm
            have HST := Lib.hid hst; have HCM := Lib.hid hcm; have HOPS := Lib.hid hops
            clear hst hcm hx hsx hops c0 c1 c2
            cases hz : allK l k with
            | false =>
              have hst2 : allK l (k + 1) = false := by rw [HST.out, hz]; rfl
              have HST2 := Lib.hid hst2
              clear hz hst2
              go_wp2_with fail
              go_roundw
              case rel => exact ⟨k + 1, by omega, by go_num, by rw [HST2.out], hkr, HOPS.out⟩
              case measure => simp [intOf]; omega
            | true =>
              have hst2 : allK l (k + 1) = Bt.may1 x := by rw [HST.out, hz]; rfl
              have HST2 := Lib.hid hst2
              clear hz hst2
              go_wp2_with fail
              refine HCM.out.mono ?_
              rintro e w3 ⟨rfl, g3⟩
              go_wp2_with fail
              go_roundw
              case rel => exact ⟨k + 1, by omega, by go_num, by rw [HST2.out], kept_trans hkr g3, HOPS.out.kept g3⟩
              case measure => simp [intOf]; omega
          · have e : k = l.length := by omega
            subst e
            rw [allK_end]
            have hmy := Lib.hid (fun W (h : Ops W A l) => may_any A c l (by unfold maxLen; omega) HS.out W h)
            have HOPS := Lib.hid hops
            clear hops
            cases hm : Bt.may l with
            | false =>
              have hno : Bt.ok (1 : Int).toNat l = false := by unfold Bt.ok; rw [hm]; rfl
              have hen := Lib.hid (encode_not 1 A c l (by omega) (by omega) FEW.out hno _ HOPS.out)
              have HM := Lib.hid hm
              clear hno hm
              go_wp2_with fail
              refine hen.out.mono ?_
              rintro e w3 ⟨E, rfl, hE0, g3⟩
              go_wp2_with fail
              refine (hmy.out _ (HOPS.out.kept g3)).mono ?_
              rintro e w4 ⟨rfl, g4⟩
              rw [HM.out]
              go_wp2_with fail
              go_ret
              exact ⟨rfl, kept_trans hkr (kept_trans g3 g4)⟩
            | true =>
              have hok : Bt.ok (1 : Int).toNat l = true := Bt.ok_iff.2 ⟨hm, Bt.nums_iff.2 ⟨by decide, by have := (Bt.may_iff.1 hm).2.1; simp; omega⟩⟩
              have hen := Lib.hid (encode_ok 1 A c l (by omega) (by omega) hok _ HOPS.out)
              have HM := Lib.hid hm
              clear hok hm
              go_wp2_with fail
              refine hen.out.mono ?_
              rintro e w3 ⟨rfl, g3⟩
              go_wp2_with fail
              refine (hmy.out _ (HOPS.out.kept g3)).mono ?_
              rintro e w4 ⟨rfl, g4⟩
              rw [HM.out]
              go_wp2_with fail
              go_ret
              exact ⟨rfl, kept_trans hkr (kept_trans g3 g4)⟩
    · obtain rfl : l = [] := List.eq_nil_of_length_eq_zero (by omega)
      have hno : Bt.ok (1 : Int).toNat [] = false := rfl
      have hen := Lib.hid (fun W (h : Ops W A []) => encode_not 1 A c [] (by omega) (by omega) FEW.out hno W h)
      have hmy := Lib.hid (fun W (h : Ops W A []) => may_any A c [] (by unfold maxLen; simp) HS.out W h)
      have hm : Bt.may [] = false := rfl
      clear hno
      simp only [List.length_nil]
      go_wp2_with fail
      go_loopw [3, 21] (fun z t wr => z = .bool false ∧ t = .int .i64 0 ∧ wr = w2) (fun _ _ _ => 0)
      case atStart => exact ⟨rfl, rfl, rfl⟩
      case round =>
        obtain ⟨rfl, rfl, rfl⟩ := hrel
        go_wp2_with fail
        refine (hen.out _ A2.out).mono ?_
        rintro e w3 ⟨E, rfl, hE0, g3⟩
        go_wp2_with fail
        refine (hmy.out _ (A2.out.kept g3)).mono ?_
        rintro e w4 ⟨rfl, g4⟩
        rw [hm]
        go_wp2_with fail
        go_ret
        exact ⟨rfl, kept_trans g12 (kept_trans g3 g4)⟩
theorem md_small {N k : Nat} {l : List Bt.Op} (hok : Bt.ok N l = true) (hk : k < l.length) : 1 ≤ md (N + k) ∧ md (N + k) ≤ 1099511627776 := by
  obtain ⟨h1, h2⟩ := Bt.nums_iff.1 (Bt.ok_iff.1 hok).2
  unfold md; omega
set_option maxHeartbeats 4000000 in
set_option maxRecDepth 100000 in
theorem BatchNumbers_walk {w : World} (n : Int) (A : Option Addr) (c : Nat) (l : List Bt.Op) (hn : (Lit.int .u64 n).wf = true) (hA : Ops w A l) (hl : l.length ≤ maxLen ∧ Sane l ∧ l.length ≤ c ∧ c ≤ maxLen ∧ (A = none → c = 0)) :
    Calls Try.prog 7 #[.int .u64 n, .slice A l.length c] w fun e w' => e = .returned (.bool true) ∧ Kept w w' := by
  obtain ⟨hl1, hl2, _⟩ := hl
  obtain ⟨h1, h2⟩ := bounds_u64 hn
  have HS := Lib.hid hl2
  clear hl2 hn
  go_enter Try.func7, Try.ntmps7
  go_wp2_with fail
  refine (bawake_any _).mono ?_
  rintro e w1 ⟨rfl, g1⟩
  go_wp2_with fail
  refine (blarge_any A c l hl1 HS.out _ (hA.kept g1)).mono ?_
  rintro e w2 ⟨B, rfl, hB, g2⟩
  have g12 := kept_trans g1 g2
  have A2 := Lib.hid (hA.kept g12)
  cases B with
  | true =>
    go_wp2_with fail
    go_ret
    exact ⟨rfl, g12⟩
  | false =>
    have hfew := hB rfl
    have h40 := hfew.1
    clear hB hl1 g1 g2
    have HW := Lib.hid (md_wrap n h1)
    have hen : Calls Try.prog 12 #[.int .u64 n, .slice A l.length c] w2 fun e w' => ∃ (S : List UInt8) (E : Int), e = .returned (.tuple #[.string (bs S), .int .i64 E]) ∧ ((E == 0) = true → Bt.ok n.toNat l = true) ∧ Kept w2 w' :=
      (encode_any n A c l h1 h2 (by unfold maxLen; omega) HS.out _ A2.out).mono fun e w' h => ⟨_, _, h.1, fun he => Bt.encE_ok.1 (by simpa using he), h.2⟩
    have HEN := Lib.hid hen
    clear hen hfew
    go_wp2_with fail
    refine HEN.out.mono ?_
    rintro e w3 ⟨S, E, rfl, hE, g3⟩
    have HE := Lib.hid hE
    clear hE
    go_wp2_with fail
    refine (entries_any n A c l h1 h2 (by omega) _ (A2.out.kept g3)).mono ?_
    rintro e w4 ⟨B4, c4, rfl, ent4, g4⟩
    have g14 := kept_trans g12 (kept_trans g3 g4)
    have A4 := Lib.hid ((A2.out.kept g3).kept g4)
    have E4 := Lib.hid ent4
    clear ent4 g3 g4
    have hzz : ((l.length : Int) != (l.length : Int)) = false := by simp
    go_wp2_with fail
    go_loopw [29] (fun t wr => ∃ k : Nat, k ≤ l.length ∧ t = .int .i64 k ∧ Kept w4 wr) (fun t _ => l.length - (intOf t).toNat)
    case atStart => exact ⟨0, Nat.zero_le _, rfl, Kept.refl _⟩
    case round =>
      obtain ⟨k, hk, rfl, hkr⟩ := hrel
      by_cases hlt : k < l.length
      · obtain ⟨x, hx⟩ : ∃ x, l[k]? = some x := ⟨_, List.getElem?_eq_getElem hlt⟩
        obtain ⟨b, o, rfl, hb, c0, c1, c2⟩ := (A4.out.kept hkr) k x hx
        obtain ⟨b2, o2, rfl, hb2, q0, q1, q2, q3⟩ := (E4.out.kept hkr) k x hx
        have hwk := HW.out k
        have hmd := md_le (n.toNat + k)
        have hsm : (E == 0) = true → 1 ≤ md (n.toNat + k) ∧ md (n.toNat + k) ≤ 1099511627776 := fun he => md_small (HE.out he) hlt
        generalize md (n.toNat + k) = M at *
        have q9 : IntKind.u64.wrap (k : Int) = (k : Int) := by rw [IntKind.wrap_u64]; omega
        clear hx
        cases hE0 : (E == 0) with
        | true =>
          obtain ⟨s1, s2⟩ := hsm hE0
          have d1 : decide ((M : Int) < 1) = false := by simp; omega
          have d2 : decide ((1099511627776 : Int) < (M : Int)) = false := by simp; omega
          clear hsm
          go_wp2_with fail
          refine wp_region_quiet_lit (by kernel_rfl) (by kernel_rfl) ?_
          simp only [List.append]
          repeat (go_big_quiet_step (fail))
          refine wpQuiet_nil ?_
          intro _ hw'
          obtain ⟨nq, hw''⟩ := hw'
          subst hw''
          go_wp2_with fail
          go_roundw
          case rel => exact ⟨k + 1, by omega, by go_num, kept_trans hkr (kept_drewN _ _)⟩
          case measure => simp [intOf]; omega
        | false =>
          clear hsm
          have hE1 : E ≠ 0 := by simpa using hE0
          go_wp2_with fail
          refine wp_region_quiet_lit (by kernel_rfl) (by kernel_rfl) ?_
          simp only [List.append]
          repeat (go_big_quiet_step (fail))
          refine wpQuiet_nil ?_
          intro _ hw'
          obtain ⟨nq, hw''⟩ := hw'
          subst hw''
          go_wp2_with fail
          go_roundw
          case rel => exact ⟨k + 1, by omega, by go_num, kept_trans hkr (kept_drewN _ _)⟩
          case measure => simp [intOf]; omega
      · have e : k = l.length := by omega
        subst e
        go_wp2_with fail
        go_ret
        exact ⟨rfl, kept_trans g14 hkr⟩
end Go.Proofs.Ytalcmiaohclnjaa
