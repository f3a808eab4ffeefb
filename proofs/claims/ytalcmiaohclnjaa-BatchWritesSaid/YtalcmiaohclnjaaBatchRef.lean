/-
  What the document's own May, Text, Encode, Entries of layer 5 (package screeref05) compute: the same as the program's.
-/
import Derived.Test.YtalcmiaohclnjaaBatchAwake
import Derived.BigQuiet
import Derived.Deep.RegionHeld3
import Derived.StillTailTactics
namespace Go.Proofs.Ytalcmiaohclnjaa
open Go.ChangeShapes Go.WideShapes Go.ChangeAt Go.RowKit
set_option linter.unusedVariables false
set_option maxHeartbeats 1000000

set_option maxRecDepth 100000 in
theorem rbmay_any (A : Option Addr) (c : Nat) (l : List Bt.Op) (hl : l.length ≤ maxLen) (hs : Sane l) (w : World) (hA : Ops w A l) :
    Calls Try.prog 17 #[.slice A l.length c] w fun e w' => e = .returned (.bool (Bt.may l)) ∧ Kept w w' := by
  have HS := Lib.hid hs; clear hs
  unfold maxLen at hl
  go_enter Try.func17, Try.ntmps17
  go_wp2_with fail
  go_loopw [3] (fun t wr => ∃ k : Nat, k ≤ l.length ∧ t = .int .i64 k ∧ Hid (∀ x ∈ l.take k, Bt.may1 x = true) ∧ Kept w wr) (fun t _ => l.length - (intOf t).toNat)
  case atStart => exact ⟨0, Nat.zero_le _, rfl, Lib.hid (fun x hx => by simp at hx), Kept.refl _⟩
  case round =>
    obtain ⟨k, hk, rfl, HF, hkr⟩ := hrel
    by_cases hlt : k < l.length
    · obtain ⟨x, hx⟩ : ∃ x, l[k]? = some x := ⟨_, List.getElem?_eq_getElem hlt⟩
      have hmem : x ∈ l := List.mem_of_getElem? hx
      obtain ⟨b, o, rfl, hb, c0, c1, c2⟩ := (hA.kept hkr) k x hx
      have hz := HS.out x hmem
      unfold maxLen at hz
      have hn : Bt.may1 x = true → Hid (∀ y ∈ l.take (k + 1), Bt.may1 y = true) := fun hm y hy => by
        rw [ballsnoc hx, List.mem_append] at hy
        rcases hy with hy | hy
        · exact HF.out y hy
        · simp at hy; rw [hy]; exact hm
      have hf : Bt.may1 x = false → Bt.may l = false := fun hm => may_one hmem hm
      obtain ⟨d, ky, vl⟩ := x
      simp only at c0 c1 c2 hz
      have e1 := fbs_size ky
      have e2 := fbs_size vl
      have z1 : (bs ky).size ≤ 9223372036854775807 := by omega
      have z2 : (bs vl).size ≤ 9223372036854775807 := by omega
      have HN := Lib.hid hn; have HX := Lib.hid hf
      clear hn hf hx hmem HF
      by_cases h1 : ky.length < 1
      · have d1 : decide (((bs ky).size : Int) < 1) = true := by rw [e1]; simp; omega
        have HR := Lib.hid (HX.out (may1_no (.inl h1)))
        clear e1 e2
        go_wp2_with fail
        go_ret
        exact ⟨by rw [HR.out]; rfl, kept_trans hkr ((Kept.refl _).alloc _)⟩
      · have d1 : decide (((bs ky).size : Int) < 1) = false := by rw [e1]; simp; omega
        by_cases h2 : 100 < ky.length
        · have d2 : decide ((100 : Int) < ((bs ky).size : Int)) = true := by rw [e1]; simp; omega
          have HR := Lib.hid (HX.out (may1_no (.inr (.inl h2))))
          clear e1 e2
          go_wp2_with fail
          go_ret
          exact ⟨by rw [HR.out]; rfl, kept_trans hkr ((Kept.refl _).alloc _)⟩
        · have d2 : decide ((100 : Int) < ((bs ky).size : Int)) = false := by rw [e1]; simp; omega
          by_cases h3 : 100 < vl.length
          · have d3 : decide ((100 : Int) < ((bs vl).size : Int)) = true := by rw [e2]; simp; omega
            have HR := Lib.hid (HX.out (may1_no (.inr (.inr (.inl h3)))))
            clear e1 e2
            go_wp2_with fail
            go_ret
            exact ⟨by rw [HR.out]; rfl, kept_trans hkr ((Kept.refl _).alloc _)⟩
          · have d3 : decide ((100 : Int) < ((bs vl).size : Int)) = false := by rw [e2]; simp; omega
            cases d with
            | false =>
              have HM := HN.out (Bt.may1_iff.2 ⟨by simp only; omega, by simp only; omega, by simp only; omega, fun h => by cases h⟩)
              clear e1 e2 HN HX
              go_wp2_with fail
              go_roundw
              case rel => exact ⟨k + 1, by omega, by go_num, HM, kept_trans hkr ((Kept.refl _).alloc _)⟩
              case measure => simp [intOf]; omega
            | true =>
              by_cases h4 : 0 < vl.length
              · have d4 : decide ((0 : Int) < ((bs vl).size : Int)) = true := by rw [e2]; simp; omega
                have d5 : 0 < (bs vl).size := by omega
                have HR := Lib.hid (HX.out (may1_no (.inr (.inr (.inr ⟨rfl, fun e => by rw [e] at h4; simp at h4⟩)))))
                clear e1 e2
                go_wp2_with fail
                go_ret
                exact ⟨by rw [HR.out]; rfl, kept_trans hkr ((Kept.refl _).alloc _)⟩
              · have hv0 : vl = [] := List.eq_nil_of_length_eq_zero (by omega)
                have HM := HN.out (Bt.may1_iff.2 ⟨by simp only; omega, by simp only; omega, by simp only; omega, fun h => hv0⟩)
                have e5 : (bs vl).size = 0 := by omega
                clear e1 e2 HN HX hv0
                go_wp2_with fail
                go_roundw
                case rel => exact ⟨k + 1, by omega, by go_num, HM, kept_trans hkr ((Kept.refl _).alloc _)⟩
                case measure => simp [intOf]; omega
    · have e : k = l.length := by omega
      subst e
      have hr : Bt.may l = (decide (1 ≤ l.length) && decide (l.length ≤ 16)) := by
        unfold Bt.may
        rw [Bt.mayAll_iff.2 (fun x hx => HF.out x (by rw [List.take_length]; exact hx)), Bool.and_true]
      have HR := Lib.hid hr
      clear hr HF
      by_cases h1 : 1 ≤ l.length
      · have d1 : decide ((1 : Int) ≤ (l.length : Int)) = true := by simp; omega
        have HR2 : Bt.may l = decide (l.length ≤ 16) := by rw [HR.out, decide_eq_true h1, Bool.true_and]
        have HR3 : Bt.may l = decide ((l.length : Int) ≤ 16) := by rw [HR2]; exact decide_eq_decide.2 (by omega)
        have HR4 := Lib.hid HR3
        clear HR2 HR3
        go_wp2_with fail
        go_ret
        exact ⟨by rw [HR4.out]; rfl, hkr⟩
      · have d1 : decide ((1 : Int) ≤ (l.length : Int)) = false := by simp; omega
        have HR2 : Bt.may l = false := by rw [HR.out, decide_eq_false h1, Bool.false_and]
        have HR4 := Lib.hid HR2
        clear HR2
        go_wp2_with fail
        go_ret
        exact ⟨by rw [HR4.out]; rfl, hkr⟩
theorem rtext_any (t : List UInt8) (ht : t.length ≤ 100) (w : World) :
    Calls Try.prog 28 #[.string (bs t)] w fun e w' => e = .returned (.string (bs (Bt.sized t))) ∧ Kept w w' := by
  have hz := fbs_size t
  have hsh := rshort_any ((bs t).size : Int) (by omega) (by omega)
  have e1 : bs (Nm.short t.length) ++ bs t = bs (Bt.sized t) := fbs_app _ _
  have z1 : (bs (Nm.short t.length)).size = 1 := by rw [fbs_size, Nm.short_len _ (by omega), Nm.sz_small _ (by omega)]
  rw [Int.toNat_natCast, hz] at hsh
  have hz2 : (bs t).size ≤ 100 := by omega
  have HZ := Lib.hid hz; have HE := Lib.hid e1
  clear hz e1
  go_enter Try.func28, Try.ntmps28
  go_wp2_with fail
  rw [HZ.out]
  refine (hsh _).mono ?_
  rintro e w1 ⟨rfl, g1⟩
  go_wp2_with fail
  go_ret
  exact ⟨by rw [← HE.out]; rfl, g1⟩
/-- what stays while an operation's bytes are put together -/
structure RefI (w : World) (b i : Nat) (ky vl : List UInt8) (W : World) : Prop where
  kp : Kept w W
  c1 : W.cell? ⟨b, i + 1, none⟩ = some (.string (bs ky))
  c2 : W.cell? ⟨b, i + 2, none⟩ = some (.string (bs vl))
theorem RefI.kept {w : World} {b i : Nat} {ky vl : List UInt8} {W W' : World} (h : RefI w b i ky vl W) (k : Kept W W') : RefI w b i ky vl W' :=
  ⟨kept_trans h.kp k, bkc1 _ _ k h.c1, bkc1 _ _ k h.c2⟩
theorem rtext_inv {w : World} {b i : Nat} {ky vl t : List UInt8} (ht : t.length ≤ 100) (W : World) (hi : RefI w b i ky vl W) :
    Calls Try.prog 28 #[.string (bs t)] W fun e w' => e = .returned (.string (bs (Bt.sized t))) ∧ RefI w b i ky vl w' :=
  (rtext_any t ht W).mono fun e w' ⟨h1, h2⟩ => ⟨h1, hi.kept h2⟩
theorem rencode_ok (n : Int) (A : Option Addr) (c : Nat) (l : List Bt.Op) (h1 : 0 ≤ n) (h2 : n ≤ 18446744073709551615) (hok : Bt.ok n.toNat l = true) (w : World) (hA : Ops w A l) :
    Calls Try.prog 13 #[.int .u64 n, .slice A l.length c] w fun e w' => e = .returned (.tuple #[.string (bs (Bt.enc n.toNat l)), .int .i64 0]) ∧ Kept w w' := by
  obtain ⟨hm, hn⟩ := Bt.ok_iff.1 hok
  obtain ⟨_, h16, hall⟩ := Bt.may_iff.1 hm
  obtain ⟨n1, n3⟩ := Bt.nums_iff.1 hn
  have hsane : Sane l := fun x hx => by
    obtain ⟨_, q1, q2, _⟩ := Bt.may1_iff.1 (hall x hx)
    unfold maxLen; omega
  have hcm := rbmay_any A c l (by unfold maxLen; omega) hsane w hA
  rw [hm] at hcm
  have hs1 := rshort_any n h1 h2
  have hs2 := rshort_any (l.length : Int) (by omega) (by omega)
  rw [Int.toNat_natCast] at hs2
  have hlen := encK_len hok
  have hz0 : (bs (Nm.short n.toNat)).size ≤ 10 := by rw [fbs_size, Nm.short_len _ (by omega)]; exact (Nm.sz_le _ (by omega)).2
  have hz1 : (bs (Nm.short l.length)).size = 1 := by rw [fbs_size, Nm.short_len _ (by omega), Nm.sz_small _ (by omega)]
  have hk0 : bs (Nm.short n.toNat) ++ bs (Nm.short l.length) = bs (encK n.toNat l 0) := by rw [fbs_app]; simp [encK, Bt.encL]
  have d1 : decide (n < 1) = false := by simp; omega
  have d2 : n ≤ 1099511627777 - (l.length : Int) := by omega
  have HALL := Lib.hid hall; have HLEN := Lib.hid hlen; have HK0 := Lib.hid hk0; have HCM := Lib.hid hcm
  have HSTEP := Lib.hid (fun k x (hx : l[k]? = some x) => encK_step (n := n.toNat) hx)
  clear hok hm hn hall hsane hlen hk0 hcm
  generalize n.toNat = N at *
  go_enter Try.func13, Try.ntmps13
  go_wp2_with fail
  refine HCM.out.mono ?_
  rintro e w1 ⟨rfl, g1⟩
  go_wp2_with fail
  refine (hs1 _).mono ?_
  rintro e w2 ⟨rfl, g2⟩
  go_wp2_with fail
  refine (hs2 _).mono ?_
  rintro e w3 ⟨rfl, g3⟩
  have g13 := kept_trans g1 (kept_trans g2 g3)
  clear g1 g2 g3
  go_wp2_with fail
  rw [HK0.out]
  go_loopw [6, 7] (fun z t wr => ∃ k : Nat, k ≤ l.length ∧ t = .int .i64 k ∧ z = .string (bs (encK N l k)) ∧ Kept w wr) (fun _ t _ => l.length - (intOf t).toNat)
  case atStart => exact ⟨0, Nat.zero_le _, rfl, rfl, g13⟩
  case round =>
    obtain ⟨k, hk, rfl, rfl, hkr⟩ := hrel
    by_cases hlt : k < l.length
    · obtain ⟨x, hx⟩ : ∃ x, l[k]? = some x := ⟨_, List.getElem?_eq_getElem hlt⟩
      have hmem : x ∈ l := List.mem_of_getElem? hx
      obtain ⟨b, o, rfl, hb, c0, c1, c2⟩ := (hA.kept hkr) k x hx
      obtain ⟨m1, m2, m3, m4⟩ := Bt.may1_iff.1 (HALL.out x hmem)
      have hst := HSTEP.out k x hx
      have hl1 := HLEN.out k
      rw [← fbs_size] at hl1
      obtain ⟨d, ky, vl⟩ := x
      simp only at c0 c1 c2 m1 m2 m3 m4
      have zk : (bs (Bt.sized ky)).size ≤ 101 := by rw [fbs_size]; exact (Bt.sized_len m2).2
      have zv : (bs (Bt.sized vl)).size ≤ 101 := by rw [fbs_size]; exact (Bt.sized_len m3).2
      have HST := Lib.hid hst
      clear hst hx hmem m4
      generalize encK N l k = E at *
      cases d with
      | true =>
        have hsk := rtext_any ky m2
        have z3 : ((⟨#[1]⟩ : ByteArray) ++ bs (Bt.sized ky)).size ≤ 102 := by rw [ByteArray.size_append]; have : (⟨#[1]⟩ : ByteArray).size = 1 := rfl; omega
        have he : bs E ++ ((⟨#[1]⟩ : ByteArray) ++ bs (Bt.sized ky)) = bs (E ++ Bt.enc1 ⟨true, ky, vl⟩) := bs_of (by simp [Bt.enc1, bs, ByteArray.data_append])
        have HE := Lib.hid he; clear he
        go_wp2_with fail
        refine (hsk _).mono ?_
        rintro e w6 ⟨rfl, g6⟩
        go_wp2_with fail
        go_roundw
        case rel => exact ⟨k + 1, by omega, by go_num, by rw [HST.out, HE.out], kept_trans hkr g6⟩
        case measure => simp [intOf]; omega
      | false =>
        have z3 : ((⟨#[0]⟩ : ByteArray) ++ bs (Bt.sized ky)).size ≤ 102 := by rw [ByteArray.size_append]; have : (⟨#[0]⟩ : ByteArray).size = 1 := rfl; omega
        have z4 : ((⟨#[0]⟩ : ByteArray) ++ bs (Bt.sized ky) ++ bs (Bt.sized vl)).size ≤ 203 := by rw [ByteArray.size_append]; omega
        have he : bs E ++ ((⟨#[0]⟩ : ByteArray) ++ bs (Bt.sized ky) ++ bs (Bt.sized vl)) = bs (E ++ Bt.enc1 ⟨false, ky, vl⟩) := bs_of (by simp [Bt.enc1, bs, ByteArray.data_append])
        have HE := Lib.hid he; clear he
        have i0 : RefI w b (o + k * 3) ky vl wr.drew := ⟨kept_trans hkr (kept_of_drew (Kept.refl wr.drew)), c1, c2⟩
        have HSK := Lib.hid (fun W hi => rtext_inv (w := w) (b := b) (i := o + k * 3) (ky := ky) (vl := vl) m2 W hi)
        have HSV := Lib.hid (fun W hi => rtext_inv (w := w) (b := b) (i := o + k * 3) (ky := ky) (vl := vl) m3 W hi)
        have I0 := Lib.hid i0
        have hr1 : ∀ W, (Op.stringOp .add ⟨#[0]⟩ (bs (Bt.sized ky))).run Try.prog W = .ok (.string (⟨#[0]⟩ ++ bs (Bt.sized ky))) W := fun W => run_string_add_sum W _ _ (by have : (⟨#[0]⟩ : ByteArray).size = 1 := rfl; omega)
        have hr2 : ∀ W, (Op.stringOp .add (⟨#[0]⟩ ++ bs (Bt.sized ky)) (bs (Bt.sized vl))).run Try.prog W = .ok (.string (⟨#[0]⟩ ++ bs (Bt.sized ky) ++ bs (Bt.sized vl))) W := fun W => run_string_add_sum W _ _ (by omega)
        have hr3 : ∀ W, (Op.stringOp .add (bs E) (⟨#[0]⟩ ++ bs (Bt.sized ky) ++ bs (Bt.sized vl))).run Try.prog W = .ok (.string (bs E ++ (⟨#[0]⟩ ++ bs (Bt.sized ky) ++ bs (Bt.sized vl)))) W := fun W => run_string_add_sum W _ _ (by omega)
        clear i0
        go_wp2_with fail
        go_region_held3 (fun w' => w'.cell? ⟨b, o + k * 3 + 1, none⟩ = some (.string (bs ky)) ∧ w'.cell? ⟨b, o + k * 3 + 2, none⟩ = some (.string (bs vl))) (first | exact ⟨RefI.c1 (by assumption), RefI.c2 (by assumption)⟩ | exact ⟨I0.out.c1, I0.out.c2⟩)
          (first
          | (go_at_call_of 28 (Value.string (bs ky)); refine (HSK.out _ (by first | assumption | exact I0.out)).mono ?_; rintro e w6 ⟨rfl, i6⟩)
          | (go_at_call_of 28 (Value.string (bs vl)); refine (HSV.out _ (by first | assumption | exact I0.out)).mono ?_; rintro e w6 ⟨rfl, i6⟩))
        all_goals
          have hb7 := i6.kp
          clear i6 HSK HSV I0 hr1 hr2 hr3
          go_wp2_with fail
          go_roundw
          case rel => exact ⟨k + 1, by omega, by go_num, by rw [HST.out, HE.out], hb7⟩
          case measure => simp [intOf]; omega
    · have e : k = l.length := by omega
      subst e
      have he : encK N l l.length = Bt.enc N l := by unfold encK Bt.enc; rw [List.take_length]
      rw [he]
      clear he
      go_wp2_with fail
      go_ret2
      exact ⟨rfl, hkr⟩
end Go.Proofs.Ytalcmiaohclnjaa
