/-
  The walk of screelaw11.TableCut.
-/
import Derived.Test.YtefdcnhohabdlaaTableArgs
import Derived.Test.YtefdcnhohabdlaaTableAwake
import Derived.OpenShut
namespace Go.Proofs.Ytefdcnhohabdlaa
open Go.ChangeShapes Go.WideShapes Go.ChangeAt Go.RowKit
set_option linter.unusedVariables false
set_option maxRecDepth 100000
set_option maxHeartbeats 4000000

namespace Tb
open Mm
theorem dec_take {l : List Ent} (h : isT l = true) {n : Nat} (hn : n < (enc l).length) : dec ((enc l).take n) = none := by
  cases hd : dec ((enc l).take n) with
  | none => rfl
  | some m =>
    obtain ⟨h1, h2, _⟩ := dec_back hd
    exact absurd h2.symm (cut_back h h1 n hn)
theorem dec_zero {l : List Ent} (h : isT l = true) (n : Nat) : dec (List.replicate (n + 1) 0 ++ enc l) = none := by
  cases hd : dec (List.replicate (n + 1) 0 ++ enc l) with
  | none => rfl
  | some m =>
    obtain ⟨h1, h2, _⟩ := dec_back hd
    exact absurd h2.symm (cut_front h h1 n)
end Tb
theorem okEl_of {l : List Mm.Ent} (h : OkEs l) : OkEl l := fun x hx => ⟨(h x hx).1, (h x hx).2.1⟩
theorem TableCut_walk (A : Option Addr) (cap : Nat) (l : List Mm.Ent) (a1 a2 : Int) {w : World} (ha : Els w A l) (hl : l.length ≤ cap ∧ cap ≤ maxLen ∧ OkEs l) (h1 : (Lit.int .u8 a1).wf = true) (h2 : (Lit.int .u8 a2).wf = true) :
    Calls Try.prog 9 #[.slice A l.length cap, .int .u8 a1, .int .u8 a2] w fun e w' => e = .returned (.bool true) ∧ Kept w w' := by
  obtain ⟨hc, hm, ho⟩ := hl
  have b1 := bounds_u8 h1
  have b2 := bounds_u8 h2
  obtain ⟨f, rfl⟩ : ∃ s : Nat, a1 = (s : Int) := ⟨a1.toNat, by omega⟩
  obtain ⟨g, rfl⟩ : ∃ s : Nat, a2 = (s : Int) := ⟨a2.toNat, by omega⟩
  have HLG := Lib.hid (fun (W : World) (k : Kept w W) => tlarge_any cap (ha.kept k) (by omega) (okEl_of ho))
  have hbd := fun (W : World) (k : Kept w W) => tbuild_any cap (ha.kept k) hc hm (okEl_of ho)
  have HAW := Lib.hid (tawake_any w)
  have HT0 := Lib.hid (show Tb.isT l = true ∨ Tb.isT l = false by cases Tb.isT l <;> simp)
  have HBD0 := Lib.hid hbd
  clear h1 h2 hbd ho ha
  by_cases hz : f = 0 ∧ g = 0
  · obtain ⟨rfl, rfl⟩ := hz
    have q1 : (((0 : Nat) : Int) == 0) = true := rfl
    go_enter Try.func9, Try.ntmps9
    go_wp2_with fail
    refine HAW.out.mono ?_
    rintro e w1 ⟨rfl, g1⟩
    have HL1 := Lib.hid (HLG.out w1 g1)
    go_wp2_with fail
    refine HL1.out.mono ?_
    rintro e w2 ⟨B, rfl, g2⟩
    cases B with
    | true =>
      go_wp2_with fail
      go_ret
      exact ⟨rfl, kept_trans g1 g2⟩
    | false =>
      go_wp2_with fail
      go_ret
      exact ⟨rfl, kept_trans g1 g2⟩
  · have q1 : ((f : Int) == 0 && (g : Int) == 0) = false := by
      cases hq : ((f : Int) == 0 && (g : Int) == 0) with
      | false => rfl
      | true => simp at hq; omega
    have HQ : Hid (((f : Int) == 0) = true → ((g : Int) == 0) = false) := Lib.hid (fun q => by simp at q; simp; omega)
    go_enter Try.func9, Try.ntmps9
    go_wp2_with fail
    refine HAW.out.mono ?_
    rintro e w1 ⟨rfl, g1⟩
    have HL1 := Lib.hid (HLG.out w1 g1)
    go_wp2_with fail
    refine HL1.out.mono ?_
    rintro e w2 ⟨B, rfl, g2⟩
    cases B with
    | true =>
      go_wp2_with fail
      go_ret
      exact ⟨rfl, kept_trans g1 g2⟩
    | false =>
      have K2 := Lib.hid (kept_trans g1 g2)
      have HBD := Lib.hid (HBD0.out w2 K2.out)
      clear g1 g2 HL1 HLG HAW q1
      obtain ⟨F0, hF0⟩ : ∃ F0, F0 = ((f : Int) == 0) := ⟨_, rfl⟩
      have HF0 := Lib.hid hF0
      cases F0 with
      | true =>
        have q3 := HQ.out hF0.symm
        have q4 := hF0.symm
        clear hF0
        rcases HT0.out with hT | hT
        · have HT := Lib.hid hT
          have hbd := HBD.out
          rw [(Tb.encS_yes hT).1, (Tb.encS_yes hT).2] at hbd
          obtain ⟨ES, hES⟩ : ∃ ES, ES = bs (Tb.enc l) := ⟨_, rfl⟩
          have hel := Tb.enc_len hT
          have hsz := fbs_size (Tb.enc l)
          rw [← hES] at hbd hsz
          have HBDE := Lib.hid hbd
          have HES := Lib.hid hES
          have HEL := Lib.hid hel
          have hs4 : ES.size ≤ 460000 := by omega
          have HSZ := Lib.hid hsz
          clear hT hbd hES HBD HBD0 HT0 hel hsz
          go_wp2_with fail
          refine HBDE.out.mono ?_
          rintro e w3 ⟨rfl, g3⟩
          have K3 := Lib.hid (kept_trans K2.out g3)
          clear g3 HBDE
          by_cases hb : 0 < g ∧ g < ES.size
          · have d1 : decide ((g : Int) < (ES.size : Int)) = true := decide_eq_true (by omega)
            have d2 : decide ((0 : Int) < (g : Int)) = true := decide_eq_true (by omega)
            have e1 : IntKind.i64.wrap (g : Int) = (g : Int) := by rw [IntKind.wrap_i64]; omega
            obtain ⟨m, hm'⟩ : ∃ m, m = ES.size - g := ⟨_, rfl⟩
            have e2 : IntKind.i64.wrap ((ES.size : Int) - (g : Int)) = (m : Int) := by rw [IntKind.wrap_i64]; omega
            have hml : m ≤ ES.size := by omega
            have HX := Lib.hid (show ES.extract 0 m = bs ((Tb.enc l).take m) by rw [HES.out]; exact extract_take _ _)
            have HO1 := Lib.hid (fun W => topen_none (s := (Tb.enc l).take m) (by rw [List.length_take]; have := HEL.out; omega) (Tb.dec_take HT.out (by have := HSZ.out; omega)) W)
            rw [← HX.out] at HO1
            clear hm'
            go_wp2_with fail
            refine (HO1.out _).mono ?_
            rintro e w4 ⟨rfl, g4⟩
            have KL := Lib.hid (kept_trans K3.out g4)
            clear g4 HO1
            have hmk : ∀ w, (Instr.makeSlice 54 (.int .i64 ((f : Int) + 1)) (.int .i64 ((f : Int) + 1))).run Try.prog w = .ok (.slice (some ⟨w.heap.size, 0, none⟩) (f + 1) (f + 1)) (w.alloc (.cells (List.replicate (f + 1) (Value.int .u8 0)).toArray 5)) := fun w => by
              have := made_v 54 5 (.int .u8 0) 1 Try.underlying54 info5 rfl .i64 (f + 1) (by omega) (by omega) w
              rwa [show ((f + 1 : Nat) : Int) = (f : Int) + 1 by omega] at this
            have e3 : IntKind.i64.wrap ((f : Int) + 1) = (f : Int) + 1 := by rw [IntKind.wrap_i64]; omega
            have e4 : IntKind.i64.wrap (f : Int) = (f : Int) := by rw [IntKind.wrap_i64]; omega
            have hcv := fun w => conv_row w (List.replicate (f + 1) 0) (List.replicate (f + 1) (Value.int .u8 0)).toArray 5 (f + 1) (f + 1) (by simp) (by rw [List.map_replicate]; rfl)
            have hzs := fbs_size (List.replicate (f + 1) (0 : UInt8))
            rw [List.length_replicate] at hzs
            obtain ⟨Cz, hCz⟩ : ∃ Cz, Cz = (List.replicate (f + 1) (Value.int .u8 0)).toArray := ⟨_, rfl⟩
            rw [← hCz] at hmk hcv
            have HSUM := Lib.hid (show bs (List.replicate (f + 1) 0) ++ ES = bs (List.replicate (f + 1) 0 ++ Tb.enc l) by rw [HES.out]; exact fbs_app _ _)
            have HO2 := Lib.hid (fun W => topen_none (s := List.replicate (f + 1) 0 ++ Tb.enc l) (by rw [List.length_append, List.length_replicate]; have := HEL.out; omega) (Tb.dec_zero HT.out f) W)
            rw [← HSUM.out] at HO2
            have zz : (bs (List.replicate (f + 1) 0)).size + ES.size ≤ 500000 := by omega
            generalize bs (List.replicate (f + 1) 0) = ZS at *
            clear hCz hzs
            go_wp2_with fail
            refine (HO2.out _).mono ?_
            rintro e w9 ⟨rfl, g9⟩
            go_wp2_with fail
            go_ret
            exact ⟨rfl, kept_trans KL.out (kept_trans ((Kept.refl _).alloc _) g9)⟩
          · have KL := K3
            by_cases hg : g < ES.size
            · have d1 : decide ((g : Int) < (ES.size : Int)) = true := decide_eq_true (by omega)
              have d2 : decide ((0 : Int) < (g : Int)) = false := decide_eq_false (by omega)
              have e1 : IntKind.i64.wrap (g : Int) = (g : Int) := by rw [IntKind.wrap_i64]; omega
              have hmk : ∀ w, (Instr.makeSlice 54 (.int .i64 ((f : Int) + 1)) (.int .i64 ((f : Int) + 1))).run Try.prog w = .ok (.slice (some ⟨w.heap.size, 0, none⟩) (f + 1) (f + 1)) (w.alloc (.cells (List.replicate (f + 1) (Value.int .u8 0)).toArray 5)) := fun w => by
                have := made_v 54 5 (.int .u8 0) 1 Try.underlying54 info5 rfl .i64 (f + 1) (by omega) (by omega) w
                rwa [show ((f + 1 : Nat) : Int) = (f : Int) + 1 by omega] at this
              have e3 : IntKind.i64.wrap ((f : Int) + 1) = (f : Int) + 1 := by rw [IntKind.wrap_i64]; omega
              have e4 : IntKind.i64.wrap (f : Int) = (f : Int) := by rw [IntKind.wrap_i64]; omega
              have hcv := fun w => conv_row w (List.replicate (f + 1) 0) (List.replicate (f + 1) (Value.int .u8 0)).toArray 5 (f + 1) (f + 1) (by simp) (by rw [List.map_replicate]; rfl)
              have hzs := fbs_size (List.replicate (f + 1) (0 : UInt8))
              rw [List.length_replicate] at hzs
              obtain ⟨Cz, hCz⟩ : ∃ Cz, Cz = (List.replicate (f + 1) (Value.int .u8 0)).toArray := ⟨_, rfl⟩
              rw [← hCz] at hmk hcv
              have HSUM := Lib.hid (show bs (List.replicate (f + 1) 0) ++ ES = bs (List.replicate (f + 1) 0 ++ Tb.enc l) by rw [HES.out]; exact fbs_app _ _)
              have HO2 := Lib.hid (fun W => topen_none (s := List.replicate (f + 1) 0 ++ Tb.enc l) (by rw [List.length_append, List.length_replicate]; have := HEL.out; omega) (Tb.dec_zero HT.out f) W)
              rw [← HSUM.out] at HO2
              have zz : (bs (List.replicate (f + 1) 0)).size + ES.size ≤ 500000 := by omega
              generalize bs (List.replicate (f + 1) 0) = ZS at *
              clear hCz hzs
              go_wp2_with fail
              refine (HO2.out _).mono ?_
              rintro e w9 ⟨rfl, g9⟩
              go_wp2_with fail
              go_ret
              exact ⟨rfl, kept_trans KL.out (kept_trans ((Kept.refl _).alloc _) g9)⟩
            · have d1 : decide ((g : Int) < (ES.size : Int)) = false := decide_eq_false (by omega)
              have e1 : IntKind.i64.wrap (g : Int) = (g : Int) := by rw [IntKind.wrap_i64]; omega
              have hmk : ∀ w, (Instr.makeSlice 54 (.int .i64 ((f : Int) + 1)) (.int .i64 ((f : Int) + 1))).run Try.prog w = .ok (.slice (some ⟨w.heap.size, 0, none⟩) (f + 1) (f + 1)) (w.alloc (.cells (List.replicate (f + 1) (Value.int .u8 0)).toArray 5)) := fun w => by
                have := made_v 54 5 (.int .u8 0) 1 Try.underlying54 info5 rfl .i64 (f + 1) (by omega) (by omega) w
                rwa [show ((f + 1 : Nat) : Int) = (f : Int) + 1 by omega] at this
              have e3 : IntKind.i64.wrap ((f : Int) + 1) = (f : Int) + 1 := by rw [IntKind.wrap_i64]; omega
              have e4 : IntKind.i64.wrap (f : Int) = (f : Int) := by rw [IntKind.wrap_i64]; omega
              have hcv := fun w => conv_row w (List.replicate (f + 1) 0) (List.replicate (f + 1) (Value.int .u8 0)).toArray 5 (f + 1) (f + 1) (by simp) (by rw [List.map_replicate]; rfl)
              have hzs := fbs_size (List.replicate (f + 1) (0 : UInt8))
              rw [List.length_replicate] at hzs
              obtain ⟨Cz, hCz⟩ : ∃ Cz, Cz = (List.replicate (f + 1) (Value.int .u8 0)).toArray := ⟨_, rfl⟩
              rw [← hCz] at hmk hcv
              have HSUM := Lib.hid (show bs (List.replicate (f + 1) 0) ++ ES = bs (List.replicate (f + 1) 0 ++ Tb.enc l) by rw [HES.out]; exact fbs_app _ _)
              have HO2 := Lib.hid (fun W => topen_none (s := List.replicate (f + 1) 0 ++ Tb.enc l) (by rw [List.length_append, List.length_replicate]; have := HEL.out; omega) (Tb.dec_zero HT.out f) W)
              rw [← HSUM.out] at HO2
              have zz : (bs (List.replicate (f + 1) 0)).size + ES.size ≤ 500000 := by omega
              generalize bs (List.replicate (f + 1) 0) = ZS at *
              clear hCz hzs
              go_wp2_with fail
              refine (HO2.out _).mono ?_
              rintro e w9 ⟨rfl, g9⟩
              go_wp2_with fail
              go_ret
              exact ⟨rfl, kept_trans KL.out (kept_trans ((Kept.refl _).alloc _) g9)⟩
        · have hbd := HBD.out
          rw [(Tb.encS_no hT).1, (Tb.encS_no hT).2] at hbd
          have HBDE := Lib.hid hbd
          clear hT hbd HBD HBD0 HT0
          go_wp2_with fail
          refine HBDE.out.mono ?_
          rintro e w3 ⟨rfl, g3⟩
          go_wp2_with fail
          go_ret
          exact ⟨rfl, kept_trans K2.out g3⟩
      | false =>
        have q4 := hF0.symm
        clear hF0
        rcases HT0.out with hT | hT
        · have HT := Lib.hid hT
          have hbd := HBD.out
          rw [(Tb.encS_yes hT).1, (Tb.encS_yes hT).2] at hbd
          obtain ⟨ES, hES⟩ : ∃ ES, ES = bs (Tb.enc l) := ⟨_, rfl⟩
          have hel := Tb.enc_len hT
          have hsz := fbs_size (Tb.enc l)
          rw [← hES] at hbd hsz
          have HBDE := Lib.hid hbd
          have HES := Lib.hid hES
          have HEL := Lib.hid hel
          have hs4 : ES.size ≤ 460000 := by omega
          have HSZ := Lib.hid hsz
          clear hT hbd hES HBD HBD0 HT0 hel hsz
          go_wp2_with fail
          refine HBDE.out.mono ?_
          rintro e w3 ⟨rfl, g3⟩
          have K3 := Lib.hid (kept_trans K2.out g3)
          clear g3 HBDE
          by_cases hb : 0 < g ∧ g < ES.size
          · have d1 : decide ((g : Int) < (ES.size : Int)) = true := decide_eq_true (by omega)
            have d2 : decide ((0 : Int) < (g : Int)) = true := decide_eq_true (by omega)
            have e1 : IntKind.i64.wrap (g : Int) = (g : Int) := by rw [IntKind.wrap_i64]; omega
            obtain ⟨m, hm'⟩ : ∃ m, m = ES.size - g := ⟨_, rfl⟩
            have e2 : IntKind.i64.wrap ((ES.size : Int) - (g : Int)) = (m : Int) := by rw [IntKind.wrap_i64]; omega
            have hml : m ≤ ES.size := by omega
            have HX := Lib.hid (show ES.extract 0 m = bs ((Tb.enc l).take m) by rw [HES.out]; exact extract_take _ _)
            have HO1 := Lib.hid (fun W => topen_none (s := (Tb.enc l).take m) (by rw [List.length_take]; have := HEL.out; omega) (Tb.dec_take HT.out (by have := HSZ.out; omega)) W)
            rw [← HX.out] at HO1
            clear hm'
            go_wp2_with fail
            refine (HO1.out _).mono ?_
            rintro e w4 ⟨rfl, g4⟩
            have KL := Lib.hid (kept_trans K3.out g4)
            clear g4 HO1
            have hmk : ∀ w, (Instr.makeSlice 54 (.int .i64 ((f : Int) + 1)) (.int .i64 ((f : Int) + 1))).run Try.prog w = .ok (.slice (some ⟨w.heap.size, 0, none⟩) (f + 1) (f + 1)) (w.alloc (.cells (List.replicate (f + 1) (Value.int .u8 0)).toArray 5)) := fun w => by
              have := made_v 54 5 (.int .u8 0) 1 Try.underlying54 info5 rfl .i64 (f + 1) (by omega) (by omega) w
              rwa [show ((f + 1 : Nat) : Int) = (f : Int) + 1 by omega] at this
            have e3 : IntKind.i64.wrap ((f : Int) + 1) = (f : Int) + 1 := by rw [IntKind.wrap_i64]; omega
            have e4 : IntKind.i64.wrap (f : Int) = (f : Int) := by rw [IntKind.wrap_i64]; omega
            have hcv := fun w => conv_row w (List.replicate (f + 1) 0) (List.replicate (f + 1) (Value.int .u8 0)).toArray 5 (f + 1) (f + 1) (by simp) (by rw [List.map_replicate]; rfl)
            have hzs := fbs_size (List.replicate (f + 1) (0 : UInt8))
            rw [List.length_replicate] at hzs
            obtain ⟨Cz, hCz⟩ : ∃ Cz, Cz = (List.replicate (f + 1) (Value.int .u8 0)).toArray := ⟨_, rfl⟩
            rw [← hCz] at hmk hcv
            have HSUM := Lib.hid (show bs (List.replicate (f + 1) 0) ++ ES = bs (List.replicate (f + 1) 0 ++ Tb.enc l) by rw [HES.out]; exact fbs_app _ _)
            have HO2 := Lib.hid (fun W => topen_none (s := List.replicate (f + 1) 0 ++ Tb.enc l) (by rw [List.length_append, List.length_replicate]; have := HEL.out; omega) (Tb.dec_zero HT.out f) W)
            rw [← HSUM.out] at HO2
            have zz : (bs (List.replicate (f + 1) 0)).size + ES.size ≤ 500000 := by omega
            generalize bs (List.replicate (f + 1) 0) = ZS at *
            clear hCz hzs
            go_wp2_with fail
            refine (HO2.out _).mono ?_
            rintro e w9 ⟨rfl, g9⟩
            go_wp2_with fail
            go_ret
            exact ⟨rfl, kept_trans KL.out (kept_trans ((Kept.refl _).alloc _) g9)⟩
          · have KL := K3
            by_cases hg : g < ES.size
            · have d1 : decide ((g : Int) < (ES.size : Int)) = true := decide_eq_true (by omega)
              have d2 : decide ((0 : Int) < (g : Int)) = false := decide_eq_false (by omega)
              have e1 : IntKind.i64.wrap (g : Int) = (g : Int) := by rw [IntKind.wrap_i64]; omega
              have hmk : ∀ w, (Instr.makeSlice 54 (.int .i64 ((f : Int) + 1)) (.int .i64 ((f : Int) + 1))).run Try.prog w = .ok (.slice (some ⟨w.heap.size, 0, none⟩) (f + 1) (f + 1)) (w.alloc (.cells (List.replicate (f + 1) (Value.int .u8 0)).toArray 5)) := fun w => by
                have := made_v 54 5 (.int .u8 0) 1 Try.underlying54 info5 rfl .i64 (f + 1) (by omega) (by omega) w
                rwa [show ((f + 1 : Nat) : Int) = (f : Int) + 1 by omega] at this
              have e3 : IntKind.i64.wrap ((f : Int) + 1) = (f : Int) + 1 := by rw [IntKind.wrap_i64]; omega
              have e4 : IntKind.i64.wrap (f : Int) = (f : Int) := by rw [IntKind.wrap_i64]; omega
              have hcv := fun w => conv_row w (List.replicate (f + 1) 0) (List.replicate (f + 1) (Value.int .u8 0)).toArray 5 (f + 1) (f + 1) (by simp) (by rw [List.map_replicate]; rfl)
              have hzs := fbs_size (List.replicate (f + 1) (0 : UInt8))
              rw [List.length_replicate] at hzs
              obtain ⟨Cz, hCz⟩ : ∃ Cz, Cz = (List.replicate (f + 1) (Value.int .u8 0)).toArray := ⟨_, rfl⟩
              rw [← hCz] at hmk hcv
              have HSUM := Lib.hid (show bs (List.replicate (f + 1) 0) ++ ES = bs (List.replicate (f + 1) 0 ++ Tb.enc l) by rw [HES.out]; exact fbs_app _ _)
              have HO2 := Lib.hid (fun W => topen_none (s := List.replicate (f + 1) 0 ++ Tb.enc l) (by rw [List.length_append, List.length_replicate]; have := HEL.out; omega) (Tb.dec_zero HT.out f) W)
              rw [← HSUM.out] at HO2
              have zz : (bs (List.replicate (f + 1) 0)).size + ES.size ≤ 500000 := by omega
              generalize bs (List.replicate (f + 1) 0) = ZS at *
              clear hCz hzs
              go_wp2_with fail
              refine (HO2.out _).mono ?_
              rintro e w9 ⟨rfl, g9⟩
              go_wp2_with fail
              go_ret
              exact ⟨rfl, kept_trans KL.out (kept_trans ((Kept.refl _).alloc _) g9)⟩
            · have d1 : decide ((g : Int) < (ES.size : Int)) = false := decide_eq_false (by omega)
              have e1 : IntKind.i64.wrap (g : Int) = (g : Int) := by rw [IntKind.wrap_i64]; omega
              have hmk : ∀ w, (Instr.makeSlice 54 (.int .i64 ((f : Int) + 1)) (.int .i64 ((f : Int) + 1))).run Try.prog w = .ok (.slice (some ⟨w.heap.size, 0, none⟩) (f + 1) (f + 1)) (w.alloc (.cells (List.replicate (f + 1) (Value.int .u8 0)).toArray 5)) := fun w => by
                have := made_v 54 5 (.int .u8 0) 1 Try.underlying54 info5 rfl .i64 (f + 1) (by omega) (by omega) w
                rwa [show ((f + 1 : Nat) : Int) = (f : Int) + 1 by omega] at this
              have e3 : IntKind.i64.wrap ((f : Int) + 1) = (f : Int) + 1 := by rw [IntKind.wrap_i64]; omega
              have e4 : IntKind.i64.wrap (f : Int) = (f : Int) := by rw [IntKind.wrap_i64]; omega
              have hcv := fun w => conv_row w (List.replicate (f + 1) 0) (List.replicate (f + 1) (Value.int .u8 0)).toArray 5 (f + 1) (f + 1) (by simp) (by rw [List.map_replicate]; rfl)
              have hzs := fbs_size (List.replicate (f + 1) (0 : UInt8))
              rw [List.length_replicate] at hzs
              obtain ⟨Cz, hCz⟩ : ∃ Cz, Cz = (List.replicate (f + 1) (Value.int .u8 0)).toArray := ⟨_, rfl⟩
              rw [← hCz] at hmk hcv
              have HSUM := Lib.hid (show bs (List.replicate (f + 1) 0) ++ ES = bs (List.replicate (f + 1) 0 ++ Tb.enc l) by rw [HES.out]; exact fbs_app _ _)
              have HO2 := Lib.hid (fun W => topen_none (s := List.replicate (f + 1) 0 ++ Tb.enc l) (by rw [List.length_append, List.length_replicate]; have := HEL.out; omega) (Tb.dec_zero HT.out f) W)
              rw [← HSUM.out] at HO2
              have zz : (bs (List.replicate (f + 1) 0)).size + ES.size ≤ 500000 := by omega
              generalize bs (List.replicate (f + 1) 0) = ZS at *
              clear hCz hzs
              go_wp2_with fail
              refine (HO2.out _).mono ?_
              rintro e w9 ⟨rfl, g9⟩
              go_wp2_with fail
              go_ret
              exact ⟨rfl, kept_trans KL.out (kept_trans ((Kept.refl _).alloc _) g9)⟩
        · have hbd := HBD.out
          rw [(Tb.encS_no hT).1, (Tb.encS_no hT).2] at hbd
          have HBDE := Lib.hid hbd
          clear hT hbd HBD HBD0 HT0
          go_wp2_with fail
          refine HBDE.out.mono ?_
          rintro e w3 ⟨rfl, g3⟩
          go_wp2_with fail
          go_ret
          exact ⟨rfl, kept_trans K2.out g3⟩
end Go.Proofs.Ytefdcnhohabdlaa
