/-
  The walk of screelaw11.TableGets.
-/
import Derived.Test.YtefdcnhohabdlaaTableArgs
import Derived.Test.YtefdcnhohabdlaaTableAwake
import Derived.Test.YtefdcnhohabdlaaBlockArgs
import Derived.OpenShut
namespace Go.Proofs.Ytefdcnhohabdlaa
open Go.ChangeShapes Go.WideShapes Go.ChangeAt Go.RowKit
set_option linter.unusedVariables false
set_option maxRecDepth 100000
set_option maxHeartbeats 4000000

theorem okEl_gs {l : List Mm.Ent} (h : OkEs l) : OkEl l := fun x hx => ⟨(h x hx).1, (h x hx).2.1⟩
namespace Tb
open Mm
theorem cost_le (l : List Ent) (k : List UInt8) (s : Nat) : cost l k s = 0 ∨ cost l k s = 1 := by
  unfold cost; split <;> simp
theorem lastE_mem {l : List Ent} (h : isT l = true) : ∃ i, l[i]? = some (lastE l) ∧ i + 1 = l.length := by
  have h1 := (isT_iff.1 h).1
  refine ⟨l.length - 1, ?_, by omega⟩
  unfold lastE
  rw [List.getLast?_eq_getElem?, List.getElem?_eq_getElem (by omega)]
  rfl
theorem cost_hit {l : List Ent} (h : isT l = true) {k : List UInt8} {s i : Nat} {y : Ent} (hy : l[i]? = some y) (hm : mt k s y = true) : cost l k s = 1 := by
  obtain ⟨m1, m2⟩ := mt_iff.1 hm
  unfold cost
  rw [if_pos]
  refine ⟨by rw [← m1]; exact Bm.made_may (keys_has (List.mem_of_getElem? hy)), ?_⟩
  obtain ⟨j, hj, hjl⟩ := lastE_mem h
  have hi := (List.getElem?_eq_some_iff.1 hy).1
  cases hv : (lastE l).ah k s with
  | false => rfl
  | true =>
    have hya : y.ah k s = true := by
      by_cases e : i = j
      · subst e; rw [hy] at hj; cases hj; exact hv
      · exact ahd_trans ((Mg.row_iff.1 (isT_iff.1 h).2.2.2).lt hy hj (by omega)) hv
    rw [mt_ahead hya] at hm
    cases hm
theorem find_hit {l : List Ent} {k : List UInt8} {s i : Nat} {y : Ent} (hn : (l.take i).find? (mt k s) = none) (hy : l[i]? = some y) (hm : mt k s y = true) : l.find? (mt k s) = some y := by
  conv => lhs; rw [← List.take_append_drop i l]
  rw [List.find?_append, hn, Option.none_or]
  obtain ⟨hi, rfl⟩ := List.getElem?_eq_some_iff.1 hy
  rw [List.drop_eq_getElem_cons hi, List.find?_cons, hm]
theorem find_next {l : List Ent} {k : List UInt8} {s i : Nat} {y : Ent} (hn : (l.take i).find? (mt k s) = none) (hy : l[i]? = some y) (hm : mt k s y = false) : (l.take (i + 1)).find? (mt k s) = none := by
  rw [List.take_add_one, hy, List.find?_append, hn]
  simp [hm]
end Tb
theorem TableGets_walk (A : Option Addr) (cap : Nat) (l : List Mm.Ent) (S1 : ByteArray) (a1 : Int) {w : World} (ha : Els w A l) (hl : l.length ≤ cap ∧ cap ≤ maxLen ∧ OkEs l) (hS : S1.size ≤ maxLen) (h1 : (Lit.int .u64 a1).wf = true) :
    Calls Try.prog 6 #[.slice A l.length cap, .string S1, .int .u64 a1] w fun e w' => e = .returned (.bool true) ∧ Kept w w' := by
  obtain ⟨hc, hm, ho⟩ := hl
  obtain ⟨k, rfl, ek⟩ := bs_back S1
  have b1 := bounds_u64 h1
  obtain ⟨s, rfl⟩ : ∃ s : Nat, a1 = (s : Int) := ⟨a1.toNat, by omega⟩
  have HLG := Lib.hid (fun (W : World) (k : Kept w W) => tlarge_any cap (ha.kept k) (by omega) (okEl_gs ho))
  have HBD0 := Lib.hid (fun (W : World) (k : Kept w W) => tbuild_any cap (ha.kept k) hc hm (okEl_gs ho))
  have HAW := Lib.hid (tawake_any w)
  have HT0 := Lib.hid (show Tb.isT l = true ∨ Tb.isT l = false by cases Tb.isT l <;> simp)
  have HELS := Lib.hid ha
  have hkm := hS
  unfold maxLen at hS
  clear ho ha h1
  by_cases h3 : 300 < (bs k).size
  · have d3 : decide ((300 : Int) < ((bs k).size : Int)) = true := decide_eq_true (by omega)
    clear ek
    go_enter Try.func6, Try.ntmps6
    go_wp2_with fail
    refine HAW.out.mono ?_
    rintro e w1 ⟨rfl, g1⟩
    have HL1 := Lib.hid (HLG.out w1 g1)
    go_wp2_with fail
    refine HL1.out.mono ?_
    rintro e w2 ⟨B, rfl, g2⟩
    cases B with
    | true =>
      go_wp2_with fail
      go_ret
      exact ⟨rfl, kept_trans g1 g2⟩
    | false =>
      go_wp2_with fail
      go_ret
      exact ⟨rfl, kept_trans g1 g2⟩
  · have d3 : decide ((300 : Int) < ((bs k).size : Int)) = false := decide_eq_false (by omega)
    have hkl : k.length ≤ maxLen := by unfold maxLen; omega
    clear ek
    go_enter Try.func6, Try.ntmps6
    go_wp2_with fail
    refine HAW.out.mono ?_
    rintro e w1 ⟨rfl, g1⟩
    have HL1 := Lib.hid (HLG.out w1 g1)
    go_wp2_with fail
    refine HL1.out.mono ?_
    rintro e w2 ⟨B, rfl, g2⟩
    cases B with
    | true =>
      go_wp2_with fail
      go_ret
      exact ⟨rfl, kept_trans g1 g2⟩
    | false =>
      have K2 := Lib.hid (kept_trans g1 g2)
      have HBD := Lib.hid (HBD0.out w2 K2.out)
      clear g1 g2 HL1 HLG HAW HBD0
      rcases HT0.out with hT | hT
      · have HT := Lib.hid hT
        have hbd := HBD.out
        rw [(Tb.encS_yes hT).1, (Tb.encS_yes hT).2] at hbd
        have HBDE := Lib.hid hbd
        have HOE := Lib.hid (fun W => topen_enc hT W)
        have hl500 := (Tb.isT_iff.1 hT).2.1
        generalize bs (Tb.enc l) = ES at *
        clear hT hbd HBD HT0
        go_wp2_with fail
        refine HBDE.out.mono ?_
        rintro e w3 ⟨rfl, g3⟩
        go_wp2_with fail
        refine (HOE.out _).mono ?_
        rintro e w4 ⟨p, rfl, hT4, hpw, g4⟩
        have HT4 := Lib.hid hT4
        have K4 := Lib.hid (kept_trans K2.out (kept_trans g3 g4))
        obtain ⟨O, hO⟩ : ∃ O, O = l.find? (Mm.mt k s) := ⟨_, rfl⟩
        have hgt := tget_any hT4 HT.out k hkl s
        rw [← hO] at hgt
        unfold tgV entV at hgt
        obtain ⟨X, hX⟩ : ∃ X, X = O.getD Mm.zent := ⟨_, rfl⟩
        obtain ⟨I, hI⟩ : ∃ I, I = O.isSome := ⟨_, rfl⟩
        rw [← hX, ← hI] at hgt
        have HGT := Lib.hid hgt
        have HO := Lib.hid hO; have HXE := Lib.hid hX; have HIE := Lib.hid hI
        clear g3 g4 hT4 HBDE HOE hpw hgt hO hX hI
        go_wp2_with fail
        refine HGT.out.mono ?_
        rintro e w5 ⟨rfl, g5⟩
        have HBX := Lib.hid (malloc_new w5 (.cells #[.string (bs X.key), .int .u64 (X.seq : Nat), .bool X.del, .string (bs X.val)] 37))
        have K5 := Lib.hid (kept_trans K4.out (kept_trans g5 ((Kept.refl w5).alloc (.cells #[.string (bs X.key), .int .u64 (X.seq : Nat), .bool X.del, .string (bs X.val)] 37))))
        have HT5 := Lib.hid ((HT4.out.kept g5).kept ((Kept.refl w5).alloc (.cells #[.string (bs X.key), .int .u64 (X.seq : Nat), .bool X.del, .string (bs X.val)] 37)))
        have hcs := tcost_any HT5.out HT.out k hkl s
        obtain ⟨C, hC⟩ : ∃ C, C = Tb.cost l k s := ⟨_, rfl⟩
        rw [← hC] at hcs
        have HCS := Lib.hid hcs
        have HCE := Lib.hid hC
        have hC1 : C ≤ 1 := by rcases Tb.cost_le l k s with q | q <;> omega
        clear g5 HGT HT4 hcs hC K4
        go_wp2_with fail
        refine HCS.out.mono ?_
        rintro e w6 ⟨rfl, g6⟩
        have K6 := Lib.hid (kept_trans K5.out g6)
        have HBX6 := Lib.hid (mblk_kept HBX.out g6)
        clear g6 HCS HBX K5 HT5
        go_wp2_with fail
        go_loopw [55] (fun t wr => ∃ i : Nat, i ≤ l.length ∧ t = .int .i64 i ∧ Hid ((l.take i).find? (Mm.mt k s) = none) ∧ Hid (Kept w6 wr)) (fun t _ => l.length - (intOf t).toNat)
        case atStart => exact ⟨0, Nat.zero_le _, rfl, Lib.hid rfl, Lib.hid (Kept.refl _)⟩
        case round =>
          obtain ⟨i, hi, rfl, HN, HK⟩ := hrel
          have hbx := mblk_kept HBX6.out HK.out
          have x0 := blk_cell hbx 0; have x1 := blk_cell hbx 1; have x2 := blk_cell hbx 2; have x3 := blk_cell hbx 3
          simp only [List.getElem?_toArray, List.getElem?_cons_zero, List.getElem?_cons_succ] at x0 x1 x2 x3
          have hbl := mheap_lt hbx
          by_cases hlt : i < l.length
          · obtain ⟨y, hy⟩ : ∃ y, l[i]? = some y := ⟨_, List.getElem?_eq_getElem hlt⟩
            obtain ⟨b, o, rfl, hbb, q0, q1, q2, q3⟩ := (HELS.out.kept (kept_trans K6.out HK.out)) i y hy
            cases hmt : Mm.mt k s y with
            | true =>
              obtain ⟨m1, m2⟩ := Mm.mt_iff.1 hmt
              have hf := Tb.find_hit HN.out hy hmt
              have hOy : O = some y := by rw [HO.out, hf]
              have hXy : X = y := by rw [HXE.out, hOy]; rfl
              have hIy : I = true := by rw [HIE.out, hOy]; rfl
              have hCy : C = 1 := by rw [HCE.out, Tb.cost_hit HT.out hy hmt]
              have t1 : ((bs y.key).toList == (bs k).toList) = true := by rw [mbs_eq, decide_eq_true m1]
              have t2 : decide ((y.seq : Int) ≤ (s : Int)) = true := decide_eq_true (by omega)
              subst hXy hIy hCy
              clear hf hOy hmt hy hbx m1
              go_wp2_with fail
              go_quiet (fail)
              go_wp2_with fail
              go_ret
              exact ⟨ret_bool (by simp), kept_trans K6.out (kept_trans HK.out (kept_drewN _ _))⟩
            | false =>
              have HN2 := Lib.hid (Tb.find_next HN.out hy hmt)
              by_cases hky : y.key = k
              · have t1 : ((bs y.key).toList == (bs k).toList) = true := by rw [mbs_eq, decide_eq_true hky]
                have hsq : ¬ y.seq ≤ s := fun q => by
                  have := Mm.mt_iff.2 ⟨hky, q⟩
                  rw [hmt] at this; cases this
                have t2 : decide ((y.seq : Int) ≤ (s : Int)) = false := decide_eq_false (by omega)
                clear hmt hy hbx hky
                go_wp2_with fail
                go_roundw
                case rel => exact ⟨i + 1, by omega, by go_num, HN2, HK⟩
                case measure => simp [intOf]; omega
              · have t1 : ((bs y.key).toList == (bs k).toList) = false := by rw [mbs_eq, decide_eq_false hky]
                clear hmt hy hbx hky
                go_wp2_with fail
                go_roundw
                case rel => exact ⟨i + 1, by omega, by go_num, HN2, HK⟩
                case measure => simp [intOf]; omega
          · have e : i = l.length := by omega
            have hn := HN.out
            rw [e, List.take_length] at hn
            have hOn : O = none := by rw [HO.out, hn]
            have hXz : X = Mm.zent := by rw [HXE.out, hOn]; rfl
            have hIz : I = false := by rw [HIE.out, hOn]; rfl
            have d8 : decide ((0 : Int) ≤ (C : Int)) = true := decide_eq_true (by omega)
            have d9 : decide ((C : Int) ≤ 1) = true := decide_eq_true (by omega)
            subst hXz hIz
            clear hn hOn hbx hbl
            replace x0 : wr.cell? ⟨w5.heap.size, 0, none⟩ = some (.string ⟨#[]⟩) := x0
            replace x1 : wr.cell? ⟨w5.heap.size, 1, none⟩ = some (.int .u64 0) := x1
            replace x2 : wr.cell? ⟨w5.heap.size, 2, none⟩ = some (.bool false) := x2
            replace x3 : wr.cell? ⟨w5.heap.size, 3, none⟩ = some (.string ⟨#[]⟩) := x3
            go_wp2_with fail
            go_ret
            exact ⟨ret_bool (by simp), kept_trans K6.out HK.out⟩
      · have hbd := HBD.out
        rw [(Tb.encS_no hT).1, (Tb.encS_no hT).2] at hbd
        have HBDE := Lib.hid hbd
        clear hT hbd HBD HT0
        go_wp2_with fail
        refine HBDE.out.mono ?_
        rintro e w3 ⟨rfl, g3⟩
        go_wp2_with fail
        go_ret
        exact ⟨rfl, kept_trans K2.out g3⟩
end Go.Proofs.Ytefdcnhohabdlaa
