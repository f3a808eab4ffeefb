/-
  The walk of screelaw11.TableFrom_G.
-/
import Derived.Test.YtecjnebfhbdnaaaTableArgs
import Derived.Test.YtecjnebfhbdnaaaTableAwake
import Derived.Test.YtecjnebfhbdnaaaTableFromMath
import Derived.OpenShut
import Derived.RegionTactic
import Derived.Deep.RegionHeld3
namespace Go.Proofs.Ytecjnebfhbdnaaa
open Go.ChangeShapes Go.WideShapes Go.ChangeAt Go.RowKit
set_option linter.unusedVariables false
set_option maxRecDepth 100000
set_option maxHeartbeats 40000000


theorem TableFrom_G_walk (A : Option Addr) (cap : Nat) (l : List Mm.Ent) (k : List UInt8) (a1 : Int) (K : Nat) (hli : l.length = K) (hci : K < cap) (hK1 : ∀ i x, i < K → l[i]? = some x → x.key < k) (hK2 : ∀ x, l[K]? = some x → ¬ x.key < k) (h3 : ¬ 300 < (bs k).size) (b1 : -9223372036854775808 ≤ a1) (b2 : a1 ≤ 9223372036854775807) {w : World} (ha : Els w A l) (hl : l.length ≤ cap ∧ cap ≤ maxLen ∧ OkEs l)  :
    Calls Try.prog 5 #[.slice A l.length cap, .string (bs k), .int .i64 a1] w fun e w' => e = .returned (.bool true) ∧ Kept w w' := by
  obtain ⟨hc, hm, ho⟩ := hl
  have HLI := Lib.hid hli
  have hKl : K ≤ l.length := by omega
  clear hli
  have HK1 := Lib.hid hK1; have HK2 := Lib.hid hK2
  have d3 : decide ((300 : Int) < ((bs k).size : Int)) = false := decide_eq_false (by omega)
  clear hK1 hK2
  have HLG := Lib.hid (fun (W : World) (k : Kept w W) => tlarge_any cap (ha.kept k) (by omega) (fun x hx => ⟨(ho x hx).1, (ho x hx).2.1⟩))
  have HBD0 := Lib.hid (fun (W : World) (k : Kept w W) => tbuild_any cap (ha.kept k) hc hm (fun x hx => ⟨(ho x hx).1, (ho x hx).2.1⟩))
  have HAW := Lib.hid (tawake_any w)
  have HT0 := Lib.hid (show Tb.isT l = true ∨ Tb.isT l = false by cases Tb.isT l <;> simp)
  have HELS := Lib.hid ha
  have hkm := hc
  have hcm := hm
  unfold maxLen at hcm
  clear ho ha
  go_enter Try.func5, Try.ntmps5
  go_wp2_with fail
  refine HAW.out.mono ?_
  rintro e w1 ⟨rfl, g1⟩
  have HL1 := Lib.hid (HLG.out w1 g1)
  go_wp2_with fail
  refine HL1.out.mono ?_
  rintro e w2 ⟨B, rfl, g2⟩
  cases B with
  | true =>
    go_wp2_with fail
    go_ret
    exact ⟨rfl, kept_trans g1 g2⟩
  | false =>
    have K2 := Lib.hid (kept_trans g1 g2)
    have HBD := Lib.hid (HBD0.out w2 K2.out)
    clear g1 g2 HL1 HLG HAW HBD0
    rcases HT0.out with hT | hT
    · have HT := Lib.hid hT
      have hbd := HBD.out
      rw [(Tb.encS_yes hT).1, (Tb.encS_yes hT).2] at hbd
      have HBDE := Lib.hid hbd
      have HOE := Lib.hid (fun W => topen_enc hT W)
      have hl500 := (Tb.isT_iff.1 hT).2.1
      have hl1 := (Tb.isT_iff.1 hT).1
      obtain ⟨x0, hx0⟩ : ∃ x, l[0]? = some x := ⟨_, List.getElem?_eq_getElem (by omega)⟩
      obtain ⟨y0, hy0⟩ : ∃ y, l[l.length - 1]? = some y := ⟨_, List.getElem?_eq_getElem (by omega)⟩
      obtain ⟨b, o, rfl, hbb, _, _, _, _⟩ := HELS.out 0 x0 hx0
      have HX0 := Lib.hid hx0; have HY0 := Lib.hid hy0
      generalize bs (Tb.enc l) = ES at *
      clear hT hbd HBD HT0 hx0 hy0
      go_wp2_with fail
      refine HBDE.out.mono ?_
      rintro e w3 ⟨rfl, g3⟩
      go_wp2_with fail
      refine (HOE.out _).mono ?_
      rintro e w4 ⟨p, rfl, hT4, hpw, g4⟩
      have HT4 := Lib.hid hT4
      have K4 := Lib.hid (kept_trans K2.out (kept_trans g3 g4))
      clear g3 g4 hT4 HBDE HOE hpw K2
      go_wp2_with fail
      go_loopw [11] (fun t wr => ∃ i : Nat, i ≤ K ∧ t = .int .i64 i ∧ Hid (∃ q, wr = w4.drewN q)) (fun t _ => l.length - (intOf t).toNat)
      case atStart => exact ⟨0, Nat.zero_le _, rfl, Lib.hid ⟨0, rfl⟩⟩
      case round =>
        obtain ⟨i, hi, rfl, HW⟩ := hrel
        have hkw : Kept w4 wr := by obtain ⟨q, rfl⟩ := HW.out; exact kept_drewN _ _
        have HKw := Lib.hid (kept_trans K4.out hkw)
        have HTw := Lib.hid (HT4.out.kept hkw)
        clear hkw HT4 K4
        by_cases hiK : i < K
        · obtain ⟨x, hx⟩ : ∃ x, l[i]? = some x := ⟨_, List.getElem?_eq_getElem (by have := HLI.out; omega)⟩
          have hxk := HK1.out i x hiK hx
          have hlt : i < l.length := by have := HLI.out; omega
          obtain ⟨b', o', hbo, hbb2, q0, q1, q2, q3⟩ := (HELS.out.kept HKw.out) i x hx
          cases hbo
          have kb : Op.bytesLess (bs x.key).toList (bs k).toList = true := by rw [mbs_less, decide_eq_true hxk]
          clear hx hxk HTw
          go_wp2_with fail
          go_roundw
          case rel => exact ⟨i + 1, by have := HLI.out; omega, by go_num, Lib.hid (by obtain ⟨q, rfl⟩ := HW.out; exact ⟨_, rfl⟩)⟩
          case measure => simp [intOf]; omega
        · obtain rfl : i = K := by omega
          clear hiK hi
          obtain ⟨N, hN⟩ : ∃ N, N = a1.toNat := ⟨_, rfl⟩
          have hD0 : l.drop i = [] := List.drop_eq_nil_of_le (by have := HLI.out; omega)
          have HFRM := Lib.hid (show Tb.frm l k N = (l.drop i).take 0 by rw [tf_frm HT.out HK1.out HK2.out, hD0]; simp)
          have HML := Lib.hid (show ((l.drop i).take 0).length = 0 by simp)
          have hmx : max a1 0 = (N : Int) := by omega
          have hmn : min (N : Int) 0 = 0 := by omega
          have d0 : decide ((i : Int) < (l.length : Int)) = false := decide_eq_false (by have := HLI.out; omega)
          have HRE := Lib.hid (fun (W : World) (g : Kept w W) => (show Els W (some ⟨b, o + 4 * i, none⟩) ((l.drop i).take 0) by rw [List.take_zero]; exact tf_nil _))
          clear hD0
          have hz0 : l.length - i = 0 := by have := HLI.out; omega
          have HNN := Lib.hid hN
          clear hN
          have he := tends_any HTw.out HT.out HX0.out HY0.out
          unfold entV at he
          have HEN := Lib.hid he
          clear he
          go_wp2_with fail
          refine HEN.out.mono ?_
          rintro e w7 ⟨rfl, g7⟩
          have HT7 := Lib.hid (HTw.out.kept g7)
          have K7 := Lib.hid (kept_trans HKw.out g7)
          clear g7 HEN
          go_wp2_with fail
          obtain ⟨w9, hw9⟩ : ∃ w9, w9 = (w7.alloc (.cells #[.string (bs x0.key), .int .u64 (x0.seq : Nat), .bool x0.del, .string (bs x0.val)] 37)).alloc (.cells #[.string (bs y0.key), .int .u64 (y0.seq : Nat), .bool y0.del, .string (bs y0.val)] 37) := ⟨_, rfl⟩
          rw [← hw9]
          have k79 : Kept w7 w9 := by rw [hw9]; exact ((Kept.refl w7).alloc _).alloc _
          have by9 : w9.heap[w7.heap.size]? = some (.cells #[.string (bs x0.key), .int .u64 (x0.seq : Nat), .bool x0.del, .string (bs x0.val)] 37 (0, 0)) := by rw [hw9]; exact mblk_kept (malloc_new w7 (.cells #[.string (bs x0.key), .int .u64 (x0.seq : Nat), .bool x0.del, .string (bs x0.val)] 37)) ((Kept.refl _).alloc _)
          have bz9 : w9.heap[w7.heap.size + 1]? = some (.cells #[.string (bs y0.key), .int .u64 (y0.seq : Nat), .bool y0.del, .string (bs y0.val)] 37 (0, 0)) := by
            rw [hw9]; have := malloc_new (w7.alloc (.cells #[.string (bs x0.key), .int .u64 (x0.seq : Nat), .bool x0.del, .string (bs x0.val)] 37)) (.cells #[.string (bs y0.key), .int .u64 (y0.seq : Nat), .bool y0.del, .string (bs y0.val)] 37); rwa [malloc_size] at this
          have K9 := Lib.hid (kept_trans K7.out k79)
          have HT9 := Lib.hid (HT7.out.kept k79)
          have HE9 := Lib.hid (HELS.out.kept K9.out)
          have HY := Lib.hid (tw_box (x := x0) by9); have HZ := Lib.hid (tw_box (x := y0) bz9)
          have HL0 := Lib.hid (te_cells HE9.out HX0.out (j := o) (by omega))
          have HLL := Lib.hid (te_cells HE9.out HY0.out (j := o + 4 * (l.length - 1)) (by omega))
          obtain ⟨zb, hzb⟩ : ∃ zb, zb = w7.heap.size := ⟨_, rfl⟩
          rw [← hzb] at HY HZ ⊢
          have hwl : IntKind.i64.wrap ((l.length : Int) - 1) = ((l.length - 1 : Nat) : Int) := by rw [IntKind.wrap_i64]; omega
          clear hw9 k79 by9 bz9 hzb HT7 K7
          have HFR := Lib.hid (fun (W : World) (g : Kept w9 W) => (by have := tfrom_any (HT9.out.kept g) HT.out k a1 b1 b2; rw [← HNN.out, HFRM.out, HML.out] at this; exact this : Calls Try.prog 20 #[.pointer (some ⟨p, 0, none⟩), .string (bs k), .int .i64 a1] W fun e w' => ∃ B c, e = .returned (.slice B 0 c) ∧ Elr W.heap.size w' B c ((l.drop i).take 0) ∧ Kept W w'))
          have HSM := Lib.hid (fun (W : World) (B : Option Addr) (c : Nat) (g : Kept w9 W) (h : Els W B ((l.drop i).take 0)) => (by have := msame_any B (some ⟨b, o + 4 * i, none⟩) c (cap - i) ((l.drop i).take 0) ((l.drop i).take 0) (by rw [HML.out]; omega) (by rw [HML.out]; omega) W h (HRE.out W (kept_trans K9.out g)); rw [HML.out, decide_eq_true rfl] at this; exact this.mono (fun e w' ⟨h1, q, h2⟩ => ⟨h1, by rw [h2]; exact kept_drewN W q⟩) : Calls Try.prog 11 #[.slice B 0 c, .slice (some ⟨b, o + 4 * i, none⟩) 0 (cap - i)] W fun e w' => e = .returned (.bool true) ∧ Kept W w'))
          clear HFRM HML HRE HK1 HK2 HTw HKw HE9 HX0 HY0 HELS HT HNN
          go_upto_region 16 with fail
          generalize l.length = n at *
          have hn0 : (0 : Int) < (n : Int) := by omega
          have hn2 : n - 1 < n := by omega
          have hn3 : n ≠ 0 := by omega
          refine wp_region_held_drew (S := fun W => KF w9 W) (by kernel_rfl) ⟨kept_drewN w9 1⟩ (fun hHeld => ?_)
          refine wpAnyH_take (i := 0) (v := (.pointer (some ⟨p, 0, none⟩))) (List.getElem?_toArray.trans rfl) (by kernel_rfl) (by kernel_rfl) (by kernel_rfl) (fun _ _ _ h => h) (Or.inl ⟨by rfl, ?_⟩) (by assumption) ?_
          · intro W hSw
            first | rfl | (go_simp; done) | (go_simp; rfl)
          simp only [Act.put, List.setIfInBounds_toArray, List.set_cons_zero, List.set_cons_succ]
          refine wpAnyH_take (i := 1) (v := (.string (bs k))) (List.getElem?_toArray.trans rfl) (by kernel_rfl) (by kernel_rfl) (by kernel_rfl) (fun _ _ _ h => h) (Or.inl ⟨by rfl, ?_⟩) (by assumption) ?_
          · intro W hSw
            first | rfl | (go_simp; done) | (go_simp; rfl)
          simp only [Act.put, List.setIfInBounds_toArray, List.set_cons_zero, List.set_cons_succ]
          refine wpAnyH_take (i := 2) (v := (.int .i64 a1)) (List.getElem?_toArray.trans rfl) (by kernel_rfl) (by kernel_rfl) (by kernel_rfl) (fun _ _ _ h => h) (Or.inl ⟨by rfl, ?_⟩) (by assumption) ?_
          · intro W hSw
            first | rfl | (go_simp; done) | (go_simp; rfl)
          simp only [Act.put, List.setIfInBounds_toArray, List.set_cons_zero, List.set_cons_succ]
          refine wpAnyH_take (i := 4) (v := (.slice (some ⟨b, o + 4 * i, none⟩) 0 (cap - i))) (List.getElem?_toArray.trans rfl) (by kernel_rfl) (by kernel_rfl) (by kernel_rfl) (fun _ _ _ h => h) (Or.inl ⟨by rfl, ?_⟩) (by assumption) ?_
          · intro W hSw
            first | rfl | (go_simp; done) | (go_simp; rfl)
          simp only [Act.put, List.setIfInBounds_toArray, List.set_cons_zero, List.set_cons_succ]
          refine wpAnyH_take (i := 5) (v := (.int .i64 a1)) (List.getElem?_toArray.trans rfl) (by kernel_rfl) (by kernel_rfl) (by kernel_rfl) (fun _ _ _ h => h) (Or.inl ⟨by rfl, ?_⟩) (by assumption) ?_
          · intro W hSw
            first | rfl | (go_simp; done) | (go_simp; rfl)
          simp only [Act.put, List.setIfInBounds_toArray, List.set_cons_zero, List.set_cons_succ]
          refine wpAnyH_take (i := 6) (v := (.int .i64 (N : Nat))) (List.getElem?_toArray.trans rfl) (by kernel_rfl) (by kernel_rfl) (by kernel_rfl) (fun _ _ _ h => h) (Or.inl ⟨by rfl, ?_⟩) (by assumption) ?_
          · intro W hSw
            first | rfl | (go_simp; done) | (go_simp; rfl)
          simp only [Act.put, List.setIfInBounds_toArray, List.set_cons_zero, List.set_cons_succ]
          refine wpAnyH_take (i := 7) (v := (.slice (some ⟨b, o + 4 * i, none⟩) 0 (cap - i))) (List.getElem?_toArray.trans rfl) (by kernel_rfl) (by kernel_rfl) (by kernel_rfl) (fun _ _ _ h => h) (Or.inl ⟨by rfl, ?_⟩) (by assumption) ?_
          · intro W hSw
            first | rfl | (go_simp; done) | (go_simp; rfl)
          simp only [Act.put, List.setIfInBounds_toArray, List.set_cons_zero, List.set_cons_succ]
          refine wpAnyH_take (i := 8) (v := (.int .i64 0)) (List.getElem?_toArray.trans rfl) (by kernel_rfl) (by kernel_rfl) (by kernel_rfl) (fun _ _ _ h => h) (Or.inl ⟨by rfl, ?_⟩) (by assumption) ?_
          · intro W hSw
            first | rfl | (go_simp; done) | (go_simp; rfl)
          simp only [Act.put, List.setIfInBounds_toArray, List.set_cons_zero, List.set_cons_succ]
          refine wpAnyH_take (i := 9) (v := (.int .i64 0)) (List.getElem?_toArray.trans rfl) (by kernel_rfl) (by kernel_rfl) (by kernel_rfl) (fun _ _ _ h => h) (Or.inl ⟨by rfl, ?_⟩) (by assumption) ?_
          · intro W hSw
            first | rfl | (go_simp; done) | (go_simp; rfl)
          simp only [Act.put, List.setIfInBounds_toArray, List.set_cons_zero, List.set_cons_succ]
          refine wpAnyH_take (i := 10) (v := (.slice (some ⟨b, o + 4 * i, none⟩) 0 (cap - i))) (List.getElem?_toArray.trans rfl) (by kernel_rfl) (by kernel_rfl) (by kernel_rfl) (fun _ _ _ h => h) (Or.inl ⟨by rfl, ?_⟩) (by assumption) ?_
          · intro W hSw
            first | rfl | (go_simp; done) | (go_simp; rfl)
          simp only [Act.put, List.setIfInBounds_toArray, List.set_cons_zero, List.set_cons_succ]
          refine wpAnyH_ready (rs := [3]) (by kernel_rfl) (by simp) ?_
          refine AllReadyH.cons (List.getElem?_toArray.trans rfl) (fun K hK => ?_) AllReadyH.nil
          go_simp
          refine (HFR.out _ hHeld.k).mono ?_
          rintro e w22 ⟨B22, c22, rfl, hel22, g22⟩
          have HE22 := Lib.hid hel22.els
          have HK22 := Lib.hid (kept_trans hHeld.k g22)
          clear hel22
          go_wp2_with fail
          refine hK.out _ _ ⟨kept_trans hHeld.k g22⟩ (fun hHeld => ?_)
          clear hK K
          refine wpAnyH_ready (rs := [11]) (by kernel_rfl) (by simp) ?_
          refine AllReadyH.cons (List.getElem?_toArray.trans rfl) (fun K hK => ?_) AllReadyH.nil
          go_simp
          refine (HSM.out _ _ _ HK22.out HE22.out).mono ?_
          rintro e w23 ⟨rfl, g23⟩
          go_wp2_with fail
          refine hK.out _ _ ⟨kept_trans HK22.out g23⟩ (fun hHeld => ?_)
          clear hK K
          refine wpAnyH_take (i := 12) (v := (.bool true)) (List.getElem?_toArray.trans rfl) (by kernel_rfl) (by kernel_rfl) (by kernel_rfl) (fun _ _ _ h => h) (Or.inl ⟨by rfl, ?_⟩) (by assumption) ?_
          · intro W hSw
            first | rfl | (go_simp; done) | (go_simp; rfl)
          simp only [Act.put, List.setIfInBounds_toArray, List.set_cons_zero, List.set_cons_succ]
          refine wpAnyH_take (i := 13) (v := (.agg #[.string (bs x0.key), .int .u64 (x0.seq : Nat), .bool x0.del, .string (bs x0.val)])) (List.getElem?_toArray.trans rfl) (by kernel_rfl) (by kernel_rfl) (by kernel_rfl) (fun _ _ _ h => h) (Or.inl ⟨by rfl, ?_⟩) (by assumption) ?_
          · intro W hSw
            obtain ⟨q0, q1, q2, q3⟩ := HY.out W hSw.k
            first | (go_simp; done) | (go_simp; rfl)
          simp only [Act.put, List.setIfInBounds_toArray, List.set_cons_zero, List.set_cons_succ]
          refine wpAnyH_take (i := 14) (v := (.slice (some ⟨b, o, none⟩) n cap)) (List.getElem?_toArray.trans rfl) (by kernel_rfl) (by kernel_rfl) (by kernel_rfl) (fun _ _ _ h => h) (Or.inl ⟨by rfl, ?_⟩) (by assumption) ?_
          · intro W hSw
            first | rfl | (go_simp; done) | (go_simp; rfl)
          simp only [Act.put, List.setIfInBounds_toArray, List.set_cons_zero, List.set_cons_succ]
          refine wpAnyH_take (i := 15) (v := (.pointer (some ⟨b, o, none⟩))) (List.getElem?_toArray.trans rfl) (by kernel_rfl) (by kernel_rfl) (by kernel_rfl) (fun _ _ _ h => h) (Or.inl ⟨by rfl, ?_⟩) (by assumption) ?_
          · intro W hSw
            first | rfl | (go_simp; done) | (go_simp; rfl)
          simp only [Act.put, List.setIfInBounds_toArray, List.set_cons_zero, List.set_cons_succ]
          refine wpAnyH_take (i := 16) (v := (.agg #[.string (bs x0.key), .int .u64 (x0.seq : Nat), .bool x0.del, .string (bs x0.val)])) (List.getElem?_toArray.trans rfl) (by kernel_rfl) (by kernel_rfl) (by kernel_rfl) (fun _ _ _ h => h) (Or.inl ⟨by rfl, ?_⟩) (by assumption) ?_
          · intro W hSw
            obtain ⟨q0, q1, q2, q3⟩ := HL0.out W hSw.k
            first | (go_simp; done) | (go_simp; rfl)
          simp only [Act.put, List.setIfInBounds_toArray, List.set_cons_zero, List.set_cons_succ]
          refine wpAnyH_take (i := 17) (v := (.bool true)) (List.getElem?_toArray.trans rfl) (by kernel_rfl) (by kernel_rfl) (by kernel_rfl) (fun _ _ _ h => h) (Or.inl ⟨by rfl, ?_⟩) (by assumption) ?_
          · intro W hSw
            first | rfl | (go_simp; done) | (go_simp; rfl)
          simp only [Act.put, List.setIfInBounds_toArray, List.set_cons_zero, List.set_cons_succ]
          refine wpAnyH_take (i := 18) (v := (.bool true)) (List.getElem?_toArray.trans rfl) (by kernel_rfl) (by kernel_rfl) (by kernel_rfl) (fun _ _ _ h => h) (Or.inl ⟨by rfl, ?_⟩) (by assumption) ?_
          · intro W hSw
            first | rfl | (go_simp; done) | (go_simp; rfl)
          simp only [Act.put, List.setIfInBounds_toArray, List.set_cons_zero, List.set_cons_succ]
          refine wpAnyH_take (i := 19) (v := (.bool true)) (List.getElem?_toArray.trans rfl) (by kernel_rfl) (by kernel_rfl) (by kernel_rfl) (fun _ _ _ h => h) (Or.inl ⟨by rfl, ?_⟩) (by assumption) ?_
          · intro W hSw
            first | rfl | (go_simp; done) | (go_simp; rfl)
          simp only [Act.put, List.setIfInBounds_toArray, List.set_cons_zero, List.set_cons_succ]
          refine wpAnyH_take (i := 20) (v := (.agg #[.string (bs y0.key), .int .u64 (y0.seq : Nat), .bool y0.del, .string (bs y0.val)])) (List.getElem?_toArray.trans rfl) (by kernel_rfl) (by kernel_rfl) (by kernel_rfl) (fun _ _ _ h => h) (Or.inl ⟨by rfl, ?_⟩) (by assumption) ?_
          · intro W hSw
            obtain ⟨q0, q1, q2, q3⟩ := HZ.out W hSw.k
            first | (go_simp; done) | (go_simp; rfl)
          simp only [Act.put, List.setIfInBounds_toArray, List.set_cons_zero, List.set_cons_succ]
          refine wpAnyH_take (i := 21) (v := (.slice (some ⟨b, o, none⟩) n cap)) (List.getElem?_toArray.trans rfl) (by kernel_rfl) (by kernel_rfl) (by kernel_rfl) (fun _ _ _ h => h) (Or.inl ⟨by rfl, ?_⟩) (by assumption) ?_
          · intro W hSw
            first | rfl | (go_simp; done) | (go_simp; rfl)
          simp only [Act.put, List.setIfInBounds_toArray, List.set_cons_zero, List.set_cons_succ]
          refine wpAnyH_take (i := 22) (v := (.slice (some ⟨b, o, none⟩) n cap)) (List.getElem?_toArray.trans rfl) (by kernel_rfl) (by kernel_rfl) (by kernel_rfl) (fun _ _ _ h => h) (Or.inl ⟨by rfl, ?_⟩) (by assumption) ?_
          · intro W hSw
            first | rfl | (go_simp; done) | (go_simp; rfl)
          simp only [Act.put, List.setIfInBounds_toArray, List.set_cons_zero, List.set_cons_succ]
          refine wpAnyH_take (i := 23) (v := (.int .i64 (n : Nat))) (List.getElem?_toArray.trans rfl) (by kernel_rfl) (by kernel_rfl) (by kernel_rfl) (fun _ _ _ h => h) (Or.inl ⟨by rfl, ?_⟩) (by assumption) ?_
          · intro W hSw
            first | rfl | (go_simp; done) | (go_simp; rfl)
          simp only [Act.put, List.setIfInBounds_toArray, List.set_cons_zero, List.set_cons_succ]
          refine wpAnyH_take (i := 24) (v := (.int .i64 (n - 1 : Nat))) (List.getElem?_toArray.trans rfl) (by kernel_rfl) (by kernel_rfl) (by kernel_rfl) (fun _ _ _ h => h) (Or.inl ⟨by rfl, ?_⟩) (by assumption) ?_
          · intro W hSw
            first | rfl | (go_simp; done) | (go_simp; rfl)
          simp only [Act.put, List.setIfInBounds_toArray, List.set_cons_zero, List.set_cons_succ]
          refine wpAnyH_take (i := 25) (v := (.pointer (some ⟨b, o + 4 * (n - 1), none⟩))) (List.getElem?_toArray.trans rfl) (by kernel_rfl) (by kernel_rfl) (by kernel_rfl) (fun _ _ _ h => h) (Or.inl ⟨by rfl, ?_⟩) (by assumption) ?_
          · intro W hSw
            first | rfl | (go_simp; done) | (go_simp; rfl)
          simp only [Act.put, List.setIfInBounds_toArray, List.set_cons_zero, List.set_cons_succ]
          refine wpAnyH_take (i := 26) (v := (.agg #[.string (bs y0.key), .int .u64 (y0.seq : Nat), .bool y0.del, .string (bs y0.val)])) (List.getElem?_toArray.trans rfl) (by kernel_rfl) (by kernel_rfl) (by kernel_rfl) (fun _ _ _ h => h) (Or.inl ⟨by rfl, ?_⟩) (by assumption) ?_
          · intro W hSw
            obtain ⟨q0, q1, q2, q3⟩ := HLL.out W hSw.k
            first | (go_simp; done) | (go_simp; rfl)
          simp only [Act.put, List.setIfInBounds_toArray, List.set_cons_zero, List.set_cons_succ]
          refine wpAnyH_take (i := 27) (v := (.bool true)) (List.getElem?_toArray.trans rfl) (by kernel_rfl) (by kernel_rfl) (by kernel_rfl) (fun _ _ _ h => h) (Or.inl ⟨by rfl, ?_⟩) (by assumption) ?_
          · intro W hSw
            first | rfl | (go_simp; done) | (go_simp; rfl)
          simp only [Act.put, List.setIfInBounds_toArray, List.set_cons_zero, List.set_cons_succ]
          refine wpAnyH_take (i := 28) (v := (.bool true)) (List.getElem?_toArray.trans rfl) (by kernel_rfl) (by kernel_rfl) (by kernel_rfl) (fun _ _ _ h => h) (Or.inl ⟨by rfl, ?_⟩) (by assumption) ?_
          · intro W hSw
            first | rfl | (go_simp; done) | (go_simp; rfl)
          simp only [Act.put, List.setIfInBounds_toArray, List.set_cons_zero, List.set_cons_succ]
          refine wpAnyH_take (i := 29) (v := (.bool true)) (List.getElem?_toArray.trans rfl) (by kernel_rfl) (by kernel_rfl) (by kernel_rfl) (fun _ _ _ h => h) (Or.inl ⟨by rfl, ?_⟩) (by assumption) ?_
          · intro W hSw
            first | rfl | (go_simp; done) | (go_simp; rfl)
          simp only [Act.put, List.setIfInBounds_toArray]
          refine wpAnyH_done (by kernel_rfl) ?_ _
          go_wp2_with fail
          go_ret
          exact ⟨rfl, kept_trans K9.out hHeld.k⟩
    · have hbd := HBD.out
      rw [(Tb.encS_no hT).1, (Tb.encS_no hT).2] at hbd
      have HBDE := Lib.hid hbd
      clear hT hbd HBD HT0
      go_wp2_with fail
      refine HBDE.out.mono ?_
      rintro e w3 ⟨rfl, g3⟩
      go_wp2_with fail
      go_ret
      exact ⟨rfl, kept_trans K2.out g3⟩
end Go.Proofs.Ytecjnebfhbdnaaa
