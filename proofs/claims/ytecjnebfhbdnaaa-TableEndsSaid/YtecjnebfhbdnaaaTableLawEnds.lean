/-
  The walk of screelaw11.TableEnds.
-/
import Derived.Test.YtecjnebfhbdnaaaTableArgs
import Derived.Test.YtecjnebfhbdnaaaTableAwake
import Derived.Test.YtecjnebfhbdnaaaTableLawGets
import Derived.OpenShut
import Derived.RegionTactic
import Derived.Deep.RegionHeld3
namespace Go.Proofs.Ytecjnebfhbdnaaa
open Go.ChangeShapes Go.WideShapes Go.ChangeAt Go.RowKit
set_option linter.unusedVariables false
set_option maxRecDepth 100000
set_option maxHeartbeats 40000000

theorem tn_find {l : List Mm.Ent} (hT : Tb.isT l = true) {K : Nat} {x : Mm.Ent} (hx : l[K]? = some x) : l.find? (Mm.mt x.key x.seq) = some x := by
  refine Tb.find_hit ?_ hx (Mm.mt_iff.2 ⟨rfl, Nat.le_refl _⟩)
  rw [List.find?_eq_none]
  intro y hy hm
  obtain ⟨j, hj⟩ := List.getElem?_of_mem hy
  rw [List.getElem?_take] at hj
  split at hj
  · rename_i hlt
    have hab := (Mg.row_iff.1 (Tb.isT_iff.1 hT).2.2.2).lt hj hx hlt
    obtain ⟨m1, m2⟩ := Mm.mt_iff.1 hm
    rcases Mg.ab_iff.1 hab with q | ⟨_, q⟩
    · rw [m1] at q; exact List.lt_irrefl _ q
    · omega
  · cases hj
theorem tn_cells {W : World} {b o : Nat} {l : List Mm.Ent} (h : Els W (some ⟨b, o, none⟩) l) {i j : Nat} {x : Mm.Ent} (hx : l[i]? = some x) (hj : j = o + i * 4) (W' : World) (g : Kept W W') : W'.cell? ⟨b, j, none⟩ = some (.string (bs x.key)) ∧ W'.cell? ⟨b, j + 1, none⟩ = some (.int .u64 (x.seq : Nat)) ∧ W'.cell? ⟨b, j + 2, none⟩ = some (.bool x.del) ∧ W'.cell? ⟨b, j + 3, none⟩ = some (.string (bs x.val)) := by
  obtain ⟨b', o', e, hb, c0, c1, c2, c3⟩ := h i x hx
  cases e
  rw [← hj] at c0 c1 c2 c3
  exact ⟨(kept_cell g hb).trans c0, (kept_cell g hb).trans c1, (kept_cell g hb).trans c2, (kept_cell g hb).trans c3⟩
structure KE2 (a b : World) : Prop where
  k : Kept a b

theorem TableEnds_walk (A : Option Addr) (cap : Nat) (l : List Mm.Ent) (a1 : Int) {w : World} (ha : Els w A l) (hl : l.length ≤ cap ∧ cap ≤ maxLen ∧ OkEs l) (h1 : (Lit.int .u16 a1).wf = true) :
    Calls Try.prog 6 #[.slice A l.length cap, .int .u16 a1] w fun e w' => e = .returned (.bool true) ∧ Kept w w' := by
  obtain ⟨hc, hm, ho⟩ := hl
  have hb1 := bounds_u16 h1
  obtain ⟨s, rfl⟩ : ∃ s : Nat, a1 = (s : Int) := ⟨a1.toNat, by omega⟩
  have HLG := Lib.hid (fun (W : World) (k : Kept w W) => tlarge_any cap (ha.kept k) (by omega) (fun x hx => ⟨(ho x hx).1, (ho x hx).2.1⟩))
  have HBD0 := Lib.hid (fun (W : World) (k : Kept w W) => tbuild_any cap (ha.kept k) hc hm (fun x hx => ⟨(ho x hx).1, (ho x hx).2.1⟩))
  have HAW := Lib.hid (tawake_any w)
  have HT0 := Lib.hid (show Tb.isT l = true ∨ Tb.isT l = false by cases Tb.isT l <;> simp)
  have HELS := Lib.hid ha
  have hkm := hc
  have hcm := hm
  unfold maxLen at hcm
  clear ho ha
  go_enter Try.func6, Try.ntmps6
  go_wp2_with fail
  refine HAW.out.mono ?_
  rintro e w1 ⟨rfl, g1⟩
  have HL1 := Lib.hid (HLG.out w1 g1)
  go_wp2_with fail
  refine HL1.out.mono ?_
  rintro e w2 ⟨B, rfl, g2⟩
  cases B with
  | true =>
    go_wp2_with fail
    go_ret
    exact ⟨rfl, kept_trans g1 g2⟩
  | false =>
    have K2 := Lib.hid (kept_trans g1 g2)
    have HBD := Lib.hid (HBD0.out w2 K2.out)
    clear g1 g2 HL1 HLG HAW HBD0
    rcases HT0.out with hT | hT
    · have HT := Lib.hid hT
      have hbd := HBD.out
      rw [(Tb.encS_yes hT).1, (Tb.encS_yes hT).2] at hbd
      have HBDE := Lib.hid hbd
      have HOE := Lib.hid (fun W => topen_enc hT W)
      have hl500 := (Tb.isT_iff.1 hT).2.1
      have hl1 := (Tb.isT_iff.1 hT).1
      obtain ⟨x0, hx0⟩ : ∃ x, l[0]? = some x := ⟨_, List.getElem?_eq_getElem (by omega)⟩
      obtain ⟨y0, hy0⟩ : ∃ y, l[l.length - 1]? = some y := ⟨_, List.getElem?_eq_getElem (by omega)⟩
      obtain ⟨b, o, rfl, hbb, _, _, _, _⟩ := HELS.out 0 x0 hx0
      have HX0 := Lib.hid hx0; have HY0 := Lib.hid hy0
      generalize bs (Tb.enc l) = ES at *
      clear hT hbd HBD HT0 hx0 hy0
      go_wp2_with fail
      refine HBDE.out.mono ?_
      rintro e w3 ⟨rfl, g3⟩
      go_wp2_with fail
      refine (HOE.out _).mono ?_
      rintro e w4 ⟨p, rfl, hT4, hpw, g4⟩
      have HT4 := Lib.hid hT4
      have K4 := Lib.hid (kept_trans K2.out (kept_trans g3 g4))
      clear g3 g4 hT4 HBDE HOE hpw K2
      obtain ⟨K, hK⟩ : ∃ K, K = s % l.length := ⟨_, rfl⟩
      have hKl : K < l.length := by rw [hK]; exact Nat.mod_lt _ (by omega)
      have wcv : IntKind.i64.wrap (s : Int) = (s : Int) := by rw [IntKind.wrap_i64]; omega
      have hrem : ((s : Int).tmod (l.length : Int)) = (K : Int) := by rw [Int.tmod_eq_emod_of_nonneg (by omega), hK]; rfl
      have wK : IntKind.i64.wrap (K : Int) = (K : Int) := by rw [IntKind.wrap_i64]; omega
      have hnz : ((l.length : Int) == 0) = false := by rw [beq_eq_false_iff_ne]; omega
      obtain ⟨x, hx⟩ : ∃ x, l[K]? = some x := ⟨_, List.getElem?_eq_getElem hKl⟩
      have HXK := Lib.hid hx
      have hxm := Tb.isT_iff.1 HT.out |>.2.2.1 x (List.mem_of_getElem? hx)
      have hkl : x.key.length ≤ maxLen := by have := (Mm.may_iff.1 hxm).2.1; unfold maxLen; omega
      have HKL := Lib.hid hkl
      clear hx hxm hK hkl
      have he := tends_any HT4.out HT.out HX0.out HY0.out
      unfold entV at he
      have HEN := Lib.hid he
      clear he
      go_wp2_with fail
      refine HEN.out.mono ?_
      rintro e w7 ⟨rfl, g7⟩
      have HT7 := Lib.hid (HT4.out.kept g7)
      have K7 := Lib.hid (kept_trans K4.out g7)
      clear g7 HEN
      go_wp2_with fail
      obtain ⟨w9, hw9⟩ : ∃ w9, w9 = (w7.alloc (.cells #[.string (bs x0.key), .int .u64 (x0.seq : Nat), .bool x0.del, .string (bs x0.val)] 37)).alloc (.cells #[.string (bs y0.key), .int .u64 (y0.seq : Nat), .bool y0.del, .string (bs y0.val)] 37) := ⟨_, rfl⟩
      rw [← hw9]
      have k79 : Kept w7 w9 := by rw [hw9]; exact ((Kept.refl w7).alloc _).alloc _
      have by9 : w9.heap[w7.heap.size]? = some (.cells #[.string (bs x0.key), .int .u64 (x0.seq : Nat), .bool x0.del, .string (bs x0.val)] 37 (0, 0)) := by rw [hw9]; exact mblk_kept (malloc_new w7 (.cells #[.string (bs x0.key), .int .u64 (x0.seq : Nat), .bool x0.del, .string (bs x0.val)] 37)) ((Kept.refl _).alloc _)
      have bz9 : w9.heap[w7.heap.size + 1]? = some (.cells #[.string (bs y0.key), .int .u64 (y0.seq : Nat), .bool y0.del, .string (bs y0.val)] 37 (0, 0)) := by
        rw [hw9]; have := malloc_new (w7.alloc (.cells #[.string (bs x0.key), .int .u64 (x0.seq : Nat), .bool x0.del, .string (bs x0.val)] 37)) (.cells #[.string (bs y0.key), .int .u64 (y0.seq : Nat), .bool y0.del, .string (bs y0.val)] 37); rwa [malloc_size] at this
      have K9 := Lib.hid (kept_trans K7.out k79)
      have HT9 := Lib.hid (HT7.out.kept k79)
      have HE9 := Lib.hid (HELS.out.kept K9.out)
      have HY := Lib.hid (tw_box (x := x0) by9); have HZ := Lib.hid (tw_box (x := y0) bz9)
      have HL0 := Lib.hid (tn_cells HE9.out HX0.out (j := o) (by omega))
      have HLL := Lib.hid (tn_cells HE9.out HY0.out (j := o + 4 * (l.length - 1)) (by omega))
      obtain ⟨zb, hzb⟩ : ∃ zb, zb = w7.heap.size := ⟨_, rfl⟩
      rw [← hzb] at HY HZ ⊢
      have hwl : IntKind.i64.wrap ((l.length : Int) - 1) = ((l.length - 1 : Nat) : Int) := by rw [IntKind.wrap_i64]; omega
      clear hw9 k79 by9 bz9 hzb HT7 K7
      have HLK := Lib.hid (tn_cells HE9.out HXK.out (j := o + 4 * K) (by omega))
      have hgt := fun (W : World) (g : Kept w9 W) => tget_any (HT9.out.kept g) HT.out x.key HKL.out x.seq
      rw [tn_find HT.out HXK.out] at hgt
      unfold tgV entV at hgt
      simp only [Option.getD_some, Option.isSome_some] at hgt
      have HGT := Lib.hid hgt
      obtain ⟨q0, q1, q2, q3⟩ := HLK.out w9.drew (kept_drewN w9 1)
      clear hgt hnz hrem wcv
      have hxlt := K9
      go_upto_region 13 with fail
      go_cut [12, 13] from 46 (fun p q wc => q = .bool true ∧ Kept w9 wc ∧ ∃ X, p = .pointer (some ⟨X, 0, none⟩) ∧ wc.heap[X]? = some (.cells #[.string (bs x.key), .int .u64 (x.seq : Nat), .bool x.del, .string (bs x.val)] 37 (0, 0)))
      case first =>
        refine wp_region_held_drew (S := fun W => KE2 w9 W) (by kernel_rfl) ⟨kept_drewN w9 1⟩ (fun hHeld => ?_)
        refine wpAnyH_take (i := 0) (v := (.pointer (some ⟨p, 0, none⟩))) (List.getElem?_toArray.trans rfl) (by kernel_rfl) (by kernel_rfl) (by kernel_rfl) (fun _ _ _ h => h) (Or.inl ⟨by rfl, ?_⟩) (by assumption) ?_
        · intro W hSw
          first | rfl | (go_simp; done) | (go_simp; rfl)
        simp only [Act.put, List.setIfInBounds_toArray, List.set_cons_zero, List.set_cons_succ]
        refine wpAnyH_take (i := 1) (v := (.slice (some ⟨b, o, none⟩) l.length cap)) (List.getElem?_toArray.trans rfl) (by kernel_rfl) (by kernel_rfl) (by kernel_rfl) (fun _ _ _ h => h) (Or.inl ⟨by rfl, ?_⟩) (by assumption) ?_
        · intro W hSw
          first | rfl | (go_simp; done) | (go_simp; rfl)
        simp only [Act.put, List.setIfInBounds_toArray, List.set_cons_zero, List.set_cons_succ]
        refine wpAnyH_take (i := 2) (v := (.int .i64 (K : Nat))) (List.getElem?_toArray.trans rfl) (by kernel_rfl) (by kernel_rfl) (by kernel_rfl) (fun _ _ _ h => h) (Or.inl ⟨by rfl, ?_⟩) (by assumption) ?_
        · intro W hSw
          first | rfl | (go_simp; done) | (go_simp; rfl)
        simp only [Act.put, List.setIfInBounds_toArray, List.set_cons_zero, List.set_cons_succ]
        refine wpAnyH_take (i := 3) (v := (.pointer (some ⟨b, o + 4 * K, none⟩))) (List.getElem?_toArray.trans rfl) (by kernel_rfl) (by kernel_rfl) (by kernel_rfl) (fun _ _ _ h => h) (Or.inl ⟨by rfl, ?_⟩) (by assumption) ?_
        · intro W hSw
          first | rfl | (go_simp; done) | (go_simp; rfl)
        simp only [Act.put, List.setIfInBounds_toArray, List.set_cons_zero, List.set_cons_succ]
        refine wpAnyH_take (i := 4) (v := (.pointer (some ⟨b, o + 4 * K, none⟩))) (List.getElem?_toArray.trans rfl) (by kernel_rfl) (by kernel_rfl) (by kernel_rfl) (fun _ _ _ h => h) (Or.inl ⟨by rfl, ?_⟩) (by assumption) ?_
        · intro W hSw
          first | rfl | (go_simp; done) | (go_simp; rfl)
        simp only [Act.put, List.setIfInBounds_toArray, List.set_cons_zero, List.set_cons_succ]
        refine wpAnyH_take (i := 5) (v := (.string (bs x.key))) (List.getElem?_toArray.trans rfl) (by kernel_rfl) (by kernel_rfl) (by kernel_rfl) (fun _ _ _ h => h) (Or.inl ⟨by rfl, ?_⟩) (by assumption) ?_
        · intro W hSw
          obtain ⟨q0, q1, q2, q3⟩ := HLK.out W hSw.k
          first | (go_simp; done) | (go_simp; rfl)
        simp only [Act.put, List.setIfInBounds_toArray, List.set_cons_zero, List.set_cons_succ]
        refine wpAnyH_take (i := 6) (v := (.slice (some ⟨b, o, none⟩) l.length cap)) (List.getElem?_toArray.trans rfl) (by kernel_rfl) (by kernel_rfl) (by kernel_rfl) (fun _ _ _ h => h) (Or.inl ⟨by rfl, ?_⟩) (by assumption) ?_
        · intro W hSw
          first | rfl | (go_simp; done) | (go_simp; rfl)
        simp only [Act.put, List.setIfInBounds_toArray, List.set_cons_zero, List.set_cons_succ]
        refine wpAnyH_take (i := 7) (v := (.int .i64 (K : Nat))) (List.getElem?_toArray.trans rfl) (by kernel_rfl) (by kernel_rfl) (by kernel_rfl) (fun _ _ _ h => h) (Or.inl ⟨by rfl, ?_⟩) (by assumption) ?_
        · intro W hSw
          first | rfl | (go_simp; done) | (go_simp; rfl)
        simp only [Act.put, List.setIfInBounds_toArray, List.set_cons_zero, List.set_cons_succ]
        refine wpAnyH_take (i := 8) (v := (.pointer (some ⟨b, o + 4 * K, none⟩))) (List.getElem?_toArray.trans rfl) (by kernel_rfl) (by kernel_rfl) (by kernel_rfl) (fun _ _ _ h => h) (Or.inl ⟨by rfl, ?_⟩) (by assumption) ?_
        · intro W hSw
          first | rfl | (go_simp; done) | (go_simp; rfl)
        simp only [Act.put, List.setIfInBounds_toArray, List.set_cons_zero, List.set_cons_succ]
        refine wpAnyH_take (i := 9) (v := (.pointer (some ⟨b, o + 4 * K + 1, none⟩))) (List.getElem?_toArray.trans rfl) (by kernel_rfl) (by kernel_rfl) (by kernel_rfl) (fun _ _ _ h => h) (Or.inl ⟨by rfl, ?_⟩) (by assumption) ?_
        · intro W hSw
          first | rfl | (go_simp; done) | (go_simp; rfl)
        simp only [Act.put, List.setIfInBounds_toArray, List.set_cons_zero, List.set_cons_succ]
        refine wpAnyH_take (i := 10) (v := (.int .u64 (x.seq : Nat))) (List.getElem?_toArray.trans rfl) (by kernel_rfl) (by kernel_rfl) (by kernel_rfl) (fun _ _ _ h => h) (Or.inl ⟨by rfl, ?_⟩) (by assumption) ?_
        · intro W hSw
          obtain ⟨q0, q1, q2, q3⟩ := HLK.out W hSw.k
          first | (go_simp; done) | (go_simp; rfl)
        simp only [Act.put, List.setIfInBounds_toArray, List.set_cons_zero, List.set_cons_succ]
        refine wpAnyH_ready (rs := [11, 15]) (by kernel_rfl) (by simp) ?_
        refine AllReadyH.cons (List.getElem?_toArray.trans rfl) (fun K hK => ?_) (AllReadyH.cons (List.getElem?_toArray.trans rfl) (fun K hK => ?_) AllReadyH.nil)
        · go_simp
          refine (HGT.out _ hHeld.k).mono ?_
          rintro e w10 ⟨rfl, g10⟩
          go_wp2_with fail
          have kk := kept_trans hHeld.k g10
          refine hK.out _ _ ⟨kk⟩ (fun hHeld => ?_)
          clear hK K
          refine wpAnyH_take (i := 12) (v := (.tuple #[(.agg #[.string (bs x.key), .int .u64 (x.seq : Nat), .bool x.del, .string (bs x.val)]), .bool true])) (List.getElem?_toArray.trans rfl) (by kernel_rfl) (by kernel_rfl) (by kernel_rfl) (fun _ _ _ h => h) (Or.inl ⟨by rfl, ?_⟩) (by assumption) ?_
          · intro W hSw
            first | rfl | (go_simp; done) | (go_simp; rfl)
          simp only [Act.put, List.setIfInBounds_toArray, List.set_cons_zero, List.set_cons_succ]
          refine wpAnyH_take (i := 13) (v := (.agg #[.string (bs x.key), .int .u64 (x.seq : Nat), .bool x.del, .string (bs x.val)])) (List.getElem?_toArray.trans rfl) (by kernel_rfl) (by kernel_rfl) (by kernel_rfl) (fun _ _ _ h => h) (Or.inl ⟨by rfl, ?_⟩) (by assumption) ?_
          · intro W hSw
            first | rfl | (go_simp; done) | (go_simp; rfl)
          simp only [Act.put, List.setIfInBounds_toArray, List.set_cons_zero, List.set_cons_succ]
          refine wpAnyH_take (i := 14) (v := (.bool true)) (List.getElem?_toArray.trans rfl) (by kernel_rfl) (by kernel_rfl) (by kernel_rfl) (fun _ _ _ h => h) (Or.inl ⟨by rfl, ?_⟩) (by assumption) ?_
          · intro W hSw
            first | rfl | (go_simp; done) | (go_simp; rfl)
          simp only [Act.put, List.setIfInBounds_toArray, List.set_cons_zero, List.set_cons_succ]
          refine wpAnyH_ready (rs := [15]) (by kernel_rfl) (by simp) ?_
          refine AllReadyH.cons (List.getElem?_toArray.trans rfl) (fun K hK => ?_) AllReadyH.nil
          go_simp
          refine hK.out _ _ ⟨kept_trans hHeld.k ((Kept.refl _).alloc _)⟩ (fun hHeld => ?_)
          clear hK K
          refine wpAnyH_ready (rs := [16]) (by kernel_rfl) (by simp) ?_
          refine AllReadyH.cons (List.getElem?_toArray.trans rfl) (fun K hK => ?_) AllReadyH.nil
          go_simp
          refine hK.out _ _ ⟨kept_trans kk ((Kept.refl _).alloc _)⟩ (fun hHeld => ?_)
          clear hK K
          refine wpAnyH_take (i := 17) (v := (.bool true)) (List.getElem?_toArray.trans rfl) (by kernel_rfl) (by kernel_rfl) (by kernel_rfl) (fun _ _ _ h => h) (Or.inl ⟨by rfl, ?_⟩) (by assumption) ?_
          · intro W hSw
            first | rfl | (go_simp; done) | (go_simp; rfl)
          simp only [Act.put, List.setIfInBounds_toArray]
          refine wpAnyH_done (by kernel_rfl) ?_ _
          go_wp2_with fail
          go_meet
          exact ⟨rfl, kept_trans kk ((Kept.refl _).alloc _), _, rfl, malloc_new _ _⟩
        · go_simp
          refine hK.out _ _ ⟨kept_trans hHeld.k ((Kept.refl _).alloc _)⟩ (fun hHeld => ?_)
          clear hK K
          refine wpAnyH_ready (rs := [11]) (by kernel_rfl) (by simp) ?_
          refine AllReadyH.cons (List.getElem?_toArray.trans rfl) (fun K hK => ?_) AllReadyH.nil
          go_simp
          refine (HGT.out _ hHeld.k).mono ?_
          rintro e w10 ⟨rfl, g10⟩
          go_wp2_with fail
          have kk := kept_trans hHeld.k g10
          refine hK.out _ _ ⟨kk⟩ (fun hHeld => ?_)
          clear hK K
          refine wpAnyH_take (i := 12) (v := (.tuple #[(.agg #[.string (bs x.key), .int .u64 (x.seq : Nat), .bool x.del, .string (bs x.val)]), .bool true])) (List.getElem?_toArray.trans rfl) (by kernel_rfl) (by kernel_rfl) (by kernel_rfl) (fun _ _ _ h => h) (Or.inl ⟨by rfl, ?_⟩) (by assumption) ?_
          · intro W hSw
            first | rfl | (go_simp; done) | (go_simp; rfl)
          simp only [Act.put, List.setIfInBounds_toArray, List.set_cons_zero, List.set_cons_succ]
          refine wpAnyH_take (i := 13) (v := (.agg #[.string (bs x.key), .int .u64 (x.seq : Nat), .bool x.del, .string (bs x.val)])) (List.getElem?_toArray.trans rfl) (by kernel_rfl) (by kernel_rfl) (by kernel_rfl) (fun _ _ _ h => h) (Or.inl ⟨by rfl, ?_⟩) (by assumption) ?_
          · intro W hSw
            first | rfl | (go_simp; done) | (go_simp; rfl)
          simp only [Act.put, List.setIfInBounds_toArray, List.set_cons_zero, List.set_cons_succ]
          refine wpAnyH_take (i := 14) (v := (.bool true)) (List.getElem?_toArray.trans rfl) (by kernel_rfl) (by kernel_rfl) (by kernel_rfl) (fun _ _ _ h => h) (Or.inl ⟨by rfl, ?_⟩) (by assumption) ?_
          · intro W hSw
            first | rfl | (go_simp; done) | (go_simp; rfl)
          simp only [Act.put, List.setIfInBounds_toArray, List.set_cons_zero, List.set_cons_succ]
          have z10 := mblk_kept (w := (w9.alloc (.cells #[.string ⟨#[]⟩, .int .u64 0, .bool false, .string ⟨#[]⟩] 37)).drew) (malloc_new w9 _) g10
          have c0 := mcell (v := .string ⟨#[]⟩) z10 0 rfl; have c1 := mcell (v := .int .u64 0) z10 1 rfl; have c2 := mcell (v := .bool false) z10 2 rfl; have c3 := mcell (v := .string ⟨#[]⟩) z10 3 rfl
          have f0 := mfrozen z10 0; have f1 := mfrozen z10 1; have f2 := mfrozen z10 2; have f3 := mfrozen z10 3
          refine wpAnyH_ready (rs := [16]) (by kernel_rfl) (by simp) ?_
          refine AllReadyH.cons (List.getElem?_toArray.trans rfl) (fun K hK => ?_) AllReadyH.nil
          go_simp
          have kz : Kept w9 ((((w10.setCell ⟨w9.heap.size, 0, none⟩ (.string (bs x.key))).setCell ⟨w9.heap.size, 1, none⟩ (.int .u64 (x.seq : Nat))).setCell ⟨w9.heap.size, 2, none⟩ (.bool x.del)).setCell ⟨w9.heap.size, 3, none⟩ (.string (bs x.val))) := Below.setCell (Below.setCell (Below.setCell (Below.setCell kk (Nat.le_refl _) _) (Nat.le_refl _) _) (Nat.le_refl _) _) (Nat.le_refl _) _
          have hz := mset (mset (mset (mset z10 0 (.string (bs x.key))) 1 (.int .u64 (x.seq : Nat))) 2 (.bool x.del)) 3 (.string (bs x.val))
          refine hK.out _ _ ⟨kz⟩ (fun hHeld => ?_)
          clear hK K
          refine wpAnyH_take (i := 17) (v := (.bool true)) (List.getElem?_toArray.trans rfl) (by kernel_rfl) (by kernel_rfl) (by kernel_rfl) (fun _ _ _ h => h) (Or.inl ⟨by rfl, ?_⟩) (by assumption) ?_
          · intro W hSw
            first | rfl | (go_simp; done) | (go_simp; rfl)
          simp only [Act.put, List.setIfInBounds_toArray]
          refine wpAnyH_done (by kernel_rfl) ?_ _
          go_wp2_with fail
          go_meet
          exact ⟨rfl, kz, _, rfl, hz⟩
      case rest =>
        obtain ⟨rfl, g12, X, rfl, hX⟩ := hcut

        have HX := Lib.hid (tw_box (x := x) hX)
        have K12 := Lib.hid (kept_trans K9.out g12)
        have HYc := Lib.hid (fun (W : World) (g : Kept wc W) => HY.out W (kept_trans g12 g))
        have HZc := Lib.hid (fun (W : World) (g : Kept wc W) => HZ.out W (kept_trans g12 g))
        have HL0c := Lib.hid (fun (W : World) (g : Kept wc W) => HL0.out W (kept_trans g12 g))
        have HLLc := Lib.hid (fun (W : World) (g : Kept wc W) => HLL.out W (kept_trans g12 g))
        have HLKc := Lib.hid (fun (W : World) (g : Kept wc W) => HLK.out W (kept_trans g12 g))
        have hcs := fun (W : World) (g : Kept wc W) => tcost_any (HT9.out.kept (kept_trans g12 g)) HT.out x.key HKL.out x.seq
        rw [Tb.cost_hit HT.out HXK.out (Mm.mt_iff.2 ⟨rfl, Nat.le_refl _⟩)] at hcs
        have HCS := Lib.hid hcs
        have hbk := fun (W : World) (g : Kept wc W) => tblocks_any (HT9.out.kept (kept_trans g12 g))
        obtain ⟨NB, hNB⟩ : ∃ NB, NB = Tb.nb l := ⟨_, rfl⟩
        rw [← hNB] at hbk
        have HBLK := Lib.hid hbk
        obtain ⟨L8, hL8⟩ : ∃ L8, L8 = l.length + 8 := ⟨_, rfl⟩
        obtain ⟨L7, hL7⟩ : ∃ L7, L7 = l.length + 7 := ⟨_, rfl⟩
        have hq1 : IntKind.i64.wrap ((l.length : Int) + 8) = (L8 : Int) := by rw [IntKind.wrap_i64]; omega
        have hq2 : IntKind.i64.wrap ((L8 : Int) - 1) = (L7 : Int) := by rw [IntKind.wrap_i64]; omega
        have hq3 : ((L7 : Int).tdiv 8) = (NB : Int) := by rw [Int.tdiv_eq_ediv_of_nonneg (by omega), hNB]; unfold Tb.nb; omega
        have hq4 : IntKind.i64.wrap (NB : Int) = (NB : Int) := by rw [IntKind.wrap_i64]; unfold Tb.nb at hNB; omega
        have HN8 := Lib.hid hL8
        clear hNB hL8 hL7 hcs hbk hX HY HZ HL0 HLL HLK HT9 g12
        go_upto_region 14 with fail
        generalize l.length = n at *
        have hn0 : (0 : Int) < (n : Int) := by omega
        have hn1 : ((n - 1 : Nat) : Int) < (n : Int) := by omega
        have hn2 : n - 1 < n := by omega
        have hn3 : n ≠ 0 := by omega
        refine wp_region_held_drew (S := fun W => KE2 wc W) (by kernel_rfl) ⟨kept_drewN wc 1⟩ (fun hHeld => ?_)
        refine wpAnyH_take (i := 0) (v := (.agg #[.string (bs x0.key), .int .u64 (x0.seq : Nat), .bool x0.del, .string (bs x0.val)])) (List.getElem?_toArray.trans rfl) (by kernel_rfl) (by kernel_rfl) (by kernel_rfl) (fun _ _ _ h => h) (Or.inl ⟨by rfl, ?_⟩) (by assumption) ?_
        · intro W hSw
          obtain ⟨q0, q1, q2, q3⟩ := HYc.out W hSw.k
          first | (go_simp; done) | (go_simp; rfl)
        simp only [Act.put, List.setIfInBounds_toArray, List.set_cons_zero, List.set_cons_succ]
        refine wpAnyH_take (i := 1) (v := (.slice (some ⟨b, o, none⟩) n cap)) (List.getElem?_toArray.trans rfl) (by kernel_rfl) (by kernel_rfl) (by kernel_rfl) (fun _ _ _ h => h) (Or.inl ⟨by rfl, ?_⟩) (by assumption) ?_
        · intro W hSw
          first | rfl | (go_simp; done) | (go_simp; rfl)
        simp only [Act.put, List.setIfInBounds_toArray, List.set_cons_zero, List.set_cons_succ]
        refine wpAnyH_take (i := 2) (v := (.pointer (some ⟨b, o, none⟩))) (List.getElem?_toArray.trans rfl) (by kernel_rfl) (by kernel_rfl) (by kernel_rfl) (fun _ _ _ h => h) (Or.inl ⟨by rfl, ?_⟩) (by assumption) ?_
        · intro W hSw
          first | rfl | (go_simp; done) | (go_simp; rfl)
        simp only [Act.put, List.setIfInBounds_toArray, List.set_cons_zero, List.set_cons_succ]
        refine wpAnyH_take (i := 3) (v := (.agg #[.string (bs x0.key), .int .u64 (x0.seq : Nat), .bool x0.del, .string (bs x0.val)])) (List.getElem?_toArray.trans rfl) (by kernel_rfl) (by kernel_rfl) (by kernel_rfl) (fun _ _ _ h => h) (Or.inl ⟨by rfl, ?_⟩) (by assumption) ?_
        · intro W hSw
          obtain ⟨q0, q1, q2, q3⟩ := HL0c.out W hSw.k
          first | (go_simp; done) | (go_simp; rfl)
        simp only [Act.put, List.setIfInBounds_toArray, List.set_cons_zero, List.set_cons_succ]
        refine wpAnyH_take (i := 4) (v := (.bool true)) (List.getElem?_toArray.trans rfl) (by kernel_rfl) (by kernel_rfl) (by kernel_rfl) (fun _ _ _ h => h) (Or.inl ⟨by rfl, ?_⟩) (by assumption) ?_
        · intro W hSw
          first | rfl | (go_simp; done) | (go_simp; rfl)
        simp only [Act.put, List.setIfInBounds_toArray, List.set_cons_zero, List.set_cons_succ]
        refine wpAnyH_take (i := 5) (v := (.bool true)) (List.getElem?_toArray.trans rfl) (by kernel_rfl) (by kernel_rfl) (by kernel_rfl) (fun _ _ _ h => h) (Or.inl ⟨by rfl, ?_⟩) (by assumption) ?_
        · intro W hSw
          first | rfl | (go_simp; done) | (go_simp; rfl)
        simp only [Act.put, List.setIfInBounds_toArray, List.set_cons_zero, List.set_cons_succ]
        refine wpAnyH_take (i := 6) (v := (.agg #[.string (bs y0.key), .int .u64 (y0.seq : Nat), .bool y0.del, .string (bs y0.val)])) (List.getElem?_toArray.trans rfl) (by kernel_rfl) (by kernel_rfl) (by kernel_rfl) (fun _ _ _ h => h) (Or.inl ⟨by rfl, ?_⟩) (by assumption) ?_
        · intro W hSw
          obtain ⟨q0, q1, q2, q3⟩ := HZc.out W hSw.k
          first | (go_simp; done) | (go_simp; rfl)
        simp only [Act.put, List.setIfInBounds_toArray, List.set_cons_zero, List.set_cons_succ]
        refine wpAnyH_take (i := 7) (v := (.slice (some ⟨b, o, none⟩) n cap)) (List.getElem?_toArray.trans rfl) (by kernel_rfl) (by kernel_rfl) (by kernel_rfl) (fun _ _ _ h => h) (Or.inl ⟨by rfl, ?_⟩) (by assumption) ?_
        · intro W hSw
          first | rfl | (go_simp; done) | (go_simp; rfl)
        simp only [Act.put, List.setIfInBounds_toArray, List.set_cons_zero, List.set_cons_succ]
        refine wpAnyH_take (i := 8) (v := (.slice (some ⟨b, o, none⟩) n cap)) (List.getElem?_toArray.trans rfl) (by kernel_rfl) (by kernel_rfl) (by kernel_rfl) (fun _ _ _ h => h) (Or.inl ⟨by rfl, ?_⟩) (by assumption) ?_
        · intro W hSw
          first | rfl | (go_simp; done) | (go_simp; rfl)
        simp only [Act.put, List.setIfInBounds_toArray, List.set_cons_zero, List.set_cons_succ]
        refine wpAnyH_take (i := 9) (v := (.int .i64 (n : Nat))) (List.getElem?_toArray.trans rfl) (by kernel_rfl) (by kernel_rfl) (by kernel_rfl) (fun _ _ _ h => h) (Or.inl ⟨by rfl, ?_⟩) (by assumption) ?_
        · intro W hSw
          first | rfl | (go_simp; done) | (go_simp; rfl)
        simp only [Act.put, List.setIfInBounds_toArray, List.set_cons_zero, List.set_cons_succ]
        refine wpAnyH_take (i := 10) (v := (.int .i64 (n - 1 : Nat))) (List.getElem?_toArray.trans rfl) (by kernel_rfl) (by kernel_rfl) (by kernel_rfl) (fun _ _ _ h => h) (Or.inl ⟨by rfl, ?_⟩) (by assumption) ?_
        · intro W hSw
          first | rfl | (go_simp; done) | (go_simp; rfl)
        simp only [Act.put, List.setIfInBounds_toArray, List.set_cons_zero, List.set_cons_succ]
        refine wpAnyH_take (i := 11) (v := (.pointer (some ⟨b, o + 4 * (n - 1), none⟩))) (List.getElem?_toArray.trans rfl) (by kernel_rfl) (by kernel_rfl) (by kernel_rfl) (fun _ _ _ h => h) (Or.inl ⟨by rfl, ?_⟩) (by assumption) ?_
        · intro W hSw
          first | rfl | (go_simp; done) | (go_simp; rfl)
        simp only [Act.put, List.setIfInBounds_toArray, List.set_cons_zero, List.set_cons_succ]
        refine wpAnyH_take (i := 12) (v := (.agg #[.string (bs y0.key), .int .u64 (y0.seq : Nat), .bool y0.del, .string (bs y0.val)])) (List.getElem?_toArray.trans rfl) (by kernel_rfl) (by kernel_rfl) (by kernel_rfl) (fun _ _ _ h => h) (Or.inl ⟨by rfl, ?_⟩) (by assumption) ?_
        · intro W hSw
          obtain ⟨q0, q1, q2, q3⟩ := HLLc.out W hSw.k
          first | (go_simp; done) | (go_simp; rfl)
        simp only [Act.put, List.setIfInBounds_toArray, List.set_cons_zero, List.set_cons_succ]
        refine wpAnyH_take (i := 13) (v := (.bool true)) (List.getElem?_toArray.trans rfl) (by kernel_rfl) (by kernel_rfl) (by kernel_rfl) (fun _ _ _ h => h) (Or.inl ⟨by rfl, ?_⟩) (by assumption) ?_
        · intro W hSw
          first | rfl | (go_simp; done) | (go_simp; rfl)
        simp only [Act.put, List.setIfInBounds_toArray, List.set_cons_zero, List.set_cons_succ]
        refine wpAnyH_take (i := 14) (v := (.bool true)) (List.getElem?_toArray.trans rfl) (by kernel_rfl) (by kernel_rfl) (by kernel_rfl) (fun _ _ _ h => h) (Or.inl ⟨by rfl, ?_⟩) (by assumption) ?_
        · intro W hSw
          first | rfl | (go_simp; done) | (go_simp; rfl)
        simp only [Act.put, List.setIfInBounds_toArray, List.set_cons_zero, List.set_cons_succ]
        refine wpAnyH_take (i := 15) (v := (.bool true)) (List.getElem?_toArray.trans rfl) (by kernel_rfl) (by kernel_rfl) (by kernel_rfl) (fun _ _ _ h => h) (Or.inl ⟨by rfl, ?_⟩) (by assumption) ?_
        · intro W hSw
          first | rfl | (go_simp; done) | (go_simp; rfl)
        simp only [Act.put, List.setIfInBounds_toArray, List.set_cons_zero, List.set_cons_succ]
        refine wpAnyH_take (i := 16) (v := (.bool true)) (List.getElem?_toArray.trans rfl) (by kernel_rfl) (by kernel_rfl) (by kernel_rfl) (fun _ _ _ h => h) (Or.inl ⟨by rfl, ?_⟩) (by assumption) ?_
        · intro W hSw
          first | rfl | (go_simp; done) | (go_simp; rfl)
        simp only [Act.put, List.setIfInBounds_toArray, List.set_cons_zero, List.set_cons_succ]
        refine wpAnyH_take (i := 17) (v := (.bool true)) (List.getElem?_toArray.trans rfl) (by kernel_rfl) (by kernel_rfl) (by kernel_rfl) (fun _ _ _ h => h) (Or.inl ⟨by rfl, ?_⟩) (by assumption) ?_
        · intro W hSw
          first | rfl | (go_simp; done) | (go_simp; rfl)
        simp only [Act.put, List.setIfInBounds_toArray, List.set_cons_zero, List.set_cons_succ]
        refine wpAnyH_take (i := 18) (v := (.bool true)) (List.getElem?_toArray.trans rfl) (by kernel_rfl) (by kernel_rfl) (by kernel_rfl) (fun _ _ _ h => h) (Or.inl ⟨by rfl, ?_⟩) (by assumption) ?_
        · intro W hSw
          first | rfl | (go_simp; done) | (go_simp; rfl)
        simp only [Act.put, List.setIfInBounds_toArray, List.set_cons_zero, List.set_cons_succ]
        refine wpAnyH_take (i := 19) (v := (.agg #[.string (bs x.key), .int .u64 (x.seq : Nat), .bool x.del, .string (bs x.val)])) (List.getElem?_toArray.trans rfl) (by kernel_rfl) (by kernel_rfl) (by kernel_rfl) (fun _ _ _ h => h) (Or.inl ⟨by rfl, ?_⟩) (by assumption) ?_
        · intro W hSw
          obtain ⟨q0, q1, q2, q3⟩ := HX.out W hSw.k
          first | (go_simp; done) | (go_simp; rfl)
        simp only [Act.put, List.setIfInBounds_toArray, List.set_cons_zero, List.set_cons_succ]
        refine wpAnyH_take (i := 20) (v := (.slice (some ⟨b, o, none⟩) n cap)) (List.getElem?_toArray.trans rfl) (by kernel_rfl) (by kernel_rfl) (by kernel_rfl) (fun _ _ _ h => h) (Or.inl ⟨by rfl, ?_⟩) (by assumption) ?_
        · intro W hSw
          first | rfl | (go_simp; done) | (go_simp; rfl)
        simp only [Act.put, List.setIfInBounds_toArray, List.set_cons_zero, List.set_cons_succ]
        refine wpAnyH_take (i := 21) (v := (.int .i64 (K : Nat))) (List.getElem?_toArray.trans rfl) (by kernel_rfl) (by kernel_rfl) (by kernel_rfl) (fun _ _ _ h => h) (Or.inl ⟨by rfl, ?_⟩) (by assumption) ?_
        · intro W hSw
          first | rfl | (go_simp; done) | (go_simp; rfl)
        simp only [Act.put, List.setIfInBounds_toArray, List.set_cons_zero, List.set_cons_succ]
        refine wpAnyH_take (i := 22) (v := (.pointer (some ⟨b, o + 4 * K, none⟩))) (List.getElem?_toArray.trans rfl) (by kernel_rfl) (by kernel_rfl) (by kernel_rfl) (fun _ _ _ h => h) (Or.inl ⟨by rfl, ?_⟩) (by assumption) ?_
        · intro W hSw
          first | rfl | (go_simp; done) | (go_simp; rfl)
        simp only [Act.put, List.setIfInBounds_toArray, List.set_cons_zero, List.set_cons_succ]
        refine wpAnyH_take (i := 23) (v := (.agg #[.string (bs x.key), .int .u64 (x.seq : Nat), .bool x.del, .string (bs x.val)])) (List.getElem?_toArray.trans rfl) (by kernel_rfl) (by kernel_rfl) (by kernel_rfl) (fun _ _ _ h => h) (Or.inl ⟨by rfl, ?_⟩) (by assumption) ?_
        · intro W hSw
          obtain ⟨q0, q1, q2, q3⟩ := HLKc.out W hSw.k
          first | (go_simp; done) | (go_simp; rfl)
        simp only [Act.put, List.setIfInBounds_toArray, List.set_cons_zero, List.set_cons_succ]
        refine wpAnyH_take (i := 24) (v := (.bool true)) (List.getElem?_toArray.trans rfl) (by kernel_rfl) (by kernel_rfl) (by kernel_rfl) (fun _ _ _ h => h) (Or.inl ⟨by rfl, ?_⟩) (by assumption) ?_
        · intro W hSw
          first | rfl | (go_simp; done) | (go_simp; rfl)
        simp only [Act.put, List.setIfInBounds_toArray, List.set_cons_zero, List.set_cons_succ]
        refine wpAnyH_take (i := 25) (v := (.bool true)) (List.getElem?_toArray.trans rfl) (by kernel_rfl) (by kernel_rfl) (by kernel_rfl) (fun _ _ _ h => h) (Or.inl ⟨by rfl, ?_⟩) (by assumption) ?_
        · intro W hSw
          first | rfl | (go_simp; done) | (go_simp; rfl)
        simp only [Act.put, List.setIfInBounds_toArray, List.set_cons_zero, List.set_cons_succ]
        refine wpAnyH_take (i := 26) (v := (.bool true)) (List.getElem?_toArray.trans rfl) (by kernel_rfl) (by kernel_rfl) (by kernel_rfl) (fun _ _ _ h => h) (Or.inl ⟨by rfl, ?_⟩) (by assumption) ?_
        · intro W hSw
          first | rfl | (go_simp; done) | (go_simp; rfl)
        simp only [Act.put, List.setIfInBounds_toArray, List.set_cons_zero, List.set_cons_succ]
        refine wpAnyH_take (i := 27) (v := (.pointer (some ⟨p, 0, none⟩))) (List.getElem?_toArray.trans rfl) (by kernel_rfl) (by kernel_rfl) (by kernel_rfl) (fun _ _ _ h => h) (Or.inl ⟨by rfl, ?_⟩) (by assumption) ?_
        · intro W hSw
          first | rfl | (go_simp; done) | (go_simp; rfl)
        simp only [Act.put, List.setIfInBounds_toArray, List.set_cons_zero, List.set_cons_succ]
        refine wpAnyH_take (i := 28) (v := (.slice (some ⟨b, o, none⟩) n cap)) (List.getElem?_toArray.trans rfl) (by kernel_rfl) (by kernel_rfl) (by kernel_rfl) (fun _ _ _ h => h) (Or.inl ⟨by rfl, ?_⟩) (by assumption) ?_
        · intro W hSw
          first | rfl | (go_simp; done) | (go_simp; rfl)
        simp only [Act.put, List.setIfInBounds_toArray, List.set_cons_zero, List.set_cons_succ]
        refine wpAnyH_take (i := 29) (v := (.int .i64 (K : Nat))) (List.getElem?_toArray.trans rfl) (by kernel_rfl) (by kernel_rfl) (by kernel_rfl) (fun _ _ _ h => h) (Or.inl ⟨by rfl, ?_⟩) (by assumption) ?_
        · intro W hSw
          first | rfl | (go_simp; done) | (go_simp; rfl)
        simp only [Act.put, List.setIfInBounds_toArray, List.set_cons_zero, List.set_cons_succ]
        refine wpAnyH_take (i := 30) (v := (.pointer (some ⟨b, o + 4 * K, none⟩))) (List.getElem?_toArray.trans rfl) (by kernel_rfl) (by kernel_rfl) (by kernel_rfl) (fun _ _ _ h => h) (Or.inl ⟨by rfl, ?_⟩) (by assumption) ?_
        · intro W hSw
          first | rfl | (go_simp; done) | (go_simp; rfl)
        simp only [Act.put, List.setIfInBounds_toArray, List.set_cons_zero, List.set_cons_succ]
        refine wpAnyH_take (i := 31) (v := (.pointer (some ⟨b, o + 4 * K, none⟩))) (List.getElem?_toArray.trans rfl) (by kernel_rfl) (by kernel_rfl) (by kernel_rfl) (fun _ _ _ h => h) (Or.inl ⟨by rfl, ?_⟩) (by assumption) ?_
        · intro W hSw
          first | rfl | (go_simp; done) | (go_simp; rfl)
        simp only [Act.put, List.setIfInBounds_toArray, List.set_cons_zero, List.set_cons_succ]
        refine wpAnyH_take (i := 32) (v := (.string (bs x.key))) (List.getElem?_toArray.trans rfl) (by kernel_rfl) (by kernel_rfl) (by kernel_rfl) (fun _ _ _ h => h) (Or.inl ⟨by rfl, ?_⟩) (by assumption) ?_
        · intro W hSw
          obtain ⟨q0, q1, q2, q3⟩ := HLKc.out W hSw.k
          first | (go_simp; done) | (go_simp; rfl)
        simp only [Act.put, List.setIfInBounds_toArray, List.set_cons_zero, List.set_cons_succ]
        refine wpAnyH_take (i := 33) (v := (.slice (some ⟨b, o, none⟩) n cap)) (List.getElem?_toArray.trans rfl) (by kernel_rfl) (by kernel_rfl) (by kernel_rfl) (fun _ _ _ h => h) (Or.inl ⟨by rfl, ?_⟩) (by assumption) ?_
        · intro W hSw
          first | rfl | (go_simp; done) | (go_simp; rfl)
        simp only [Act.put, List.setIfInBounds_toArray, List.set_cons_zero, List.set_cons_succ]
        refine wpAnyH_take (i := 34) (v := (.int .i64 (K : Nat))) (List.getElem?_toArray.trans rfl) (by kernel_rfl) (by kernel_rfl) (by kernel_rfl) (fun _ _ _ h => h) (Or.inl ⟨by rfl, ?_⟩) (by assumption) ?_
        · intro W hSw
          first | rfl | (go_simp; done) | (go_simp; rfl)
        simp only [Act.put, List.setIfInBounds_toArray, List.set_cons_zero, List.set_cons_succ]
        refine wpAnyH_take (i := 35) (v := (.pointer (some ⟨b, o + 4 * K, none⟩))) (List.getElem?_toArray.trans rfl) (by kernel_rfl) (by kernel_rfl) (by kernel_rfl) (fun _ _ _ h => h) (Or.inl ⟨by rfl, ?_⟩) (by assumption) ?_
        · intro W hSw
          first | rfl | (go_simp; done) | (go_simp; rfl)
        simp only [Act.put, List.setIfInBounds_toArray, List.set_cons_zero, List.set_cons_succ]
        refine wpAnyH_take (i := 36) (v := (.pointer (some ⟨b, o + 4 * K + 1, none⟩))) (List.getElem?_toArray.trans rfl) (by kernel_rfl) (by kernel_rfl) (by kernel_rfl) (fun _ _ _ h => h) (Or.inl ⟨by rfl, ?_⟩) (by assumption) ?_
        · intro W hSw
          first | rfl | (go_simp; done) | (go_simp; rfl)
        simp only [Act.put, List.setIfInBounds_toArray, List.set_cons_zero, List.set_cons_succ]
        refine wpAnyH_take (i := 37) (v := (.int .u64 (x.seq : Nat))) (List.getElem?_toArray.trans rfl) (by kernel_rfl) (by kernel_rfl) (by kernel_rfl) (fun _ _ _ h => h) (Or.inl ⟨by rfl, ?_⟩) (by assumption) ?_
        · intro W hSw
          obtain ⟨q0, q1, q2, q3⟩ := HLKc.out W hSw.k
          first | (go_simp; done) | (go_simp; rfl)
        simp only [Act.put, List.setIfInBounds_toArray, List.set_cons_zero, List.set_cons_succ]
        refine wpAnyH_ready (rs := [38]) (by kernel_rfl) (by simp) ?_
        refine AllReadyH.cons (List.getElem?_toArray.trans rfl) (fun K hK => ?_) AllReadyH.nil
        go_simp
        refine (HCS.out _ hHeld.k).mono ?_
        rintro e w23 ⟨rfl, g23⟩
        go_wp2_with fail
        refine hK.out _ _ ⟨kept_trans hHeld.k g23⟩ (fun hHeld => ?_)
        clear hK K
        refine wpAnyH_take (i := 39) (v := (.bool true)) (List.getElem?_toArray.trans rfl) (by kernel_rfl) (by kernel_rfl) (by kernel_rfl) (fun _ _ _ h => h) (Or.inl ⟨by rfl, ?_⟩) (by assumption) ?_
        · intro W hSw
          first | rfl | (go_simp; done) | (go_simp; rfl)
        simp only [Act.put, List.setIfInBounds_toArray, List.set_cons_zero, List.set_cons_succ]
        refine wpAnyH_take (i := 40) (v := (.bool true)) (List.getElem?_toArray.trans rfl) (by kernel_rfl) (by kernel_rfl) (by kernel_rfl) (fun _ _ _ h => h) (Or.inl ⟨by rfl, ?_⟩) (by assumption) ?_
        · intro W hSw
          first | rfl | (go_simp; done) | (go_simp; rfl)
        simp only [Act.put, List.setIfInBounds_toArray, List.set_cons_zero, List.set_cons_succ]
        refine wpAnyH_take (i := 41) (v := (.bool true)) (List.getElem?_toArray.trans rfl) (by kernel_rfl) (by kernel_rfl) (by kernel_rfl) (fun _ _ _ h => h) (Or.inl ⟨by rfl, ?_⟩) (by assumption) ?_
        · intro W hSw
          first | rfl | (go_simp; done) | (go_simp; rfl)
        simp only [Act.put, List.setIfInBounds_toArray, List.set_cons_zero, List.set_cons_succ]
        refine wpAnyH_take (i := 42) (v := (.pointer (some ⟨p, 0, none⟩))) (List.getElem?_toArray.trans rfl) (by kernel_rfl) (by kernel_rfl) (by kernel_rfl) (fun _ _ _ h => h) (Or.inl ⟨by rfl, ?_⟩) (by assumption) ?_
        · intro W hSw
          first | rfl | (go_simp; done) | (go_simp; rfl)
        simp only [Act.put, List.setIfInBounds_toArray, List.set_cons_zero, List.set_cons_succ]
        refine wpAnyH_take (i := 44) (v := (.slice (some ⟨b, o, none⟩) n cap)) (List.getElem?_toArray.trans rfl) (by kernel_rfl) (by kernel_rfl) (by kernel_rfl) (fun _ _ _ h => h) (Or.inl ⟨by rfl, ?_⟩) (by assumption) ?_
        · intro W hSw
          first | rfl | (go_simp; done) | (go_simp; rfl)
        simp only [Act.put, List.setIfInBounds_toArray, List.set_cons_zero, List.set_cons_succ]
        refine wpAnyH_take (i := 45) (v := (.int .i64 (n : Nat))) (List.getElem?_toArray.trans rfl) (by kernel_rfl) (by kernel_rfl) (by kernel_rfl) (fun _ _ _ h => h) (Or.inl ⟨by rfl, ?_⟩) (by assumption) ?_
        · intro W hSw
          first | rfl | (go_simp; done) | (go_simp; rfl)
        simp only [Act.put, List.setIfInBounds_toArray, List.set_cons_zero, List.set_cons_succ]
        refine wpAnyH_take (i := 46) (v := (.int .i64 (L8 : Nat))) (List.getElem?_toArray.trans rfl) (by kernel_rfl) (by kernel_rfl) (by kernel_rfl) (fun _ _ _ h => h) (Or.inl ⟨by rfl, ?_⟩) (by assumption) ?_
        · intro W hSw
          first | rfl | (go_simp; done) | (go_simp; rfl)
        simp only [Act.put, List.setIfInBounds_toArray, List.set_cons_zero, List.set_cons_succ]
        refine wpAnyH_take (i := 47) (v := (.int .i64 (L7 : Nat))) (List.getElem?_toArray.trans rfl) (by kernel_rfl) (by kernel_rfl) (by kernel_rfl) (fun _ _ _ h => h) (Or.inl ⟨by rfl, ?_⟩) (by assumption) ?_
        · intro W hSw
          first | rfl | (go_simp; done) | (go_simp; rfl)
        simp only [Act.put, List.setIfInBounds_toArray, List.set_cons_zero, List.set_cons_succ]
        refine wpAnyH_take (i := 48) (v := (.int .i64 (NB : Nat))) (List.getElem?_toArray.trans rfl) (by kernel_rfl) (by kernel_rfl) (by kernel_rfl) (fun _ _ _ h => h) (Or.inl ⟨by rfl, ?_⟩) (by assumption) ?_
        · intro W hSw
          first | rfl | (go_simp; done) | (go_simp; rfl)
        simp only [Act.put, List.setIfInBounds_toArray, List.set_cons_zero, List.set_cons_succ]
        refine wpAnyH_ready (rs := [43]) (by kernel_rfl) (by simp) ?_
        refine AllReadyH.cons (List.getElem?_toArray.trans rfl) (fun K hK => ?_) AllReadyH.nil
        go_simp
        refine (HBLK.out _ hHeld.k).mono ?_
        rintro e w24 ⟨rfl, rfl⟩
        go_wp2_with fail
        refine hK.out _ _ (by assumption) (fun hHeld => ?_)
        clear hK K
        refine wpAnyH_take (i := 49) (v := (.bool true)) (List.getElem?_toArray.trans rfl) (by kernel_rfl) (by kernel_rfl) (by kernel_rfl) (fun _ _ _ h => h) (Or.inl ⟨by rfl, ?_⟩) (by assumption) ?_
        · intro W hSw
          first | rfl | (go_simp; done) | (go_simp; rfl)
        simp only [Act.put, List.setIfInBounds_toArray, List.set_cons_zero, List.set_cons_succ]
        refine wpAnyH_take (i := 50) (v := (.bool true)) (List.getElem?_toArray.trans rfl) (by kernel_rfl) (by kernel_rfl) (by kernel_rfl) (fun _ _ _ h => h) (Or.inl ⟨by rfl, ?_⟩) (by assumption) ?_
        · intro W hSw
          first | rfl | (go_simp; done) | (go_simp; rfl)
        simp only [Act.put, List.setIfInBounds_toArray, List.set_cons_zero, List.set_cons_succ]
        refine wpAnyH_take (i := 51) (v := (.bool true)) (List.getElem?_toArray.trans rfl) (by kernel_rfl) (by kernel_rfl) (by kernel_rfl) (fun _ _ _ h => h) (Or.inl ⟨by rfl, ?_⟩) (by assumption) ?_
        · intro W hSw
          first | rfl | (go_simp; done) | (go_simp; rfl)
        simp only [Act.put, List.setIfInBounds_toArray]
        refine wpAnyH_done (by kernel_rfl) ?_ _
        go_wp2_with fail
        go_ret
        exact ⟨rfl, kept_trans K12.out hHeld.k⟩
    · have hbd := HBD.out
      rw [(Tb.encS_no hT).1, (Tb.encS_no hT).2] at hbd
      have HBDE := Lib.hid hbd
      clear hT hbd HBD HT0
      go_wp2_with fail
      refine HBDE.out.mono ?_
      rintro e w3 ⟨rfl, g3⟩
      go_wp2_with fail
      go_ret
      exact ⟨rfl, kept_trans K2.out g3⟩
end Go.Proofs.Ytecjnebfhbdnaaa
