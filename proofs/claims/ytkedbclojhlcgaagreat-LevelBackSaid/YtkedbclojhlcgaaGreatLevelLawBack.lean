/-
  Statement LevelBack: the walk.
-/
import Derived.Test.YtkedbclojhlcgaaGreatLevelKit
import Derived.RegionTactic
import Derived.Deep.RegionHeld3
namespace Go.Proofs.YtkedbclojhlcgaaGreat
open Go.ChangeShapes Go.WideShapes Go.ChangeAt Go.RowKit
set_option linter.unusedVariables false
set_option maxRecDepth 100000
set_option maxHeartbeats 16000000
open Lv
theorem code_alike {V : Ver} {D E : Edt} (h : Lv.Alike D E) : code V D = code V E ∧ ∀ l, l < 4 → res V D l = res V E l := by
  obtain ⟨h1, h2, h3, h4, h5⟩ := h
  have hr : ∀ l, l < 4 → res V D l = res V E l := fun l hl => by unfold res; rw [h1, h2 l hl]
  have hf : fl D.new = fl E.new := by rw [fl_four, fl_four, h2 0 (by omega), h2 1 (by omega), h2 2 (by omega), h2 3 (by omega)]
  have hm : manyL (stay V.t E.gone) D.new = manyL (stay V.t E.gone) E.new := by
    unfold manyL
    refine Bool.eq_iff_iff.2 ?_
    simp only [List.any_eq_true, List.mem_range]
    constructor
    · rintro ⟨l, hl, h⟩; exact ⟨l, hl, by rw [← h2 l hl]; exact h⟩
    · rintro ⟨l, hl, h⟩; exact ⟨l, hl, by rw [h2 l hl]; exact h⟩
  refine ⟨?_, hr⟩
  unfold code
  rw [show all4 may D.new = all4 may E.new from all4_same h2, h1, hf, hm, show okR V D = okR V E from by unfold okR; rw [h3, h4, h5, all4_same h2], show apart3 (res V D) = apart3 (res V E) from by unfold apart3; rw [hr 1 (by omega), hr 2 (by omega), hr 3 (by omega)]]
theorem enc_le {E : Edt} (h : isE E = true) : (enc E).length ≤ 100000 := by
  obtain ⟨h1, h2, ⟨h3, h4, h5, h6⟩, h7⟩ := isE_iff.1 h
  unfold enc encH
  have a := encG_le [E.nx, E.lg, E.sq, E.gone.length] (fun x hx => by simp at hx; omega)
  have b := encG_le E.gone (fun x hx => Nat.le_trans (h6 x hx) (by omega))
  have c := encT_le (t := E.new) (fun l hl => ⟨h2 l hl, h7 l hl⟩) 4 (Nat.le_refl _)
  simp only [List.length_append]
  simp at a
  omega
theorem ver_again {V : Ver} (g : Lv.Good V) : code vz ⟨[], V.t, V.nx, V.lg, V.sq⟩ = 0 ∧ ∀ l, l < 4 → res vz ⟨[], V.t, V.nx, V.lg, V.sq⟩ l = V.t l := by
  have hn := g.nx; have hlg := g.lg; have hsq := g.sq
  have h1 : all4 may V.t = true := all4_iff.2 g.may
  have hs : stay vz.t [] = fun _ => [] := by funext l; exact stay_nil vz.t l
  have hfn : fl (stay vz.t []) = [] := by rw [hs]; rfl
  have h3 : (fl (stay vz.t []) ++ fl V.t).Nodup := by rw [hfn, List.nil_append]; exact g.once
  have c1 : chg 1 V.nx = V.nx := by unfold chg; rw [if_neg (by omega)]
  have c2 : chg 0 V.lg = V.lg := by unfold chg; split <;> omega
  have c3 : chg 0 V.sq = V.sq := by unfold chg; split <;> omega
  have hr : ∀ l, l < 4 → res vz ⟨[], V.t, V.nx, V.lg, V.sq⟩ l = V.t l := fun l hl => (res_one (V := vz) (E := ⟨[], V.t, V.nx, V.lg, V.sq⟩) good_vz h1 h3 hl (L := V.t l) (by show (V.t l).Perm (stay vz.t [] l ++ V.t l); rw [hs]; exact List.Perm.refl _) (g.srt l hl) (g.apart l hl)).symm
  have h4 : okR vz ⟨[], V.t, V.nx, V.lg, V.sq⟩ = true := by
    unfold okR
    show (okN (chg 1 V.nx) 1 && okN (chg 0 V.lg) 0 && okN (chg 0 V.sq) 0 && all4 (fun m => decide (m.file < chg 1 V.nx) && decide (m.seq ≤ chg 0 V.sq)) V.t) = true
    rw [c1, c2, c3, show all4 (fun m => decide (m.file < V.nx) && decide (m.seq ≤ V.sq)) V.t = true from all4_iff.2 (fun l hl m hm => by have := g.num l hl m hm; simp [this.1, this.2])]
    unfold okN
    simp [hn.1, hn.2, hlg, hsq]
  have h5 : manyL (stay vz.t []) V.t = false := by
    rw [hs, manyL_iff]
    intro l hl
    have := g.len l hl
    simpa using this
  have h6 : apart3 (res vz ⟨[], V.t, V.nx, V.lg, V.sq⟩) = true := by
    rw [apart3_iff]
    intro l hl h
    rw [hr l hl]; exact g.apart l hl h
  refine ⟨?_, hr⟩
  unfold code
  rw [h1, if_neg (by decide), show takes (fl vz.t) [] = true from by simp [takes], if_neg (by decide), if_neg (not_not_intro h3), h4, if_neg (by decide), h5, if_neg (by decide), h6, if_neg (by decide)]
theorem LevelBack_walk (x : Ed) (s : ByteArray) {w : World} (he : x.Wk w) (hs : s.size ≤ maxLen) :
    Calls Tryz.prog 6 #[x.v, .string s] w fun e w' => e = .returned (.bool true) ∧ Kept w w' := by
  obtain ⟨S, rfl⟩ : ∃ S : List UInt8, s = bs S := ⟨s.data.toList, (mbs_self s).symm⟩
  unfold maxLen at hs
  have hz := lvbs_size S
  have HW := Lib.hid (fun W (hW : Kept w W) => he.kept hW)
  have HLG := Lib.hid (fun W (hW : Kept w W) => lvlarge_any (he.kept hW))
  have hev : x.v = .agg #[.slice x.A x.gone.length x.c, (x.T 0).v, (x.T 1).v, (x.T 2).v, (x.T 3).v, .int .u64 (x.nx : Nat), .int .u64 (x.lg : Nat), .int .u64 (x.sq : Nat)] := rfl
  have HEV := Lib.hid hev
  rw [hev] at HLG ⊢
  clear hev he
  generalize (x.T 0).v = y0 at *
  generalize (x.T 1).v = y1 at *
  generalize (x.T 2).v = y2 at *
  generalize (x.T 3).v = y3 at *
  obtain ⟨W1, hW1⟩ : ∃ W1, W1 = w.alloc (.cells #[.slice x.A x.gone.length x.c, y0, y1, y2, y3, .int .u64 (x.nx : Nat), .int .u64 (x.lg : Nat), .int .u64 (x.sq : Nat)] 34) := ⟨_, rfl⟩
  have G1 := Lib.hid (show Kept w W1 by rw [hW1]; exact (Kept.refl _).alloc _)
  have HB := Lib.hid (fun W (hW : Kept W1 W) => eight_cells (hp_kept (show W1.heap[w.heap.size]? = some (.cells #[.slice x.A x.gone.length x.c, y0, y1, y2, y3, .int .u64 (x.nx : Nat), .int .u64 (x.lg : Nat), .int .u64 (x.sq : Nat)] 34 (0, 0)) by rw [hW1]; exact malloc_new w _) hW))
  go_enter Tryz.func6, Tryz.ntmps6
  go_upto_region 1 with fail
  rw [← hW1]
  clear hW1
  go_wp2_with fail
  refine (lvawake_any _).mono ?_
  rintro e w2 ⟨rfl, k2⟩
  have K2 := Lib.hid k2
  have G2 := Lib.hid (kept_trans G1.out k2)
  clear k2
  obtain ⟨z0, z1, z2, z3, z4, z5, z6, z7⟩ := HB.out _ K2.out
  go_wp2_with fail
  refine (HLG.out _ G2.out).mono ?_
  rintro r w3 ⟨B, rfl, hB, k3⟩
  have K3 := Lib.hid (kept_trans K2.out k3)
  have G3 := Lib.hid (kept_trans G2.out k3)
  clear k3 z0 z1 z2 z3 z4 z5 z6 z7 HLG K2 G2
  cases B with
  | true =>
    go_wp2_with fail
    go_ret
    exact ⟨rfl, G3.out⟩
  | false =>
  have HS := Lib.hid (hB rfl)
  clear hB
  by_cases h81 : S.length ≤ 8192
  · have d1 : decide ((8192 : Int) < ((bs S).size : Int)) = false := decide_eq_false (by omega)
    have HIN := Lib.hid (fun W (hW : Kept w W) => (HW.out W hW).inn HS.out)
    have HENC := Lib.hid (fun W (hW : Kept w W) => lvenc_any (HIN.out W hW))
    have HVX := Lib.hid (show x.v = .agg #[.slice x.A x.gone.length x.c, y0, y1, y2, y3, .int .u64 (x.nx : Nat), .int .u64 (x.lg : Nat), .int .u64 (x.sq : Nat)] from HEV.out)
    rw [HVX.out] at HENC
    obtain ⟨z0, z1, z2, z3, z4, z5, z6, z7⟩ := HB.out _ K3.out
    go_wp2_with fail
    refine (HENC.out _ G3.out).mono ?_
    rintro r w5 ⟨rfl, k5⟩
    have K5 := Lib.hid (kept_trans K3.out k5)
    have G5 := Lib.hid (kept_trans G3.out k5)
    clear k5 z0 z1 z2 z3 z4 z5 z6 z7 HENC d1 hs hz K3 G3
    have HEC := Lib.hid (show (isE x.edt = true → encS x.edt = enc x.edt ∧ encC x.edt = 0) ∧ (isE x.edt = false → encS x.edt = [] ∧ encC x.edt = 2) from by
      unfold encS encC
      cases isE x.edt
      · exact ⟨(fun hh => by cases hh), fun _ => ⟨rfl, rfl⟩⟩
      · exact ⟨fun _ => ⟨rfl, rfl⟩, (fun hh => by cases hh)⟩)
    have HBB := Lib.hid (fun hb : isE x.edt = true => isB_enc hb)
    have HXL := Lib.hid (show isE x.edt = true → (enc x.edt).length ≤ 100000 from fun hb => enc_le hb)
    go_upto_if 32 with fail
    go_cut [5, 6] from 7 (fun a b wc => Hid (Kept w5 wc))
    case first =>
      cases hb : isE x.edt
      · rw [(HEC.out.2 hb).1, (HEC.out.2 hb).2, show bs ([] : List UInt8) = ⟨#[]⟩ from rfl]
        go_wp2_with fail
        go_meet
        exact Lib.hid (Kept.refl _)
      · rw [(HEC.out.1 hb).1, (HEC.out.1 hb).2]
        have hib := HBB.out hb
        have hxl := HXL.out hb
        generalize enc x.edt = X at *
        have HIB := Lib.hid hib
        clear hib
        go_wp2_with fail
        refine (lvdec_any X (by omega) _).mono ?_
        rintro r w6 ⟨hd, _, k6⟩
        obtain ⟨d, rfl, hdi, hda⟩ := hd HIB.out.1
        have HDI := Lib.hid (fun W (hW : Kept w6 W) => hdi.kept hW)
        have HDA := Lib.hid (show Lv.Alike x.edt d.edt from ⟨(hda.1.trans HIB.out.2.1).symm, fun l hl => ((hda.2.1 l hl).trans (HIB.out.2.2.1 l hl)).symm, (hda.2.2.1.trans HIB.out.2.2.2.1).symm, (hda.2.2.2.1.trans HIB.out.2.2.2.2.1).symm, (hda.2.2.2.2.trans HIB.out.2.2.2.2.2).symm⟩)
        have K6 := Lib.hid k6
        clear hd hdi hda k6
        obtain ⟨gA, gn, gc, hg⟩ : ∃ a n c, (Value.slice d.A d.gone.length d.c) = .slice a n c := ⟨_, _, _, rfl⟩
        obtain ⟨u0, m0, r0, e0⟩ : ∃ a n c, (d.T 0).v = .slice a n c := ⟨_, _, _, rfl⟩
        obtain ⟨u1, m1, r1, e1⟩ : ∃ a n c, (d.T 1).v = .slice a n c := ⟨_, _, _, rfl⟩
        obtain ⟨u2, m2, r2, e2⟩ : ∃ a n c, (d.T 2).v = .slice a n c := ⟨_, _, _, rfl⟩
        obtain ⟨u3, m3, r3', e3⟩ : ∃ a n c, (d.T 3).v = .slice a n c := ⟨_, _, _, rfl⟩
        have hv : d.v = .agg #[.slice gA gn gc, .slice u0 m0 r0, .slice u1 m1 r1, .slice u2 m2 r2, .slice u3 m3 r3', .int .u64 (d.nx : Nat), .int .u64 (d.lg : Nat), .int .u64 (d.sq : Nat)] := by
          unfold Ed.v edv; dsimp only; rw [e0, e1, e2, e3, hg]
        have HVD := Lib.hid hv
        rw [hv]
        clear hg e0 e1 e2 e3 hv
        generalize d.nx = dn at *
        generalize d.lg = dl at *
        generalize d.sq = dq at *
        have B7 := Lib.hid (malloc_new w6 (.cells #[.slice gA gn gc, .slice u0 m0 r0, .slice u1 m1 r1, .slice u2 m2 r2, .slice u3 m3 r3', .int .u64 (dn : Nat), .int .u64 (dl : Nat), .int .u64 (dq : Nat)] 34))
        have K7 := Lib.hid ((Kept.refl w6).alloc (.cells #[.slice gA gn gc, .slice u0 m0 r0, .slice u1 m1 r1, .slice u2 m2 r2, .slice u3 m3 r3', .int .u64 (dn : Nat), .int .u64 (dl : Nat), .int .u64 (dq : Nat)] 34))
        obtain ⟨z0, z1, z2, z3, z4, z5, z6, z7⟩ := HB.out _ (kept_trans K5.out (kept_trans K6.out K7.out))
        have HSM := lvrsame_any (HIN.out _ (kept_trans G5.out (kept_trans K6.out K7.out))) (HDI.out _ K7.out)
        rw [HVX.out, HVD.out] at HSM
        have HSM2 := Lib.hid HSM
        clear HSM
        have K7b := Lib.hid (kept_trans K6.out K7.out)
        go_wp2_with fail
        refine HSM2.out.mono ?_
        rintro r w8 ⟨B, rfl, hB, k8⟩
        obtain rfl : B = true := hB.2 HDA.out
        have K8 := Lib.hid (kept_trans K7b.out k8)
        clear hB k8 HSM2 z0 z1 z2 z3 z4 z5 z6 z7
        go_wp2_with fail
        go_meet
        exact K8
    case rest =>
      have K8 := Lib.hid (kept_trans K5.out hcut.out)
      have G8 := Lib.hid (kept_trans G5.out hcut.out)
      clear hcut HEC HBB HXL K5 G5
      go_wp2_with fail
      refine (lvdec_any S (by omega) _).mono ?_
      rintro r w9 ⟨hd1, hd2, k9⟩
      have K9 := Lib.hid (kept_trans K8.out k9)
      have G9 := Lib.hid (kept_trans G8.out k9)
      clear k9 K8 G8
      cases hb : isB S with
      | false =>
        rw [hd2 hb]
        clear hd1 hd2
        unfold edz
        have K10 := Lib.hid (kept_trans K9.out ((Kept.refl w9).alloc (.cells #[.slice none 0 0, .slice none 0 0, .slice none 0 0, .slice none 0 0, .slice none 0 0, .int .u64 0, .int .u64 0, .int .u64 0] 34)))
        have G10 := Lib.hid (kept_trans G9.out ((Kept.refl w9).alloc (.cells #[.slice none 0 0, .slice none 0 0, .slice none 0 0, .slice none 0 0, .slice none 0 0, .int .u64 0, .int .u64 0, .int .u64 0] 34)))
        go_upto_if 54 with fail
        generalize w9.alloc (.cells #[.slice none 0 0, .slice none 0 0, .slice none 0 0, .slice none 0 0, .slice none 0 0, .int .u64 0, .int .u64 0, .int .u64 0] 34) = w10 at *
        go_upto_region 17 with fail
        clear K9 G9
        have HNW := Lib.hid (fun W => lvnew_any W)
        have HAP := Lib.hid (fun W (hW : Kept w W) q (hv : IsV W q vT0 1 0 0) => apy_two hv good_vz (HIN.out W hW))
        simp only [HVX.out] at HAP
        -- REGION Back17a BEGIN
        refine wp_region_held_drew (S := fun W => KV w10 W) (by kernel_rfl) ⟨kept_drewN _ 1⟩ (fun hHeld => ?_)
        generalize w10.drew = v1 at hHeld ⊢
        refine wpAnyH_take (i := 1) (v := (.agg #[.slice x.A x.gone.length x.c, y0, y1, y2, y3, .int .u64 (x.nx : Nat), .int .u64 (x.lg : Nat), .int .u64 (x.sq : Nat)])) (List.getElem?_toArray.trans rfl) (by kernel_rfl) (by kernel_rfl) (by kernel_rfl) (fun _ _ _ h => h) (Or.inl ⟨by rfl, ?_⟩) (by assumption) ?_
        · intro W hSw
          obtain ⟨z0, z1, z2, z3, z4, z5, z6, z7⟩ := HB.out W (kept_trans K10.out hSw.k)
          first | (go_simp; done) | (go_simp; rfl)
        simp only [Act.put, List.setIfInBounds_toArray, List.set_cons_zero, List.set_cons_succ]
        refine wpAnyH_ready (rs := [0]) (by kernel_rfl) (by simp) ?_
        refine (AllReadyH.cons (List.getElem?_toArray.trans rfl) (fun K hK => ?_) AllReadyH.nil)
        go_simp
        have HS0 := Lib.hid hHeld
        refine (HNW.out _).mono ?_
        rintro e wa ⟨q0, rfl, hnv, _, ka⟩
        have HNV := Lib.hid hnv
        have HS1 := Lib.hid (show KV w10 wa from ⟨kept_trans HS0.out.k ka⟩)
        clear hnv ka HS0
        go_wp2_with fail
        refine hK.out _ _ HS1.out (fun hHeld => ?_)
        clear hK K
        refine wpAnyH_ready (rs := [2]) (by kernel_rfl) (by simp) ?_
        refine (AllReadyH.cons (List.getElem?_toArray.trans rfl) (fun K hK => ?_) AllReadyH.nil)
        go_simp
        refine (HAP.out _ (kept_trans G10.out HS1.out.k) q0 HNV.out).mono ?_
        rintro r wb ⟨hr, kb⟩
        have HS2 := Lib.hid (show KV w10 wb from ⟨kept_trans HS1.out.k kb⟩)
        clear kb HS1 HNV HAP
        obtain ⟨RP, RC, hrr⟩ : ∃ RP RC, r = .returned (.tuple #[RP, RC]) := by
          rcases hr with ⟨c, _, _, rfl⟩ | ⟨p2, U, _, rfl, _⟩ <;> exact ⟨_, _, rfl⟩
        subst hrr
        go_wp2_with fail
        refine hK.out _ _ HS2.out (fun hHeld => ?_)
        clear hK K
        refine wpAnyH_take (i := 3) (v := (.tuple #[RP, RC])) (List.getElem?_toArray.trans rfl) (by kernel_rfl) (by kernel_rfl) (by kernel_rfl) (fun _ _ _ h => h) (Or.inl ⟨by rfl, ?_⟩) (by assumption) ?_
        · intro W hSw
          first | rfl | (go_simp; done) | (go_simp; rfl)
        simp only [Act.put, List.setIfInBounds_toArray, List.set_cons_zero, List.set_cons_succ]
        refine wpAnyH_take (i := 4) (v := RP) (List.getElem?_toArray.trans rfl) (by kernel_rfl) (by kernel_rfl) (by kernel_rfl) (fun _ _ _ h => h) (Or.inl ⟨by rfl, ?_⟩) (by assumption) ?_
        · intro W hSw
          first | rfl | (go_simp; done) | (go_simp; rfl)
        simp only [Act.put, List.setIfInBounds_toArray, List.set_cons_zero, List.set_cons_succ]
        refine wpAnyH_take (i := 5) (v := RC) (List.getElem?_toArray.trans rfl) (by kernel_rfl) (by kernel_rfl) (by kernel_rfl) (fun _ _ _ h => h) (Or.inl ⟨by rfl, ?_⟩) (by assumption) ?_
        · intro W hSw
          first | rfl | (go_simp; done) | (go_simp; rfl)
        simp only [Act.put, List.setIfInBounds_toArray, List.set_cons_zero, List.set_cons_succ]
        refine wpAnyH_take (i := 6) (v := RP) (List.getElem?_toArray.trans rfl) (by kernel_rfl) (by kernel_rfl) (by kernel_rfl) (fun _ _ _ h => h) (Or.inl ⟨by rfl, ?_⟩) (by assumption) ?_
        · intro W hSw
          first | rfl | (go_simp; done) | (go_simp; rfl)
        simp only [Act.put, List.setIfInBounds_toArray, List.set_cons_zero, List.set_cons_succ]
        refine wpAnyH_take (i := 7) (v := RC) (List.getElem?_toArray.trans rfl) (by kernel_rfl) (by kernel_rfl) (by kernel_rfl) (fun _ _ _ h => h) (Or.inl ⟨by rfl, ?_⟩) (by assumption) ?_
        · intro W hSw
          first | rfl | (go_simp; done) | (go_simp; rfl)
        simp only [Act.put, List.setIfInBounds_toArray, List.set_cons_zero, List.set_cons_succ]
        refine wpAnyH_done (by kernel_rfl) ?_ _
        have HS3 := Lib.hid hHeld.k
        clear HS2
        rcases hr with ⟨c, hc0, _, hrr⟩ | ⟨p2, U, hc, hrr, hv2, hg2, hUl⟩
        · injection hrr with hrr
          injection hrr with hrr
          simp only [Array.mk.injEq, List.cons.injEq, and_true] at hrr
          obtain ⟨rfl, rfl⟩ := hrr
          have G12 := Lib.hid (kept_trans G10.out HS3.out)
          clear hc0
          go_wp2_with fail
          go_ret
          exact ⟨by simp, G12.out⟩
        · injection hrr with hrr
          injection hrr with hrr
          simp only [Array.mk.injEq, List.cons.injEq, and_true] at hrr
          obtain ⟨rfl, rfl⟩ := hrr
          have HV2 := Lib.hid (fun W (hW : Kept wb W) => hv2.kept hW); have HG2 := Lib.hid hg2
          have G12 := Lib.hid (kept_trans G10.out HS3.out)
          clear hc hUl hv2 hg2
          generalize chg 1 x.nx = N1 at *
          generalize chg 0 x.lg = L1 at *
          generalize chg 0 x.sq = S1 at *
          go_wp2_with fail
          refine (HNW.out _).mono ?_
          rintro e w13 ⟨q3, rfl, hnv, _, k13⟩
          have HNV := Lib.hid (fun W (hW : Kept w13 W) => hnv.kept hW)
          have K13 := Lib.hid k13
          clear hnv k13
          have HED := Lib.hid (lvedit_any (HV2.out _ K13.out) HG2.out)
          go_wp2_with fail
          refine HED.out.mono ?_
          rintro e w14 ⟨d3, rfl, hd3, ha3, k14⟩
          have K14 := Lib.hid k14
          have HD3 := Lib.hid hd3
          have hc3 : code vz d3.edt = 0 ∧ ∀ l, l < 4 → res vz d3.edt l = (U l).l := by
            obtain ⟨c1, c2⟩ := code_alike (V := vz) ha3
            obtain ⟨c3, c4⟩ := ver_again HG2.out
            exact ⟨c1.trans c3, fun l hl => (c2 l hl).trans (c4 l hl)⟩
          have HC3 := Lib.hid hc3
          have HA3 := Lib.hid ha3
          have HAP3 := Lib.hid (apy_two (HNV.out _ k14) good_vz hd3)
          clear hd3 ha3 k14 hc3 HED
          go_wp2_with fail
          refine HAP3.out.mono ?_
          rintro r w15 ⟨hr, k15⟩
          have K15 := Lib.hid (kept_trans K13.out (kept_trans K14.out k15))
          rcases hr with ⟨c, hc0, hc1, rfl⟩ | ⟨p4, U4, _, rfl, hv4, hg4, hU4⟩
          · exfalso
            rw [show code (verV vT0 1 0 0) d3.edt = 0 from HC3.out.1] at hc1
            exact hc0 hc1
          have HN4 := Lib.hid (show chg 1 d3.nx = N1 ∧ chg 0 d3.lg = L1 ∧ chg 0 d3.sq = S1 from by
            have hn := HG2.out.nx
            rw [show d3.nx = N1 from HA3.out.2.2.1, show d3.lg = L1 from HA3.out.2.2.2.1, show d3.sq = S1 from HA3.out.2.2.2.2]
            dsimp only [verV] at hn
            unfold chg
            refine ⟨if_neg (by omega), ?_, ?_⟩ <;> (split <;> omega))
          rw [HN4.out.1, HN4.out.2.1, HN4.out.2.2] at hv4 hg4
          have HU4 := Lib.hid (fun l (hl : l < 4) => (hU4 l hl).trans (HC3.out.2 l hl))
          have HV4 := Lib.hid (fun W (hW : Kept w15 W) => hv4.kept hW)
          have HG4 := Lib.hid hg4
          have HE1 := Lib.hid (lvedit_any (HV2.out _ K15.out) HG2.out)
          clear hv4 hg4 hU4 k15 HAP3 HN4
          go_wp2_with fail
          refine HE1.out.mono ?_
          rintro e w16 ⟨da, rfl, hia, haa, k16⟩
          have HIA := Lib.hid (fun W (hW : Kept w16 W) => hia.kept hW)
          have HAA := Lib.hid haa
          have K16 := Lib.hid k16
          have HE2 := Lib.hid (lvedit_any (HV4.out _ k16) HG4.out)
          clear hia haa k16 HE1
          go_wp2_with fail
          refine HE2.out.mono ?_
          rintro e w17 ⟨db, rfl, hib, hab, k17⟩
          have HSM := Lib.hid (lvrsame_any (HIA.out _ k17) hib)
          have HTT := Lib.hid (show Lv.Alike da.edt db.edt from ⟨HAA.out.1.trans hab.1.symm, fun l hl => ((HAA.out.2.1 l hl).trans (HU4.out l hl).symm).trans (hab.2.1 l hl).symm, HAA.out.2.2.1.trans hab.2.2.1.symm, HAA.out.2.2.2.1.trans hab.2.2.2.1.symm, HAA.out.2.2.2.2.trans hab.2.2.2.2.symm⟩)
          have K17 := Lib.hid k17
          clear hib hab k17 HE2
          go_wp2_with fail
          refine HSM.out.mono ?_
          rintro r w18 ⟨B, rfl, hB, k18⟩
          obtain rfl : B = true := hB.2 HTT.out
          have kEn := Lib.hid (kept_trans G12.out (kept_trans K15.out (kept_trans K16.out (kept_trans K17.out k18))))
          clear hB k18 HSM HTT
          go_wp2_with fail
          go_ret
          exact ⟨by simp, kEn.out⟩
        -- REGION Back17a END
      | true =>
        obtain ⟨d, rfl, hdi, hda⟩ := hd1 hb
        clear hd1 hd2
        obtain ⟨hib1, hib2⟩ := isB_back hb
        have HEI := Lib.hid (fun W (hW : Kept w9 W) => hdi.kept hW)
        have hes : encS d.edt = S ∧ encC d.edt = 0 := by
          unfold encS encC
          rw [hda.isE, hda.enc, hib1, hib2]
          exact ⟨rfl, rfl⟩
        have HES := Lib.hid hes
        clear hes hdi hda hib1 hib2
        obtain ⟨gA, gn, gc, hg⟩ : ∃ a n c, (Value.slice d.A d.gone.length d.c) = .slice a n c := ⟨_, _, _, rfl⟩
        obtain ⟨u0, m0, r0, e0⟩ : ∃ a n c, (d.T 0).v = .slice a n c := ⟨_, _, _, rfl⟩
        obtain ⟨u1, m1, r1, e1⟩ : ∃ a n c, (d.T 1).v = .slice a n c := ⟨_, _, _, rfl⟩
        obtain ⟨u2, m2, r2, e2⟩ : ∃ a n c, (d.T 2).v = .slice a n c := ⟨_, _, _, rfl⟩
        obtain ⟨u3, m3, r3', e3⟩ : ∃ a n c, (d.T 3).v = .slice a n c := ⟨_, _, _, rfl⟩
        have hv : d.v = .agg #[.slice gA gn gc, .slice u0 m0 r0, .slice u1 m1 r1, .slice u2 m2 r2, .slice u3 m3 r3', .int .u64 (d.nx : Nat), .int .u64 (d.lg : Nat), .int .u64 (d.sq : Nat)] := by
          unfold Ed.v edv; dsimp only; rw [e0, e1, e2, e3, hg]
        have HVD := Lib.hid hv
        rw [hv]
        clear hg e0 e1 e2 e3 hv
        generalize d.nx = dn at *
        generalize d.lg = dl at *
        generalize d.sq = dq at *
        have K10 := Lib.hid (kept_trans K9.out ((Kept.refl w9).alloc (.cells #[.slice gA gn gc, .slice u0 m0 r0, .slice u1 m1 r1, .slice u2 m2 r2, .slice u3 m3 r3', .int .u64 (dn : Nat), .int .u64 (dl : Nat), .int .u64 (dq : Nat)] 34)))
        have G10 := Lib.hid (kept_trans G9.out ((Kept.refl w9).alloc (.cells #[.slice gA gn gc, .slice u0 m0 r0, .slice u1 m1 r1, .slice u2 m2 r2, .slice u3 m3 r3', .int .u64 (dn : Nat), .int .u64 (dl : Nat), .int .u64 (dq : Nat)] 34)))
        have HE4 := lvenc_any (HEI.out _ ((Kept.refl w9).alloc (.cells #[.slice gA gn gc, .slice u0 m0 r0, .slice u1 m1 r1, .slice u2 m2 r2, .slice u3 m3 r3', .int .u64 (dn : Nat), .int .u64 (dl : Nat), .int .u64 (dq : Nat)] 34)))
        rw [HVD.out, HES.out.1, HES.out.2] at HE4
        have HE5 := Lib.hid HE4
        clear HE4
        go_wp2_with fail
        refine HE5.out.mono ?_
        rintro r w11 ⟨rfl, k11⟩
        have K11 := Lib.hid (kept_trans K10.out k11)
        have G11 := Lib.hid (kept_trans G10.out k11)
        clear k11 K10 G10 HE5 K9 G9
        go_upto_region 17 with fail
        have K10 := K11; have G10 := G11
        clear K11 G11
        have HNW := Lib.hid (fun W => lvnew_any W)
        have HAP := Lib.hid (fun W (hW : Kept w W) q (hv : IsV W q vT0 1 0 0) => apy_two hv good_vz (HIN.out W hW))
        simp only [HVX.out] at HAP
        -- REGION Back17b BEGIN
        refine wp_region_held_drew (S := fun W => KV w11 W) (by kernel_rfl) ⟨kept_drewN _ 1⟩ (fun hHeld => ?_)
        generalize w11.drew = v1 at hHeld ⊢
        refine wpAnyH_take (i := 1) (v := (.agg #[.slice x.A x.gone.length x.c, y0, y1, y2, y3, .int .u64 (x.nx : Nat), .int .u64 (x.lg : Nat), .int .u64 (x.sq : Nat)])) (List.getElem?_toArray.trans rfl) (by kernel_rfl) (by kernel_rfl) (by kernel_rfl) (fun _ _ _ h => h) (Or.inl ⟨by rfl, ?_⟩) (by assumption) ?_
        · intro W hSw
          obtain ⟨z0, z1, z2, z3, z4, z5, z6, z7⟩ := HB.out W (kept_trans K10.out hSw.k)
          first | (go_simp; done) | (go_simp; rfl)
        simp only [Act.put, List.setIfInBounds_toArray, List.set_cons_zero, List.set_cons_succ]
        refine wpAnyH_ready (rs := [0]) (by kernel_rfl) (by simp) ?_
        refine (AllReadyH.cons (List.getElem?_toArray.trans rfl) (fun K hK => ?_) AllReadyH.nil)
        go_simp
        have HS0 := Lib.hid hHeld
        refine (HNW.out _).mono ?_
        rintro e wa ⟨q0, rfl, hnv, _, ka⟩
        have HNV := Lib.hid hnv
        have HS1 := Lib.hid (show KV w11 wa from ⟨kept_trans HS0.out.k ka⟩)
        clear hnv ka HS0
        go_wp2_with fail
        refine hK.out _ _ HS1.out (fun hHeld => ?_)
        clear hK K
        refine wpAnyH_ready (rs := [2]) (by kernel_rfl) (by simp) ?_
        refine (AllReadyH.cons (List.getElem?_toArray.trans rfl) (fun K hK => ?_) AllReadyH.nil)
        go_simp
        refine (HAP.out _ (kept_trans G10.out HS1.out.k) q0 HNV.out).mono ?_
        rintro r wb ⟨hr, kb⟩
        have HS2 := Lib.hid (show KV w11 wb from ⟨kept_trans HS1.out.k kb⟩)
        clear kb HS1 HNV HAP
        obtain ⟨RP, RC, hrr⟩ : ∃ RP RC, r = .returned (.tuple #[RP, RC]) := by
          rcases hr with ⟨c, _, _, rfl⟩ | ⟨p2, U, _, rfl, _⟩ <;> exact ⟨_, _, rfl⟩
        subst hrr
        go_wp2_with fail
        refine hK.out _ _ HS2.out (fun hHeld => ?_)
        clear hK K
        refine wpAnyH_take (i := 3) (v := (.tuple #[RP, RC])) (List.getElem?_toArray.trans rfl) (by kernel_rfl) (by kernel_rfl) (by kernel_rfl) (fun _ _ _ h => h) (Or.inl ⟨by rfl, ?_⟩) (by assumption) ?_
        · intro W hSw
          first | rfl | (go_simp; done) | (go_simp; rfl)
        simp only [Act.put, List.setIfInBounds_toArray, List.set_cons_zero, List.set_cons_succ]
        refine wpAnyH_take (i := 4) (v := RP) (List.getElem?_toArray.trans rfl) (by kernel_rfl) (by kernel_rfl) (by kernel_rfl) (fun _ _ _ h => h) (Or.inl ⟨by rfl, ?_⟩) (by assumption) ?_
        · intro W hSw
          first | rfl | (go_simp; done) | (go_simp; rfl)
        simp only [Act.put, List.setIfInBounds_toArray, List.set_cons_zero, List.set_cons_succ]
        refine wpAnyH_take (i := 5) (v := RC) (List.getElem?_toArray.trans rfl) (by kernel_rfl) (by kernel_rfl) (by kernel_rfl) (fun _ _ _ h => h) (Or.inl ⟨by rfl, ?_⟩) (by assumption) ?_
        · intro W hSw
          first | rfl | (go_simp; done) | (go_simp; rfl)
        simp only [Act.put, List.setIfInBounds_toArray, List.set_cons_zero, List.set_cons_succ]
        refine wpAnyH_take (i := 6) (v := RP) (List.getElem?_toArray.trans rfl) (by kernel_rfl) (by kernel_rfl) (by kernel_rfl) (fun _ _ _ h => h) (Or.inl ⟨by rfl, ?_⟩) (by assumption) ?_
        · intro W hSw
          first | rfl | (go_simp; done) | (go_simp; rfl)
        simp only [Act.put, List.setIfInBounds_toArray, List.set_cons_zero, List.set_cons_succ]
        refine wpAnyH_take (i := 7) (v := RC) (List.getElem?_toArray.trans rfl) (by kernel_rfl) (by kernel_rfl) (by kernel_rfl) (fun _ _ _ h => h) (Or.inl ⟨by rfl, ?_⟩) (by assumption) ?_
        · intro W hSw
          first | rfl | (go_simp; done) | (go_simp; rfl)
        simp only [Act.put, List.setIfInBounds_toArray, List.set_cons_zero, List.set_cons_succ]
        refine wpAnyH_done (by kernel_rfl) ?_ _
        have HS3 := Lib.hid hHeld.k
        clear HS2
        rcases hr with ⟨c, hc0, _, hrr⟩ | ⟨p2, U, hc, hrr, hv2, hg2, hUl⟩
        · injection hrr with hrr
          injection hrr with hrr
          simp only [Array.mk.injEq, List.cons.injEq, and_true] at hrr
          obtain ⟨rfl, rfl⟩ := hrr
          have G12 := Lib.hid (kept_trans G10.out HS3.out)
          clear hc0
          go_wp2_with fail
          go_ret
          exact ⟨by simp, G12.out⟩
        · injection hrr with hrr
          injection hrr with hrr
          simp only [Array.mk.injEq, List.cons.injEq, and_true] at hrr
          obtain ⟨rfl, rfl⟩ := hrr
          have HV2 := Lib.hid (fun W (hW : Kept wb W) => hv2.kept hW); have HG2 := Lib.hid hg2
          have G12 := Lib.hid (kept_trans G10.out HS3.out)
          clear hc hUl hv2 hg2
          generalize chg 1 x.nx = N1 at *
          generalize chg 0 x.lg = L1 at *
          generalize chg 0 x.sq = S1 at *
          go_wp2_with fail
          refine (HNW.out _).mono ?_
          rintro e w13 ⟨q3, rfl, hnv, _, k13⟩
          have HNV := Lib.hid (fun W (hW : Kept w13 W) => hnv.kept hW)
          have K13 := Lib.hid k13
          clear hnv k13
          have HED := Lib.hid (lvedit_any (HV2.out _ K13.out) HG2.out)
          go_wp2_with fail
          refine HED.out.mono ?_
          rintro e w14 ⟨d3, rfl, hd3, ha3, k14⟩
          have K14 := Lib.hid k14
          have HD3 := Lib.hid hd3
          have hc3 : code vz d3.edt = 0 ∧ ∀ l, l < 4 → res vz d3.edt l = (U l).l := by
            obtain ⟨c1, c2⟩ := code_alike (V := vz) ha3
            obtain ⟨c3, c4⟩ := ver_again HG2.out
            exact ⟨c1.trans c3, fun l hl => (c2 l hl).trans (c4 l hl)⟩
          have HC3 := Lib.hid hc3
          have HA3 := Lib.hid ha3
          have HAP3 := Lib.hid (apy_two (HNV.out _ k14) good_vz hd3)
          clear hd3 ha3 k14 hc3 HED
          go_wp2_with fail
          refine HAP3.out.mono ?_
          rintro r w15 ⟨hr, k15⟩
          have K15 := Lib.hid (kept_trans K13.out (kept_trans K14.out k15))
          rcases hr with ⟨c, hc0, hc1, rfl⟩ | ⟨p4, U4, _, rfl, hv4, hg4, hU4⟩
          · exfalso
            rw [show code (verV vT0 1 0 0) d3.edt = 0 from HC3.out.1] at hc1
            exact hc0 hc1
          have HN4 := Lib.hid (show chg 1 d3.nx = N1 ∧ chg 0 d3.lg = L1 ∧ chg 0 d3.sq = S1 from by
            have hn := HG2.out.nx
            rw [show d3.nx = N1 from HA3.out.2.2.1, show d3.lg = L1 from HA3.out.2.2.2.1, show d3.sq = S1 from HA3.out.2.2.2.2]
            dsimp only [verV] at hn
            unfold chg
            refine ⟨if_neg (by omega), ?_, ?_⟩ <;> (split <;> omega))
          rw [HN4.out.1, HN4.out.2.1, HN4.out.2.2] at hv4 hg4
          have HU4 := Lib.hid (fun l (hl : l < 4) => (hU4 l hl).trans (HC3.out.2 l hl))
          have HV4 := Lib.hid (fun W (hW : Kept w15 W) => hv4.kept hW)
          have HG4 := Lib.hid hg4
          have HE1 := Lib.hid (lvedit_any (HV2.out _ K15.out) HG2.out)
          clear hv4 hg4 hU4 k15 HAP3 HN4
          go_wp2_with fail
          refine HE1.out.mono ?_
          rintro e w16 ⟨da, rfl, hia, haa, k16⟩
          have HIA := Lib.hid (fun W (hW : Kept w16 W) => hia.kept hW)
          have HAA := Lib.hid haa
          have K16 := Lib.hid k16
          have HE2 := Lib.hid (lvedit_any (HV4.out _ k16) HG4.out)
          clear hia haa k16 HE1
          go_wp2_with fail
          refine HE2.out.mono ?_
          rintro e w17 ⟨db, rfl, hib, hab, k17⟩
          have HSM := Lib.hid (lvrsame_any (HIA.out _ k17) hib)
          have HTT := Lib.hid (show Lv.Alike da.edt db.edt from ⟨HAA.out.1.trans hab.1.symm, fun l hl => ((HAA.out.2.1 l hl).trans (HU4.out l hl).symm).trans (hab.2.1 l hl).symm, HAA.out.2.2.1.trans hab.2.2.1.symm, HAA.out.2.2.2.1.trans hab.2.2.2.1.symm, HAA.out.2.2.2.2.trans hab.2.2.2.2.symm⟩)
          have K17 := Lib.hid k17
          clear hib hab k17 HE2
          go_wp2_with fail
          refine HSM.out.mono ?_
          rintro r w18 ⟨B, rfl, hB, k18⟩
          obtain rfl : B = true := hB.2 HTT.out
          have kEn := Lib.hid (kept_trans G12.out (kept_trans K15.out (kept_trans K16.out (kept_trans K17.out k18))))
          clear hB k18 HSM HTT
          go_wp2_with fail
          go_ret
          exact ⟨by simp, kEn.out⟩
        -- REGION Back17b END
  · have d1 : decide ((8192 : Int) < ((bs S).size : Int)) = true := decide_eq_true (by omega)
    go_wp2_with fail
    go_ret
    exact ⟨by simp, G3.out⟩
end Go.Proofs.YtkedbclojhlcgaaGreat
