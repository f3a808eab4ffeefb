/-
  Package level over memory: all tables of two arrays of lists, each level in its order.
-/
import Derived.Test.YtnnmalpnjlnnlaaGreatLevelCopy
import Derived.Test.YtnnmalpnjlnnlaaGreatLevelOrd
import Derived.Test.YtnnmalpnjlnnlaaGreatLevelCat
import Derived.Deep.RegionHeld3
import Derived.Deep.DeepCutAuto
namespace Go.Proofs.YtnnmalpnjlnnlaaGreat
open Go.ChangeShapes Go.WideShapes Go.ChangeAt Go.RowKit
set_option linter.unusedVariables false
set_option maxRecDepth 100000
set_option maxHeartbeats 8000000
open Lv
theorem mts_lies {w : World} {A : Option Addr} {l : List Meta} (h : Mts w A l) : Lies w A (mtl l) := by
  refine ⟨fun e => ?_, fun ad e j u hu => ?_⟩
  · cases l with
    | nil => rfl
    | cons x l => obtain ⟨b, o, e2, _⟩ := h 0 x rfl; rw [e] at e2; cases e2
  · have hjl := (List.getElem?_eq_some_iff.1 hu).1
    rw [mtl_len] at hjl
    obtain ⟨b, o, e2, hb, _⟩ := h 0 _ (List.getElem?_eq_getElem (by omega))
    rw [e2] at e
    cases e
    subst e2
    have hadd : (⟨b, o, none⟩ : Addr).add j = ⟨b, o + j, none⟩ := by unfold Addr.add; split <;> simp_all
    exact ⟨b, rfl, hb, by rw [hadd]; exact mts_news h j u hu⟩
theorem four_at {W : World} {b : Nat} {q : Nat → Value} {t : TypeId} (k : Nat) (hk : k < 4) (hb : W.heap[b]? = some (.cells #[q 0, q 1, q 2, q 3] t (0, 0))) : W.cell? ⟨b, k, none⟩ = some (q k) := by
  have h4 : k = 0 ∨ k = 1 ∨ k = 2 ∨ k = 3 := by omega
  rcases h4 with rfl | rfl | rfl | rfl <;> exact mcell hb _ (by rfl)
theorem Four.step {B k : Nat} {wr w2 : World} {f : Nat → Value} {L : Nat → List Meta} {V : Value} {R : List Meta} (h : Four B wr f L k) (hW : ∀ i, i < k → w2.ownsRow B 43 5 (f i) (L i).length (mtl (L i))) (hV : w2.ownsRow B 43 5 V R.length (mtl R))
    (hap : ∀ i, i < k → ∀ b, (f i).ownBlock = some b → V.ownBlock ≠ some b) : Four B w2 (vset f k V) (vset L k R) (k + 1) := by
  refine ⟨fun i hi => ?_, fun i j hi hj hne b hb => ?_⟩
  · by_cases e : i = k
    · subst e; rw [vset_at, vset_at]; exact hV
    · rw [vset_ne _ _ e, vset_ne _ _ e]; exact hW i (by omega)
  · by_cases e : i = k
    · subst e
      rw [vset_at] at hb
      rw [vset_ne _ _ (Ne.symm hne)]
      exact fun hc => hap j (by omega) b hc hb
    · rw [vset_ne _ _ e] at hb
      by_cases e2 : j = k
      · subst e2; rw [vset_at]; exact hap i (by omega) b hb
      · rw [vset_ne _ _ e2]; exact h.apart i j (by omega) (by omega) hne b hb
theorem lvtog_any {T U : Nat → Lvl} {w : World} (h : Tin w T) (g : Tin w U) (hf : ∀ l, l < 4 → ∀ ad, (T l).A = some ad → ∃ b o, ad = ⟨b, o, none⟩)
    (hl : ∀ l, l < 4 → (T l).l.length ≤ 50000) (gl : ∀ l, l < 4 → (U l).l.length ≤ 50000) :
    Calls Tryz.prog 44 #[tbv T, tbv U] w fun e w' => ∃ f L, e = .returned (four f) ∧ Four w.heap.size w' f L 4 ∧ (∀ l, l < 4 → (L l).Perm ((T l).l ++ (U l).l) ∧ Srt (l == 0) (L l)) ∧ Kept w w' := by
  obtain ⟨f0, hf0⟩ : ∃ f0 : Nat → Value, f0 = fun k => (T k).v := ⟨_, rfl⟩
  obtain ⟨g0, hg0⟩ : ∃ f0 : Nat → Value, f0 = fun k => (U k).v := ⟨_, rfl⟩
  have HF := Lib.hid hf0; have HG := Lib.hid hg0
  have HCT := Lib.hid (fun W (hW : Kept w W) k (hk : k < 4) r (k0 : W.cell? ⟨r, 0, none⟩ = some (f0 k)) (k1 : W.cell? ⟨r, 1, none⟩ = some (g0 k)) (hr : r < W.heap.size) rc =>
    lvcatM_any (A1 := (T k).A) (A2 := (U k).A) (c1 := (T k).c) (c2 := (U k).c) (n1 := (T k).l.length) (n2 := (U k).l.length) (xs := mtl (T k).l) (ys := mtl (U k).l) (w := W) (r := r) (by rw [k0, hf0]; rfl) (by rw [k1, hg0]; rfl) hr (mtl_len _) (mtl_len _)
      (mts_lies (Mts.kept (h.mts k hk) hW)) (mts_lies (Mts.kept (g.mts k hk) hW)) (mtl_one _) (mtl_one _) (hl k hk) (gl k hk) rc)
  unfold tbv
  rw [show (T 0).v = f0 0 by rw [hf0], show (T 1).v = f0 1 by rw [hf0], show (T 2).v = f0 2 by rw [hf0], show (T 3).v = f0 3 by rw [hf0]]
  rw [show (U 0).v = g0 0 by rw [hg0], show (U 1).v = g0 1 by rw [hg0], show (U 2).v = g0 2 by rw [hg0], show (U 3).v = g0 3 by rw [hg0]]
  clear hf0 hg0 h g hf
  go_enter Tryz.func44, Tryz.ntmps44
  go_wp2_with fail
  go_loopw [7] (fun x wr => ∃ (k : Nat) (f : Nat → Value) (L : Nat → List Meta), k ≤ 4 ∧ x = .int .i64 k ∧ Hid (∀ i, k ≤ i → f i = .slice none 0 0) ∧ Hid (∀ l, l < k → (L l).Perm ((T l).l ++ (U l).l) ∧ Srt (l == 0) (L l)) ∧ Hid (Four (w.heap.size + 1 + 1 + 1 + 1) wr f L k)
    ∧ Hid (wr.heap[w.heap.size]? = some (.cells #[f0 0, f0 1, f0 2, f0 3] 71 (0, 0))) ∧ Hid (wr.heap[w.heap.size + 1]? = some (.cells #[g0 0, g0 1, g0 2, g0 3] 71 (0, 0)))
    ∧ Hid (wr.heap[w.heap.size + 1 + 1]? = some (.cells #[.slice none 0 0, .slice none 0 0, .slice none 0 0, .slice none 0 0] 71 (0, 0))) ∧ Hid (wr.heap[w.heap.size + 1 + 1 + 1]? = some (.cells #[f 0, f 1, f 2, f 3] 71 (0, 0))) ∧ Hid (Kept w wr)) (fun x _ => 4 - (intOf x).toNat)
  case atStart =>
    have s0 : ∀ (a b c d : Obj), ((((w.alloc a).alloc b).alloc c).alloc d).heap[w.heap.size]? = (w.alloc a).heap[w.heap.size]? := fun a b c d => by rw [malloc_old _ _ (by simp <;> omega), malloc_old _ _ (by simp <;> omega), malloc_old _ _ (by simp)]
    have s1 : ∀ (a b c d : Obj), ((((w.alloc a).alloc b).alloc c).alloc d).heap[w.heap.size + 1]? = ((w.alloc a).alloc b).heap[(w.alloc a).heap.size]? := fun a b c d => by rw [malloc_old _ _ (by simp <;> omega), malloc_old _ _ (by simp)]; try simp
    have s2 : ∀ (a b c d : Obj), ((((w.alloc a).alloc b).alloc c).alloc d).heap[w.heap.size + 1 + 1]? = (((w.alloc a).alloc b).alloc c).heap[((w.alloc a).alloc b).heap.size]? := fun a b c d => by rw [malloc_old _ _ (by simp)]; try simp
    have s3 : ∀ (a b c d : Obj), ((((w.alloc a).alloc b).alloc c).alloc d).heap[w.heap.size + 1 + 1 + 1]? = ((((w.alloc a).alloc b).alloc c).alloc d).heap[(((w.alloc a).alloc b).alloc c).heap.size]? := fun a b c d => by simp
    refine ⟨0, fun _ => .slice none 0 0, fun _ => [], by omega, rfl, Lib.hid (fun i _ => rfl), Lib.hid (fun l hl => by omega), ⟨fun i hi => by omega, fun i j hi => by omega⟩, ?_, ?_, ?_, ?_, ((((Kept.refl _).alloc _).alloc _).alloc _).alloc _⟩
    · exact (s0 _ _ _ _).trans (malloc_new _ _)
    · exact (s1 _ _ _ _).trans (malloc_new _ _)
    · exact (s2 _ _ _ _).trans (malloc_new _ _)
    · exact (s3 _ _ _ _).trans (malloc_new _ _)
  case round =>
    obtain ⟨k, f, L, hk, rfl, HE, HP, HFO, HB, HC, HZ, HA, HK⟩ := hrel
    by_cases hk4 : k < 4
    · skip
      have hfk : f0 k = .slice (T k).A (T k).l.length (T k).c := by rw [HF.out]; rfl
      have hgk : g0 k = .slice (U k).A (U k).l.length (U k).c := by rw [HG.out]; rfl
      have hek := HE.out k (Nat.le_refl _)
      have hc := fun W (hW : Kept w W) => HCT.out W hW k hk4
      have kb := four_at k hk4 HB.out
      have kc := four_at k hk4 HC.out
      have ka := four_at k hk4 HA.out
      rw [hfk] at kb hc
      rw [hgk] at kc hc
      rw [hek] at ka
      have fa := mfrozen HA.out k
      have hn1 := hl k hk4
      have hn2 := gl k hk4
      clear hfk hgk hek
      have HPL := Lib.hid (show (T k).l ++ (U k).l = (T k).l ++ (U k).l from rfl)
      have hcl : ∀ W (hW : Kept w W) r (k0 : W.cell? ⟨r, 0, none⟩ = some (.slice (T k).A (T k).l.length (T k).c)) (k1 : W.cell? ⟨r, 1, none⟩ = some (.slice (U k).A (U k).l.length (U k).c)) (hr : r < W.heap.size) rc, Calls Tryz.prog 83 #[.slice (some ⟨r, 0, none⟩) 2 rc] W fun e w' => ∃ v, e = .returned v ∧ w'.ownsRow W.heap.size 43 5 v ((T k).l ++ (U k).l).length (mtl ((T k).l ++ (U k).l)) ∧ Kept W w' :=
        fun W hW r k0 k1 hr rc => (hc W hW r k0 k1 hr rc).mono fun e w' ⟨v, h1, h2, h3⟩ => ⟨v, h1, by rw [List.length_append, mtl_app]; exact h2, h3⟩
      clear hc
      have HCL := Lib.hid hcl
      clear hcl
      have hRl : ((T k).l ++ (U k).l).length ≤ 100000 := by rw [List.length_append]; omega
      generalize hR : (T k).l ++ (U k).l = R at HCL HPL hRl
      generalize (T k).A = A1 at *
      generalize (T k).c = c1 at *
      generalize (T k).l.length = n1 at *
      generalize (U k).A = A2 at *
      generalize (U k).c = c2 at *
      generalize (U k).l.length = n2 at *
      have HR := Lib.hid hR
      clear hR
      have HW := Lib.hid (Kept.refl wr)
      have kw : Kept wr (wr.alloc (.cells #[.slice A1 n1 c1, .slice A2 n2 c2] 30)).drew := kept_trans ((Kept.refl _).alloc _) (kept_drewN _ 1)
      have KW := Lib.hid kw
      have hb0 : (wr.alloc (.cells #[.slice A1 n1 c1, .slice A2 n2 c2] 30)).drew.cell? ⟨wr.heap.size, 0, none⟩ = some (.slice A1 n1 c1) := mcell (malloc_new wr _) 0 (by rfl)
      have hb1 : (wr.alloc (.cells #[.slice A1 n1 c1, .slice A2 n2 c2] 30)).drew.cell? ⟨wr.heap.size, 1, none⟩ = some (.slice A2 n2 c2) := mcell (malloc_new wr _) 1 (by rfl)
      have HSZ := Lib.hid (show wr.heap.size < (wr.alloc (.cells #[.slice A1 n1 c1, .slice A2 n2 c2] 30)).drew.heap.size by simp [World.drew])
      have HC1 := Lib.hid (HCL.out _ (kept_trans HK.out kw) _ hb0 hb1 HSZ.out 2)
      have hsz := Below.size kw
      clear kw hb0 hb1 HSZ HCL HCT HW
      go_upto_region 5 with fail
      go_cut [] from 8 to 26 (fun wc => ∃ VA vc w1, Hid (w1.ownsRow wr.heap.size 43 5 (.slice VA R.length vc) R.length (mtl R)) ∧ Hid (Kept wr w1) ∧ wc = w1.setCell ⟨w.heap.size + 1 + 1 + 1, k, none⟩ (.slice VA R.length vc))
      case first =>
        go_region_with (first
          | (go_at_call 83
             refine HC1.out.mono ?_
             rintro e w1 ⟨v, rfl, hown, g1⟩
             obtain ⟨VA, vc, rfl⟩ := own_slice hown
             have HOW := Lib.hid (own_base hown hsz)
             have HG1 := Lib.hid (kept_trans KW.out g1)
             have ka1 := mcell (hp_kept HA.out HG1.out) k (four_get f k hk4)
             have fa1 := mfrozen (hp_kept HA.out HG1.out) k
             rw [HE.out k (Nat.le_refl _)] at ka1
             clear hown g1))
        all_goals
          go_wp2_with fail
          go_meet
          exact ⟨_, _, _, HOW, HG1, rfl⟩
      case rest =>
        obtain ⟨VA, vc, w1, HOW, HG1, hwc⟩ := hcut
        have HA1 := Lib.hid (hp_kept HA.out HG1.out)
        have hne : (Value.slice VA R.length vc).ownBlock ≠ some (w.heap.size + 1 + 1 + 1) := fun e => by
          have h1 := (own_new HOW.out e).1
          have h2 := mheap_lt HA.out
          omega
        have HOC := Lib.hid (own_set' HOW.out hne k (.slice VA R.length vc))
        have hAc := lvset HA1.out k (.slice VA R.length vc)
        rw [four_set f k _ hk4] at hAc
        rw [← hwc] at HOC hAc
        have HAC := Lib.hid hAc
        have kac := mcell hAc k (four_get (vset f k (.slice VA R.length vc)) k hk4)
        rw [vset_at] at kac
        have HSO := Lib.hid (fun q => lvsort_own (own_kept HOC.out (kept_drewN wc q)) (by omega) (k == 0))
        have HOR := Lib.hid (fun W => lvorder_any k W)
        have HNE := Lib.hid hne
        have HWC := Lib.hid hwc
        have HR2 := Lib.hid hRl
        clear hAc hwc hne hRl hsz kb kc ka fa HC1
        go_upto_region 6 with fail
        go_region_with (first
          | (go_at_call 85
             refine (HOR.out _).mono ?_
             rintro e w2 ⟨rfl, rfl⟩)
          | (go_at_call 84
             refine (HSO.out 1).mono ?_
             rintro e w2 ⟨rfl, ⟨R', hp, hs, hown2⟩, hg2⟩))
        all_goals
          have hol : ∀ b, (Value.slice VA R.length vc).ownBlock = some b → wr.heap.size ≤ b := fun b e => (own_new HOW.out e).1
          have hsame : ∀ b o, wr.heap[b]? = some o → b ≠ w.heap.size + 1 + 1 + 1 → w2.heap[b]? = some o := fun b o hb hn => by
            have hlt := mheap_lt hb
            have h1 : wc.heap[b]? = some o := by rw [HWC.out]; exact lvset_ne (hp_kept hb HG1.out) hn k _
            rw [hg2.block b (mheap_lt h1) (fun e => by have := hol b e.symm; omega)]
            exact h1
          have hA2 : w2.heap[w.heap.size + 1 + 1 + 1]? = some (.cells #[vset f k (.slice VA R.length vc) 0, vset f k (.slice VA R.length vc) 1, vset f k (.slice VA R.length vc) 2, vset f k (.slice VA R.length vc) 3] 71 (0, 0)) := by
            rw [hg2.block _ (mheap_lt HAC.out) (Ne.symm HNE.out)]
            exact HAC.out
          have hK2 : Kept w w2 := by
            have kc : Kept w wc := by rw [HWC.out]; exact Below.setCell (kept_trans HK.out HG1.out) (by show w.heap.size ≤ w.heap.size + 1 + 1 + 1; omega) _
            exact Below.grown (kept_trans kc (kept_drewN wc 1)) hg2 (Below.size (kept_trans kc (kept_drewN wc 1))) (fun b hb => by have := hol b hb; have := Below.size HK.out; omega)
          have hF2 := HFO.out.step (w2 := w2) (V := .slice VA R.length vc) (R := R') (fun i hi => by
            have h0 := own_kept (HFO.out.own i hi) HG1.out
            have h1 : wc.ownsRow (w.heap.size + 1 + 1 + 1 + 1) 43 5 (f i) (L i).length (mtl (L i)) := by
              rw [HWC.out]
              exact own_set' h0 (fun e => by have := (own_new (HFO.out.own i hi) e).1; omega) k _
            exact (own_kept h1 (kept_drewN wc 1)).kept hg2 (by
              cases hb : (f i).ownBlock with
              | none => exact .inl rfl
              | some b => exact .inr (fun e => by have h3 := hol b e.symm; have h4 := (own_new (HFO.out.own i hi) hb).2; omega)))
            (by rw [hp.length_eq]; exact own_base hown2 (by have := mheap_lt HA.out; omega)) (fun i hi b hb e => by have h3 := hol b e; have h4 := (own_new (HFO.out.own i hi) hb).2; omega)
          have HF2 := Lib.hid hF2
          have HA2 := Lib.hid hA2; have HK2 := Lib.hid hK2
          have HB2 := Lib.hid (hsame _ _ HB.out (by omega))
          have HCC2 := Lib.hid (hsame _ _ HC.out (by omega))
          have HZ2 := Lib.hid (hsame _ _ HZ.out (by omega))
          have HP2 := Lib.hid (show ∀ l, l < k + 1 → (vset L k R' l).Perm ((T l).l ++ (U l).l) ∧ Srt (l == 0) (vset L k R' l) from fun l hl2 => by
            by_cases e : l = k
            · subst e; rw [vset_at, HR.out]; exact ⟨hp, hs⟩
            · rw [vset_ne _ _ e]; exact HP.out l (by omega))
          clear hol hsame hA2 hK2 hF2 hg2 hown2 hp hs HAC kac
          go_wp2_with fail
          go_roundw
          case rel => exact ⟨k + 1, vset f k (.slice VA R.length vc), vset L k R', by omega, by go_num, Lib.hid (fun i hi => by rw [vset_ne _ _ (by omega)]; exact HE.out i (by omega)), HP2, HF2, HB2, HCC2, HZ2, HA2, HK2⟩
          case measure => simp [intOf]; omega
    · obtain rfl : k = 4 := by omega
      obtain ⟨A0, c0, e0⟩ := own_slice (HFO.out.own 0 (by omega))
      obtain ⟨A1, c1, e1⟩ := own_slice (HFO.out.own 1 (by omega))
      obtain ⟨A2, c2, e2⟩ := own_slice (HFO.out.own 2 (by omega))
      obtain ⟨A3, c3, e3⟩ := own_slice (HFO.out.own 3 (by omega))
      generalize (L 0).length = n0 at e0
      generalize (L 1).length = n1 at e1
      generalize (L 2).length = n2 at e2
      generalize (L 3).length = n3 at e3
      have HR := Lib.hid (show four f = .agg #[.slice A0 n0 c0, .slice A1 n1 c1, .slice A2 n2 c2, .slice A3 n3 c3] by unfold four; rw [e0, e1, e2, e3])
      rw [e0, e1, e2, e3] at HA
      clear e0 e1 e2 e3 HE hl gl
      obtain ⟨b0, b1, b2, b3⟩ := four_cells HA.out
      obtain ⟨z0, z1, z2, z3⟩ := four_cells HZ.out
      have y0 := mfrozen HZ.out 0
      have y1 := mfrozen HZ.out 1
      have y2 := mfrozen HZ.out 2
      have y3 := mfrozen HZ.out 3
      go_wp2_with fail
      have n2' := lvset (lvset (lvset (lvset HZ.out 0 (.slice A0 n0 c0)) 1 (.slice A1 n1 c1)) 2 (.slice A2 n2 c2)) 3 (.slice A3 n3 c3)
      have HFZ := Lib.hid ((((HFO.out.set (b := w.heap.size + 1 + 1) (by omega) 0 (.slice A0 n0 c0)).set (b := w.heap.size + 1 + 1) (by omega) 1 (.slice A1 n1 c1)).set (b := w.heap.size + 1 + 1) (by omega) 2 (.slice A2 n2 c2)).set (b := w.heap.size + 1 + 1) (by omega) 3 (.slice A3 n3 c3))
      have hle : w.heap.size ≤ w.heap.size + 1 + 1 := by omega
      have gz : Kept w ((((wr.setCell ⟨w.heap.size + 1 + 1, 0, none⟩ (.slice A0 n0 c0)).setCell ⟨w.heap.size + 1 + 1, 1, none⟩ (.slice A1 n1 c1)).setCell ⟨w.heap.size + 1 + 1, 2, none⟩ (.slice A2 n2 c2)).setCell ⟨w.heap.size + 1 + 1, 3, none⟩ (.slice A3 n3 c3)) := Below.setCell (Below.setCell (Below.setCell (Below.setCell HK.out hle _) hle _) hle _) hle _
      generalize (((wr.setCell ⟨w.heap.size + 1 + 1, 0, none⟩ (.slice A0 n0 c0)).setCell ⟨w.heap.size + 1 + 1, 1, none⟩ (.slice A1 n1 c1)).setCell ⟨w.heap.size + 1 + 1, 2, none⟩ (.slice A2 n2 c2)).setCell ⟨w.heap.size + 1 + 1, 3, none⟩ (.slice A3 n3 c3) = wz at *
      obtain ⟨k0, k1, k2, k3⟩ := four_cells n2'
      refine bodyPost_ret (v := .agg #[.slice A0 n0 c0, .slice A1 n1 c1, .slice A2 n2 c2, .slice A3 n3 c3]) (by simp [results, Tryz.results44, go_sem, k0, k1, k2, k3]) rfl ⟨f, L, by rw [HR.out], ⟨fun i hi => own_base (HFZ.out.own i hi) (by omega), HFZ.out.apart⟩, HP.out, gz⟩
end Go.Proofs.YtnnmalpnjlnnlaaGreat
