/-
  Statement LevelOrder: the walk (written by genlevelorder.py).
-/
import Derived.Test.YtnnmalpnjlnnlaaGreatLevelOrdMath
import Derived.RegionTactic
import Derived.Deep.RegionHeld3
namespace Go.Proofs.YtnnmalpnjlnnlaaGreat
open Go.ChangeShapes Go.WideShapes Go.ChangeAt Go.RowKit
set_option linter.unusedVariables false
set_option maxRecDepth 100000
set_option maxHeartbeats 16000000
open Lv
theorem LevelOrder_walk (A0 : Option Addr) (c0 : Nat) (l : List Ed) {w : World} (ha : Eds w A0 l) (hl : l.length ≤ maxLen) :
    Calls Tryz.prog 7 #[.slice A0 l.length c0] w fun e w' => e = .returned (.bool true) ∧ Kept w w' := by
  have HA := Lib.hid (fun W (hW : Kept w W) => ha.kept hW)
  clear ha
  unfold maxLen at hl
  go_enter Tryz.func7, Tryz.ntmps7
  go_wp2_with fail
  refine (lvawake_any _).mono ?_
  rintro e w1 ⟨rfl, k1⟩
  have K1 := Lib.hid k1
  clear k1
  go_wp2_with fail
  refine (lvnew_any _).mono ?_
  rintro e w2 ⟨p, rfl, hv, _, k2⟩
  have K2 := Lib.hid (kept_trans K1.out k2)
  have HV2 := Lib.hid hv
  clear k2 K1 hv
  go_wp2_with fail
  go_loopw [3, 4] (fun v t wr => ∃ (i p nx lg sq : Nat) (T : Nat → Lvl), i ≤ l.length ∧ i ≤ 40 ∧ v = .pointer (some ⟨p, 0, none⟩) ∧ t = .int .i64 i ∧ Hid (IsV wr p T nx lg sq) ∧ Hid (Lv.Good (verV T nx lg sq)) ∧ Hid (Kept w wr)) (fun _ t _ => l.length - (intOf t).toNat)
  case atStart => exact ⟨0, p, 1, 0, 0, vT0, Nat.zero_le _, Nat.zero_le _, rfl, rfl, HV2, Lib.hid good_vz, K2⟩
  case round =>
    clear HV2 K2
    obtain ⟨i, p, nx, lg, sq, T, hi, hi40, rfl, rfl, HV, HG, HK⟩ := hrel
    by_cases hlt : i < l.length
    · have d1 : decide ((i : Int) < (l.length : Int)) = true := decide_eq_true (by omega)
      by_cases h40 : i < 40
      · have d2 : decide ((i : Int) < 40) = true := decide_eq_true (by omega)
        obtain ⟨x, hx⟩ : ∃ x, l[i]? = some x := ⟨_, List.getElem?_eq_getElem hlt⟩
        obtain ⟨b, o, rfl, hb, _, _⟩ := HA.out w (Kept.refl _) i x hx
        have HX := Lib.hid (fun W (hW : Kept w W) => ed_at (HA.out W hW i x hx))
        have HW := Lib.hid (fun W (hW : Kept w W) => ed_wk (HA.out W hW i x hx))
        have HLG := Lib.hid (fun W (hW : Kept w W) => lvlarge_any (ed_wk (HA.out W hW i x hx)))
        have HAP := Lib.hid (fun W (hW : Kept wr W) (hin : x.In W) => apy_two (HV.out.kept hW) HG.out hin)
        have hev : x.v = .agg #[.slice x.A x.gone.length x.c, (x.T 0).v, (x.T 1).v, (x.T 2).v, (x.T 3).v, .int .u64 (x.nx : Nat), .int .u64 (x.lg : Nat), .int .u64 (x.sq : Nat)] := rfl
        rw [hev] at HLG HAP
        clear hx hev
        unfold EdAt at HX
        generalize (x.T 0).v = y0 at *
        generalize (x.T 1).v = y1 at *
        generalize (x.T 2).v = y2 at *
        generalize (x.T 3).v = y3 at *
        obtain ⟨z0, z1, z2, z3, z4, z5, z6, z7⟩ := HX.out wr HK.out
        go_wp2_with fail
        refine (HLG.out _ HK.out).mono ?_
        rintro r w3 ⟨B, rfl, hB, k3⟩
        have K3 := Lib.hid k3
        have KW3 := Lib.hid (kept_trans HK.out k3)
        clear k3 z0 z1 z2 z3 z4 z5 z6 z7 HLG
        cases B with
        | true =>
          go_wp2_with fail
          go_ret
          exact ⟨rfl, KW3.out⟩
        | false =>
        have HS := Lib.hid (hB rfl)
        clear hB
        obtain ⟨z0, z1, z2, z3, z4, z5, z6, z7⟩ := HX.out w3 KW3.out
        go_wp2_with fail
        refine (HAP.out _ K3.out ((HW.out _ KW3.out).inn HS.out)).mono ?_
        rintro r w4 ⟨hr, k4⟩
        have K4 := Lib.hid (kept_trans K3.out k4)
        have KW4 := Lib.hid (kept_trans KW3.out k4)
        clear k4 z0 z1 z2 z3 z4 z5 z6 z7 HAP K3 KW3
        rcases hr with ⟨c, hc0, _, rfl⟩ | ⟨p2, U, hc, rfl, hv2, hg2, hUl⟩
        · go_wp2_with fail
          go_roundw
          case rel => exact ⟨i + 1, p, nx, lg, sq, T, by omega, by omega, rfl, by go_num, Lib.hid (HV.out.kept K4.out), HG, KW4⟩
          case measure => simp [intOf]; omega
        · have HV2 := Lib.hid hv2; have HG2 := Lib.hid hg2
          have HST := Lib.hid (fun y (hy : y ∈ fls T 4) (hg : y ∉ x.gone) => ord_stay (T := T) (fun _ => rfl) hUl hy hg)
          have HGB := Lib.hid (fun n (hn : n ∈ x.gone) => ord_gone (E := x.edt) HG.out hc hn)
          have HIN := Lib.hid (fun W (hW : Kept w W) => ((HW.out W hW).inn HS.out).gone)
          have HGL := Lib.hid HS.out.1
          have HTM := Lib.hid (fun y (hy : y ∈ fls T 4) => ord_mem HG.out hy)
          have HTL := Lib.hid (fun k (hk : k < 4) => Nat.le_trans (HG.out.len k hk) (by omega : 30 ≤ 100000))
          clear hc hUl hv2 hg2
          generalize chg nx x.nx = N1 at *
          generalize chg lg x.lg = L1 at *
          generalize chg sq x.sq = S1 at *
          have HNB := Lib.hid (fun W (hW : Kept w4 W) => lvnums_any (HV2.out.kept hW))
          go_wp2_with fail
          refine (HNB.out _ (Kept.refl _)).mono ?_
          rintro r w5 ⟨rfl, q5, rfl⟩
          have K5 := Lib.hid (kept_drewN w4 q5)
          generalize w4.drewN q5 = w5 at *
          have KW5 := Lib.hid (kept_trans KW4.out K5.out)
          have HV5 := Lib.hid (HV2.out.kept K5.out)
          have HVO := Lib.hid (fun W (hW : Kept w5 W) => HV.out.kept (kept_trans K4.out (kept_trans K5.out hW)))
          have HON := Lib.hid (show (fls U 4).Nodup from by rw [fls_lists (L := fun l => (U l).l) (fun l _ => rfl)]; exact HG2.out.once)
          have HLE := Lib.hid (fun k (hk : k < 4) => HG2.out.len k hk)
          have hmk : ∀ W : World, (Instr.makeMap 65 none).run Tryz.prog W = .ok (.map (some W.heap.size)) (W.alloc (.map #[] 0)) := fun _ => rfl
          clear HNB HV2
          go_wp2_with fail
          have HN0 := Lib.hid (nsIs_new w5)
          have K0 := Lib.hid ((Kept.refl w5).alloc (.map #[] 0))
          go_loopw [11] (fun t wr => ∃ k : Nat, k ≤ 4 ∧ t = .int .i64 k ∧ Hid (NsIs wr w5.heap.size (fls U k)) ∧ Hid (Kept w5 wr)) (fun t _ => 4 - (intOf t).toNat)
          case atStart => exact ⟨0, by omega, rfl, HN0, K0⟩
          case round =>
            clear HN0 K0 hmk
            obtain ⟨k, hk4, rfl, HNK, HKK⟩ := hrel
            by_cases hk : k < 4
            · have d3 : decide ((k : Int) < 4) = true := decide_eq_true (by omega)
              have HLV := Lib.hid (lvlevel_any (HV5.out.kept HKK.out) k hk (Nat.le_trans (HLE.out k hk) (by omega)))
              go_wp2_with fail
              refine HLV.out.mono ?_
              rintro e w6 ⟨v, rfl, ho, k6⟩
              have HO6 := Lib.hid ho
              have HN6 := Lib.hid (HNK.out.kept k6)
              have K6 := Lib.hid (kept_trans HKK.out k6)
              have HBL := Lib.hid HNK.out.lt
              have HGM := Lib.hid (fun j x (hx : (U k).l[j]? = some x) => HG2.out.may k hk x (List.mem_of_getElem? hx))
              have HGN := Lib.hid (fun j x (hx : (U k).l[j]? = some x) => HG2.out.num k hk x (List.mem_of_getElem? hx))
              have HGO := Lib.hid (fun j x (hx : (U k).l[j]? = some x) => ord_once hk HON.out hx)
              have HGS := Lib.hid (fun j x (hx : (U k).l[j]? = some x) => ord_step hx)
              have HTP := Lib.hid (fun (e : k = 0) j a b (ha : (U k).l[j]? = some a) (hb : (U k).l[j + 1]? = some b) => ord_top HG2.out (j := j) (a := a) (b := b) (by subst e; exact ha) (by subst e; exact hb))
              have HLW := Lib.hid (fun (e : 1 ≤ k) j a b (ha : (U k).l[j]? = some a) (hb : (U k).l[j + 1]? = some b) => ord_low HG2.out hk e ha hb)
              have HFU := Lib.hid (show fls U k ++ ((U k).l.take (U k).l.length).map Meta.file = fls U (k + 1) from by rw [List.take_length, fls_succ])
              have HN60 := Lib.hid (show NsIs w6 w5.heap.size (fls U k ++ ((U k).l.take 0).map Meta.file) from by rw [List.take_zero, List.map_nil, List.append_nil]; exact HN6.out)
              have hl30 : (U k).l.length ≤ 30 := HLE.out k hk
              have hfl := fls_len U 30 HLE.out k (by omega)
              obtain ⟨oA, oc, rfl⟩ := own_slice ho
              clear ho k6 HLV HN6 HNK HKK
              generalize hM : (U k).l = M at *
              clear hM
              generalize wr.heap.size = xb at *
              go_wp2_with fail
              go_loopw [66] (fun t wj => ∃ j : Nat, j ≤ M.length ∧ t = .int .i64 j ∧ Hid (NsIs wj w5.heap.size (fls U k ++ (M.take j).map Meta.file)) ∧ Hid (Kept w5 wj) ∧ Hid (wj.ownsRow xb 43 5 (.slice oA M.length oc) M.length (mtl M))) (fun t _ => M.length - (intOf t).toNat)
              case atStart => exact ⟨0, Nat.zero_le _, rfl, HN60, K6, HO6⟩
              case round =>
                clear HN60 K6 HO6
                obtain ⟨j, hj, rfl, HN, HKJ, HOW⟩ := hrel
                by_cases hjl : j < M.length
                · have d4 : decide ((j : Int) < (M.length : Int)) = true := decide_eq_true (by omega)
                  obtain ⟨x, hx⟩ : ∃ x, M[j]? = some x := ⟨_, List.getElem?_eq_getElem hjl⟩
                  obtain ⟨bo, oo, rfl, hbo, _⟩ := own_mts HOW.out j x hx
                  have HGX := Lib.hid (fun W (hW : Kept wr W) => mt_at (own_mts (own_kp hW HOW.out) j x hx))
                  have hM30 : M.length ≤ 30 := hl30
                  have hnum := HGN.out j x hx
                  dsimp only [verV] at hnum
                  have hnx := HG2.out.nx
                  dsimp only [verV] at hnx
                  have HFX := Lib.hid (show x.file ≤ 18446744073709551615 by omega)
                  have HLK := Lib.hid (fun W (hW : Kept wr W) => ((HN.out.kept hW).look HFX.out).trans (by rw [decide_eq_false (HGO.out j x hx)]))
                  have HMY := Lib.hid (fun W => (lvmay_any x (sane_may (HGM.out j x hx)) W).mono (R' := fun e w' => e = .returned (.bool true) ∧ Kept W w') (fun e w' h => ⟨by rw [h.1, show Lv.may x = true from HGM.out j x hx], h.2⟩))
                  unfold mtv at HMY
                  have HSTP := Lib.hid (HGS.out j x hx)
                  have HJL := Lib.hid hjl
                  have HLN := Lib.hid (show (fls U k ++ (M.take j).map Meta.file).length ≤ 10000000 by rw [List.length_append, List.length_map, List.length_take]; omega)
                  have a1 : decide ((N1 : Int) ≤ (x.file : Int)) = false := decide_eq_false (by omega)
                  have a2 : decide ((S1 : Int) < (x.seq : Int)) = false := decide_eq_false (by omega)
                  clear hnx hfl hl30
                  by_cases h0 : 0 < j
                  · obtain ⟨q, hq⟩ : ∃ q, j = q + 1 := ⟨j - 1, by omega⟩
                    obtain ⟨y, hy⟩ : ∃ y, M[q]? = some y := ⟨_, List.getElem?_eq_getElem (by omega)⟩
                    have HGP := Lib.hid (fun W (hW : Kept wr W) => mt_at (own_mts (own_kp hW HOW.out) q y hy))
                    have a3 : decide ((0 : Int) < (j : Int)) = true := decide_eq_true (by omega)
                    have a4 : IntKind.i64.wrap (q : Int) = q := by rw [IntKind.wrap_i64]; omega
                    have a5 : (j : Int) - 1 = (q : Int) := by omega
                    have a9 : q < M.length := by omega
                    have hx' : M[q + 1]? = some x := by rw [← hq]; exact hx
                    by_cases hk0 : k = 0
                    · as_aux_lemma =>
                        have a6 : ((k : Int) == 0) = true := by rw [hk0]; rfl
                        have a7 : decide ((0 : Int) < (k : Int)) = false := decide_eq_false (by omega)
                        have b8 : x.file < y.file := HTP.out hk0 q y x hy hx'
                        have a8 : decide ((y.file : Int) ≤ (x.file : Int)) = false := decide_eq_false (by omega)
                        have HK0 := Lib.hid hk0
                        clear hx hx' hy hq hk0
                        go_upto_region 22 with fail
                        refine wp_region_held_drew (S := fun W => KV wr W) (by kernel_rfl) ⟨kept_drewN _ 1⟩ (fun hHeld => ?_)
                        refine wpAnyH_take (i := 0) (v := (.map (some w5.heap.size))) (List.getElem?_toArray.trans rfl) (by kernel_rfl) (by kernel_rfl) (by kernel_rfl) (fun _ _ _ h => h) (Or.inl ⟨by rfl, ?_⟩) (by assumption) ?_
                        · intro W hSw
                          first | rfl | (go_simp; done) | (go_simp; rfl)
                        simp only [Act.put, List.setIfInBounds_toArray, List.set_cons_zero, List.set_cons_succ]
                        refine wpAnyH_take (i := 1) (v := (.slice (some ⟨bo, oo, none⟩) M.length oc)) (List.getElem?_toArray.trans rfl) (by kernel_rfl) (by kernel_rfl) (by kernel_rfl) (fun _ _ _ h => h) (Or.inl ⟨by rfl, ?_⟩) (by assumption) ?_
                        · intro W hSw
                          first | rfl | (go_simp; done) | (go_simp; rfl)
                        simp only [Act.put, List.setIfInBounds_toArray, List.set_cons_zero, List.set_cons_succ]
                        refine wpAnyH_take (i := 2) (v := (.int .i64 (j : Nat))) (List.getElem?_toArray.trans rfl) (by kernel_rfl) (by kernel_rfl) (by kernel_rfl) (fun _ _ _ h => h) (Or.inl ⟨by rfl, ?_⟩) (by assumption) ?_
                        · intro W hSw
                          first | rfl | (go_simp; done) | (go_simp; rfl)
                        simp only [Act.put, List.setIfInBounds_toArray, List.set_cons_zero, List.set_cons_succ]
                        refine wpAnyH_take (i := 3) (v := (.pointer (some ⟨bo, oo + j * 5, none⟩))) (List.getElem?_toArray.trans rfl) (by kernel_rfl) (by kernel_rfl) (by kernel_rfl) (fun _ _ _ h => h) (Or.inl ⟨by rfl, ?_⟩) (by assumption) ?_
                        · intro W hSw
                          first | rfl | (go_simp; done) | (go_simp; rfl)
                        simp only [Act.put, List.setIfInBounds_toArray, List.set_cons_zero, List.set_cons_succ]
                        refine wpAnyH_take (i := 4) (v := (.pointer (some ⟨bo, oo + j * 5, none⟩))) (List.getElem?_toArray.trans rfl) (by kernel_rfl) (by kernel_rfl) (by kernel_rfl) (fun _ _ _ h => h) (Or.inl ⟨by rfl, ?_⟩) (by assumption) ?_
                        · intro W hSw
                          first | rfl | (go_simp; done) | (go_simp; rfl)
                        simp only [Act.put, List.setIfInBounds_toArray, List.set_cons_zero, List.set_cons_succ]
                        refine wpAnyH_take (i := 5) (v := (.int .u64 (x.file : Nat))) (List.getElem?_toArray.trans rfl) (by kernel_rfl) (by kernel_rfl) (by kernel_rfl) (fun _ _ _ h => h) (Or.inl ⟨by rfl, ?_⟩) (by assumption) ?_
                        · intro W hSw
                          obtain ⟨q0, q1, q2, q3, q4⟩ := HGX.out W hSw.k
                          first | (go_simp; done) | (go_simp; rfl)
                        simp only [Act.put, List.setIfInBounds_toArray, List.set_cons_zero, List.set_cons_succ]
                        refine wpAnyH_take (i := 6) (v := (.bool false)) (List.getElem?_toArray.trans rfl) (by kernel_rfl) (by kernel_rfl) (by kernel_rfl) (fun _ _ _ h => h) (Or.inl ⟨by rfl, ?_⟩) (by assumption) ?_
                        · intro W hSw
                          have q0 := HLK.out W hSw.k
                          first | (go_simp; done) | (go_simp; rfl)
                        simp only [Act.put, List.setIfInBounds_toArray, List.set_cons_zero, List.set_cons_succ]
                        refine wpAnyH_take (i := 7) (v := (.bool false)) (List.getElem?_toArray.trans rfl) (by kernel_rfl) (by kernel_rfl) (by kernel_rfl) (fun _ _ _ h => h) (Or.inl ⟨by rfl, ?_⟩) (by assumption) ?_
                        · intro W hSw
                          first | rfl | (go_simp; done) | (go_simp; rfl)
                        simp only [Act.put, List.setIfInBounds_toArray, List.set_cons_zero, List.set_cons_succ]
                        refine wpAnyH_take (i := 8) (v := (.slice (some ⟨bo, oo, none⟩) M.length oc)) (List.getElem?_toArray.trans rfl) (by kernel_rfl) (by kernel_rfl) (by kernel_rfl) (fun _ _ _ h => h) (Or.inl ⟨by rfl, ?_⟩) (by assumption) ?_
                        · intro W hSw
                          first | rfl | (go_simp; done) | (go_simp; rfl)
                        simp only [Act.put, List.setIfInBounds_toArray, List.set_cons_zero, List.set_cons_succ]
                        refine wpAnyH_take (i := 9) (v := (.int .i64 (j : Nat))) (List.getElem?_toArray.trans rfl) (by kernel_rfl) (by kernel_rfl) (by kernel_rfl) (fun _ _ _ h => h) (Or.inl ⟨by rfl, ?_⟩) (by assumption) ?_
                        · intro W hSw
                          first | rfl | (go_simp; done) | (go_simp; rfl)
                        simp only [Act.put, List.setIfInBounds_toArray, List.set_cons_zero, List.set_cons_succ]
                        as_aux_lemma =>
                        refine wpAnyH_take (i := 10) (v := (.pointer (some ⟨bo, oo + j * 5, none⟩))) (List.getElem?_toArray.trans rfl) (by kernel_rfl) (by kernel_rfl) (by kernel_rfl) (fun _ _ _ h => h) (Or.inl ⟨by rfl, ?_⟩) (by assumption) ?_
                        · intro W hSw
                          first | rfl | (go_simp; done) | (go_simp; rfl)
                        simp only [Act.put, List.setIfInBounds_toArray, List.set_cons_zero, List.set_cons_succ]
                        refine wpAnyH_take (i := 11) (v := (.pointer (some ⟨bo, oo + j * 5, none⟩))) (List.getElem?_toArray.trans rfl) (by kernel_rfl) (by kernel_rfl) (by kernel_rfl) (fun _ _ _ h => h) (Or.inl ⟨by rfl, ?_⟩) (by assumption) ?_
                        · intro W hSw
                          first | rfl | (go_simp; done) | (go_simp; rfl)
                        simp only [Act.put, List.setIfInBounds_toArray, List.set_cons_zero, List.set_cons_succ]
                        refine wpAnyH_take (i := 12) (v := (.int .u64 (x.file : Nat))) (List.getElem?_toArray.trans rfl) (by kernel_rfl) (by kernel_rfl) (by kernel_rfl) (fun _ _ _ h => h) (Or.inl ⟨by rfl, ?_⟩) (by assumption) ?_
                        · intro W hSw
                          obtain ⟨q0, q1, q2, q3, q4⟩ := HGX.out W hSw.k
                          first | (go_simp; done) | (go_simp; rfl)
                        simp only [Act.put, List.setIfInBounds_toArray, List.set_cons_zero, List.set_cons_succ]
                        refine wpAnyH_take (i := 13) (v := (.int .u64 (N1 : Nat))) (List.getElem?_toArray.trans rfl) (by kernel_rfl) (by kernel_rfl) (by kernel_rfl) (fun _ _ _ h => h) (Or.inl ⟨by rfl, ?_⟩) (by assumption) ?_
                        · intro W hSw
                          first | rfl | (go_simp; done) | (go_simp; rfl)
                        simp only [Act.put, List.setIfInBounds_toArray, List.set_cons_zero, List.set_cons_succ]
                        refine wpAnyH_take (i := 14) (v := (.bool false)) (List.getElem?_toArray.trans rfl) (by kernel_rfl) (by kernel_rfl) (by kernel_rfl) (fun _ _ _ h => h) (Or.inl ⟨by rfl, ?_⟩) (by assumption) ?_
                        · intro W hSw
                          first | (go_simp; done) | (go_simp; rfl) | (go_simp; omega)
                        simp only [Act.put, List.setIfInBounds_toArray, List.set_cons_zero, List.set_cons_succ]
                        refine wpAnyH_take (i := 15) (v := (.bool false)) (List.getElem?_toArray.trans rfl) (by kernel_rfl) (by kernel_rfl) (by kernel_rfl) (fun _ _ _ h => h) (Or.inl ⟨by rfl, ?_⟩) (by assumption) ?_
                        · intro W hSw
                          first | rfl | (go_simp; done) | (go_simp; rfl)
                        simp only [Act.put, List.setIfInBounds_toArray, List.set_cons_zero, List.set_cons_succ]
                        refine wpAnyH_take (i := 16) (v := (.bool false)) (List.getElem?_toArray.trans rfl) (by kernel_rfl) (by kernel_rfl) (by kernel_rfl) (fun _ _ _ h => h) (Or.inl ⟨by rfl, ?_⟩) (by assumption) ?_
                        · intro W hSw
                          first | rfl | (go_simp; done) | (go_simp; rfl)
                        simp only [Act.put, List.setIfInBounds_toArray, List.set_cons_zero, List.set_cons_succ]
                        refine wpAnyH_take (i := 17) (v := (.slice (some ⟨bo, oo, none⟩) M.length oc)) (List.getElem?_toArray.trans rfl) (by kernel_rfl) (by kernel_rfl) (by kernel_rfl) (fun _ _ _ h => h) (Or.inl ⟨by rfl, ?_⟩) (by assumption) ?_
                        · intro W hSw
                          first | rfl | (go_simp; done) | (go_simp; rfl)
                        simp only [Act.put, List.setIfInBounds_toArray, List.set_cons_zero, List.set_cons_succ]
                        refine wpAnyH_take (i := 18) (v := (.int .i64 (j : Nat))) (List.getElem?_toArray.trans rfl) (by kernel_rfl) (by kernel_rfl) (by kernel_rfl) (fun _ _ _ h => h) (Or.inl ⟨by rfl, ?_⟩) (by assumption) ?_
                        · intro W hSw
                          first | rfl | (go_simp; done) | (go_simp; rfl)
                        simp only [Act.put, List.setIfInBounds_toArray, List.set_cons_zero, List.set_cons_succ]
                        refine wpAnyH_take (i := 19) (v := (.pointer (some ⟨bo, oo + j * 5, none⟩))) (List.getElem?_toArray.trans rfl) (by kernel_rfl) (by kernel_rfl) (by kernel_rfl) (fun _ _ _ h => h) (Or.inl ⟨by rfl, ?_⟩) (by assumption) ?_
                        · intro W hSw
                          first | rfl | (go_simp; done) | (go_simp; rfl)
                        simp only [Act.put, List.setIfInBounds_toArray, List.set_cons_zero, List.set_cons_succ]
                        as_aux_lemma =>
                        refine wpAnyH_take (i := 20) (v := (.pointer (some ⟨bo, oo + j * 5 + 4, none⟩))) (List.getElem?_toArray.trans rfl) (by kernel_rfl) (by kernel_rfl) (by kernel_rfl) (fun _ _ _ h => h) (Or.inl ⟨by rfl, ?_⟩) (by assumption) ?_
                        · intro W hSw
                          first | rfl | (go_simp; done) | (go_simp; rfl)
                        simp only [Act.put, List.setIfInBounds_toArray, List.set_cons_zero, List.set_cons_succ]
                        refine wpAnyH_take (i := 21) (v := (.int .u64 (x.seq : Nat))) (List.getElem?_toArray.trans rfl) (by kernel_rfl) (by kernel_rfl) (by kernel_rfl) (fun _ _ _ h => h) (Or.inl ⟨by rfl, ?_⟩) (by assumption) ?_
                        · intro W hSw
                          obtain ⟨q0, q1, q2, q3, q4⟩ := HGX.out W hSw.k
                          first | (go_simp; done) | (go_simp; rfl)
                        simp only [Act.put, List.setIfInBounds_toArray, List.set_cons_zero, List.set_cons_succ]
                        refine wpAnyH_take (i := 22) (v := (.int .u64 (S1 : Nat))) (List.getElem?_toArray.trans rfl) (by kernel_rfl) (by kernel_rfl) (by kernel_rfl) (fun _ _ _ h => h) (Or.inl ⟨by rfl, ?_⟩) (by assumption) ?_
                        · intro W hSw
                          first | rfl | (go_simp; done) | (go_simp; rfl)
                        simp only [Act.put, List.setIfInBounds_toArray, List.set_cons_zero, List.set_cons_succ]
                        refine wpAnyH_take (i := 23) (v := (.bool false)) (List.getElem?_toArray.trans rfl) (by kernel_rfl) (by kernel_rfl) (by kernel_rfl) (fun _ _ _ h => h) (Or.inl ⟨by rfl, ?_⟩) (by assumption) ?_
                        · intro W hSw
                          first | (go_simp; done) | (go_simp; rfl) | (go_simp; omega)
                        simp only [Act.put, List.setIfInBounds_toArray, List.set_cons_zero, List.set_cons_succ]
                        refine wpAnyH_take (i := 24) (v := (.bool false)) (List.getElem?_toArray.trans rfl) (by kernel_rfl) (by kernel_rfl) (by kernel_rfl) (fun _ _ _ h => h) (Or.inl ⟨by rfl, ?_⟩) (by assumption) ?_
                        · intro W hSw
                          first | rfl | (go_simp; done) | (go_simp; rfl)
                        simp only [Act.put, List.setIfInBounds_toArray, List.set_cons_zero, List.set_cons_succ]
                        refine wpAnyH_take (i := 25) (v := (.bool false)) (List.getElem?_toArray.trans rfl) (by kernel_rfl) (by kernel_rfl) (by kernel_rfl) (fun _ _ _ h => h) (Or.inl ⟨by rfl, ?_⟩) (by assumption) ?_
                        · intro W hSw
                          first | rfl | (go_simp; done) | (go_simp; rfl)
                        simp only [Act.put, List.setIfInBounds_toArray, List.set_cons_zero, List.set_cons_succ]
                        refine wpAnyH_take (i := 26) (v := (.slice (some ⟨bo, oo, none⟩) M.length oc)) (List.getElem?_toArray.trans rfl) (by kernel_rfl) (by kernel_rfl) (by kernel_rfl) (fun _ _ _ h => h) (Or.inl ⟨by rfl, ?_⟩) (by assumption) ?_
                        · intro W hSw
                          first | rfl | (go_simp; done) | (go_simp; rfl)
                        simp only [Act.put, List.setIfInBounds_toArray, List.set_cons_zero, List.set_cons_succ]
                        refine wpAnyH_take (i := 27) (v := (.int .i64 (j : Nat))) (List.getElem?_toArray.trans rfl) (by kernel_rfl) (by kernel_rfl) (by kernel_rfl) (fun _ _ _ h => h) (Or.inl ⟨by rfl, ?_⟩) (by assumption) ?_
                        · intro W hSw
                          first | rfl | (go_simp; done) | (go_simp; rfl)
                        simp only [Act.put, List.setIfInBounds_toArray, List.set_cons_zero, List.set_cons_succ]
                        refine wpAnyH_take (i := 28) (v := (.pointer (some ⟨bo, oo + j * 5, none⟩))) (List.getElem?_toArray.trans rfl) (by kernel_rfl) (by kernel_rfl) (by kernel_rfl) (fun _ _ _ h => h) (Or.inl ⟨by rfl, ?_⟩) (by assumption) ?_
                        · intro W hSw
                          first | rfl | (go_simp; done) | (go_simp; rfl)
                        simp only [Act.put, List.setIfInBounds_toArray, List.set_cons_zero, List.set_cons_succ]
                        refine wpAnyH_take (i := 29) (v := (.agg #[.int .u64 (x.file : Nat), .int .i64 x.size, .string (bs x.first), .string (bs x.last), .int .u64 (x.seq : Nat)])) (List.getElem?_toArray.trans rfl) (by kernel_rfl) (by kernel_rfl) (by kernel_rfl) (fun _ _ _ h => h) (Or.inl ⟨by rfl, ?_⟩) (by assumption) ?_
                        · intro W hSw
                          obtain ⟨q0, q1, q2, q3, q4⟩ := HGX.out W hSw.k
                          first | (go_simp; done) | (go_simp; rfl)
                        simp only [Act.put, List.setIfInBounds_toArray, List.set_cons_zero, List.set_cons_succ]
                        refine wpAnyH_ready (rs := [30]) (by kernel_rfl) (by simp) ?_
                        refine (AllReadyH.cons (List.getElem?_toArray.trans rfl) (fun K hK => ?_) AllReadyH.nil)
                        go_simp
                        refine (HMY.out _).mono ?_
                        rintro e wa ⟨rfl, ga⟩
                        have HS := Lib.hid (KV.mk (kept_trans hHeld.k ga))
                        clear ga hHeld
                        go_wp2_with fail
                        refine hK.out _ _ HS.out (fun hHeld => ?_)
                        clear hK K
                        as_aux_lemma =>
                        refine wpAnyH_take (i := 31) (v := (.bool false)) (List.getElem?_toArray.trans rfl) (by kernel_rfl) (by kernel_rfl) (by kernel_rfl) (fun _ _ _ h => h) (Or.inl ⟨by rfl, ?_⟩) (by assumption) ?_
                        · intro W hSw
                          first | rfl | (go_simp; done) | (go_simp; rfl)
                        simp only [Act.put, List.setIfInBounds_toArray, List.set_cons_zero, List.set_cons_succ]
                        refine wpAnyH_take (i := 32) (v := (.bool false)) (List.getElem?_toArray.trans rfl) (by kernel_rfl) (by kernel_rfl) (by kernel_rfl) (fun _ _ _ h => h) (Or.inl ⟨by rfl, ?_⟩) (by assumption) ?_
                        · intro W hSw
                          first | rfl | (go_simp; done) | (go_simp; rfl)
                        simp only [Act.put, List.setIfInBounds_toArray, List.set_cons_zero, List.set_cons_succ]
                        refine wpAnyH_take (i := 33) (v := (.bool false)) (List.getElem?_toArray.trans rfl) (by kernel_rfl) (by kernel_rfl) (by kernel_rfl) (fun _ _ _ h => h) (Or.inl ⟨by rfl, ?_⟩) (by assumption) ?_
                        · intro W hSw
                          first | rfl | (go_simp; done) | (go_simp; rfl)
                        simp only [Act.put, List.setIfInBounds_toArray, List.set_cons_zero, List.set_cons_succ]
                        refine wpAnyH_take (i := 34) (v := (.int .i64 (j : Nat))) (List.getElem?_toArray.trans rfl) (by kernel_rfl) (by kernel_rfl) (by kernel_rfl) (fun _ _ _ h => h) (Or.inl ⟨by rfl, ?_⟩) (by assumption) ?_
                        · intro W hSw
                          first | rfl | (go_simp; done) | (go_simp; rfl)
                        simp only [Act.put, List.setIfInBounds_toArray, List.set_cons_zero, List.set_cons_succ]
                        refine wpAnyH_take (i := 35) (v := (.bool true)) (List.getElem?_toArray.trans rfl) (by kernel_rfl) (by kernel_rfl) (by kernel_rfl) (fun _ _ _ h => h) (Or.inl ⟨by rfl, ?_⟩) (by assumption) ?_
                        · intro W hSw
                          first | (go_simp; done) | (go_simp; rfl) | (go_simp; omega)
                        simp only [Act.put, List.setIfInBounds_toArray, List.set_cons_zero, List.set_cons_succ]
                        refine wpAnyH_take (i := 36) (v := (.bool true)) (List.getElem?_toArray.trans rfl) (by kernel_rfl) (by kernel_rfl) (by kernel_rfl) (fun _ _ _ h => h) (Or.inl ⟨by rfl, ?_⟩) (by assumption) ?_
                        · intro W hSw
                          first | rfl | (go_simp; done) | (go_simp; rfl)
                        simp only [Act.put, List.setIfInBounds_toArray, List.set_cons_zero, List.set_cons_succ]
                        refine wpAnyH_take (i := 37) (v := (.int .i64 (k : Nat))) (List.getElem?_toArray.trans rfl) (by kernel_rfl) (by kernel_rfl) (by kernel_rfl) (fun _ _ _ h => h) (Or.inl ⟨by rfl, ?_⟩) (by assumption) ?_
                        · intro W hSw
                          first | rfl | (go_simp; done) | (go_simp; rfl)
                        simp only [Act.put, List.setIfInBounds_toArray, List.set_cons_zero, List.set_cons_succ]
                        refine wpAnyH_take (i := 38) (v := (.bool true)) (List.getElem?_toArray.trans rfl) (by kernel_rfl) (by kernel_rfl) (by kernel_rfl) (fun _ _ _ h => h) (Or.inl ⟨by rfl, ?_⟩) (by assumption) ?_
                        · intro W hSw
                          first | (go_simp; done) | (go_simp; rfl) | (go_simp; omega)
                        simp only [Act.put, List.setIfInBounds_toArray, List.set_cons_zero, List.set_cons_succ]
                        refine wpAnyH_take (i := 39) (v := (.bool true)) (List.getElem?_toArray.trans rfl) (by kernel_rfl) (by kernel_rfl) (by kernel_rfl) (fun _ _ _ h => h) (Or.inl ⟨by rfl, ?_⟩) (by assumption) ?_
                        · intro W hSw
                          first | rfl | (go_simp; done) | (go_simp; rfl)
                        simp only [Act.put, List.setIfInBounds_toArray, List.set_cons_zero, List.set_cons_succ]
                        refine wpAnyH_take (i := 40) (v := (.slice (some ⟨bo, oo, none⟩) M.length oc)) (List.getElem?_toArray.trans rfl) (by kernel_rfl) (by kernel_rfl) (by kernel_rfl) (fun _ _ _ h => h) (Or.inl ⟨by rfl, ?_⟩) (by assumption) ?_
                        · intro W hSw
                          first | rfl | (go_simp; done) | (go_simp; rfl)
                        simp only [Act.put, List.setIfInBounds_toArray, List.set_cons_zero, List.set_cons_succ]
                        as_aux_lemma =>
                        refine wpAnyH_take (i := 41) (v := (.int .i64 (j : Nat))) (List.getElem?_toArray.trans rfl) (by kernel_rfl) (by kernel_rfl) (by kernel_rfl) (fun _ _ _ h => h) (Or.inl ⟨by rfl, ?_⟩) (by assumption) ?_
                        · intro W hSw
                          first | rfl | (go_simp; done) | (go_simp; rfl)
                        simp only [Act.put, List.setIfInBounds_toArray, List.set_cons_zero, List.set_cons_succ]
                        refine wpAnyH_take (i := 42) (v := (.int .i64 (q : Nat))) (List.getElem?_toArray.trans rfl) (by kernel_rfl) (by kernel_rfl) (by kernel_rfl) (fun _ _ _ h => h) (Or.inl ⟨by rfl, ?_⟩) (by assumption) ?_
                        · intro W hSw
                          first | rfl | (go_simp; done) | (go_simp; rfl)
                        simp only [Act.put, List.setIfInBounds_toArray, List.set_cons_zero, List.set_cons_succ]
                        refine wpAnyH_take (i := 43) (v := (.pointer (some ⟨bo, oo + q * 5, none⟩))) (List.getElem?_toArray.trans rfl) (by kernel_rfl) (by kernel_rfl) (by kernel_rfl) (fun _ _ _ h => h) (Or.inl ⟨by rfl, ?_⟩) (by assumption) ?_
                        · intro W hSw
                          first | rfl | (go_simp; done) | (go_simp; rfl)
                        simp only [Act.put, List.setIfInBounds_toArray, List.set_cons_zero, List.set_cons_succ]
                        refine wpAnyH_take (i := 44) (v := (.pointer (some ⟨bo, oo + q * 5, none⟩))) (List.getElem?_toArray.trans rfl) (by kernel_rfl) (by kernel_rfl) (by kernel_rfl) (fun _ _ _ h => h) (Or.inl ⟨by rfl, ?_⟩) (by assumption) ?_
                        · intro W hSw
                          first | rfl | (go_simp; done) | (go_simp; rfl)
                        simp only [Act.put, List.setIfInBounds_toArray, List.set_cons_zero, List.set_cons_succ]
                        refine wpAnyH_take (i := 45) (v := (.int .u64 (y.file : Nat))) (List.getElem?_toArray.trans rfl) (by kernel_rfl) (by kernel_rfl) (by kernel_rfl) (fun _ _ _ h => h) (Or.inl ⟨by rfl, ?_⟩) (by assumption) ?_
                        · intro W hSw
                          obtain ⟨q0, q1, q2, q3, q4⟩ := HGP.out W hSw.k
                          first | (go_simp; done) | (go_simp; rfl)
                        simp only [Act.put, List.setIfInBounds_toArray, List.set_cons_zero, List.set_cons_succ]
                        refine wpAnyH_take (i := 46) (v := (.slice (some ⟨bo, oo, none⟩) M.length oc)) (List.getElem?_toArray.trans rfl) (by kernel_rfl) (by kernel_rfl) (by kernel_rfl) (fun _ _ _ h => h) (Or.inl ⟨by rfl, ?_⟩) (by assumption) ?_
                        · intro W hSw
                          first | rfl | (go_simp; done) | (go_simp; rfl)
                        simp only [Act.put, List.setIfInBounds_toArray, List.set_cons_zero, List.set_cons_succ]
                        refine wpAnyH_take (i := 47) (v := (.int .i64 (j : Nat))) (List.getElem?_toArray.trans rfl) (by kernel_rfl) (by kernel_rfl) (by kernel_rfl) (fun _ _ _ h => h) (Or.inl ⟨by rfl, ?_⟩) (by assumption) ?_
                        · intro W hSw
                          first | rfl | (go_simp; done) | (go_simp; rfl)
                        simp only [Act.put, List.setIfInBounds_toArray, List.set_cons_zero, List.set_cons_succ]
                        refine wpAnyH_take (i := 48) (v := (.pointer (some ⟨bo, oo + j * 5, none⟩))) (List.getElem?_toArray.trans rfl) (by kernel_rfl) (by kernel_rfl) (by kernel_rfl) (fun _ _ _ h => h) (Or.inl ⟨by rfl, ?_⟩) (by assumption) ?_
                        · intro W hSw
                          first | rfl | (go_simp; done) | (go_simp; rfl)
                        simp only [Act.put, List.setIfInBounds_toArray, List.set_cons_zero, List.set_cons_succ]
                        refine wpAnyH_take (i := 49) (v := (.pointer (some ⟨bo, oo + j * 5, none⟩))) (List.getElem?_toArray.trans rfl) (by kernel_rfl) (by kernel_rfl) (by kernel_rfl) (fun _ _ _ h => h) (Or.inl ⟨by rfl, ?_⟩) (by assumption) ?_
                        · intro W hSw
                          first | rfl | (go_simp; done) | (go_simp; rfl)
                        simp only [Act.put, List.setIfInBounds_toArray, List.set_cons_zero, List.set_cons_succ]
                        refine wpAnyH_take (i := 50) (v := (.int .u64 (x.file : Nat))) (List.getElem?_toArray.trans rfl) (by kernel_rfl) (by kernel_rfl) (by kernel_rfl) (fun _ _ _ h => h) (Or.inl ⟨by rfl, ?_⟩) (by assumption) ?_
                        · intro W hSw
                          obtain ⟨q0, q1, q2, q3, q4⟩ := HGX.out W hSw.k
                          first | (go_simp; done) | (go_simp; rfl)
                        simp only [Act.put, List.setIfInBounds_toArray, List.set_cons_zero, List.set_cons_succ]
                        as_aux_lemma =>
                        refine wpAnyH_take (i := 51) (v := (.bool false)) (List.getElem?_toArray.trans rfl) (by kernel_rfl) (by kernel_rfl) (by kernel_rfl) (fun _ _ _ h => h) (Or.inl ⟨by rfl, ?_⟩) (by assumption) ?_
                        · intro W hSw
                          first | (go_simp; done) | (go_simp; rfl) | (go_simp; omega)
                        simp only [Act.put, List.setIfInBounds_toArray, List.set_cons_zero, List.set_cons_succ]
                        refine wpAnyH_take (i := 52) (v := (.bool false)) (List.getElem?_toArray.trans rfl) (by kernel_rfl) (by kernel_rfl) (by kernel_rfl) (fun _ _ _ h => h) (Or.inl ⟨by rfl, ?_⟩) (by assumption) ?_
                        · intro W hSw
                          first | rfl | (go_simp; done) | (go_simp; rfl)
                        simp only [Act.put, List.setIfInBounds_toArray, List.set_cons_zero, List.set_cons_succ]
                        refine wpAnyH_take (i := 53) (v := (.bool false)) (List.getElem?_toArray.trans rfl) (by kernel_rfl) (by kernel_rfl) (by kernel_rfl) (fun _ _ _ h => h) (Or.inl ⟨by rfl, ?_⟩) (by assumption) ?_
                        · intro W hSw
                          first | rfl | (go_simp; done) | (go_simp; rfl)
                        simp only [Act.put, List.setIfInBounds_toArray, List.set_cons_zero, List.set_cons_succ]
                        refine wpAnyH_take (i := 54) (v := (.int .i64 (k : Nat))) (List.getElem?_toArray.trans rfl) (by kernel_rfl) (by kernel_rfl) (by kernel_rfl) (fun _ _ _ h => h) (Or.inl ⟨by rfl, ?_⟩) (by assumption) ?_
                        · intro W hSw
                          first | rfl | (go_simp; done) | (go_simp; rfl)
                        simp only [Act.put, List.setIfInBounds_toArray, List.set_cons_zero, List.set_cons_succ]
                        refine wpAnyH_take (i := 55) (v := (.bool false)) (List.getElem?_toArray.trans rfl) (by kernel_rfl) (by kernel_rfl) (by kernel_rfl) (fun _ _ _ h => h) (Or.inl ⟨by rfl, ?_⟩) (by assumption) ?_
                        · intro W hSw
                          have hk0 := HK0.out
                          first | (go_simp; done) | (go_simp; rfl) | (go_simp; omega)
                        simp only [Act.put, List.setIfInBounds_toArray, List.set_cons_zero, List.set_cons_succ]
                        refine wpAnyH_take (i := 56) (v := (.bool false)) (List.getElem?_toArray.trans rfl) (by kernel_rfl) (by kernel_rfl) (by kernel_rfl) (fun _ _ _ h => h) (Or.inl ⟨by rfl, ?_⟩) (by assumption) ?_
                        · intro W hSw
                          first | rfl | (go_simp; done) | (go_simp; rfl)
                        simp only [Act.put, List.setIfInBounds_toArray, List.set_cons_zero, List.set_cons_succ]
                        refine wpAnyH_take (i := 57) (v := undef) (List.getElem?_toArray.trans rfl) (by kernel_rfl) (by kernel_rfl) (by kernel_rfl) (fun _ _ _ h => h) (Or.inr ⟨by rfl, rfl⟩) (by assumption) ?_
                        simp only [Act.put, List.setIfInBounds_toArray, List.set_cons_zero, List.set_cons_succ]
                        refine wpAnyH_take (i := 58) (v := undef) (List.getElem?_toArray.trans rfl) (by kernel_rfl) (by kernel_rfl) (by kernel_rfl) (fun _ _ _ h => h) (Or.inr ⟨by rfl, rfl⟩) (by assumption) ?_
                        simp only [Act.put, List.setIfInBounds_toArray, List.set_cons_zero, List.set_cons_succ]
                        refine wpAnyH_take (i := 59) (v := undef) (List.getElem?_toArray.trans rfl) (by kernel_rfl) (by kernel_rfl) (by kernel_rfl) (fun _ _ _ h => h) (Or.inr ⟨by rfl, rfl⟩) (by assumption) ?_
                        simp only [Act.put, List.setIfInBounds_toArray, List.set_cons_zero, List.set_cons_succ]
                        refine wpAnyH_take (i := 60) (v := undef) (List.getElem?_toArray.trans rfl) (by kernel_rfl) (by kernel_rfl) (by kernel_rfl) (fun _ _ _ h => h) (Or.inr ⟨by rfl, rfl⟩) (by assumption) ?_
                        simp only [Act.put, List.setIfInBounds_toArray, List.set_cons_zero, List.set_cons_succ]
                        as_aux_lemma =>
                        refine wpAnyH_take (i := 61) (v := undef) (List.getElem?_toArray.trans rfl) (by kernel_rfl) (by kernel_rfl) (by kernel_rfl) (fun _ _ _ h => h) (Or.inr ⟨by rfl, rfl⟩) (by assumption) ?_
                        simp only [Act.put, List.setIfInBounds_toArray, List.set_cons_zero, List.set_cons_succ]
                        refine wpAnyH_take (i := 62) (v := undef) (List.getElem?_toArray.trans rfl) (by kernel_rfl) (by kernel_rfl) (by kernel_rfl) (fun _ _ _ h => h) (Or.inr ⟨by rfl, rfl⟩) (by assumption) ?_
                        simp only [Act.put, List.setIfInBounds_toArray, List.set_cons_zero, List.set_cons_succ]
                        refine wpAnyH_take (i := 63) (v := undef) (List.getElem?_toArray.trans rfl) (by kernel_rfl) (by kernel_rfl) (by kernel_rfl) (fun _ _ _ h => h) (Or.inr ⟨by rfl, rfl⟩) (by assumption) ?_
                        simp only [Act.put, List.setIfInBounds_toArray, List.set_cons_zero, List.set_cons_succ]
                        refine wpAnyH_take (i := 64) (v := undef) (List.getElem?_toArray.trans rfl) (by kernel_rfl) (by kernel_rfl) (by kernel_rfl) (fun _ _ _ h => h) (Or.inr ⟨by rfl, rfl⟩) (by assumption) ?_
                        simp only [Act.put, List.setIfInBounds_toArray, List.set_cons_zero, List.set_cons_succ]
                        refine wpAnyH_take (i := 65) (v := undef) (List.getElem?_toArray.trans rfl) (by kernel_rfl) (by kernel_rfl) (by kernel_rfl) (fun _ _ _ h => h) (Or.inr ⟨by rfl, rfl⟩) (by assumption) ?_
                        simp only [Act.put, List.setIfInBounds_toArray, List.set_cons_zero, List.set_cons_succ]
                        refine wpAnyH_take (i := 66) (v := undef) (List.getElem?_toArray.trans rfl) (by kernel_rfl) (by kernel_rfl) (by kernel_rfl) (fun _ _ _ h => h) (Or.inr ⟨by rfl, rfl⟩) (by assumption) ?_
                        simp only [Act.put, List.setIfInBounds_toArray, List.set_cons_zero, List.set_cons_succ]
                        refine wpAnyH_take (i := 67) (v := undef) (List.getElem?_toArray.trans rfl) (by kernel_rfl) (by kernel_rfl) (by kernel_rfl) (fun _ _ _ h => h) (Or.inr ⟨by rfl, rfl⟩) (by assumption) ?_
                        simp only [Act.put, List.setIfInBounds_toArray, List.set_cons_zero, List.set_cons_succ]
                        refine wpAnyH_take (i := 68) (v := undef) (List.getElem?_toArray.trans rfl) (by kernel_rfl) (by kernel_rfl) (by kernel_rfl) (fun _ _ _ h => h) (Or.inr ⟨by rfl, rfl⟩) (by assumption) ?_
                        simp only [Act.put, List.setIfInBounds_toArray, List.set_cons_zero, List.set_cons_succ]
                        refine wpAnyH_take (i := 69) (v := (.bool false)) (List.getElem?_toArray.trans rfl) (by kernel_rfl) (by kernel_rfl) (by kernel_rfl) (fun _ _ _ h => h) (Or.inl ⟨by rfl, ?_⟩) (by assumption) ?_
                        · intro W hSw
                          first | rfl | (go_simp; done) | (go_simp; rfl)
                        simp only [Act.put, List.setIfInBounds_toArray, List.set_cons_zero, List.set_cons_succ]
                        refine wpAnyH_take (i := 70) (v := (.bool false)) (List.getElem?_toArray.trans rfl) (by kernel_rfl) (by kernel_rfl) (by kernel_rfl) (fun _ _ _ h => h) (Or.inl ⟨by rfl, ?_⟩) (by assumption) ?_
                        · intro W hSw
                          first | rfl | (go_simp; done) | (go_simp; rfl)
                        simp only [Act.put, List.setIfInBounds_toArray, List.set_cons_zero, List.set_cons_succ]
                        as_aux_lemma =>
                        refine wpAnyH_take (i := 71) (v := (.bool false)) (List.getElem?_toArray.trans rfl) (by kernel_rfl) (by kernel_rfl) (by kernel_rfl) (fun _ _ _ h => h) (Or.inl ⟨by rfl, ?_⟩) (by assumption) ?_
                        · intro W hSw
                          first | rfl | (go_simp; done) | (go_simp; rfl)
                        simp only [Act.put, List.setIfInBounds_toArray, List.set_cons_zero, List.set_cons_succ]
                        refine wpAnyH_take (i := 72) (v := (.bool false)) (List.getElem?_toArray.trans rfl) (by kernel_rfl) (by kernel_rfl) (by kernel_rfl) (fun _ _ _ h => h) (Or.inl ⟨by rfl, ?_⟩) (by assumption) ?_
                        · intro W hSw
                          first | rfl | (go_simp; done) | (go_simp; rfl)
                        simp only [Act.put, List.setIfInBounds_toArray, List.set_cons_zero, List.set_cons_succ]
                        refine wpAnyH_done (by kernel_rfl) ?_ _
                        have HH := Lib.hid hHeld.k
                        obtain ⟨q0, q1, q2, q3, q4⟩ := HGX.out _ HH.out
                        obtain ⟨w9, hst, sq9, g9, z9⟩ := (HN.out.kept HH.out).store HLN.out x.file HFX.out
                        have HN9 := Lib.hid (show NsIs w9 w5.heap.size (fls U k ++ (M.take (j + 1)).map Meta.file) from by rw [← HSTP.out]; exact sq9)
                        have K9 := Lib.hid (okept_store (w := w5) HKJ.out HH.out g9 (Nat.le_refl _))
                        have HOW9 := Lib.hid (own_other g9 (own_kp HH.out HOW.out) HBL.out)
                        clear sq9 g9 z9 hHeld
                        go_wp2_with fail
                        go_roundw
                        case rel => exact ⟨j + 1, by have := HJL.out; omega, by go_num, HN9, K9, HOW9⟩
                        case measure => have := HJL.out; simp [intOf]; omega
                    · as_aux_lemma =>
                        have a6 : ((k : Int) == 0) = false := by rw [beq_eq_false_iff_ne]; omega
                        have a7 : decide ((0 : Int) < (k : Int)) = true := decide_eq_true (by omega)
                        have a8 : Op.bytesLess (bs y.last).toList (bs x.first).toList = true := by rw [lvbs_list, lvbs_list, Mm.less_eq]; exact decide_eq_true (HLW.out (by omega) q y x hy hx')
                        clear hx hx' hy hq
                        go_upto_region 22 with fail
                        refine wp_region_held_drew (S := fun W => KV wr W) (by kernel_rfl) ⟨kept_drewN _ 1⟩ (fun hHeld => ?_)
                        refine wpAnyH_take (i := 0) (v := (.map (some w5.heap.size))) (List.getElem?_toArray.trans rfl) (by kernel_rfl) (by kernel_rfl) (by kernel_rfl) (fun _ _ _ h => h) (Or.inl ⟨by rfl, ?_⟩) (by assumption) ?_
                        · intro W hSw
                          first | rfl | (go_simp; done) | (go_simp; rfl)
                        simp only [Act.put, List.setIfInBounds_toArray, List.set_cons_zero, List.set_cons_succ]
                        refine wpAnyH_take (i := 1) (v := (.slice (some ⟨bo, oo, none⟩) M.length oc)) (List.getElem?_toArray.trans rfl) (by kernel_rfl) (by kernel_rfl) (by kernel_rfl) (fun _ _ _ h => h) (Or.inl ⟨by rfl, ?_⟩) (by assumption) ?_
                        · intro W hSw
                          first | rfl | (go_simp; done) | (go_simp; rfl)
                        simp only [Act.put, List.setIfInBounds_toArray, List.set_cons_zero, List.set_cons_succ]
                        refine wpAnyH_take (i := 2) (v := (.int .i64 (j : Nat))) (List.getElem?_toArray.trans rfl) (by kernel_rfl) (by kernel_rfl) (by kernel_rfl) (fun _ _ _ h => h) (Or.inl ⟨by rfl, ?_⟩) (by assumption) ?_
                        · intro W hSw
                          first | rfl | (go_simp; done) | (go_simp; rfl)
                        simp only [Act.put, List.setIfInBounds_toArray, List.set_cons_zero, List.set_cons_succ]
                        refine wpAnyH_take (i := 3) (v := (.pointer (some ⟨bo, oo + j * 5, none⟩))) (List.getElem?_toArray.trans rfl) (by kernel_rfl) (by kernel_rfl) (by kernel_rfl) (fun _ _ _ h => h) (Or.inl ⟨by rfl, ?_⟩) (by assumption) ?_
                        · intro W hSw
                          first | rfl | (go_simp; done) | (go_simp; rfl)
                        simp only [Act.put, List.setIfInBounds_toArray, List.set_cons_zero, List.set_cons_succ]
                        refine wpAnyH_take (i := 4) (v := (.pointer (some ⟨bo, oo + j * 5, none⟩))) (List.getElem?_toArray.trans rfl) (by kernel_rfl) (by kernel_rfl) (by kernel_rfl) (fun _ _ _ h => h) (Or.inl ⟨by rfl, ?_⟩) (by assumption) ?_
                        · intro W hSw
                          first | rfl | (go_simp; done) | (go_simp; rfl)
                        simp only [Act.put, List.setIfInBounds_toArray, List.set_cons_zero, List.set_cons_succ]
                        refine wpAnyH_take (i := 5) (v := (.int .u64 (x.file : Nat))) (List.getElem?_toArray.trans rfl) (by kernel_rfl) (by kernel_rfl) (by kernel_rfl) (fun _ _ _ h => h) (Or.inl ⟨by rfl, ?_⟩) (by assumption) ?_
                        · intro W hSw
                          obtain ⟨q0, q1, q2, q3, q4⟩ := HGX.out W hSw.k
                          first | (go_simp; done) | (go_simp; rfl)
                        simp only [Act.put, List.setIfInBounds_toArray, List.set_cons_zero, List.set_cons_succ]
                        refine wpAnyH_take (i := 6) (v := (.bool false)) (List.getElem?_toArray.trans rfl) (by kernel_rfl) (by kernel_rfl) (by kernel_rfl) (fun _ _ _ h => h) (Or.inl ⟨by rfl, ?_⟩) (by assumption) ?_
                        · intro W hSw
                          have q0 := HLK.out W hSw.k
                          first | (go_simp; done) | (go_simp; rfl)
                        simp only [Act.put, List.setIfInBounds_toArray, List.set_cons_zero, List.set_cons_succ]
                        refine wpAnyH_take (i := 7) (v := (.bool false)) (List.getElem?_toArray.trans rfl) (by kernel_rfl) (by kernel_rfl) (by kernel_rfl) (fun _ _ _ h => h) (Or.inl ⟨by rfl, ?_⟩) (by assumption) ?_
                        · intro W hSw
                          first | rfl | (go_simp; done) | (go_simp; rfl)
                        simp only [Act.put, List.setIfInBounds_toArray, List.set_cons_zero, List.set_cons_succ]
                        refine wpAnyH_take (i := 8) (v := (.slice (some ⟨bo, oo, none⟩) M.length oc)) (List.getElem?_toArray.trans rfl) (by kernel_rfl) (by kernel_rfl) (by kernel_rfl) (fun _ _ _ h => h) (Or.inl ⟨by rfl, ?_⟩) (by assumption) ?_
                        · intro W hSw
                          first | rfl | (go_simp; done) | (go_simp; rfl)
                        simp only [Act.put, List.setIfInBounds_toArray, List.set_cons_zero, List.set_cons_succ]
                        refine wpAnyH_take (i := 9) (v := (.int .i64 (j : Nat))) (List.getElem?_toArray.trans rfl) (by kernel_rfl) (by kernel_rfl) (by kernel_rfl) (fun _ _ _ h => h) (Or.inl ⟨by rfl, ?_⟩) (by assumption) ?_
                        · intro W hSw
                          first | rfl | (go_simp; done) | (go_simp; rfl)
                        simp only [Act.put, List.setIfInBounds_toArray, List.set_cons_zero, List.set_cons_succ]
                        as_aux_lemma =>
                        refine wpAnyH_take (i := 10) (v := (.pointer (some ⟨bo, oo + j * 5, none⟩))) (List.getElem?_toArray.trans rfl) (by kernel_rfl) (by kernel_rfl) (by kernel_rfl) (fun _ _ _ h => h) (Or.inl ⟨by rfl, ?_⟩) (by assumption) ?_
                        · intro W hSw
                          first | rfl | (go_simp; done) | (go_simp; rfl)
                        simp only [Act.put, List.setIfInBounds_toArray, List.set_cons_zero, List.set_cons_succ]
                        refine wpAnyH_take (i := 11) (v := (.pointer (some ⟨bo, oo + j * 5, none⟩))) (List.getElem?_toArray.trans rfl) (by kernel_rfl) (by kernel_rfl) (by kernel_rfl) (fun _ _ _ h => h) (Or.inl ⟨by rfl, ?_⟩) (by assumption) ?_
                        · intro W hSw
                          first | rfl | (go_simp; done) | (go_simp; rfl)
                        simp only [Act.put, List.setIfInBounds_toArray, List.set_cons_zero, List.set_cons_succ]
                        refine wpAnyH_take (i := 12) (v := (.int .u64 (x.file : Nat))) (List.getElem?_toArray.trans rfl) (by kernel_rfl) (by kernel_rfl) (by kernel_rfl) (fun _ _ _ h => h) (Or.inl ⟨by rfl, ?_⟩) (by assumption) ?_
                        · intro W hSw
                          obtain ⟨q0, q1, q2, q3, q4⟩ := HGX.out W hSw.k
                          first | (go_simp; done) | (go_simp; rfl)
                        simp only [Act.put, List.setIfInBounds_toArray, List.set_cons_zero, List.set_cons_succ]
                        refine wpAnyH_take (i := 13) (v := (.int .u64 (N1 : Nat))) (List.getElem?_toArray.trans rfl) (by kernel_rfl) (by kernel_rfl) (by kernel_rfl) (fun _ _ _ h => h) (Or.inl ⟨by rfl, ?_⟩) (by assumption) ?_
                        · intro W hSw
                          first | rfl | (go_simp; done) | (go_simp; rfl)
                        simp only [Act.put, List.setIfInBounds_toArray, List.set_cons_zero, List.set_cons_succ]
                        refine wpAnyH_take (i := 14) (v := (.bool false)) (List.getElem?_toArray.trans rfl) (by kernel_rfl) (by kernel_rfl) (by kernel_rfl) (fun _ _ _ h => h) (Or.inl ⟨by rfl, ?_⟩) (by assumption) ?_
                        · intro W hSw
                          first | (go_simp; done) | (go_simp; rfl) | (go_simp; omega)
                        simp only [Act.put, List.setIfInBounds_toArray, List.set_cons_zero, List.set_cons_succ]
                        refine wpAnyH_take (i := 15) (v := (.bool false)) (List.getElem?_toArray.trans rfl) (by kernel_rfl) (by kernel_rfl) (by kernel_rfl) (fun _ _ _ h => h) (Or.inl ⟨by rfl, ?_⟩) (by assumption) ?_
                        · intro W hSw
                          first | rfl | (go_simp; done) | (go_simp; rfl)
                        simp only [Act.put, List.setIfInBounds_toArray, List.set_cons_zero, List.set_cons_succ]
                        refine wpAnyH_take (i := 16) (v := (.bool false)) (List.getElem?_toArray.trans rfl) (by kernel_rfl) (by kernel_rfl) (by kernel_rfl) (fun _ _ _ h => h) (Or.inl ⟨by rfl, ?_⟩) (by assumption) ?_
                        · intro W hSw
                          first | rfl | (go_simp; done) | (go_simp; rfl)
                        simp only [Act.put, List.setIfInBounds_toArray, List.set_cons_zero, List.set_cons_succ]
                        refine wpAnyH_take (i := 17) (v := (.slice (some ⟨bo, oo, none⟩) M.length oc)) (List.getElem?_toArray.trans rfl) (by kernel_rfl) (by kernel_rfl) (by kernel_rfl) (fun _ _ _ h => h) (Or.inl ⟨by rfl, ?_⟩) (by assumption) ?_
                        · intro W hSw
                          first | rfl | (go_simp; done) | (go_simp; rfl)
                        simp only [Act.put, List.setIfInBounds_toArray, List.set_cons_zero, List.set_cons_succ]
                        refine wpAnyH_take (i := 18) (v := (.int .i64 (j : Nat))) (List.getElem?_toArray.trans rfl) (by kernel_rfl) (by kernel_rfl) (by kernel_rfl) (fun _ _ _ h => h) (Or.inl ⟨by rfl, ?_⟩) (by assumption) ?_
                        · intro W hSw
                          first | rfl | (go_simp; done) | (go_simp; rfl)
                        simp only [Act.put, List.setIfInBounds_toArray, List.set_cons_zero, List.set_cons_succ]
                        refine wpAnyH_take (i := 19) (v := (.pointer (some ⟨bo, oo + j * 5, none⟩))) (List.getElem?_toArray.trans rfl) (by kernel_rfl) (by kernel_rfl) (by kernel_rfl) (fun _ _ _ h => h) (Or.inl ⟨by rfl, ?_⟩) (by assumption) ?_
                        · intro W hSw
                          first | rfl | (go_simp; done) | (go_simp; rfl)
                        simp only [Act.put, List.setIfInBounds_toArray, List.set_cons_zero, List.set_cons_succ]
                        as_aux_lemma =>
                        refine wpAnyH_take (i := 20) (v := (.pointer (some ⟨bo, oo + j * 5 + 4, none⟩))) (List.getElem?_toArray.trans rfl) (by kernel_rfl) (by kernel_rfl) (by kernel_rfl) (fun _ _ _ h => h) (Or.inl ⟨by rfl, ?_⟩) (by assumption) ?_
                        · intro W hSw
                          first | rfl | (go_simp; done) | (go_simp; rfl)
                        simp only [Act.put, List.setIfInBounds_toArray, List.set_cons_zero, List.set_cons_succ]
                        refine wpAnyH_take (i := 21) (v := (.int .u64 (x.seq : Nat))) (List.getElem?_toArray.trans rfl) (by kernel_rfl) (by kernel_rfl) (by kernel_rfl) (fun _ _ _ h => h) (Or.inl ⟨by rfl, ?_⟩) (by assumption) ?_
                        · intro W hSw
                          obtain ⟨q0, q1, q2, q3, q4⟩ := HGX.out W hSw.k
                          first | (go_simp; done) | (go_simp; rfl)
                        simp only [Act.put, List.setIfInBounds_toArray, List.set_cons_zero, List.set_cons_succ]
                        refine wpAnyH_take (i := 22) (v := (.int .u64 (S1 : Nat))) (List.getElem?_toArray.trans rfl) (by kernel_rfl) (by kernel_rfl) (by kernel_rfl) (fun _ _ _ h => h) (Or.inl ⟨by rfl, ?_⟩) (by assumption) ?_
                        · intro W hSw
                          first | rfl | (go_simp; done) | (go_simp; rfl)
                        simp only [Act.put, List.setIfInBounds_toArray, List.set_cons_zero, List.set_cons_succ]
                        refine wpAnyH_take (i := 23) (v := (.bool false)) (List.getElem?_toArray.trans rfl) (by kernel_rfl) (by kernel_rfl) (by kernel_rfl) (fun _ _ _ h => h) (Or.inl ⟨by rfl, ?_⟩) (by assumption) ?_
                        · intro W hSw
                          first | (go_simp; done) | (go_simp; rfl) | (go_simp; omega)
                        simp only [Act.put, List.setIfInBounds_toArray, List.set_cons_zero, List.set_cons_succ]
                        refine wpAnyH_take (i := 24) (v := (.bool false)) (List.getElem?_toArray.trans rfl) (by kernel_rfl) (by kernel_rfl) (by kernel_rfl) (fun _ _ _ h => h) (Or.inl ⟨by rfl, ?_⟩) (by assumption) ?_
                        · intro W hSw
                          first | rfl | (go_simp; done) | (go_simp; rfl)
                        simp only [Act.put, List.setIfInBounds_toArray, List.set_cons_zero, List.set_cons_succ]
                        refine wpAnyH_take (i := 25) (v := (.bool false)) (List.getElem?_toArray.trans rfl) (by kernel_rfl) (by kernel_rfl) (by kernel_rfl) (fun _ _ _ h => h) (Or.inl ⟨by rfl, ?_⟩) (by assumption) ?_
                        · intro W hSw
                          first | rfl | (go_simp; done) | (go_simp; rfl)
                        simp only [Act.put, List.setIfInBounds_toArray, List.set_cons_zero, List.set_cons_succ]
                        refine wpAnyH_take (i := 26) (v := (.slice (some ⟨bo, oo, none⟩) M.length oc)) (List.getElem?_toArray.trans rfl) (by kernel_rfl) (by kernel_rfl) (by kernel_rfl) (fun _ _ _ h => h) (Or.inl ⟨by rfl, ?_⟩) (by assumption) ?_
                        · intro W hSw
                          first | rfl | (go_simp; done) | (go_simp; rfl)
                        simp only [Act.put, List.setIfInBounds_toArray, List.set_cons_zero, List.set_cons_succ]
                        refine wpAnyH_take (i := 27) (v := (.int .i64 (j : Nat))) (List.getElem?_toArray.trans rfl) (by kernel_rfl) (by kernel_rfl) (by kernel_rfl) (fun _ _ _ h => h) (Or.inl ⟨by rfl, ?_⟩) (by assumption) ?_
                        · intro W hSw
                          first | rfl | (go_simp; done) | (go_simp; rfl)
                        simp only [Act.put, List.setIfInBounds_toArray, List.set_cons_zero, List.set_cons_succ]
                        refine wpAnyH_take (i := 28) (v := (.pointer (some ⟨bo, oo + j * 5, none⟩))) (List.getElem?_toArray.trans rfl) (by kernel_rfl) (by kernel_rfl) (by kernel_rfl) (fun _ _ _ h => h) (Or.inl ⟨by rfl, ?_⟩) (by assumption) ?_
                        · intro W hSw
                          first | rfl | (go_simp; done) | (go_simp; rfl)
                        simp only [Act.put, List.setIfInBounds_toArray, List.set_cons_zero, List.set_cons_succ]
                        refine wpAnyH_take (i := 29) (v := (.agg #[.int .u64 (x.file : Nat), .int .i64 x.size, .string (bs x.first), .string (bs x.last), .int .u64 (x.seq : Nat)])) (List.getElem?_toArray.trans rfl) (by kernel_rfl) (by kernel_rfl) (by kernel_rfl) (fun _ _ _ h => h) (Or.inl ⟨by rfl, ?_⟩) (by assumption) ?_
                        · intro W hSw
                          obtain ⟨q0, q1, q2, q3, q4⟩ := HGX.out W hSw.k
                          first | (go_simp; done) | (go_simp; rfl)
                        simp only [Act.put, List.setIfInBounds_toArray, List.set_cons_zero, List.set_cons_succ]
                        refine wpAnyH_ready (rs := [30]) (by kernel_rfl) (by simp) ?_
                        refine (AllReadyH.cons (List.getElem?_toArray.trans rfl) (fun K hK => ?_) AllReadyH.nil)
                        go_simp
                        refine (HMY.out _).mono ?_
                        rintro e wa ⟨rfl, ga⟩
                        have HS := Lib.hid (KV.mk (kept_trans hHeld.k ga))
                        clear ga hHeld
                        go_wp2_with fail
                        refine hK.out _ _ HS.out (fun hHeld => ?_)
                        clear hK K
                        as_aux_lemma =>
                        refine wpAnyH_take (i := 31) (v := (.bool false)) (List.getElem?_toArray.trans rfl) (by kernel_rfl) (by kernel_rfl) (by kernel_rfl) (fun _ _ _ h => h) (Or.inl ⟨by rfl, ?_⟩) (by assumption) ?_
                        · intro W hSw
                          first | rfl | (go_simp; done) | (go_simp; rfl)
                        simp only [Act.put, List.setIfInBounds_toArray, List.set_cons_zero, List.set_cons_succ]
                        refine wpAnyH_take (i := 32) (v := (.bool false)) (List.getElem?_toArray.trans rfl) (by kernel_rfl) (by kernel_rfl) (by kernel_rfl) (fun _ _ _ h => h) (Or.inl ⟨by rfl, ?_⟩) (by assumption) ?_
                        · intro W hSw
                          first | rfl | (go_simp; done) | (go_simp; rfl)
                        simp only [Act.put, List.setIfInBounds_toArray, List.set_cons_zero, List.set_cons_succ]
                        refine wpAnyH_take (i := 33) (v := (.bool false)) (List.getElem?_toArray.trans rfl) (by kernel_rfl) (by kernel_rfl) (by kernel_rfl) (fun _ _ _ h => h) (Or.inl ⟨by rfl, ?_⟩) (by assumption) ?_
                        · intro W hSw
                          first | rfl | (go_simp; done) | (go_simp; rfl)
                        simp only [Act.put, List.setIfInBounds_toArray, List.set_cons_zero, List.set_cons_succ]
                        refine wpAnyH_take (i := 34) (v := (.int .i64 (j : Nat))) (List.getElem?_toArray.trans rfl) (by kernel_rfl) (by kernel_rfl) (by kernel_rfl) (fun _ _ _ h => h) (Or.inl ⟨by rfl, ?_⟩) (by assumption) ?_
                        · intro W hSw
                          first | rfl | (go_simp; done) | (go_simp; rfl)
                        simp only [Act.put, List.setIfInBounds_toArray, List.set_cons_zero, List.set_cons_succ]
                        refine wpAnyH_take (i := 35) (v := (.bool true)) (List.getElem?_toArray.trans rfl) (by kernel_rfl) (by kernel_rfl) (by kernel_rfl) (fun _ _ _ h => h) (Or.inl ⟨by rfl, ?_⟩) (by assumption) ?_
                        · intro W hSw
                          first | (go_simp; done) | (go_simp; rfl) | (go_simp; omega)
                        simp only [Act.put, List.setIfInBounds_toArray, List.set_cons_zero, List.set_cons_succ]
                        refine wpAnyH_take (i := 36) (v := (.bool true)) (List.getElem?_toArray.trans rfl) (by kernel_rfl) (by kernel_rfl) (by kernel_rfl) (fun _ _ _ h => h) (Or.inl ⟨by rfl, ?_⟩) (by assumption) ?_
                        · intro W hSw
                          first | rfl | (go_simp; done) | (go_simp; rfl)
                        simp only [Act.put, List.setIfInBounds_toArray, List.set_cons_zero, List.set_cons_succ]
                        refine wpAnyH_take (i := 37) (v := (.int .i64 (k : Nat))) (List.getElem?_toArray.trans rfl) (by kernel_rfl) (by kernel_rfl) (by kernel_rfl) (fun _ _ _ h => h) (Or.inl ⟨by rfl, ?_⟩) (by assumption) ?_
                        · intro W hSw
                          first | rfl | (go_simp; done) | (go_simp; rfl)
                        simp only [Act.put, List.setIfInBounds_toArray, List.set_cons_zero, List.set_cons_succ]
                        refine wpAnyH_take (i := 38) (v := (.bool false)) (List.getElem?_toArray.trans rfl) (by kernel_rfl) (by kernel_rfl) (by kernel_rfl) (fun _ _ _ h => h) (Or.inl ⟨by rfl, ?_⟩) (by assumption) ?_
                        · intro W hSw
                          first | (go_simp; done) | (go_simp; rfl) | (go_simp; omega)
                        simp only [Act.put, List.setIfInBounds_toArray, List.set_cons_zero, List.set_cons_succ]
                        refine wpAnyH_take (i := 39) (v := (.bool false)) (List.getElem?_toArray.trans rfl) (by kernel_rfl) (by kernel_rfl) (by kernel_rfl) (fun _ _ _ h => h) (Or.inl ⟨by rfl, ?_⟩) (by assumption) ?_
                        · intro W hSw
                          first | rfl | (go_simp; done) | (go_simp; rfl)
                        simp only [Act.put, List.setIfInBounds_toArray, List.set_cons_zero, List.set_cons_succ]
                        refine wpAnyH_take (i := 40) (v := undef) (List.getElem?_toArray.trans rfl) (by kernel_rfl) (by kernel_rfl) (by kernel_rfl) (fun _ _ _ h => h) (Or.inr ⟨by rfl, rfl⟩) (by assumption) ?_
                        simp only [Act.put, List.setIfInBounds_toArray, List.set_cons_zero, List.set_cons_succ]
                        as_aux_lemma =>
                        refine wpAnyH_take (i := 41) (v := undef) (List.getElem?_toArray.trans rfl) (by kernel_rfl) (by kernel_rfl) (by kernel_rfl) (fun _ _ _ h => h) (Or.inr ⟨by rfl, rfl⟩) (by assumption) ?_
                        simp only [Act.put, List.setIfInBounds_toArray, List.set_cons_zero, List.set_cons_succ]
                        refine wpAnyH_take (i := 42) (v := undef) (List.getElem?_toArray.trans rfl) (by kernel_rfl) (by kernel_rfl) (by kernel_rfl) (fun _ _ _ h => h) (Or.inr ⟨by rfl, rfl⟩) (by assumption) ?_
                        simp only [Act.put, List.setIfInBounds_toArray, List.set_cons_zero, List.set_cons_succ]
                        refine wpAnyH_take (i := 43) (v := undef) (List.getElem?_toArray.trans rfl) (by kernel_rfl) (by kernel_rfl) (by kernel_rfl) (fun _ _ _ h => h) (Or.inr ⟨by rfl, rfl⟩) (by assumption) ?_
                        simp only [Act.put, List.setIfInBounds_toArray, List.set_cons_zero, List.set_cons_succ]
                        refine wpAnyH_take (i := 44) (v := undef) (List.getElem?_toArray.trans rfl) (by kernel_rfl) (by kernel_rfl) (by kernel_rfl) (fun _ _ _ h => h) (Or.inr ⟨by rfl, rfl⟩) (by assumption) ?_
                        simp only [Act.put, List.setIfInBounds_toArray, List.set_cons_zero, List.set_cons_succ]
                        refine wpAnyH_take (i := 45) (v := undef) (List.getElem?_toArray.trans rfl) (by kernel_rfl) (by kernel_rfl) (by kernel_rfl) (fun _ _ _ h => h) (Or.inr ⟨by rfl, rfl⟩) (by assumption) ?_
                        simp only [Act.put, List.setIfInBounds_toArray, List.set_cons_zero, List.set_cons_succ]
                        refine wpAnyH_take (i := 46) (v := undef) (List.getElem?_toArray.trans rfl) (by kernel_rfl) (by kernel_rfl) (by kernel_rfl) (fun _ _ _ h => h) (Or.inr ⟨by rfl, rfl⟩) (by assumption) ?_
                        simp only [Act.put, List.setIfInBounds_toArray, List.set_cons_zero, List.set_cons_succ]
                        refine wpAnyH_take (i := 47) (v := undef) (List.getElem?_toArray.trans rfl) (by kernel_rfl) (by kernel_rfl) (by kernel_rfl) (fun _ _ _ h => h) (Or.inr ⟨by rfl, rfl⟩) (by assumption) ?_
                        simp only [Act.put, List.setIfInBounds_toArray, List.set_cons_zero, List.set_cons_succ]
                        refine wpAnyH_take (i := 48) (v := undef) (List.getElem?_toArray.trans rfl) (by kernel_rfl) (by kernel_rfl) (by kernel_rfl) (fun _ _ _ h => h) (Or.inr ⟨by rfl, rfl⟩) (by assumption) ?_
                        simp only [Act.put, List.setIfInBounds_toArray, List.set_cons_zero, List.set_cons_succ]
                        refine wpAnyH_take (i := 49) (v := undef) (List.getElem?_toArray.trans rfl) (by kernel_rfl) (by kernel_rfl) (by kernel_rfl) (fun _ _ _ h => h) (Or.inr ⟨by rfl, rfl⟩) (by assumption) ?_
                        simp only [Act.put, List.setIfInBounds_toArray, List.set_cons_zero, List.set_cons_succ]
                        refine wpAnyH_take (i := 50) (v := undef) (List.getElem?_toArray.trans rfl) (by kernel_rfl) (by kernel_rfl) (by kernel_rfl) (fun _ _ _ h => h) (Or.inr ⟨by rfl, rfl⟩) (by assumption) ?_
                        simp only [Act.put, List.setIfInBounds_toArray, List.set_cons_zero, List.set_cons_succ]
                        as_aux_lemma =>
                        refine wpAnyH_take (i := 51) (v := undef) (List.getElem?_toArray.trans rfl) (by kernel_rfl) (by kernel_rfl) (by kernel_rfl) (fun _ _ _ h => h) (Or.inr ⟨by rfl, rfl⟩) (by assumption) ?_
                        simp only [Act.put, List.setIfInBounds_toArray, List.set_cons_zero, List.set_cons_succ]
                        refine wpAnyH_take (i := 52) (v := (.bool false)) (List.getElem?_toArray.trans rfl) (by kernel_rfl) (by kernel_rfl) (by kernel_rfl) (fun _ _ _ h => h) (Or.inl ⟨by rfl, ?_⟩) (by assumption) ?_
                        · intro W hSw
                          first | rfl | (go_simp; done) | (go_simp; rfl)
                        simp only [Act.put, List.setIfInBounds_toArray, List.set_cons_zero, List.set_cons_succ]
                        refine wpAnyH_take (i := 53) (v := (.bool false)) (List.getElem?_toArray.trans rfl) (by kernel_rfl) (by kernel_rfl) (by kernel_rfl) (fun _ _ _ h => h) (Or.inl ⟨by rfl, ?_⟩) (by assumption) ?_
                        · intro W hSw
                          first | rfl | (go_simp; done) | (go_simp; rfl)
                        simp only [Act.put, List.setIfInBounds_toArray, List.set_cons_zero, List.set_cons_succ]
                        refine wpAnyH_take (i := 54) (v := (.int .i64 (k : Nat))) (List.getElem?_toArray.trans rfl) (by kernel_rfl) (by kernel_rfl) (by kernel_rfl) (fun _ _ _ h => h) (Or.inl ⟨by rfl, ?_⟩) (by assumption) ?_
                        · intro W hSw
                          first | rfl | (go_simp; done) | (go_simp; rfl)
                        simp only [Act.put, List.setIfInBounds_toArray, List.set_cons_zero, List.set_cons_succ]
                        refine wpAnyH_take (i := 55) (v := (.bool true)) (List.getElem?_toArray.trans rfl) (by kernel_rfl) (by kernel_rfl) (by kernel_rfl) (fun _ _ _ h => h) (Or.inl ⟨by rfl, ?_⟩) (by assumption) ?_
                        · intro W hSw
                          first | (go_simp; done) | (go_simp; rfl) | (go_simp; omega)
                        simp only [Act.put, List.setIfInBounds_toArray, List.set_cons_zero, List.set_cons_succ]
                        refine wpAnyH_take (i := 56) (v := (.bool true)) (List.getElem?_toArray.trans rfl) (by kernel_rfl) (by kernel_rfl) (by kernel_rfl) (fun _ _ _ h => h) (Or.inl ⟨by rfl, ?_⟩) (by assumption) ?_
                        · intro W hSw
                          first | rfl | (go_simp; done) | (go_simp; rfl)
                        simp only [Act.put, List.setIfInBounds_toArray, List.set_cons_zero, List.set_cons_succ]
                        refine wpAnyH_take (i := 57) (v := (.slice (some ⟨bo, oo, none⟩) M.length oc)) (List.getElem?_toArray.trans rfl) (by kernel_rfl) (by kernel_rfl) (by kernel_rfl) (fun _ _ _ h => h) (Or.inl ⟨by rfl, ?_⟩) (by assumption) ?_
                        · intro W hSw
                          first | rfl | (go_simp; done) | (go_simp; rfl)
                        simp only [Act.put, List.setIfInBounds_toArray, List.set_cons_zero, List.set_cons_succ]
                        refine wpAnyH_take (i := 58) (v := (.int .i64 (j : Nat))) (List.getElem?_toArray.trans rfl) (by kernel_rfl) (by kernel_rfl) (by kernel_rfl) (fun _ _ _ h => h) (Or.inl ⟨by rfl, ?_⟩) (by assumption) ?_
                        · intro W hSw
                          first | rfl | (go_simp; done) | (go_simp; rfl)
                        simp only [Act.put, List.setIfInBounds_toArray, List.set_cons_zero, List.set_cons_succ]
                        refine wpAnyH_take (i := 59) (v := (.int .i64 (q : Nat))) (List.getElem?_toArray.trans rfl) (by kernel_rfl) (by kernel_rfl) (by kernel_rfl) (fun _ _ _ h => h) (Or.inl ⟨by rfl, ?_⟩) (by assumption) ?_
                        · intro W hSw
                          first | rfl | (go_simp; done) | (go_simp; rfl)
                        simp only [Act.put, List.setIfInBounds_toArray, List.set_cons_zero, List.set_cons_succ]
                        refine wpAnyH_take (i := 60) (v := (.pointer (some ⟨bo, oo + q * 5, none⟩))) (List.getElem?_toArray.trans rfl) (by kernel_rfl) (by kernel_rfl) (by kernel_rfl) (fun _ _ _ h => h) (Or.inl ⟨by rfl, ?_⟩) (by assumption) ?_
                        · intro W hSw
                          first | rfl | (go_simp; done) | (go_simp; rfl)
                        simp only [Act.put, List.setIfInBounds_toArray, List.set_cons_zero, List.set_cons_succ]
                        as_aux_lemma =>
                        refine wpAnyH_take (i := 61) (v := (.pointer (some ⟨bo, oo + q * 5 + 3, none⟩))) (List.getElem?_toArray.trans rfl) (by kernel_rfl) (by kernel_rfl) (by kernel_rfl) (fun _ _ _ h => h) (Or.inl ⟨by rfl, ?_⟩) (by assumption) ?_
                        · intro W hSw
                          first | rfl | (go_simp; done) | (go_simp; rfl)
                        simp only [Act.put, List.setIfInBounds_toArray, List.set_cons_zero, List.set_cons_succ]
                        refine wpAnyH_take (i := 62) (v := (.string (bs y.last))) (List.getElem?_toArray.trans rfl) (by kernel_rfl) (by kernel_rfl) (by kernel_rfl) (fun _ _ _ h => h) (Or.inl ⟨by rfl, ?_⟩) (by assumption) ?_
                        · intro W hSw
                          obtain ⟨q0, q1, q2, q3, q4⟩ := HGP.out W hSw.k
                          first | (go_simp; done) | (go_simp; rfl)
                        simp only [Act.put, List.setIfInBounds_toArray, List.set_cons_zero, List.set_cons_succ]
                        refine wpAnyH_take (i := 63) (v := (.slice (some ⟨bo, oo, none⟩) M.length oc)) (List.getElem?_toArray.trans rfl) (by kernel_rfl) (by kernel_rfl) (by kernel_rfl) (fun _ _ _ h => h) (Or.inl ⟨by rfl, ?_⟩) (by assumption) ?_
                        · intro W hSw
                          first | rfl | (go_simp; done) | (go_simp; rfl)
                        simp only [Act.put, List.setIfInBounds_toArray, List.set_cons_zero, List.set_cons_succ]
                        refine wpAnyH_take (i := 64) (v := (.int .i64 (j : Nat))) (List.getElem?_toArray.trans rfl) (by kernel_rfl) (by kernel_rfl) (by kernel_rfl) (fun _ _ _ h => h) (Or.inl ⟨by rfl, ?_⟩) (by assumption) ?_
                        · intro W hSw
                          first | rfl | (go_simp; done) | (go_simp; rfl)
                        simp only [Act.put, List.setIfInBounds_toArray, List.set_cons_zero, List.set_cons_succ]
                        refine wpAnyH_take (i := 65) (v := (.pointer (some ⟨bo, oo + j * 5, none⟩))) (List.getElem?_toArray.trans rfl) (by kernel_rfl) (by kernel_rfl) (by kernel_rfl) (fun _ _ _ h => h) (Or.inl ⟨by rfl, ?_⟩) (by assumption) ?_
                        · intro W hSw
                          first | rfl | (go_simp; done) | (go_simp; rfl)
                        simp only [Act.put, List.setIfInBounds_toArray, List.set_cons_zero, List.set_cons_succ]
                        refine wpAnyH_take (i := 66) (v := (.pointer (some ⟨bo, oo + j * 5 + 2, none⟩))) (List.getElem?_toArray.trans rfl) (by kernel_rfl) (by kernel_rfl) (by kernel_rfl) (fun _ _ _ h => h) (Or.inl ⟨by rfl, ?_⟩) (by assumption) ?_
                        · intro W hSw
                          first | rfl | (go_simp; done) | (go_simp; rfl)
                        simp only [Act.put, List.setIfInBounds_toArray, List.set_cons_zero, List.set_cons_succ]
                        refine wpAnyH_take (i := 67) (v := (.string (bs x.first))) (List.getElem?_toArray.trans rfl) (by kernel_rfl) (by kernel_rfl) (by kernel_rfl) (fun _ _ _ h => h) (Or.inl ⟨by rfl, ?_⟩) (by assumption) ?_
                        · intro W hSw
                          obtain ⟨q0, q1, q2, q3, q4⟩ := HGX.out W hSw.k
                          first | (go_simp; done) | (go_simp; rfl)
                        simp only [Act.put, List.setIfInBounds_toArray, List.set_cons_zero, List.set_cons_succ]
                        refine wpAnyH_take (i := 68) (v := (.bool false)) (List.getElem?_toArray.trans rfl) (by kernel_rfl) (by kernel_rfl) (by kernel_rfl) (fun _ _ _ h => h) (Or.inl ⟨by rfl, ?_⟩) (by assumption) ?_
                        · intro W hSw
                          first | rfl | (go_simp; done) | (go_simp; rfl)
                        simp only [Act.put, List.setIfInBounds_toArray, List.set_cons_zero, List.set_cons_succ]
                        refine wpAnyH_take (i := 69) (v := (.bool false)) (List.getElem?_toArray.trans rfl) (by kernel_rfl) (by kernel_rfl) (by kernel_rfl) (fun _ _ _ h => h) (Or.inl ⟨by rfl, ?_⟩) (by assumption) ?_
                        · intro W hSw
                          first | rfl | (go_simp; done) | (go_simp; rfl)
                        simp only [Act.put, List.setIfInBounds_toArray, List.set_cons_zero, List.set_cons_succ]
                        refine wpAnyH_take (i := 70) (v := (.bool false)) (List.getElem?_toArray.trans rfl) (by kernel_rfl) (by kernel_rfl) (by kernel_rfl) (fun _ _ _ h => h) (Or.inl ⟨by rfl, ?_⟩) (by assumption) ?_
                        · intro W hSw
                          first | rfl | (go_simp; done) | (go_simp; rfl)
                        simp only [Act.put, List.setIfInBounds_toArray, List.set_cons_zero, List.set_cons_succ]
                        as_aux_lemma =>
                        refine wpAnyH_take (i := 71) (v := (.bool false)) (List.getElem?_toArray.trans rfl) (by kernel_rfl) (by kernel_rfl) (by kernel_rfl) (fun _ _ _ h => h) (Or.inl ⟨by rfl, ?_⟩) (by assumption) ?_
                        · intro W hSw
                          first | rfl | (go_simp; done) | (go_simp; rfl)
                        simp only [Act.put, List.setIfInBounds_toArray, List.set_cons_zero, List.set_cons_succ]
                        refine wpAnyH_take (i := 72) (v := (.bool false)) (List.getElem?_toArray.trans rfl) (by kernel_rfl) (by kernel_rfl) (by kernel_rfl) (fun _ _ _ h => h) (Or.inl ⟨by rfl, ?_⟩) (by assumption) ?_
                        · intro W hSw
                          first | rfl | (go_simp; done) | (go_simp; rfl)
                        simp only [Act.put, List.setIfInBounds_toArray, List.set_cons_zero, List.set_cons_succ]
                        refine wpAnyH_done (by kernel_rfl) ?_ _
                        have HH := Lib.hid hHeld.k
                        obtain ⟨q0, q1, q2, q3, q4⟩ := HGX.out _ HH.out
                        obtain ⟨w9, hst, sq9, g9, z9⟩ := (HN.out.kept HH.out).store HLN.out x.file HFX.out
                        have HN9 := Lib.hid (show NsIs w9 w5.heap.size (fls U k ++ (M.take (j + 1)).map Meta.file) from by rw [← HSTP.out]; exact sq9)
                        have K9 := Lib.hid (okept_store (w := w5) HKJ.out HH.out g9 (Nat.le_refl _))
                        have HOW9 := Lib.hid (own_other g9 (own_kp HH.out HOW.out) HBL.out)
                        clear sq9 g9 z9 hHeld
                        go_wp2_with fail
                        go_roundw
                        case rel => exact ⟨j + 1, by have := HJL.out; omega, by go_num, HN9, K9, HOW9⟩
                        case measure => have := HJL.out; simp [intOf]; omega
                  · as_aux_lemma =>
                      have a3 : decide ((0 : Int) < (j : Int)) = false := decide_eq_false (by omega)
                      clear hx
                      go_upto_region 22 with fail
                      refine wp_region_held_drew (S := fun W => KV wr W) (by kernel_rfl) ⟨kept_drewN _ 1⟩ (fun hHeld => ?_)
                      refine wpAnyH_take (i := 0) (v := (.map (some w5.heap.size))) (List.getElem?_toArray.trans rfl) (by kernel_rfl) (by kernel_rfl) (by kernel_rfl) (fun _ _ _ h => h) (Or.inl ⟨by rfl, ?_⟩) (by assumption) ?_
                      · intro W hSw
                        first | rfl | (go_simp; done) | (go_simp; rfl)
                      simp only [Act.put, List.setIfInBounds_toArray, List.set_cons_zero, List.set_cons_succ]
                      refine wpAnyH_take (i := 1) (v := (.slice (some ⟨bo, oo, none⟩) M.length oc)) (List.getElem?_toArray.trans rfl) (by kernel_rfl) (by kernel_rfl) (by kernel_rfl) (fun _ _ _ h => h) (Or.inl ⟨by rfl, ?_⟩) (by assumption) ?_
                      · intro W hSw
                        first | rfl | (go_simp; done) | (go_simp; rfl)
                      simp only [Act.put, List.setIfInBounds_toArray, List.set_cons_zero, List.set_cons_succ]
                      refine wpAnyH_take (i := 2) (v := (.int .i64 (j : Nat))) (List.getElem?_toArray.trans rfl) (by kernel_rfl) (by kernel_rfl) (by kernel_rfl) (fun _ _ _ h => h) (Or.inl ⟨by rfl, ?_⟩) (by assumption) ?_
                      · intro W hSw
                        first | rfl | (go_simp; done) | (go_simp; rfl)
                      simp only [Act.put, List.setIfInBounds_toArray, List.set_cons_zero, List.set_cons_succ]
                      refine wpAnyH_take (i := 3) (v := (.pointer (some ⟨bo, oo + j * 5, none⟩))) (List.getElem?_toArray.trans rfl) (by kernel_rfl) (by kernel_rfl) (by kernel_rfl) (fun _ _ _ h => h) (Or.inl ⟨by rfl, ?_⟩) (by assumption) ?_
                      · intro W hSw
                        first | rfl | (go_simp; done) | (go_simp; rfl)
                      simp only [Act.put, List.setIfInBounds_toArray, List.set_cons_zero, List.set_cons_succ]
                      refine wpAnyH_take (i := 4) (v := (.pointer (some ⟨bo, oo + j * 5, none⟩))) (List.getElem?_toArray.trans rfl) (by kernel_rfl) (by kernel_rfl) (by kernel_rfl) (fun _ _ _ h => h) (Or.inl ⟨by rfl, ?_⟩) (by assumption) ?_
                      · intro W hSw
                        first | rfl | (go_simp; done) | (go_simp; rfl)
                      simp only [Act.put, List.setIfInBounds_toArray, List.set_cons_zero, List.set_cons_succ]
                      refine wpAnyH_take (i := 5) (v := (.int .u64 (x.file : Nat))) (List.getElem?_toArray.trans rfl) (by kernel_rfl) (by kernel_rfl) (by kernel_rfl) (fun _ _ _ h => h) (Or.inl ⟨by rfl, ?_⟩) (by assumption) ?_
                      · intro W hSw
                        obtain ⟨q0, q1, q2, q3, q4⟩ := HGX.out W hSw.k
                        first | (go_simp; done) | (go_simp; rfl)
                      simp only [Act.put, List.setIfInBounds_toArray, List.set_cons_zero, List.set_cons_succ]
                      refine wpAnyH_take (i := 6) (v := (.bool false)) (List.getElem?_toArray.trans rfl) (by kernel_rfl) (by kernel_rfl) (by kernel_rfl) (fun _ _ _ h => h) (Or.inl ⟨by rfl, ?_⟩) (by assumption) ?_
                      · intro W hSw
                        have q0 := HLK.out W hSw.k
                        first | (go_simp; done) | (go_simp; rfl)
                      simp only [Act.put, List.setIfInBounds_toArray, List.set_cons_zero, List.set_cons_succ]
                      refine wpAnyH_take (i := 7) (v := (.bool false)) (List.getElem?_toArray.trans rfl) (by kernel_rfl) (by kernel_rfl) (by kernel_rfl) (fun _ _ _ h => h) (Or.inl ⟨by rfl, ?_⟩) (by assumption) ?_
                      · intro W hSw
                        first | rfl | (go_simp; done) | (go_simp; rfl)
                      simp only [Act.put, List.setIfInBounds_toArray, List.set_cons_zero, List.set_cons_succ]
                      refine wpAnyH_take (i := 8) (v := (.slice (some ⟨bo, oo, none⟩) M.length oc)) (List.getElem?_toArray.trans rfl) (by kernel_rfl) (by kernel_rfl) (by kernel_rfl) (fun _ _ _ h => h) (Or.inl ⟨by rfl, ?_⟩) (by assumption) ?_
                      · intro W hSw
                        first | rfl | (go_simp; done) | (go_simp; rfl)
                      simp only [Act.put, List.setIfInBounds_toArray, List.set_cons_zero, List.set_cons_succ]
                      refine wpAnyH_take (i := 9) (v := (.int .i64 (j : Nat))) (List.getElem?_toArray.trans rfl) (by kernel_rfl) (by kernel_rfl) (by kernel_rfl) (fun _ _ _ h => h) (Or.inl ⟨by rfl, ?_⟩) (by assumption) ?_
                      · intro W hSw
                        first | rfl | (go_simp; done) | (go_simp; rfl)
                      simp only [Act.put, List.setIfInBounds_toArray, List.set_cons_zero, List.set_cons_succ]
                      as_aux_lemma =>
                      refine wpAnyH_take (i := 10) (v := (.pointer (some ⟨bo, oo + j * 5, none⟩))) (List.getElem?_toArray.trans rfl) (by kernel_rfl) (by kernel_rfl) (by kernel_rfl) (fun _ _ _ h => h) (Or.inl ⟨by rfl, ?_⟩) (by assumption) ?_
                      · intro W hSw
                        first | rfl | (go_simp; done) | (go_simp; rfl)
                      simp only [Act.put, List.setIfInBounds_toArray, List.set_cons_zero, List.set_cons_succ]
                      refine wpAnyH_take (i := 11) (v := (.pointer (some ⟨bo, oo + j * 5, none⟩))) (List.getElem?_toArray.trans rfl) (by kernel_rfl) (by kernel_rfl) (by kernel_rfl) (fun _ _ _ h => h) (Or.inl ⟨by rfl, ?_⟩) (by assumption) ?_
                      · intro W hSw
                        first | rfl | (go_simp; done) | (go_simp; rfl)
                      simp only [Act.put, List.setIfInBounds_toArray, List.set_cons_zero, List.set_cons_succ]
                      refine wpAnyH_take (i := 12) (v := (.int .u64 (x.file : Nat))) (List.getElem?_toArray.trans rfl) (by kernel_rfl) (by kernel_rfl) (by kernel_rfl) (fun _ _ _ h => h) (Or.inl ⟨by rfl, ?_⟩) (by assumption) ?_
                      · intro W hSw
                        obtain ⟨q0, q1, q2, q3, q4⟩ := HGX.out W hSw.k
                        first | (go_simp; done) | (go_simp; rfl)
                      simp only [Act.put, List.setIfInBounds_toArray, List.set_cons_zero, List.set_cons_succ]
                      refine wpAnyH_take (i := 13) (v := (.int .u64 (N1 : Nat))) (List.getElem?_toArray.trans rfl) (by kernel_rfl) (by kernel_rfl) (by kernel_rfl) (fun _ _ _ h => h) (Or.inl ⟨by rfl, ?_⟩) (by assumption) ?_
                      · intro W hSw
                        first | rfl | (go_simp; done) | (go_simp; rfl)
                      simp only [Act.put, List.setIfInBounds_toArray, List.set_cons_zero, List.set_cons_succ]
                      refine wpAnyH_take (i := 14) (v := (.bool false)) (List.getElem?_toArray.trans rfl) (by kernel_rfl) (by kernel_rfl) (by kernel_rfl) (fun _ _ _ h => h) (Or.inl ⟨by rfl, ?_⟩) (by assumption) ?_
                      · intro W hSw
                        first | (go_simp; done) | (go_simp; rfl) | (go_simp; omega)
                      simp only [Act.put, List.setIfInBounds_toArray, List.set_cons_zero, List.set_cons_succ]
                      refine wpAnyH_take (i := 15) (v := (.bool false)) (List.getElem?_toArray.trans rfl) (by kernel_rfl) (by kernel_rfl) (by kernel_rfl) (fun _ _ _ h => h) (Or.inl ⟨by rfl, ?_⟩) (by assumption) ?_
                      · intro W hSw
                        first | rfl | (go_simp; done) | (go_simp; rfl)
                      simp only [Act.put, List.setIfInBounds_toArray, List.set_cons_zero, List.set_cons_succ]
                      refine wpAnyH_take (i := 16) (v := (.bool false)) (List.getElem?_toArray.trans rfl) (by kernel_rfl) (by kernel_rfl) (by kernel_rfl) (fun _ _ _ h => h) (Or.inl ⟨by rfl, ?_⟩) (by assumption) ?_
                      · intro W hSw
                        first | rfl | (go_simp; done) | (go_simp; rfl)
                      simp only [Act.put, List.setIfInBounds_toArray, List.set_cons_zero, List.set_cons_succ]
                      refine wpAnyH_take (i := 17) (v := (.slice (some ⟨bo, oo, none⟩) M.length oc)) (List.getElem?_toArray.trans rfl) (by kernel_rfl) (by kernel_rfl) (by kernel_rfl) (fun _ _ _ h => h) (Or.inl ⟨by rfl, ?_⟩) (by assumption) ?_
                      · intro W hSw
                        first | rfl | (go_simp; done) | (go_simp; rfl)
                      simp only [Act.put, List.setIfInBounds_toArray, List.set_cons_zero, List.set_cons_succ]
                      refine wpAnyH_take (i := 18) (v := (.int .i64 (j : Nat))) (List.getElem?_toArray.trans rfl) (by kernel_rfl) (by kernel_rfl) (by kernel_rfl) (fun _ _ _ h => h) (Or.inl ⟨by rfl, ?_⟩) (by assumption) ?_
                      · intro W hSw
                        first | rfl | (go_simp; done) | (go_simp; rfl)
                      simp only [Act.put, List.setIfInBounds_toArray, List.set_cons_zero, List.set_cons_succ]
                      refine wpAnyH_take (i := 19) (v := (.pointer (some ⟨bo, oo + j * 5, none⟩))) (List.getElem?_toArray.trans rfl) (by kernel_rfl) (by kernel_rfl) (by kernel_rfl) (fun _ _ _ h => h) (Or.inl ⟨by rfl, ?_⟩) (by assumption) ?_
                      · intro W hSw
                        first | rfl | (go_simp; done) | (go_simp; rfl)
                      simp only [Act.put, List.setIfInBounds_toArray, List.set_cons_zero, List.set_cons_succ]
                      as_aux_lemma =>
                      refine wpAnyH_take (i := 20) (v := (.pointer (some ⟨bo, oo + j * 5 + 4, none⟩))) (List.getElem?_toArray.trans rfl) (by kernel_rfl) (by kernel_rfl) (by kernel_rfl) (fun _ _ _ h => h) (Or.inl ⟨by rfl, ?_⟩) (by assumption) ?_
                      · intro W hSw
                        first | rfl | (go_simp; done) | (go_simp; rfl)
                      simp only [Act.put, List.setIfInBounds_toArray, List.set_cons_zero, List.set_cons_succ]
                      refine wpAnyH_take (i := 21) (v := (.int .u64 (x.seq : Nat))) (List.getElem?_toArray.trans rfl) (by kernel_rfl) (by kernel_rfl) (by kernel_rfl) (fun _ _ _ h => h) (Or.inl ⟨by rfl, ?_⟩) (by assumption) ?_
                      · intro W hSw
                        obtain ⟨q0, q1, q2, q3, q4⟩ := HGX.out W hSw.k
                        first | (go_simp; done) | (go_simp; rfl)
                      simp only [Act.put, List.setIfInBounds_toArray, List.set_cons_zero, List.set_cons_succ]
                      refine wpAnyH_take (i := 22) (v := (.int .u64 (S1 : Nat))) (List.getElem?_toArray.trans rfl) (by kernel_rfl) (by kernel_rfl) (by kernel_rfl) (fun _ _ _ h => h) (Or.inl ⟨by rfl, ?_⟩) (by assumption) ?_
                      · intro W hSw
                        first | rfl | (go_simp; done) | (go_simp; rfl)
                      simp only [Act.put, List.setIfInBounds_toArray, List.set_cons_zero, List.set_cons_succ]
                      refine wpAnyH_take (i := 23) (v := (.bool false)) (List.getElem?_toArray.trans rfl) (by kernel_rfl) (by kernel_rfl) (by kernel_rfl) (fun _ _ _ h => h) (Or.inl ⟨by rfl, ?_⟩) (by assumption) ?_
                      · intro W hSw
                        first | (go_simp; done) | (go_simp; rfl) | (go_simp; omega)
                      simp only [Act.put, List.setIfInBounds_toArray, List.set_cons_zero, List.set_cons_succ]
                      refine wpAnyH_take (i := 24) (v := (.bool false)) (List.getElem?_toArray.trans rfl) (by kernel_rfl) (by kernel_rfl) (by kernel_rfl) (fun _ _ _ h => h) (Or.inl ⟨by rfl, ?_⟩) (by assumption) ?_
                      · intro W hSw
                        first | rfl | (go_simp; done) | (go_simp; rfl)
                      simp only [Act.put, List.setIfInBounds_toArray, List.set_cons_zero, List.set_cons_succ]
                      refine wpAnyH_take (i := 25) (v := (.bool false)) (List.getElem?_toArray.trans rfl) (by kernel_rfl) (by kernel_rfl) (by kernel_rfl) (fun _ _ _ h => h) (Or.inl ⟨by rfl, ?_⟩) (by assumption) ?_
                      · intro W hSw
                        first | rfl | (go_simp; done) | (go_simp; rfl)
                      simp only [Act.put, List.setIfInBounds_toArray, List.set_cons_zero, List.set_cons_succ]
                      refine wpAnyH_take (i := 26) (v := (.slice (some ⟨bo, oo, none⟩) M.length oc)) (List.getElem?_toArray.trans rfl) (by kernel_rfl) (by kernel_rfl) (by kernel_rfl) (fun _ _ _ h => h) (Or.inl ⟨by rfl, ?_⟩) (by assumption) ?_
                      · intro W hSw
                        first | rfl | (go_simp; done) | (go_simp; rfl)
                      simp only [Act.put, List.setIfInBounds_toArray, List.set_cons_zero, List.set_cons_succ]
                      refine wpAnyH_take (i := 27) (v := (.int .i64 (j : Nat))) (List.getElem?_toArray.trans rfl) (by kernel_rfl) (by kernel_rfl) (by kernel_rfl) (fun _ _ _ h => h) (Or.inl ⟨by rfl, ?_⟩) (by assumption) ?_
                      · intro W hSw
                        first | rfl | (go_simp; done) | (go_simp; rfl)
                      simp only [Act.put, List.setIfInBounds_toArray, List.set_cons_zero, List.set_cons_succ]
                      refine wpAnyH_take (i := 28) (v := (.pointer (some ⟨bo, oo + j * 5, none⟩))) (List.getElem?_toArray.trans rfl) (by kernel_rfl) (by kernel_rfl) (by kernel_rfl) (fun _ _ _ h => h) (Or.inl ⟨by rfl, ?_⟩) (by assumption) ?_
                      · intro W hSw
                        first | rfl | (go_simp; done) | (go_simp; rfl)
                      simp only [Act.put, List.setIfInBounds_toArray, List.set_cons_zero, List.set_cons_succ]
                      refine wpAnyH_take (i := 29) (v := (.agg #[.int .u64 (x.file : Nat), .int .i64 x.size, .string (bs x.first), .string (bs x.last), .int .u64 (x.seq : Nat)])) (List.getElem?_toArray.trans rfl) (by kernel_rfl) (by kernel_rfl) (by kernel_rfl) (fun _ _ _ h => h) (Or.inl ⟨by rfl, ?_⟩) (by assumption) ?_
                      · intro W hSw
                        obtain ⟨q0, q1, q2, q3, q4⟩ := HGX.out W hSw.k
                        first | (go_simp; done) | (go_simp; rfl)
                      simp only [Act.put, List.setIfInBounds_toArray, List.set_cons_zero, List.set_cons_succ]
                      refine wpAnyH_ready (rs := [30]) (by kernel_rfl) (by simp) ?_
                      refine (AllReadyH.cons (List.getElem?_toArray.trans rfl) (fun K hK => ?_) AllReadyH.nil)
                      go_simp
                      refine (HMY.out _).mono ?_
                      rintro e wa ⟨rfl, ga⟩
                      have HS := Lib.hid (KV.mk (kept_trans hHeld.k ga))
                      clear ga hHeld
                      go_wp2_with fail
                      refine hK.out _ _ HS.out (fun hHeld => ?_)
                      clear hK K
                      as_aux_lemma =>
                      refine wpAnyH_take (i := 31) (v := (.bool false)) (List.getElem?_toArray.trans rfl) (by kernel_rfl) (by kernel_rfl) (by kernel_rfl) (fun _ _ _ h => h) (Or.inl ⟨by rfl, ?_⟩) (by assumption) ?_
                      · intro W hSw
                        first | rfl | (go_simp; done) | (go_simp; rfl)
                      simp only [Act.put, List.setIfInBounds_toArray, List.set_cons_zero, List.set_cons_succ]
                      refine wpAnyH_take (i := 32) (v := (.bool false)) (List.getElem?_toArray.trans rfl) (by kernel_rfl) (by kernel_rfl) (by kernel_rfl) (fun _ _ _ h => h) (Or.inl ⟨by rfl, ?_⟩) (by assumption) ?_
                      · intro W hSw
                        first | rfl | (go_simp; done) | (go_simp; rfl)
                      simp only [Act.put, List.setIfInBounds_toArray, List.set_cons_zero, List.set_cons_succ]
                      refine wpAnyH_take (i := 33) (v := (.bool false)) (List.getElem?_toArray.trans rfl) (by kernel_rfl) (by kernel_rfl) (by kernel_rfl) (fun _ _ _ h => h) (Or.inl ⟨by rfl, ?_⟩) (by assumption) ?_
                      · intro W hSw
                        first | rfl | (go_simp; done) | (go_simp; rfl)
                      simp only [Act.put, List.setIfInBounds_toArray, List.set_cons_zero, List.set_cons_succ]
                      refine wpAnyH_take (i := 34) (v := (.int .i64 (j : Nat))) (List.getElem?_toArray.trans rfl) (by kernel_rfl) (by kernel_rfl) (by kernel_rfl) (fun _ _ _ h => h) (Or.inl ⟨by rfl, ?_⟩) (by assumption) ?_
                      · intro W hSw
                        first | rfl | (go_simp; done) | (go_simp; rfl)
                      simp only [Act.put, List.setIfInBounds_toArray, List.set_cons_zero, List.set_cons_succ]
                      refine wpAnyH_take (i := 35) (v := (.bool false)) (List.getElem?_toArray.trans rfl) (by kernel_rfl) (by kernel_rfl) (by kernel_rfl) (fun _ _ _ h => h) (Or.inl ⟨by rfl, ?_⟩) (by assumption) ?_
                      · intro W hSw
                        first | (go_simp; done) | (go_simp; rfl) | (go_simp; omega)
                      simp only [Act.put, List.setIfInBounds_toArray, List.set_cons_zero, List.set_cons_succ]
                      refine wpAnyH_take (i := 36) (v := (.bool false)) (List.getElem?_toArray.trans rfl) (by kernel_rfl) (by kernel_rfl) (by kernel_rfl) (fun _ _ _ h => h) (Or.inl ⟨by rfl, ?_⟩) (by assumption) ?_
                      · intro W hSw
                        first | rfl | (go_simp; done) | (go_simp; rfl)
                      simp only [Act.put, List.setIfInBounds_toArray, List.set_cons_zero, List.set_cons_succ]
                      refine wpAnyH_take (i := 37) (v := undef) (List.getElem?_toArray.trans rfl) (by kernel_rfl) (by kernel_rfl) (by kernel_rfl) (fun _ _ _ h => h) (Or.inr ⟨by rfl, rfl⟩) (by assumption) ?_
                      simp only [Act.put, List.setIfInBounds_toArray, List.set_cons_zero, List.set_cons_succ]
                      refine wpAnyH_take (i := 38) (v := undef) (List.getElem?_toArray.trans rfl) (by kernel_rfl) (by kernel_rfl) (by kernel_rfl) (fun _ _ _ h => h) (Or.inr ⟨by rfl, rfl⟩) (by assumption) ?_
                      simp only [Act.put, List.setIfInBounds_toArray, List.set_cons_zero, List.set_cons_succ]
                      refine wpAnyH_take (i := 39) (v := undef) (List.getElem?_toArray.trans rfl) (by kernel_rfl) (by kernel_rfl) (by kernel_rfl) (fun _ _ _ h => h) (Or.inr ⟨by rfl, rfl⟩) (by assumption) ?_
                      simp only [Act.put, List.setIfInBounds_toArray, List.set_cons_zero, List.set_cons_succ]
                      refine wpAnyH_take (i := 40) (v := undef) (List.getElem?_toArray.trans rfl) (by kernel_rfl) (by kernel_rfl) (by kernel_rfl) (fun _ _ _ h => h) (Or.inr ⟨by rfl, rfl⟩) (by assumption) ?_
                      simp only [Act.put, List.setIfInBounds_toArray, List.set_cons_zero, List.set_cons_succ]
                      as_aux_lemma =>
                      refine wpAnyH_take (i := 41) (v := undef) (List.getElem?_toArray.trans rfl) (by kernel_rfl) (by kernel_rfl) (by kernel_rfl) (fun _ _ _ h => h) (Or.inr ⟨by rfl, rfl⟩) (by assumption) ?_
                      simp only [Act.put, List.setIfInBounds_toArray, List.set_cons_zero, List.set_cons_succ]
                      refine wpAnyH_take (i := 42) (v := undef) (List.getElem?_toArray.trans rfl) (by kernel_rfl) (by kernel_rfl) (by kernel_rfl) (fun _ _ _ h => h) (Or.inr ⟨by rfl, rfl⟩) (by assumption) ?_
                      simp only [Act.put, List.setIfInBounds_toArray, List.set_cons_zero, List.set_cons_succ]
                      refine wpAnyH_take (i := 43) (v := undef) (List.getElem?_toArray.trans rfl) (by kernel_rfl) (by kernel_rfl) (by kernel_rfl) (fun _ _ _ h => h) (Or.inr ⟨by rfl, rfl⟩) (by assumption) ?_
                      simp only [Act.put, List.setIfInBounds_toArray, List.set_cons_zero, List.set_cons_succ]
                      refine wpAnyH_take (i := 44) (v := undef) (List.getElem?_toArray.trans rfl) (by kernel_rfl) (by kernel_rfl) (by kernel_rfl) (fun _ _ _ h => h) (Or.inr ⟨by rfl, rfl⟩) (by assumption) ?_
                      simp only [Act.put, List.setIfInBounds_toArray, List.set_cons_zero, List.set_cons_succ]
                      refine wpAnyH_take (i := 45) (v := undef) (List.getElem?_toArray.trans rfl) (by kernel_rfl) (by kernel_rfl) (by kernel_rfl) (fun _ _ _ h => h) (Or.inr ⟨by rfl, rfl⟩) (by assumption) ?_
                      simp only [Act.put, List.setIfInBounds_toArray, List.set_cons_zero, List.set_cons_succ]
                      refine wpAnyH_take (i := 46) (v := undef) (List.getElem?_toArray.trans rfl) (by kernel_rfl) (by kernel_rfl) (by kernel_rfl) (fun _ _ _ h => h) (Or.inr ⟨by rfl, rfl⟩) (by assumption) ?_
                      simp only [Act.put, List.setIfInBounds_toArray, List.set_cons_zero, List.set_cons_succ]
                      refine wpAnyH_take (i := 47) (v := undef) (List.getElem?_toArray.trans rfl) (by kernel_rfl) (by kernel_rfl) (by kernel_rfl) (fun _ _ _ h => h) (Or.inr ⟨by rfl, rfl⟩) (by assumption) ?_
                      simp only [Act.put, List.setIfInBounds_toArray, List.set_cons_zero, List.set_cons_succ]
                      refine wpAnyH_take (i := 48) (v := undef) (List.getElem?_toArray.trans rfl) (by kernel_rfl) (by kernel_rfl) (by kernel_rfl) (fun _ _ _ h => h) (Or.inr ⟨by rfl, rfl⟩) (by assumption) ?_
                      simp only [Act.put, List.setIfInBounds_toArray, List.set_cons_zero, List.set_cons_succ]
                      refine wpAnyH_take (i := 49) (v := undef) (List.getElem?_toArray.trans rfl) (by kernel_rfl) (by kernel_rfl) (by kernel_rfl) (fun _ _ _ h => h) (Or.inr ⟨by rfl, rfl⟩) (by assumption) ?_
                      simp only [Act.put, List.setIfInBounds_toArray, List.set_cons_zero, List.set_cons_succ]
                      refine wpAnyH_take (i := 50) (v := undef) (List.getElem?_toArray.trans rfl) (by kernel_rfl) (by kernel_rfl) (by kernel_rfl) (fun _ _ _ h => h) (Or.inr ⟨by rfl, rfl⟩) (by assumption) ?_
                      simp only [Act.put, List.setIfInBounds_toArray, List.set_cons_zero, List.set_cons_succ]
                      as_aux_lemma =>
                      refine wpAnyH_take (i := 51) (v := undef) (List.getElem?_toArray.trans rfl) (by kernel_rfl) (by kernel_rfl) (by kernel_rfl) (fun _ _ _ h => h) (Or.inr ⟨by rfl, rfl⟩) (by assumption) ?_
                      simp only [Act.put, List.setIfInBounds_toArray, List.set_cons_zero, List.set_cons_succ]
                      refine wpAnyH_take (i := 52) (v := undef) (List.getElem?_toArray.trans rfl) (by kernel_rfl) (by kernel_rfl) (by kernel_rfl) (fun _ _ _ h => h) (Or.inr ⟨by rfl, rfl⟩) (by assumption) ?_
                      simp only [Act.put, List.setIfInBounds_toArray, List.set_cons_zero, List.set_cons_succ]
                      refine wpAnyH_take (i := 53) (v := undef) (List.getElem?_toArray.trans rfl) (by kernel_rfl) (by kernel_rfl) (by kernel_rfl) (fun _ _ _ h => h) (Or.inr ⟨by rfl, rfl⟩) (by assumption) ?_
                      simp only [Act.put, List.setIfInBounds_toArray, List.set_cons_zero, List.set_cons_succ]
                      refine wpAnyH_take (i := 54) (v := undef) (List.getElem?_toArray.trans rfl) (by kernel_rfl) (by kernel_rfl) (by kernel_rfl) (fun _ _ _ h => h) (Or.inr ⟨by rfl, rfl⟩) (by assumption) ?_
                      simp only [Act.put, List.setIfInBounds_toArray, List.set_cons_zero, List.set_cons_succ]
                      refine wpAnyH_take (i := 55) (v := undef) (List.getElem?_toArray.trans rfl) (by kernel_rfl) (by kernel_rfl) (by kernel_rfl) (fun _ _ _ h => h) (Or.inr ⟨by rfl, rfl⟩) (by assumption) ?_
                      simp only [Act.put, List.setIfInBounds_toArray, List.set_cons_zero, List.set_cons_succ]
                      refine wpAnyH_take (i := 56) (v := undef) (List.getElem?_toArray.trans rfl) (by kernel_rfl) (by kernel_rfl) (by kernel_rfl) (fun _ _ _ h => h) (Or.inr ⟨by rfl, rfl⟩) (by assumption) ?_
                      simp only [Act.put, List.setIfInBounds_toArray, List.set_cons_zero, List.set_cons_succ]
                      refine wpAnyH_take (i := 57) (v := undef) (List.getElem?_toArray.trans rfl) (by kernel_rfl) (by kernel_rfl) (by kernel_rfl) (fun _ _ _ h => h) (Or.inr ⟨by rfl, rfl⟩) (by assumption) ?_
                      simp only [Act.put, List.setIfInBounds_toArray, List.set_cons_zero, List.set_cons_succ]
                      refine wpAnyH_take (i := 58) (v := undef) (List.getElem?_toArray.trans rfl) (by kernel_rfl) (by kernel_rfl) (by kernel_rfl) (fun _ _ _ h => h) (Or.inr ⟨by rfl, rfl⟩) (by assumption) ?_
                      simp only [Act.put, List.setIfInBounds_toArray, List.set_cons_zero, List.set_cons_succ]
                      refine wpAnyH_take (i := 59) (v := undef) (List.getElem?_toArray.trans rfl) (by kernel_rfl) (by kernel_rfl) (by kernel_rfl) (fun _ _ _ h => h) (Or.inr ⟨by rfl, rfl⟩) (by assumption) ?_
                      simp only [Act.put, List.setIfInBounds_toArray, List.set_cons_zero, List.set_cons_succ]
                      refine wpAnyH_take (i := 60) (v := undef) (List.getElem?_toArray.trans rfl) (by kernel_rfl) (by kernel_rfl) (by kernel_rfl) (fun _ _ _ h => h) (Or.inr ⟨by rfl, rfl⟩) (by assumption) ?_
                      simp only [Act.put, List.setIfInBounds_toArray, List.set_cons_zero, List.set_cons_succ]
                      as_aux_lemma =>
                      refine wpAnyH_take (i := 61) (v := undef) (List.getElem?_toArray.trans rfl) (by kernel_rfl) (by kernel_rfl) (by kernel_rfl) (fun _ _ _ h => h) (Or.inr ⟨by rfl, rfl⟩) (by assumption) ?_
                      simp only [Act.put, List.setIfInBounds_toArray, List.set_cons_zero, List.set_cons_succ]
                      refine wpAnyH_take (i := 62) (v := undef) (List.getElem?_toArray.trans rfl) (by kernel_rfl) (by kernel_rfl) (by kernel_rfl) (fun _ _ _ h => h) (Or.inr ⟨by rfl, rfl⟩) (by assumption) ?_
                      simp only [Act.put, List.setIfInBounds_toArray, List.set_cons_zero, List.set_cons_succ]
                      refine wpAnyH_take (i := 63) (v := undef) (List.getElem?_toArray.trans rfl) (by kernel_rfl) (by kernel_rfl) (by kernel_rfl) (fun _ _ _ h => h) (Or.inr ⟨by rfl, rfl⟩) (by assumption) ?_
                      simp only [Act.put, List.setIfInBounds_toArray, List.set_cons_zero, List.set_cons_succ]
                      refine wpAnyH_take (i := 64) (v := undef) (List.getElem?_toArray.trans rfl) (by kernel_rfl) (by kernel_rfl) (by kernel_rfl) (fun _ _ _ h => h) (Or.inr ⟨by rfl, rfl⟩) (by assumption) ?_
                      simp only [Act.put, List.setIfInBounds_toArray, List.set_cons_zero, List.set_cons_succ]
                      refine wpAnyH_take (i := 65) (v := undef) (List.getElem?_toArray.trans rfl) (by kernel_rfl) (by kernel_rfl) (by kernel_rfl) (fun _ _ _ h => h) (Or.inr ⟨by rfl, rfl⟩) (by assumption) ?_
                      simp only [Act.put, List.setIfInBounds_toArray, List.set_cons_zero, List.set_cons_succ]
                      refine wpAnyH_take (i := 66) (v := undef) (List.getElem?_toArray.trans rfl) (by kernel_rfl) (by kernel_rfl) (by kernel_rfl) (fun _ _ _ h => h) (Or.inr ⟨by rfl, rfl⟩) (by assumption) ?_
                      simp only [Act.put, List.setIfInBounds_toArray, List.set_cons_zero, List.set_cons_succ]
                      refine wpAnyH_take (i := 67) (v := undef) (List.getElem?_toArray.trans rfl) (by kernel_rfl) (by kernel_rfl) (by kernel_rfl) (fun _ _ _ h => h) (Or.inr ⟨by rfl, rfl⟩) (by assumption) ?_
                      simp only [Act.put, List.setIfInBounds_toArray, List.set_cons_zero, List.set_cons_succ]
                      refine wpAnyH_take (i := 68) (v := undef) (List.getElem?_toArray.trans rfl) (by kernel_rfl) (by kernel_rfl) (by kernel_rfl) (fun _ _ _ h => h) (Or.inr ⟨by rfl, rfl⟩) (by assumption) ?_
                      simp only [Act.put, List.setIfInBounds_toArray, List.set_cons_zero, List.set_cons_succ]
                      refine wpAnyH_take (i := 69) (v := undef) (List.getElem?_toArray.trans rfl) (by kernel_rfl) (by kernel_rfl) (by kernel_rfl) (fun _ _ _ h => h) (Or.inr ⟨by rfl, rfl⟩) (by assumption) ?_
                      simp only [Act.put, List.setIfInBounds_toArray, List.set_cons_zero, List.set_cons_succ]
                      refine wpAnyH_take (i := 70) (v := undef) (List.getElem?_toArray.trans rfl) (by kernel_rfl) (by kernel_rfl) (by kernel_rfl) (fun _ _ _ h => h) (Or.inr ⟨by rfl, rfl⟩) (by assumption) ?_
                      simp only [Act.put, List.setIfInBounds_toArray, List.set_cons_zero, List.set_cons_succ]
                      as_aux_lemma =>
                      refine wpAnyH_take (i := 71) (v := (.bool false)) (List.getElem?_toArray.trans rfl) (by kernel_rfl) (by kernel_rfl) (by kernel_rfl) (fun _ _ _ h => h) (Or.inl ⟨by rfl, ?_⟩) (by assumption) ?_
                      · intro W hSw
                        first | rfl | (go_simp; done) | (go_simp; rfl)
                      simp only [Act.put, List.setIfInBounds_toArray, List.set_cons_zero, List.set_cons_succ]
                      refine wpAnyH_take (i := 72) (v := (.bool false)) (List.getElem?_toArray.trans rfl) (by kernel_rfl) (by kernel_rfl) (by kernel_rfl) (fun _ _ _ h => h) (Or.inl ⟨by rfl, ?_⟩) (by assumption) ?_
                      · intro W hSw
                        first | rfl | (go_simp; done) | (go_simp; rfl)
                      simp only [Act.put, List.setIfInBounds_toArray, List.set_cons_zero, List.set_cons_succ]
                      refine wpAnyH_done (by kernel_rfl) ?_ _
                      have HH := Lib.hid hHeld.k
                      obtain ⟨q0, q1, q2, q3, q4⟩ := HGX.out _ HH.out
                      obtain ⟨w9, hst, sq9, g9, z9⟩ := (HN.out.kept HH.out).store HLN.out x.file HFX.out
                      have HN9 := Lib.hid (show NsIs w9 w5.heap.size (fls U k ++ (M.take (j + 1)).map Meta.file) from by rw [← HSTP.out]; exact sq9)
                      have K9 := Lib.hid (okept_store (w := w5) HKJ.out HH.out g9 (Nat.le_refl _))
                      have HOW9 := Lib.hid (own_other g9 (own_kp HH.out HOW.out) HBL.out)
                      clear sq9 g9 z9 hHeld
                      go_wp2_with fail
                      go_roundw
                      case rel => exact ⟨j + 1, by have := HJL.out; omega, by go_num, HN9, K9, HOW9⟩
                      case measure => have := HJL.out; simp [intOf]; omega
                · obtain rfl : j = M.length := by omega
                  have HNN := Lib.hid (show NsIs wr w5.heap.size (fls U (k + 1)) from by rw [← HFU.out]; exact HN.out)
                  clear hl30 hfl
                  go_wp2_with fail
                  go_roundw
                  case rel => exact ⟨k + 1, by omega, by go_num, HNN, HKJ⟩
                  case measure => simp [intOf]; omega
            · as_aux_lemma =>
                have e4 : k = 4 := by omega
                have HN10 := Lib.hid (show NsIs wr w5.heap.size (fls U 4) from by rw [← e4]; exact HNK.out)
                have d3 : decide ((k : Int) < 4) = false := decide_eq_false (by omega)
                have hmk : ∀ W : World, (Instr.makeMap 65 none).run Tryz.prog W = .ok (.map (some W.heap.size)) (W.alloc (.map #[] 0)) := fun _ => rfl
                clear HNK e4
                obtain ⟨wA, hwA⟩ : ∃ wA, wA = wr := ⟨_, rfl⟩
                subst hwA
                have KA := Lib.hid ((Kept.refl wA).alloc (.map #[] 0))
                have HNA := Lib.hid (nsIs_new wA)
                obtain ⟨z0, z1, z2, z3, z4, z5, z6, z7⟩ := HX.out (wA.alloc (.map #[] 0)) (kept_trans KW5.out (kept_trans HKK.out KA.out))
                generalize x.A = xA at *
                go_wp2_with fail
                clear hmk z0 z1 z2 z3 z4 z5 z6 z7
                go_loopw [156] (fun t wg => ∃ g : Nat, g ≤ x.gone.length ∧ t = .int .i64 g ∧ Hid (NsIs wg wA.heap.size (x.gone.take g)) ∧ Hid (Kept wA wg)) (fun t _ => x.gone.length - (intOf t).toNat)
                case atStart => exact ⟨0, Nat.zero_le _, rfl, Lib.hid (by rw [List.take_zero]; exact HNA.out), KA⟩
                case round =>
                  clear HNA KA
                  obtain ⟨g, hg, rfl, HNG, HKG⟩ := hrel
                  by_cases hgl : g < x.gone.length
                  · have d4 : decide ((g : Int) < (x.gone.length : Int)) = true := decide_eq_true (by omega)
                    obtain ⟨n, hn⟩ : ∃ n, x.gone[g]? = some n := ⟨_, List.getElem?_eq_getElem hgl⟩
                    obtain ⟨gb, go, rfl, hgb, hgc⟩ := HIN.out wr (kept_trans KW5.out (kept_trans HKK.out HKG.out)) g n hn
                    have hgl2 := HGL.out
                    have HJL := Lib.hid hgl
                    obtain ⟨w9, hst, sq9, g9, z9⟩ := HNG.out.store (by rw [List.length_take]; omega) n (HGB.out n (List.mem_of_getElem? hn))
                    have HN9 := Lib.hid (show NsIs w9 wA.heap.size (x.gone.take (g + 1)) from by rw [List.take_add_one, hn]; exact sq9)
                    have K9 := Lib.hid (okept_store (w := wA) HKG.out (Kept.refl wr) g9 (Nat.le_refl _))
                    clear sq9 g9 z9 hn
                    go_wp2_with fail
                    go_roundw
                    case rel => exact ⟨g + 1, by have := HJL.out; omega, by go_num, HN9, K9⟩
                    case measure => have := HJL.out; simp [intOf]; omega
                  · have HN14 := Lib.hid (show NsIs wr wA.heap.size x.gone from by have h := HNG.out; rw [List.take_of_length_le (by omega)] at h; exact h)
                    have HNS := Lib.hid (HN10.out.kept HKG.out)
                    have KW9 := Lib.hid (kept_trans KW5.out (kept_trans HKK.out HKG.out))
                    have HFV := Lib.hid (lvfilesV_any (HVO.out wr (kept_trans HKK.out HKG.out)) HTL.out)
                    have d4 : decide ((g : Int) < (x.gone.length : Int)) = false := decide_eq_false (by omega)
                    generalize wA.heap.size = b14 at *
                    generalize w5.heap.size = b10 at *
                    clear HN10 HNG
                    go_wp2_with fail
                    refine HFV.out.mono ?_
                    rintro e w7 ⟨v, rfl, ho, k7⟩
                    obtain ⟨fA, fc, rfl, hfn, hfu⟩ := own_nus ho
                    have HFU := Lib.hid (fun W (hW : Kept w7 W) => hfu.kept hW)
                    have H14 := Lib.hid (fun W (hW : Kept w7 W) => HN14.out.kept (kept_trans k7 hW))
                    have H10 := Lib.hid (fun W (hW : Kept w7 W) => HNS.out.kept (kept_trans k7 hW))
                    have KW7 := Lib.hid (kept_trans KW9.out k7)
                    have HV7 := Lib.hid (fun W (hW : Kept w7 W) => HV5.out.kept (kept_trans HKK.out (kept_trans HKG.out (kept_trans k7 hW))))
                    have HSM := Lib.hid (fun y (hy : y ∈ srt (fls T 4)) => (srt_perm (fls T 4)).mem_iff.1 hy)
                    clear ho hfu k7 HFV HN14 HNS hfn
                    have hfl30 : (srt (fls T 4)).length ≤ 120 := by rw [srt_len]; exact fls_len T 30 (fun l hl => HG.out.len l hl) 4 (by omega)
                    generalize srt (fls T 4) = FL at *
                    go_wp2_with fail
                    go_loopw [166] (fun t wf => ∃ q : Nat, q ≤ FL.length ∧ t = .int .i64 q ∧ Hid (Kept w7 wf)) (fun t _ => FL.length - (intOf t).toNat)
                    case atStart => exact ⟨0, Nat.zero_le _, rfl, Lib.hid (Kept.refl w7)⟩
                    case round =>
                      obtain ⟨q, hq, rfl, HKQ⟩ := hrel
                      by_cases hql : q < FL.length
                      · have d5 : decide ((q : Int) < (FL.length : Int)) = true := decide_eq_true (by omega)
                        obtain ⟨y, hy⟩ : ∃ y, FL[q]? = some y := ⟨_, List.getElem?_eq_getElem hql⟩
                        obtain ⟨fb, fo, rfl, hfb, hfc⟩ := HFU.out wr HKQ.out q y hy
                        have hym := HSM.out y (List.mem_of_getElem? hy)
                        have hyn := HTM.out y hym
                        have HL14 := Lib.hid (fun W (hW : Kept wr W) => (H14.out W (kept_trans HKQ.out hW)).look hyn)
                        have HL10 := Lib.hid (fun W (hW : Kept wr W) => (H10.out W (kept_trans HKQ.out hW)).look hyn)
                        have HJL := Lib.hid hql
                        by_cases hyg : y ∈ x.gone
                        · rw [decide_eq_true hyg] at HL14
                          clear hy hym hyn hyg
                          have q14 := HL14.out wr (Kept.refl wr)
                          clear HL14 HL10
                          go_wp2_with fail
                          go_roundw
                          case rel => exact ⟨q + 1, by have := HJL.out; omega, by go_num, HKQ⟩
                          case measure => have := HJL.out; simp [intOf]; omega
                        · have hyu := HST.out y hym hyg
                          rw [decide_eq_false hyg] at HL14
                          rw [decide_eq_true hyu] at HL10
                          clear hy hym hyn hyg hyu
                          have q14 := HL14.out wr (Kept.refl wr)
                          have q10 := HL10.out wr (Kept.refl wr)
                          clear HL14 HL10
                          go_wp2_with fail
                          go_roundw
                          case rel => exact ⟨q + 1, by have := HJL.out; omega, by go_num, HKQ⟩
                          case measure => have := HJL.out; simp [intOf]; omega
                      · have d5 : decide ((q : Int) < (FL.length : Int)) = false := decide_eq_false (by omega)
                        have HV9 := Lib.hid (HV7.out wr HKQ.out)
                        have KW9 := Lib.hid (kept_trans KW7.out HKQ.out)
                        clear HV7 KW7
                        go_wp2_with fail
                        go_roundw
                        case rel => exact ⟨i + 1, p2, N1, L1, S1, U, by omega, by omega, rfl, by go_num, HV9, HG2, KW9⟩
                        case measure => simp [intOf]; omega
      · have d2 : decide ((i : Int) < 40) = false := decide_eq_false (by omega)
        go_wp2_with fail
        go_ret
        exact ⟨by simp, HK.out⟩
    · have d1 : decide ((i : Int) < (l.length : Int)) = false := decide_eq_false (by omega)
      go_wp2_with fail
      go_ret
      exact ⟨by simp, HK.out⟩
end Go.Proofs.YtnnmalpnjlnnlaaGreat
