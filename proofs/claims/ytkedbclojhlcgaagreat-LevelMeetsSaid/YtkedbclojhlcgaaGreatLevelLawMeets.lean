/-
  Statement LevelMeets: the walk.
-/
import Derived.Test.YtkedbclojhlcgaaGreatLevelKit
import Derived.RegionTactic
import Derived.Deep.RegionHeld3
namespace Go.Proofs.YtkedbclojhlcgaaGreat
open Go.ChangeShapes Go.WideShapes Go.ChangeAt Go.RowKit
set_option linter.unusedVariables false
set_option maxRecDepth 100000
set_option maxHeartbeats 16000000
open Lv
theorem meet_at {l : List Meta} {j : Nat} {x : Meta} (h : l[j]? = some x) {a b : List UInt8} (hm : mt x a b = true) : (meet l a b)[(meet (l.take j) a b).length]? = some x := by
  have hs : meet l a b = meet (l.take (j + 1)) a b ++ meet (l.drop (j + 1)) a b := by
    unfold meet; rw [← List.filter_append, List.take_append_drop]
  rw [hs, meet_step h, if_pos hm, List.append_assoc, List.getElem?_append_right (Nat.le_refl _), Nat.sub_self]
  rfl
theorem lvmeets_in (A0 : Option Addr) (c0 : Nat) (l : List Ed) (k : Nat) (hk : k < 4) (fi la inn : List UInt8) {w : World} (ha : Eds w A0 l) (hl : l.length ≤ maxLen) (hf1 : fi.length ≤ 300) (hf2 : la.length ≤ 300) (hf3 : inn.length ≤ 300) :
    Calls Tryz.prog 9 #[.slice A0 l.length c0, .int .i64 (k : Nat), .string (bs fi), .string (bs la), .string (bs inn)] w fun e w' => e = .returned (.bool true) ∧ Kept w w' := by
  have HA := Lib.hid (fun W (hW : Kept w W) => ha.kept hW)
  clear ha
  unfold maxLen at hl
  have g1 : decide ((300 : Int) < ((bs fi).size : Int)) = false := decide_eq_false (by rw [lvbs_size]; omega)
  have g2 : decide ((300 : Int) < ((bs la).size : Int)) = false := decide_eq_false (by rw [lvbs_size]; omega)
  have g3 : decide ((300 : Int) < ((bs inn).size : Int)) = false := decide_eq_false (by rw [lvbs_size]; omega)
  clear hf1 hf2 hf3
  go_enter Tryz.func9, Tryz.ntmps9
  go_wp2_with fail
  refine (lvawake_any _).mono ?_
  rintro e w1 ⟨rfl, k1⟩
  have K1 := Lib.hid k1
  clear k1
  go_wp2_with fail
  clear g1 g2 g3
  refine (lvnew_any _).mono ?_
  rintro e w2 ⟨p, rfl, hv, _, k2⟩
  have K2 := Lib.hid (kept_trans K1.out k2)
  have HV2 := Lib.hid hv
  clear k2 K1 hv
  go_wp2_with fail
  go_loopw [11, 12] (fun v t wr => ∃ (i p nx lg sq : Nat) (T : Nat → Lvl), i ≤ l.length ∧ i ≤ 40 ∧ v = .pointer (some ⟨p, 0, none⟩) ∧ t = .int .i64 i ∧ Hid (IsV wr p T nx lg sq) ∧ Hid (Lv.Good (verV T nx lg sq)) ∧ Hid (Kept w wr)) (fun _ t _ => l.length - (intOf t).toNat)
  case atStart => exact ⟨0, p, 1, 0, 0, vT0, Nat.zero_le _, Nat.zero_le _, rfl, rfl, HV2, Lib.hid good_vz, K2⟩
  case round =>
    clear HV2 K2
    obtain ⟨i, p, nx, lg, sq, T, hi, hi40, rfl, rfl, HV, HG, HK⟩ := hrel
    by_cases hcond : i < l.length ∧ i < 40
    · obtain ⟨hlt, h40⟩ := hcond
      have d1 : decide ((i : Int) < (l.length : Int)) = true := decide_eq_true (by omega)
      have d2 : decide ((i : Int) < 40) = true := decide_eq_true (by omega)
      obtain ⟨x, hx⟩ : ∃ x, l[i]? = some x := ⟨_, List.getElem?_eq_getElem hlt⟩
      obtain ⟨b, o, rfl, hb, _, _⟩ := HA.out w (Kept.refl _) i x hx
      have HX := Lib.hid (fun W (hW : Kept w W) => ed_at (HA.out W hW i x hx))
      have HW := Lib.hid (fun W (hW : Kept w W) => ed_wk (HA.out W hW i x hx))
      have HLG := Lib.hid (fun W (hW : Kept w W) => lvlarge_any (ed_wk (HA.out W hW i x hx)))
      have HAP := Lib.hid (fun W (hW : Kept wr W) (hin : x.In W) => apy_two (HV.out.kept hW) HG.out hin)
      have hev : x.v = .agg #[.slice x.A x.gone.length x.c, (x.T 0).v, (x.T 1).v, (x.T 2).v, (x.T 3).v, .int .u64 (x.nx : Nat), .int .u64 (x.lg : Nat), .int .u64 (x.sq : Nat)] := rfl
      rw [hev] at HLG HAP
      clear hx hev
      unfold EdAt at HX
      generalize (x.T 0).v = y0 at *
      generalize (x.T 1).v = y1 at *
      generalize (x.T 2).v = y2 at *
      generalize (x.T 3).v = y3 at *
      obtain ⟨z0, z1, z2, z3, z4, z5, z6, z7⟩ := HX.out wr HK.out
      go_wp2_with fail
      refine (HLG.out _ HK.out).mono ?_
      rintro r w3 ⟨B, rfl, hB, k3⟩
      have K3 := Lib.hid k3
      have KW3 := Lib.hid (kept_trans HK.out k3)
      clear k3 z0 z1 z2 z3 z4 z5 z6 z7 HLG
      cases B with
      | true =>
        go_wp2_with fail
        go_ret
        exact ⟨rfl, KW3.out⟩
      | false =>
      have HS := Lib.hid (hB rfl)
      clear hB
      obtain ⟨z0, z1, z2, z3, z4, z5, z6, z7⟩ := HX.out w3 KW3.out
      go_wp2_with fail
      refine (HAP.out _ K3.out ((HW.out _ KW3.out).inn HS.out)).mono ?_
      rintro r w4 ⟨hr, k4⟩
      have K4 := Lib.hid (kept_trans K3.out k4)
      have KW4 := Lib.hid (kept_trans KW3.out k4)
      clear k4 z0 z1 z2 z3 z4 z5 z6 z7 HAP K3 KW3
      rcases hr with ⟨c, hc0, _, rfl⟩ | ⟨p2, U, hc, rfl, hv2, hg2, hUl⟩
      · go_wp2_with fail
        go_roundw
        case rel => exact ⟨i + 1, p, nx, lg, sq, T, by omega, by omega, rfl, by go_num, Lib.hid (HV.out.kept K4.out), HG, KW4⟩
        case measure => simp [intOf]; omega
      · have HV2 := Lib.hid hv2; have HG2 := Lib.hid hg2
        clear hc hUl hv2 hg2
        generalize chg nx x.nx = N1 at *
        generalize chg lg x.lg = L1 at *
        generalize chg sq x.sq = S1 at *
        go_wp2_with fail
        go_roundw
        case rel => exact ⟨i + 1, p2, N1, L1, S1, U, by omega, by omega, rfl, by go_num, HV2, HG2, KW4⟩
        case measure => simp [intOf]; omega
    · clear HA
      by_cases h1 : i < l.length
      · have d1 : decide ((i : Int) < (l.length : Int)) = true := decide_eq_true (by omega)
        have h40 : ¬ i < 40 := by omega
        have d2 : decide ((i : Int) < 40) = false := decide_eq_false (by omega)
        clear hcond
        go_wp2_with fail
        have KV0 := HK
        have hlen := Nat.le_trans (HG.out.len k hk) (by omega : 30 ≤ 100000)
        have HMT := Lib.hid (lvmeet_any HV.out k hk hlen fi la)
        have HL30 := Lib.hid (HG.out.len k hk)
        refine HMT.out.mono ?_
        rintro e w5 ⟨v, rfl, hg, k5⟩
        have HGM := Lib.hid (fun W (hW : Kept w5 W) => own_kp hW hg)
        have K5 := Lib.hid k5
        obtain ⟨gA, gc, rfl⟩ := own_slice hg
        clear hg k5 HMT
        have HLV := Lib.hid (lvlevel_any (HV.out.kept K5.out) k hk hlen)
        go_wp2_with fail
        refine HLV.out.mono ?_
        rintro e w6 ⟨v, rfl, ho, k6⟩
        have HOM := Lib.hid (fun W (hW : Kept w6 W) => own_kp hW ho)
        have K6 := Lib.hid (kept_trans K5.out k6)
        have HGM6 := Lib.hid (fun W (hW : Kept w6 W) => HGM.out W (kept_trans k6 hW))
        obtain ⟨oA, oc, rfl⟩ := own_slice ho
        clear ho k6 HLV HGM K5
        have HG0 := Lib.hid (fun W (hW : Kept w6 W) => own_mts (HGM6.out W hW))
        have HO0 := Lib.hid (fun W (hW : Kept w6 W) => own_mts (HOM.out W hW))
        have K60 := Lib.hid (Kept.refl w6)
        clear HGM6 HOM hlen
        have hl30 : (T k).l.length ≤ 30 := HL30.out
        have hgl30 := Nat.le_trans (meet_le (T k).l fi la) hl30
        have HPRE := Lib.hid (fun j x (hx : (T k).l[j]? = some x) (hm : mt x fi la = true) => meet_at hx hm)
        have HSTP := Lib.hid (fun j x (hx : (T k).l[j]? = some x) => meet_step hx fi la)
        have HMEE := Lib.hid (fun (inn : List UInt8) (h : ¬ inn < fi) => meet_more (l := (T k).l) (show wd (inn, la) (fi, la) from ⟨le_iff.2 h, le_rf la⟩))
        generalize hM : (T k).l = M at *
        have HMM := Lib.hid hM
        clear hM
        generalize hgl : (meet M fi la).length = gl at *
        have HGL := Lib.hid hgl
        clear hgl
        go_wp2_with fail
        go_loopw [16, 71] (fun s t wj => ∃ j : Nat, j ≤ M.length ∧ t = .int .i64 j ∧ s = .int .i64 ((meet (M.take j) fi la).length : Nat) ∧ Hid (Kept w6 wj)) (fun _ t _ => M.length - (intOf t).toNat)
        case atStart => exact ⟨0, Nat.zero_le _, rfl, rfl, K60⟩
        case round =>
          clear K60
          obtain ⟨j, hj, rfl, rfl, HKJ⟩ := hrel
          by_cases hjl : j < M.length
          · have d3 : decide ((j : Int) < (M.length : Int)) = true := decide_eq_true (by omega)
            obtain ⟨x, hx⟩ : ∃ x, M[j]? = some x := ⟨_, List.getElem?_eq_getElem hjl⟩
            obtain ⟨bo, oo, rfl, hbo, _⟩ := HO0.out w6 (Kept.refl _) j x hx
            have hmo := mt_at (HO0.out _ HKJ.out j x hx)
            obtain ⟨c0, c1, c2, c3, c4⟩ := hmo
            have e1 : Op.bytesLess (bs x.last).toList (bs fi).toList = !le fi x.last := by rw [lvbs_list, lvbs_list, Mm.less_eq, le_not, Bool.not_not]
            have HMX := Lib.hid (show mt x fi la = (le fi x.last && le x.first la) from rfl)
            have HST0 := Lib.hid (HSTP.out j x hx)
            have HPR0 := Lib.hid (HPRE.out j x hx)
            clear hx
            cases t1 : le fi x.last
            · rw [t1] at e1 HMX
              have e3 : Op.bytesLess (bs x.last).toList (bs fi).toList = true := by rw [e1]; rfl
              have HST := Lib.hid (show meet (M.take (j + 1)) fi la = meet (M.take j) fi la from by rw [HST0.out, if_neg (by rw [HMX.out]; simp)])
              clear e1 t1 HST0 HPR0
              have HKB := Lib.hid (kept_trans HKJ.out ((Kept.refl wr).alloc (.cells #[.int .u64 (x.file : Nat), .int .i64 x.size, .string (bs x.first), .string (bs x.last), .int .u64 (x.seq : Nat)] 43)))
              go_wp2_with fail
              go_roundw
              case rel => exact ⟨j + 1, by omega, by go_num, by rw [HST.out], HKB⟩
              case measure => simp [intOf]; omega
            · rw [t1] at e1 HMX
              have e3 : Op.bytesLess (bs x.last).toList (bs fi).toList = false := by rw [e1]; rfl
              cases t2 : le x.first la
              · rw [t2] at HMX
                have hne := t2
                unfold le at hne
                rw [Bool.or_eq_false_iff] at hne
                have e4 : Op.bytesLess (bs x.first).toList (bs la).toList = false := by rw [lvbs_list, lvbs_list, Mm.less_eq]; exact hne.1
                have e5 : ((bs x.first).toList == (bs la).toList) = false := by rw [lvbs_list, lvbs_list]; simpa using hne.2
                clear hne
                have HST := Lib.hid (show meet (M.take (j + 1)) fi la = meet (M.take j) fi la from by rw [HST0.out, if_neg (by rw [HMX.out]; simp)])
                clear e1 t1 t2 HST0 HPR0
                have HKB := Lib.hid (kept_trans HKJ.out ((Kept.refl wr).alloc (.cells #[.int .u64 (x.file : Nat), .int .i64 x.size, .string (bs x.first), .string (bs x.last), .int .u64 (x.seq : Nat)] 43)))
                go_wp2_with fail
                go_roundw
                case rel => exact ⟨j + 1, by omega, by go_num, by rw [HST.out], HKB⟩
                case measure => simp [intOf]; omega
              · rw [t2] at HMX
                have hle := t2
                unfold le at hle
                rw [Bool.or_eq_true, decide_eq_true_iff, decide_eq_true_iff] at hle
                have hmx : mt x fi la = true := by rw [HMX.out]; rfl
                have HST := Lib.hid (show (meet (M.take (j + 1)) fi la).length = (meet (M.take j) fi la).length + 1 from by rw [HST0.out, if_pos hmx]; simp)
                have hgx := HPR0.out hmx
                obtain ⟨bg, og, rfl, hbg, _⟩ := HG0.out w6 (Kept.refl _) _ _ hgx
                have HGY := Lib.hid (fun W (hW : Kept w6 W) => mt_at (HG0.out W hW _ _ hgx))
                have hnl := (List.getElem?_eq_some_iff.1 hgx).1
                rw [HGL.out] at hnl
                clear e1 t1 t2 HST0 HPR0 hmx hgx HMX
                generalize hnn : (meet (M.take j) fi la).length = n at *
                have HNN := Lib.hid hnn
                clear hnn
                have HN1 := Lib.hid (show Value.int .i64 ((n : Int) + 1) = .int .i64 ((n + 1 : Nat) : Int) from by push_cast; first | rfl | done)
                have d5 : decide ((gl : Int) ≤ (n : Int)) = false := decide_eq_false (by omega)
                have hB := malloc_new wr (.cells #[.int .u64 (x.file : Nat), .int .i64 x.size, .string (bs x.first), .string (bs x.last), .int .u64 (x.seq : Nat)] 43)
                have HK9 := Lib.hid (kept_trans HKJ.out ((Kept.refl wr).alloc (.cells #[.int .u64 (x.file : Nat), .int .i64 x.size, .string (bs x.first), .string (bs x.last), .int .u64 (x.seq : Nat)] 43)))
                have HBX0 := Lib.hid hB
                have hq := fun W => (mt_neq x x W).trans (by rw [decide_eq_true rfl])
                clear hB
                by_cases h4 : x.first < la
                · have e4 : Op.bytesLess (bs x.first).toList (bs la).toList = true := by rw [lvbs_list, lvbs_list, Mm.less_eq]; exact decide_eq_true h4
                  clear hle h4
                  go_upto_region 20 with fail
                  generalize wr.alloc (.cells #[.int .u64 (x.file : Nat), .int .i64 x.size, .string (bs x.first), .string (bs x.last), .int .u64 (x.seq : Nat)] 43) = w9 at *
                  have HGX := Lib.hid (fun W (hW : Kept w9 W) => HGY.out W (kept_trans HK9.out hW))
                  have HBX := Lib.hid (fun W (hW : Kept w9 W) => five_cells (hp_kept HBX0.out hW))
                  refine wp_region_held_drew (S := fun W => KV w9 W) (by kernel_rfl) ⟨kept_drewN _ 1⟩ (fun hHeld => ?_)
                  refine wpAnyH_take (i := 0) (v := (.int .i64 (n : Nat))) (List.getElem?_toArray.trans rfl) (by kernel_rfl) (by kernel_rfl) (by kernel_rfl) (fun _ _ _ h => h) (Or.inl ⟨by rfl, ?_⟩) (by assumption) ?_
                  · intro W hSw
                    first | rfl | (go_simp; done) | (go_simp; rfl)
                  simp only [Act.put, List.setIfInBounds_toArray, List.set_cons_zero, List.set_cons_succ]
                  refine wpAnyH_take (i := 1) (v := (.slice (some ⟨bg, og, none⟩) gl gc)) (List.getElem?_toArray.trans rfl) (by kernel_rfl) (by kernel_rfl) (by kernel_rfl) (fun _ _ _ h => h) (Or.inl ⟨by rfl, ?_⟩) (by assumption) ?_
                  · intro W hSw
                    first | rfl | (go_simp; done) | (go_simp; rfl)
                  simp only [Act.put, List.setIfInBounds_toArray, List.set_cons_zero, List.set_cons_succ]
                  refine wpAnyH_take (i := 2) (v := (.int .i64 (gl : Nat))) (List.getElem?_toArray.trans rfl) (by kernel_rfl) (by kernel_rfl) (by kernel_rfl) (fun _ _ _ h => h) (Or.inl ⟨by rfl, ?_⟩) (by assumption) ?_
                  · intro W hSw
                    first | rfl | (go_simp; done) | (go_simp; rfl)
                  simp only [Act.put, List.setIfInBounds_toArray, List.set_cons_zero, List.set_cons_succ]
                  refine wpAnyH_take (i := 3) (v := (.bool false)) (List.getElem?_toArray.trans rfl) (by kernel_rfl) (by kernel_rfl) (by kernel_rfl) (fun _ _ _ h => h) (Or.inl ⟨by rfl, ?_⟩) (by assumption) ?_
                  · intro W hSw
                    first | rfl | (go_simp; done) | (go_simp; rfl)
                  simp only [Act.put, List.setIfInBounds_toArray, List.set_cons_zero, List.set_cons_succ]
                  refine wpAnyH_take (i := 4) (v := (.bool false)) (List.getElem?_toArray.trans rfl) (by kernel_rfl) (by kernel_rfl) (by kernel_rfl) (fun _ _ _ h => h) (Or.inl ⟨by rfl, ?_⟩) (by assumption) ?_
                  · intro W hSw
                    first | rfl | (go_simp; done) | (go_simp; rfl)
                  simp only [Act.put, List.setIfInBounds_toArray, List.set_cons_zero, List.set_cons_succ]
                  refine wpAnyH_take (i := 5) (v := (.slice (some ⟨bg, og, none⟩) gl gc)) (List.getElem?_toArray.trans rfl) (by kernel_rfl) (by kernel_rfl) (by kernel_rfl) (fun _ _ _ h => h) (Or.inl ⟨by rfl, ?_⟩) (by assumption) ?_
                  · intro W hSw
                    first | rfl | (go_simp; done) | (go_simp; rfl)
                  simp only [Act.put, List.setIfInBounds_toArray, List.set_cons_zero, List.set_cons_succ]
                  refine wpAnyH_take (i := 6) (v := (.int .i64 (n : Nat))) (List.getElem?_toArray.trans rfl) (by kernel_rfl) (by kernel_rfl) (by kernel_rfl) (fun _ _ _ h => h) (Or.inl ⟨by rfl, ?_⟩) (by assumption) ?_
                  · intro W hSw
                    first | rfl | (go_simp; done) | (go_simp; rfl)
                  simp only [Act.put, List.setIfInBounds_toArray, List.set_cons_zero, List.set_cons_succ]
                  refine wpAnyH_take (i := 7) (v := (.pointer (some ⟨bg, og + n * 5, none⟩))) (List.getElem?_toArray.trans rfl) (by kernel_rfl) (by kernel_rfl) (by kernel_rfl) (fun _ _ _ h => h) (Or.inl ⟨by rfl, ?_⟩) (by assumption) ?_
                  · intro W hSw
                    first | rfl | (go_simp; done) | (go_simp; rfl)
                  simp only [Act.put, List.setIfInBounds_toArray, List.set_cons_zero, List.set_cons_succ]
                  refine wpAnyH_take (i := 8) (v := (.agg #[.int .u64 (x.file : Nat), .int .i64 x.size, .string (bs x.first), .string (bs x.last), .int .u64 (x.seq : Nat)])) (List.getElem?_toArray.trans rfl) (by kernel_rfl) (by kernel_rfl) (by kernel_rfl) (fun _ _ _ h => h) (Or.inl ⟨by rfl, ?_⟩) (by assumption) ?_
                  · intro W hSw
                    obtain ⟨q0, q1, q2, q3, q4⟩ := HGX.out W hSw.k
                    first | (go_simp; done) | (go_simp; rfl)
                  simp only [Act.put, List.setIfInBounds_toArray, List.set_cons_zero, List.set_cons_succ]
                  refine wpAnyH_take (i := 9) (v := (.agg #[.int .u64 (x.file : Nat), .int .i64 x.size, .string (bs x.first), .string (bs x.last), .int .u64 (x.seq : Nat)])) (List.getElem?_toArray.trans rfl) (by kernel_rfl) (by kernel_rfl) (by kernel_rfl) (fun _ _ _ h => h) (Or.inl ⟨by rfl, ?_⟩) (by assumption) ?_
                  · intro W hSw
                    obtain ⟨q0, q1, q2, q3, q4⟩ := HBX.out W hSw.k
                    first | (go_simp; done) | (go_simp; rfl)
                  simp only [Act.put, List.setIfInBounds_toArray, List.set_cons_zero, List.set_cons_succ]
                  refine wpAnyH_take (i := 10) (v := (.bool false)) (List.getElem?_toArray.trans rfl) (by kernel_rfl) (by kernel_rfl) (by kernel_rfl) (fun _ _ _ h => h) (Or.inl ⟨by rfl, ?_⟩) (by assumption) ?_
                  · intro W hSw
                    first | rfl | (go_simp; done) | (go_simp; rfl)
                  simp only [Act.put, List.setIfInBounds_toArray, List.set_cons_zero, List.set_cons_succ]
                  refine wpAnyH_take (i := 11) (v := (.bool false)) (List.getElem?_toArray.trans rfl) (by kernel_rfl) (by kernel_rfl) (by kernel_rfl) (fun _ _ _ h => h) (Or.inl ⟨by rfl, ?_⟩) (by assumption) ?_
                  · intro W hSw
                    first | rfl | (go_simp; done) | (go_simp; rfl)
                  simp only [Act.put, List.setIfInBounds_toArray, List.set_cons_zero, List.set_cons_succ]
                  refine wpAnyH_done (by kernel_rfl) ?_ _
                  have HH := Lib.hid (kept_trans HK9.out hHeld.k)
                  go_wp2_with fail
                  go_roundw
                  case rel => exact ⟨j + 1, by omega, by go_num, by rw [HST.out]; exact HN1.out, HH⟩
                  case measure => simp [intOf]; omega
                · have e4 : Op.bytesLess (bs x.first).toList (bs la).toList = false := by rw [lvbs_list, lvbs_list, Mm.less_eq]; exact decide_eq_false h4
                  have e5 : ((bs x.first).toList == (bs la).toList) = true := by rw [lvbs_list, lvbs_list]; exact beq_iff_eq.2 (hle.resolve_left h4)
                  clear hle h4
                  go_upto_region 20 with fail
                  generalize wr.alloc (.cells #[.int .u64 (x.file : Nat), .int .i64 x.size, .string (bs x.first), .string (bs x.last), .int .u64 (x.seq : Nat)] 43) = w9 at *
                  have HGX := Lib.hid (fun W (hW : Kept w9 W) => HGY.out W (kept_trans HK9.out hW))
                  have HBX := Lib.hid (fun W (hW : Kept w9 W) => five_cells (hp_kept HBX0.out hW))
                  refine wp_region_held_drew (S := fun W => KV w9 W) (by kernel_rfl) ⟨kept_drewN _ 1⟩ (fun hHeld => ?_)
                  refine wpAnyH_take (i := 0) (v := (.int .i64 (n : Nat))) (List.getElem?_toArray.trans rfl) (by kernel_rfl) (by kernel_rfl) (by kernel_rfl) (fun _ _ _ h => h) (Or.inl ⟨by rfl, ?_⟩) (by assumption) ?_
                  · intro W hSw
                    first | rfl | (go_simp; done) | (go_simp; rfl)
                  simp only [Act.put, List.setIfInBounds_toArray, List.set_cons_zero, List.set_cons_succ]
                  refine wpAnyH_take (i := 1) (v := (.slice (some ⟨bg, og, none⟩) gl gc)) (List.getElem?_toArray.trans rfl) (by kernel_rfl) (by kernel_rfl) (by kernel_rfl) (fun _ _ _ h => h) (Or.inl ⟨by rfl, ?_⟩) (by assumption) ?_
                  · intro W hSw
                    first | rfl | (go_simp; done) | (go_simp; rfl)
                  simp only [Act.put, List.setIfInBounds_toArray, List.set_cons_zero, List.set_cons_succ]
                  refine wpAnyH_take (i := 2) (v := (.int .i64 (gl : Nat))) (List.getElem?_toArray.trans rfl) (by kernel_rfl) (by kernel_rfl) (by kernel_rfl) (fun _ _ _ h => h) (Or.inl ⟨by rfl, ?_⟩) (by assumption) ?_
                  · intro W hSw
                    first | rfl | (go_simp; done) | (go_simp; rfl)
                  simp only [Act.put, List.setIfInBounds_toArray, List.set_cons_zero, List.set_cons_succ]
                  refine wpAnyH_take (i := 3) (v := (.bool false)) (List.getElem?_toArray.trans rfl) (by kernel_rfl) (by kernel_rfl) (by kernel_rfl) (fun _ _ _ h => h) (Or.inl ⟨by rfl, ?_⟩) (by assumption) ?_
                  · intro W hSw
                    first | rfl | (go_simp; done) | (go_simp; rfl)
                  simp only [Act.put, List.setIfInBounds_toArray, List.set_cons_zero, List.set_cons_succ]
                  refine wpAnyH_take (i := 4) (v := (.bool false)) (List.getElem?_toArray.trans rfl) (by kernel_rfl) (by kernel_rfl) (by kernel_rfl) (fun _ _ _ h => h) (Or.inl ⟨by rfl, ?_⟩) (by assumption) ?_
                  · intro W hSw
                    first | rfl | (go_simp; done) | (go_simp; rfl)
                  simp only [Act.put, List.setIfInBounds_toArray, List.set_cons_zero, List.set_cons_succ]
                  refine wpAnyH_take (i := 5) (v := (.slice (some ⟨bg, og, none⟩) gl gc)) (List.getElem?_toArray.trans rfl) (by kernel_rfl) (by kernel_rfl) (by kernel_rfl) (fun _ _ _ h => h) (Or.inl ⟨by rfl, ?_⟩) (by assumption) ?_
                  · intro W hSw
                    first | rfl | (go_simp; done) | (go_simp; rfl)
                  simp only [Act.put, List.setIfInBounds_toArray, List.set_cons_zero, List.set_cons_succ]
                  refine wpAnyH_take (i := 6) (v := (.int .i64 (n : Nat))) (List.getElem?_toArray.trans rfl) (by kernel_rfl) (by kernel_rfl) (by kernel_rfl) (fun _ _ _ h => h) (Or.inl ⟨by rfl, ?_⟩) (by assumption) ?_
                  · intro W hSw
                    first | rfl | (go_simp; done) | (go_simp; rfl)
                  simp only [Act.put, List.setIfInBounds_toArray, List.set_cons_zero, List.set_cons_succ]
                  refine wpAnyH_take (i := 7) (v := (.pointer (some ⟨bg, og + n * 5, none⟩))) (List.getElem?_toArray.trans rfl) (by kernel_rfl) (by kernel_rfl) (by kernel_rfl) (fun _ _ _ h => h) (Or.inl ⟨by rfl, ?_⟩) (by assumption) ?_
                  · intro W hSw
                    first | rfl | (go_simp; done) | (go_simp; rfl)
                  simp only [Act.put, List.setIfInBounds_toArray, List.set_cons_zero, List.set_cons_succ]
                  refine wpAnyH_take (i := 8) (v := (.agg #[.int .u64 (x.file : Nat), .int .i64 x.size, .string (bs x.first), .string (bs x.last), .int .u64 (x.seq : Nat)])) (List.getElem?_toArray.trans rfl) (by kernel_rfl) (by kernel_rfl) (by kernel_rfl) (fun _ _ _ h => h) (Or.inl ⟨by rfl, ?_⟩) (by assumption) ?_
                  · intro W hSw
                    obtain ⟨q0, q1, q2, q3, q4⟩ := HGX.out W hSw.k
                    first | (go_simp; done) | (go_simp; rfl)
                  simp only [Act.put, List.setIfInBounds_toArray, List.set_cons_zero, List.set_cons_succ]
                  refine wpAnyH_take (i := 9) (v := (.agg #[.int .u64 (x.file : Nat), .int .i64 x.size, .string (bs x.first), .string (bs x.last), .int .u64 (x.seq : Nat)])) (List.getElem?_toArray.trans rfl) (by kernel_rfl) (by kernel_rfl) (by kernel_rfl) (fun _ _ _ h => h) (Or.inl ⟨by rfl, ?_⟩) (by assumption) ?_
                  · intro W hSw
                    obtain ⟨q0, q1, q2, q3, q4⟩ := HBX.out W hSw.k
                    first | (go_simp; done) | (go_simp; rfl)
                  simp only [Act.put, List.setIfInBounds_toArray, List.set_cons_zero, List.set_cons_succ]
                  refine wpAnyH_take (i := 10) (v := (.bool false)) (List.getElem?_toArray.trans rfl) (by kernel_rfl) (by kernel_rfl) (by kernel_rfl) (fun _ _ _ h => h) (Or.inl ⟨by rfl, ?_⟩) (by assumption) ?_
                  · intro W hSw
                    first | rfl | (go_simp; done) | (go_simp; rfl)
                  simp only [Act.put, List.setIfInBounds_toArray, List.set_cons_zero, List.set_cons_succ]
                  refine wpAnyH_take (i := 11) (v := (.bool false)) (List.getElem?_toArray.trans rfl) (by kernel_rfl) (by kernel_rfl) (by kernel_rfl) (fun _ _ _ h => h) (Or.inl ⟨by rfl, ?_⟩) (by assumption) ?_
                  · intro W hSw
                    first | rfl | (go_simp; done) | (go_simp; rfl)
                  simp only [Act.put, List.setIfInBounds_toArray, List.set_cons_zero, List.set_cons_succ]
                  refine wpAnyH_done (by kernel_rfl) ?_ _
                  have HH := Lib.hid (kept_trans HK9.out hHeld.k)
                  go_wp2_with fail
                  go_roundw
                  case rel => exact ⟨j + 1, by omega, by go_num, by rw [HST.out]; exact HN1.out, HH⟩
                  case measure => simp [intOf]; omega
          · obtain rfl : j = M.length := by omega
            have d3 : decide ((M.length : Int) < (M.length : Int)) = false := decide_eq_false (by omega)
            have hgg : (meet (M.take M.length) fi la).length = gl := by rw [List.take_length]; exact HGL.out
            rw [hgg]
            clear hgg
            have KEND := Lib.hid (kept_trans KV0.out (kept_trans K6.out HKJ.out))
            have HV6 := Lib.hid (HV.out.kept (kept_trans K6.out HKJ.out))
            by_cases h1 : inn < fi
            · have e1 : Op.bytesLess (bs inn).toList (bs fi).toList = true := by rw [lvbs_list, lvbs_list, Mm.less_eq]; exact decide_eq_true h1
              clear h1
              go_wp2_with fail
              go_ret
              exact ⟨by simp, KEND.out⟩
            · have e1 : Op.bytesLess (bs inn).toList (bs fi).toList = false := by rw [lvbs_list, lvbs_list, Mm.less_eq]; exact decide_eq_false h1
              by_cases h2 : inn < la
              · have e2 : Op.bytesLess (bs inn).toList (bs la).toList = true := by rw [lvbs_list, lvbs_list, Mm.less_eq]; exact decide_eq_true h2
                have HM2 := Lib.hid (lvmeet_any HV6.out k hk (Nat.le_trans (HG.out.len k hk) (by omega : 30 ≤ 100000)) inn la)
                rw [HMM.out] at HM2
                have hle := HMEE.out inn h1
                clear h1 h2
                go_wp2_with fail
                refine HM2.out.mono ?_
                rintro e w8 ⟨v, rfl, hv8, k8⟩
                obtain ⟨A8, c8, rfl⟩ := own_slice hv8
                have K8 := Lib.hid (kept_trans KEND.out k8)
                have d6 : decide (((meet M inn la).length : Int) ≤ (gl : Int)) = true := decide_eq_true (by omega)
                clear hv8 k8
                go_wp2_with fail
                go_ret
                exact ⟨by simp, K8.out⟩
              · have e2 : Op.bytesLess (bs inn).toList (bs la).toList = false := by rw [lvbs_list, lvbs_list, Mm.less_eq]; exact decide_eq_false h2
                by_cases h3 : inn = la
                · have e3 : ((bs inn).toList == (bs la).toList) = true := by rw [lvbs_list, lvbs_list, h3]; simp
                  clear h3
                  have HM2 := Lib.hid (lvmeet_any HV6.out k hk (Nat.le_trans (HG.out.len k hk) (by omega : 30 ≤ 100000)) inn la)
                  rw [HMM.out] at HM2
                  have hle := HMEE.out inn h1
                  clear h1 h2
                  go_wp2_with fail
                  refine HM2.out.mono ?_
                  rintro e w8 ⟨v, rfl, hv8, k8⟩
                  obtain ⟨A8, c8, rfl⟩ := own_slice hv8
                  have K8 := Lib.hid (kept_trans KEND.out k8)
                  have d6 : decide (((meet M inn la).length : Int) ≤ (gl : Int)) = true := decide_eq_true (by omega)
                  clear hv8 k8
                  go_wp2_with fail
                  go_ret
                  exact ⟨by simp, K8.out⟩
                · have e3 : ((bs inn).toList == (bs la).toList) = false := by rw [lvbs_list, lvbs_list]; simpa using h3
                  clear h1 h2 h3
                  go_wp2_with fail
                  go_ret
                  exact ⟨by simp, KEND.out⟩
      · have d1 : decide ((i : Int) < (l.length : Int)) = false := decide_eq_false (by omega)
        clear hcond
        go_wp2_with fail
        have KV0 := HK
        have hlen := Nat.le_trans (HG.out.len k hk) (by omega : 30 ≤ 100000)
        have HMT := Lib.hid (lvmeet_any HV.out k hk hlen fi la)
        have HL30 := Lib.hid (HG.out.len k hk)
        refine HMT.out.mono ?_
        rintro e w5 ⟨v, rfl, hg, k5⟩
        have HGM := Lib.hid (fun W (hW : Kept w5 W) => own_kp hW hg)
        have K5 := Lib.hid k5
        obtain ⟨gA, gc, rfl⟩ := own_slice hg
        clear hg k5 HMT
        have HLV := Lib.hid (lvlevel_any (HV.out.kept K5.out) k hk hlen)
        go_wp2_with fail
        refine HLV.out.mono ?_
        rintro e w6 ⟨v, rfl, ho, k6⟩
        have HOM := Lib.hid (fun W (hW : Kept w6 W) => own_kp hW ho)
        have K6 := Lib.hid (kept_trans K5.out k6)
        have HGM6 := Lib.hid (fun W (hW : Kept w6 W) => HGM.out W (kept_trans k6 hW))
        obtain ⟨oA, oc, rfl⟩ := own_slice ho
        clear ho k6 HLV HGM K5
        have HG0 := Lib.hid (fun W (hW : Kept w6 W) => own_mts (HGM6.out W hW))
        have HO0 := Lib.hid (fun W (hW : Kept w6 W) => own_mts (HOM.out W hW))
        have K60 := Lib.hid (Kept.refl w6)
        clear HGM6 HOM hlen
        have hl30 : (T k).l.length ≤ 30 := HL30.out
        have hgl30 := Nat.le_trans (meet_le (T k).l fi la) hl30
        have HPRE := Lib.hid (fun j x (hx : (T k).l[j]? = some x) (hm : mt x fi la = true) => meet_at hx hm)
        have HSTP := Lib.hid (fun j x (hx : (T k).l[j]? = some x) => meet_step hx fi la)
        have HMEE := Lib.hid (fun (inn : List UInt8) (h : ¬ inn < fi) => meet_more (l := (T k).l) (show wd (inn, la) (fi, la) from ⟨le_iff.2 h, le_rf la⟩))
        generalize hM : (T k).l = M at *
        have HMM := Lib.hid hM
        clear hM
        generalize hgl : (meet M fi la).length = gl at *
        have HGL := Lib.hid hgl
        clear hgl
        go_wp2_with fail
        go_loopw [16, 71] (fun s t wj => ∃ j : Nat, j ≤ M.length ∧ t = .int .i64 j ∧ s = .int .i64 ((meet (M.take j) fi la).length : Nat) ∧ Hid (Kept w6 wj)) (fun _ t _ => M.length - (intOf t).toNat)
        case atStart => exact ⟨0, Nat.zero_le _, rfl, rfl, K60⟩
        case round =>
          clear K60
          obtain ⟨j, hj, rfl, rfl, HKJ⟩ := hrel
          by_cases hjl : j < M.length
          · have d3 : decide ((j : Int) < (M.length : Int)) = true := decide_eq_true (by omega)
            obtain ⟨x, hx⟩ : ∃ x, M[j]? = some x := ⟨_, List.getElem?_eq_getElem hjl⟩
            obtain ⟨bo, oo, rfl, hbo, _⟩ := HO0.out w6 (Kept.refl _) j x hx
            have hmo := mt_at (HO0.out _ HKJ.out j x hx)
            obtain ⟨c0, c1, c2, c3, c4⟩ := hmo
            have e1 : Op.bytesLess (bs x.last).toList (bs fi).toList = !le fi x.last := by rw [lvbs_list, lvbs_list, Mm.less_eq, le_not, Bool.not_not]
            have HMX := Lib.hid (show mt x fi la = (le fi x.last && le x.first la) from rfl)
            have HST0 := Lib.hid (HSTP.out j x hx)
            have HPR0 := Lib.hid (HPRE.out j x hx)
            clear hx
            cases t1 : le fi x.last
            · rw [t1] at e1 HMX
              have e3 : Op.bytesLess (bs x.last).toList (bs fi).toList = true := by rw [e1]; rfl
              have HST := Lib.hid (show meet (M.take (j + 1)) fi la = meet (M.take j) fi la from by rw [HST0.out, if_neg (by rw [HMX.out]; simp)])
              clear e1 t1 HST0 HPR0
              have HKB := Lib.hid (kept_trans HKJ.out ((Kept.refl wr).alloc (.cells #[.int .u64 (x.file : Nat), .int .i64 x.size, .string (bs x.first), .string (bs x.last), .int .u64 (x.seq : Nat)] 43)))
              go_wp2_with fail
              go_roundw
              case rel => exact ⟨j + 1, by omega, by go_num, by rw [HST.out], HKB⟩
              case measure => simp [intOf]; omega
            · rw [t1] at e1 HMX
              have e3 : Op.bytesLess (bs x.last).toList (bs fi).toList = false := by rw [e1]; rfl
              cases t2 : le x.first la
              · rw [t2] at HMX
                have hne := t2
                unfold le at hne
                rw [Bool.or_eq_false_iff] at hne
                have e4 : Op.bytesLess (bs x.first).toList (bs la).toList = false := by rw [lvbs_list, lvbs_list, Mm.less_eq]; exact hne.1
                have e5 : ((bs x.first).toList == (bs la).toList) = false := by rw [lvbs_list, lvbs_list]; simpa using hne.2
                clear hne
                have HST := Lib.hid (show meet (M.take (j + 1)) fi la = meet (M.take j) fi la from by rw [HST0.out, if_neg (by rw [HMX.out]; simp)])
                clear e1 t1 t2 HST0 HPR0
                have HKB := Lib.hid (kept_trans HKJ.out ((Kept.refl wr).alloc (.cells #[.int .u64 (x.file : Nat), .int .i64 x.size, .string (bs x.first), .string (bs x.last), .int .u64 (x.seq : Nat)] 43)))
                go_wp2_with fail
                go_roundw
                case rel => exact ⟨j + 1, by omega, by go_num, by rw [HST.out], HKB⟩
                case measure => simp [intOf]; omega
              · rw [t2] at HMX
                have hle := t2
                unfold le at hle
                rw [Bool.or_eq_true, decide_eq_true_iff, decide_eq_true_iff] at hle
                have hmx : mt x fi la = true := by rw [HMX.out]; rfl
                have HST := Lib.hid (show (meet (M.take (j + 1)) fi la).length = (meet (M.take j) fi la).length + 1 from by rw [HST0.out, if_pos hmx]; simp)
                have hgx := HPR0.out hmx
                obtain ⟨bg, og, rfl, hbg, _⟩ := HG0.out w6 (Kept.refl _) _ _ hgx
                have HGY := Lib.hid (fun W (hW : Kept w6 W) => mt_at (HG0.out W hW _ _ hgx))
                have hnl := (List.getElem?_eq_some_iff.1 hgx).1
                rw [HGL.out] at hnl
                clear e1 t1 t2 HST0 HPR0 hmx hgx HMX
                generalize hnn : (meet (M.take j) fi la).length = n at *
                have HNN := Lib.hid hnn
                clear hnn
                have HN1 := Lib.hid (show Value.int .i64 ((n : Int) + 1) = .int .i64 ((n + 1 : Nat) : Int) from by push_cast; first | rfl | done)
                have d5 : decide ((gl : Int) ≤ (n : Int)) = false := decide_eq_false (by omega)
                have hB := malloc_new wr (.cells #[.int .u64 (x.file : Nat), .int .i64 x.size, .string (bs x.first), .string (bs x.last), .int .u64 (x.seq : Nat)] 43)
                have HK9 := Lib.hid (kept_trans HKJ.out ((Kept.refl wr).alloc (.cells #[.int .u64 (x.file : Nat), .int .i64 x.size, .string (bs x.first), .string (bs x.last), .int .u64 (x.seq : Nat)] 43)))
                have HBX0 := Lib.hid hB
                have hq := fun W => (mt_neq x x W).trans (by rw [decide_eq_true rfl])
                clear hB
                by_cases h4 : x.first < la
                · have e4 : Op.bytesLess (bs x.first).toList (bs la).toList = true := by rw [lvbs_list, lvbs_list, Mm.less_eq]; exact decide_eq_true h4
                  clear hle h4
                  go_upto_region 20 with fail
                  generalize wr.alloc (.cells #[.int .u64 (x.file : Nat), .int .i64 x.size, .string (bs x.first), .string (bs x.last), .int .u64 (x.seq : Nat)] 43) = w9 at *
                  have HGX := Lib.hid (fun W (hW : Kept w9 W) => HGY.out W (kept_trans HK9.out hW))
                  have HBX := Lib.hid (fun W (hW : Kept w9 W) => five_cells (hp_kept HBX0.out hW))
                  refine wp_region_held_drew (S := fun W => KV w9 W) (by kernel_rfl) ⟨kept_drewN _ 1⟩ (fun hHeld => ?_)
                  refine wpAnyH_take (i := 0) (v := (.int .i64 (n : Nat))) (List.getElem?_toArray.trans rfl) (by kernel_rfl) (by kernel_rfl) (by kernel_rfl) (fun _ _ _ h => h) (Or.inl ⟨by rfl, ?_⟩) (by assumption) ?_
                  · intro W hSw
                    first | rfl | (go_simp; done) | (go_simp; rfl)
                  simp only [Act.put, List.setIfInBounds_toArray, List.set_cons_zero, List.set_cons_succ]
                  refine wpAnyH_take (i := 1) (v := (.slice (some ⟨bg, og, none⟩) gl gc)) (List.getElem?_toArray.trans rfl) (by kernel_rfl) (by kernel_rfl) (by kernel_rfl) (fun _ _ _ h => h) (Or.inl ⟨by rfl, ?_⟩) (by assumption) ?_
                  · intro W hSw
                    first | rfl | (go_simp; done) | (go_simp; rfl)
                  simp only [Act.put, List.setIfInBounds_toArray, List.set_cons_zero, List.set_cons_succ]
                  refine wpAnyH_take (i := 2) (v := (.int .i64 (gl : Nat))) (List.getElem?_toArray.trans rfl) (by kernel_rfl) (by kernel_rfl) (by kernel_rfl) (fun _ _ _ h => h) (Or.inl ⟨by rfl, ?_⟩) (by assumption) ?_
                  · intro W hSw
                    first | rfl | (go_simp; done) | (go_simp; rfl)
                  simp only [Act.put, List.setIfInBounds_toArray, List.set_cons_zero, List.set_cons_succ]
                  refine wpAnyH_take (i := 3) (v := (.bool false)) (List.getElem?_toArray.trans rfl) (by kernel_rfl) (by kernel_rfl) (by kernel_rfl) (fun _ _ _ h => h) (Or.inl ⟨by rfl, ?_⟩) (by assumption) ?_
                  · intro W hSw
                    first | rfl | (go_simp; done) | (go_simp; rfl)
                  simp only [Act.put, List.setIfInBounds_toArray, List.set_cons_zero, List.set_cons_succ]
                  refine wpAnyH_take (i := 4) (v := (.bool false)) (List.getElem?_toArray.trans rfl) (by kernel_rfl) (by kernel_rfl) (by kernel_rfl) (fun _ _ _ h => h) (Or.inl ⟨by rfl, ?_⟩) (by assumption) ?_
                  · intro W hSw
                    first | rfl | (go_simp; done) | (go_simp; rfl)
                  simp only [Act.put, List.setIfInBounds_toArray, List.set_cons_zero, List.set_cons_succ]
                  refine wpAnyH_take (i := 5) (v := (.slice (some ⟨bg, og, none⟩) gl gc)) (List.getElem?_toArray.trans rfl) (by kernel_rfl) (by kernel_rfl) (by kernel_rfl) (fun _ _ _ h => h) (Or.inl ⟨by rfl, ?_⟩) (by assumption) ?_
                  · intro W hSw
                    first | rfl | (go_simp; done) | (go_simp; rfl)
                  simp only [Act.put, List.setIfInBounds_toArray, List.set_cons_zero, List.set_cons_succ]
                  refine wpAnyH_take (i := 6) (v := (.int .i64 (n : Nat))) (List.getElem?_toArray.trans rfl) (by kernel_rfl) (by kernel_rfl) (by kernel_rfl) (fun _ _ _ h => h) (Or.inl ⟨by rfl, ?_⟩) (by assumption) ?_
                  · intro W hSw
                    first | rfl | (go_simp; done) | (go_simp; rfl)
                  simp only [Act.put, List.setIfInBounds_toArray, List.set_cons_zero, List.set_cons_succ]
                  refine wpAnyH_take (i := 7) (v := (.pointer (some ⟨bg, og + n * 5, none⟩))) (List.getElem?_toArray.trans rfl) (by kernel_rfl) (by kernel_rfl) (by kernel_rfl) (fun _ _ _ h => h) (Or.inl ⟨by rfl, ?_⟩) (by assumption) ?_
                  · intro W hSw
                    first | rfl | (go_simp; done) | (go_simp; rfl)
                  simp only [Act.put, List.setIfInBounds_toArray, List.set_cons_zero, List.set_cons_succ]
                  refine wpAnyH_take (i := 8) (v := (.agg #[.int .u64 (x.file : Nat), .int .i64 x.size, .string (bs x.first), .string (bs x.last), .int .u64 (x.seq : Nat)])) (List.getElem?_toArray.trans rfl) (by kernel_rfl) (by kernel_rfl) (by kernel_rfl) (fun _ _ _ h => h) (Or.inl ⟨by rfl, ?_⟩) (by assumption) ?_
                  · intro W hSw
                    obtain ⟨q0, q1, q2, q3, q4⟩ := HGX.out W hSw.k
                    first | (go_simp; done) | (go_simp; rfl)
                  simp only [Act.put, List.setIfInBounds_toArray, List.set_cons_zero, List.set_cons_succ]
                  refine wpAnyH_take (i := 9) (v := (.agg #[.int .u64 (x.file : Nat), .int .i64 x.size, .string (bs x.first), .string (bs x.last), .int .u64 (x.seq : Nat)])) (List.getElem?_toArray.trans rfl) (by kernel_rfl) (by kernel_rfl) (by kernel_rfl) (fun _ _ _ h => h) (Or.inl ⟨by rfl, ?_⟩) (by assumption) ?_
                  · intro W hSw
                    obtain ⟨q0, q1, q2, q3, q4⟩ := HBX.out W hSw.k
                    first | (go_simp; done) | (go_simp; rfl)
                  simp only [Act.put, List.setIfInBounds_toArray, List.set_cons_zero, List.set_cons_succ]
                  refine wpAnyH_take (i := 10) (v := (.bool false)) (List.getElem?_toArray.trans rfl) (by kernel_rfl) (by kernel_rfl) (by kernel_rfl) (fun _ _ _ h => h) (Or.inl ⟨by rfl, ?_⟩) (by assumption) ?_
                  · intro W hSw
                    first | rfl | (go_simp; done) | (go_simp; rfl)
                  simp only [Act.put, List.setIfInBounds_toArray, List.set_cons_zero, List.set_cons_succ]
                  refine wpAnyH_take (i := 11) (v := (.bool false)) (List.getElem?_toArray.trans rfl) (by kernel_rfl) (by kernel_rfl) (by kernel_rfl) (fun _ _ _ h => h) (Or.inl ⟨by rfl, ?_⟩) (by assumption) ?_
                  · intro W hSw
                    first | rfl | (go_simp; done) | (go_simp; rfl)
                  simp only [Act.put, List.setIfInBounds_toArray, List.set_cons_zero, List.set_cons_succ]
                  refine wpAnyH_done (by kernel_rfl) ?_ _
                  have HH := Lib.hid (kept_trans HK9.out hHeld.k)
                  go_wp2_with fail
                  go_roundw
                  case rel => exact ⟨j + 1, by omega, by go_num, by rw [HST.out]; exact HN1.out, HH⟩
                  case measure => simp [intOf]; omega
                · have e4 : Op.bytesLess (bs x.first).toList (bs la).toList = false := by rw [lvbs_list, lvbs_list, Mm.less_eq]; exact decide_eq_false h4
                  have e5 : ((bs x.first).toList == (bs la).toList) = true := by rw [lvbs_list, lvbs_list]; exact beq_iff_eq.2 (hle.resolve_left h4)
                  clear hle h4
                  go_upto_region 20 with fail
                  generalize wr.alloc (.cells #[.int .u64 (x.file : Nat), .int .i64 x.size, .string (bs x.first), .string (bs x.last), .int .u64 (x.seq : Nat)] 43) = w9 at *
                  have HGX := Lib.hid (fun W (hW : Kept w9 W) => HGY.out W (kept_trans HK9.out hW))
                  have HBX := Lib.hid (fun W (hW : Kept w9 W) => five_cells (hp_kept HBX0.out hW))
                  refine wp_region_held_drew (S := fun W => KV w9 W) (by kernel_rfl) ⟨kept_drewN _ 1⟩ (fun hHeld => ?_)
                  refine wpAnyH_take (i := 0) (v := (.int .i64 (n : Nat))) (List.getElem?_toArray.trans rfl) (by kernel_rfl) (by kernel_rfl) (by kernel_rfl) (fun _ _ _ h => h) (Or.inl ⟨by rfl, ?_⟩) (by assumption) ?_
                  · intro W hSw
                    first | rfl | (go_simp; done) | (go_simp; rfl)
                  simp only [Act.put, List.setIfInBounds_toArray, List.set_cons_zero, List.set_cons_succ]
                  refine wpAnyH_take (i := 1) (v := (.slice (some ⟨bg, og, none⟩) gl gc)) (List.getElem?_toArray.trans rfl) (by kernel_rfl) (by kernel_rfl) (by kernel_rfl) (fun _ _ _ h => h) (Or.inl ⟨by rfl, ?_⟩) (by assumption) ?_
                  · intro W hSw
                    first | rfl | (go_simp; done) | (go_simp; rfl)
                  simp only [Act.put, List.setIfInBounds_toArray, List.set_cons_zero, List.set_cons_succ]
                  refine wpAnyH_take (i := 2) (v := (.int .i64 (gl : Nat))) (List.getElem?_toArray.trans rfl) (by kernel_rfl) (by kernel_rfl) (by kernel_rfl) (fun _ _ _ h => h) (Or.inl ⟨by rfl, ?_⟩) (by assumption) ?_
                  · intro W hSw
                    first | rfl | (go_simp; done) | (go_simp; rfl)
                  simp only [Act.put, List.setIfInBounds_toArray, List.set_cons_zero, List.set_cons_succ]
                  refine wpAnyH_take (i := 3) (v := (.bool false)) (List.getElem?_toArray.trans rfl) (by kernel_rfl) (by kernel_rfl) (by kernel_rfl) (fun _ _ _ h => h) (Or.inl ⟨by rfl, ?_⟩) (by assumption) ?_
                  · intro W hSw
                    first | rfl | (go_simp; done) | (go_simp; rfl)
                  simp only [Act.put, List.setIfInBounds_toArray, List.set_cons_zero, List.set_cons_succ]
                  refine wpAnyH_take (i := 4) (v := (.bool false)) (List.getElem?_toArray.trans rfl) (by kernel_rfl) (by kernel_rfl) (by kernel_rfl) (fun _ _ _ h => h) (Or.inl ⟨by rfl, ?_⟩) (by assumption) ?_
                  · intro W hSw
                    first | rfl | (go_simp; done) | (go_simp; rfl)
                  simp only [Act.put, List.setIfInBounds_toArray, List.set_cons_zero, List.set_cons_succ]
                  refine wpAnyH_take (i := 5) (v := (.slice (some ⟨bg, og, none⟩) gl gc)) (List.getElem?_toArray.trans rfl) (by kernel_rfl) (by kernel_rfl) (by kernel_rfl) (fun _ _ _ h => h) (Or.inl ⟨by rfl, ?_⟩) (by assumption) ?_
                  · intro W hSw
                    first | rfl | (go_simp; done) | (go_simp; rfl)
                  simp only [Act.put, List.setIfInBounds_toArray, List.set_cons_zero, List.set_cons_succ]
                  refine wpAnyH_take (i := 6) (v := (.int .i64 (n : Nat))) (List.getElem?_toArray.trans rfl) (by kernel_rfl) (by kernel_rfl) (by kernel_rfl) (fun _ _ _ h => h) (Or.inl ⟨by rfl, ?_⟩) (by assumption) ?_
                  · intro W hSw
                    first | rfl | (go_simp; done) | (go_simp; rfl)
                  simp only [Act.put, List.setIfInBounds_toArray, List.set_cons_zero, List.set_cons_succ]
                  refine wpAnyH_take (i := 7) (v := (.pointer (some ⟨bg, og + n * 5, none⟩))) (List.getElem?_toArray.trans rfl) (by kernel_rfl) (by kernel_rfl) (by kernel_rfl) (fun _ _ _ h => h) (Or.inl ⟨by rfl, ?_⟩) (by assumption) ?_
                  · intro W hSw
                    first | rfl | (go_simp; done) | (go_simp; rfl)
                  simp only [Act.put, List.setIfInBounds_toArray, List.set_cons_zero, List.set_cons_succ]
                  refine wpAnyH_take (i := 8) (v := (.agg #[.int .u64 (x.file : Nat), .int .i64 x.size, .string (bs x.first), .string (bs x.last), .int .u64 (x.seq : Nat)])) (List.getElem?_toArray.trans rfl) (by kernel_rfl) (by kernel_rfl) (by kernel_rfl) (fun _ _ _ h => h) (Or.inl ⟨by rfl, ?_⟩) (by assumption) ?_
                  · intro W hSw
                    obtain ⟨q0, q1, q2, q3, q4⟩ := HGX.out W hSw.k
                    first | (go_simp; done) | (go_simp; rfl)
                  simp only [Act.put, List.setIfInBounds_toArray, List.set_cons_zero, List.set_cons_succ]
                  refine wpAnyH_take (i := 9) (v := (.agg #[.int .u64 (x.file : Nat), .int .i64 x.size, .string (bs x.first), .string (bs x.last), .int .u64 (x.seq : Nat)])) (List.getElem?_toArray.trans rfl) (by kernel_rfl) (by kernel_rfl) (by kernel_rfl) (fun _ _ _ h => h) (Or.inl ⟨by rfl, ?_⟩) (by assumption) ?_
                  · intro W hSw
                    obtain ⟨q0, q1, q2, q3, q4⟩ := HBX.out W hSw.k
                    first | (go_simp; done) | (go_simp; rfl)
                  simp only [Act.put, List.setIfInBounds_toArray, List.set_cons_zero, List.set_cons_succ]
                  refine wpAnyH_take (i := 10) (v := (.bool false)) (List.getElem?_toArray.trans rfl) (by kernel_rfl) (by kernel_rfl) (by kernel_rfl) (fun _ _ _ h => h) (Or.inl ⟨by rfl, ?_⟩) (by assumption) ?_
                  · intro W hSw
                    first | rfl | (go_simp; done) | (go_simp; rfl)
                  simp only [Act.put, List.setIfInBounds_toArray, List.set_cons_zero, List.set_cons_succ]
                  refine wpAnyH_take (i := 11) (v := (.bool false)) (List.getElem?_toArray.trans rfl) (by kernel_rfl) (by kernel_rfl) (by kernel_rfl) (fun _ _ _ h => h) (Or.inl ⟨by rfl, ?_⟩) (by assumption) ?_
                  · intro W hSw
                    first | rfl | (go_simp; done) | (go_simp; rfl)
                  simp only [Act.put, List.setIfInBounds_toArray, List.set_cons_zero, List.set_cons_succ]
                  refine wpAnyH_done (by kernel_rfl) ?_ _
                  have HH := Lib.hid (kept_trans HK9.out hHeld.k)
                  go_wp2_with fail
                  go_roundw
                  case rel => exact ⟨j + 1, by omega, by go_num, by rw [HST.out]; exact HN1.out, HH⟩
                  case measure => simp [intOf]; omega
          · obtain rfl : j = M.length := by omega
            have d3 : decide ((M.length : Int) < (M.length : Int)) = false := decide_eq_false (by omega)
            have hgg : (meet (M.take M.length) fi la).length = gl := by rw [List.take_length]; exact HGL.out
            rw [hgg]
            clear hgg
            have KEND := Lib.hid (kept_trans KV0.out (kept_trans K6.out HKJ.out))
            have HV6 := Lib.hid (HV.out.kept (kept_trans K6.out HKJ.out))
            by_cases h1 : inn < fi
            · have e1 : Op.bytesLess (bs inn).toList (bs fi).toList = true := by rw [lvbs_list, lvbs_list, Mm.less_eq]; exact decide_eq_true h1
              clear h1
              go_wp2_with fail
              go_ret
              exact ⟨by simp, KEND.out⟩
            · have e1 : Op.bytesLess (bs inn).toList (bs fi).toList = false := by rw [lvbs_list, lvbs_list, Mm.less_eq]; exact decide_eq_false h1
              by_cases h2 : inn < la
              · have e2 : Op.bytesLess (bs inn).toList (bs la).toList = true := by rw [lvbs_list, lvbs_list, Mm.less_eq]; exact decide_eq_true h2
                have HM2 := Lib.hid (lvmeet_any HV6.out k hk (Nat.le_trans (HG.out.len k hk) (by omega : 30 ≤ 100000)) inn la)
                rw [HMM.out] at HM2
                have hle := HMEE.out inn h1
                clear h1 h2
                go_wp2_with fail
                refine HM2.out.mono ?_
                rintro e w8 ⟨v, rfl, hv8, k8⟩
                obtain ⟨A8, c8, rfl⟩ := own_slice hv8
                have K8 := Lib.hid (kept_trans KEND.out k8)
                have d6 : decide (((meet M inn la).length : Int) ≤ (gl : Int)) = true := decide_eq_true (by omega)
                clear hv8 k8
                go_wp2_with fail
                go_ret
                exact ⟨by simp, K8.out⟩
              · have e2 : Op.bytesLess (bs inn).toList (bs la).toList = false := by rw [lvbs_list, lvbs_list, Mm.less_eq]; exact decide_eq_false h2
                by_cases h3 : inn = la
                · have e3 : ((bs inn).toList == (bs la).toList) = true := by rw [lvbs_list, lvbs_list, h3]; simp
                  clear h3
                  have HM2 := Lib.hid (lvmeet_any HV6.out k hk (Nat.le_trans (HG.out.len k hk) (by omega : 30 ≤ 100000)) inn la)
                  rw [HMM.out] at HM2
                  have hle := HMEE.out inn h1
                  clear h1 h2
                  go_wp2_with fail
                  refine HM2.out.mono ?_
                  rintro e w8 ⟨v, rfl, hv8, k8⟩
                  obtain ⟨A8, c8, rfl⟩ := own_slice hv8
                  have K8 := Lib.hid (kept_trans KEND.out k8)
                  have d6 : decide (((meet M inn la).length : Int) ≤ (gl : Int)) = true := decide_eq_true (by omega)
                  clear hv8 k8
                  go_wp2_with fail
                  go_ret
                  exact ⟨by simp, K8.out⟩
                · have e3 : ((bs inn).toList == (bs la).toList) = false := by rw [lvbs_list, lvbs_list]; simpa using h3
                  clear h1 h2 h3
                  go_wp2_with fail
                  go_ret
                  exact ⟨by simp, KEND.out⟩
theorem lvmeets_out (A0 : Option Addr) (c0 : Nat) (l : List Ed) (a1 : Int) (hz : ¬ (0 ≤ a1 ∧ a1 < 4)) (fi la inn : List UInt8) {w : World} (ha : Eds w A0 l) (hl : l.length ≤ maxLen) (hf1 : fi.length ≤ 300) (hf2 : la.length ≤ 300) (hf3 : inn.length ≤ 300) :
    Calls Tryz.prog 9 #[.slice A0 l.length c0, .int .i64 a1, .string (bs fi), .string (bs la), .string (bs inn)] w fun e w' => e = .returned (.bool true) ∧ Kept w w' := by
  have HA := Lib.hid (fun W (hW : Kept w W) => ha.kept hW)
  clear ha
  unfold maxLen at hl
  have g1 : decide ((300 : Int) < ((bs fi).size : Int)) = false := decide_eq_false (by rw [lvbs_size]; omega)
  have g2 : decide ((300 : Int) < ((bs la).size : Int)) = false := decide_eq_false (by rw [lvbs_size]; omega)
  have g3 : decide ((300 : Int) < ((bs inn).size : Int)) = false := decide_eq_false (by rw [lvbs_size]; omega)
  clear hf1 hf2 hf3
  go_enter Tryz.func9, Tryz.ntmps9
  go_wp2_with fail
  refine (lvawake_any _).mono ?_
  rintro e w1 ⟨rfl, k1⟩
  have K1 := Lib.hid k1
  clear k1
  go_wp2_with fail
  clear g1 g2 g3
  refine (lvnew_any _).mono ?_
  rintro e w2 ⟨p, rfl, hv, _, k2⟩
  have K2 := Lib.hid (kept_trans K1.out k2)
  have HV2 := Lib.hid hv
  clear k2 K1 hv
  go_wp2_with fail
  go_loopw [11, 12] (fun v t wr => ∃ (i p nx lg sq : Nat) (T : Nat → Lvl), i ≤ l.length ∧ i ≤ 40 ∧ v = .pointer (some ⟨p, 0, none⟩) ∧ t = .int .i64 i ∧ Hid (IsV wr p T nx lg sq) ∧ Hid (Lv.Good (verV T nx lg sq)) ∧ Hid (Kept w wr)) (fun _ t _ => l.length - (intOf t).toNat)
  case atStart => exact ⟨0, p, 1, 0, 0, vT0, Nat.zero_le _, Nat.zero_le _, rfl, rfl, HV2, Lib.hid good_vz, K2⟩
  case round =>
    clear HV2 K2
    obtain ⟨i, p, nx, lg, sq, T, hi, hi40, rfl, rfl, HV, HG, HK⟩ := hrel
    by_cases hcond : i < l.length ∧ i < 40
    · obtain ⟨hlt, h40⟩ := hcond
      have d1 : decide ((i : Int) < (l.length : Int)) = true := decide_eq_true (by omega)
      have d2 : decide ((i : Int) < 40) = true := decide_eq_true (by omega)
      obtain ⟨x, hx⟩ : ∃ x, l[i]? = some x := ⟨_, List.getElem?_eq_getElem hlt⟩
      obtain ⟨b, o, rfl, hb, _, _⟩ := HA.out w (Kept.refl _) i x hx
      have HX := Lib.hid (fun W (hW : Kept w W) => ed_at (HA.out W hW i x hx))
      have HW := Lib.hid (fun W (hW : Kept w W) => ed_wk (HA.out W hW i x hx))
      have HLG := Lib.hid (fun W (hW : Kept w W) => lvlarge_any (ed_wk (HA.out W hW i x hx)))
      have HAP := Lib.hid (fun W (hW : Kept wr W) (hin : x.In W) => apy_two (HV.out.kept hW) HG.out hin)
      have hev : x.v = .agg #[.slice x.A x.gone.length x.c, (x.T 0).v, (x.T 1).v, (x.T 2).v, (x.T 3).v, .int .u64 (x.nx : Nat), .int .u64 (x.lg : Nat), .int .u64 (x.sq : Nat)] := rfl
      rw [hev] at HLG HAP
      clear hx hev
      unfold EdAt at HX
      generalize (x.T 0).v = y0 at *
      generalize (x.T 1).v = y1 at *
      generalize (x.T 2).v = y2 at *
      generalize (x.T 3).v = y3 at *
      obtain ⟨z0, z1, z2, z3, z4, z5, z6, z7⟩ := HX.out wr HK.out
      go_wp2_with fail
      refine (HLG.out _ HK.out).mono ?_
      rintro r w3 ⟨B, rfl, hB, k3⟩
      have K3 := Lib.hid k3
      have KW3 := Lib.hid (kept_trans HK.out k3)
      clear k3 z0 z1 z2 z3 z4 z5 z6 z7 HLG
      cases B with
      | true =>
        go_wp2_with fail
        go_ret
        exact ⟨rfl, KW3.out⟩
      | false =>
      have HS := Lib.hid (hB rfl)
      clear hB
      obtain ⟨z0, z1, z2, z3, z4, z5, z6, z7⟩ := HX.out w3 KW3.out
      go_wp2_with fail
      refine (HAP.out _ K3.out ((HW.out _ KW3.out).inn HS.out)).mono ?_
      rintro r w4 ⟨hr, k4⟩
      have K4 := Lib.hid (kept_trans K3.out k4)
      have KW4 := Lib.hid (kept_trans KW3.out k4)
      clear k4 z0 z1 z2 z3 z4 z5 z6 z7 HAP K3 KW3
      rcases hr with ⟨c, hc0, _, rfl⟩ | ⟨p2, U, hc, rfl, hv2, hg2, hUl⟩
      · go_wp2_with fail
        go_roundw
        case rel => exact ⟨i + 1, p, nx, lg, sq, T, by omega, by omega, rfl, by go_num, Lib.hid (HV.out.kept K4.out), HG, KW4⟩
        case measure => simp [intOf]; omega
      · have HV2 := Lib.hid hv2; have HG2 := Lib.hid hg2
        clear hc hUl hv2 hg2
        generalize chg nx x.nx = N1 at *
        generalize chg lg x.lg = L1 at *
        generalize chg sq x.sq = S1 at *
        go_wp2_with fail
        go_roundw
        case rel => exact ⟨i + 1, p2, N1, L1, S1, U, by omega, by omega, rfl, by go_num, HV2, HG2, KW4⟩
        case measure => simp [intOf]; omega
    · clear HA
      by_cases h1 : i < l.length
      · have d1 : decide ((i : Int) < (l.length : Int)) = true := decide_eq_true (by omega)
        have h40 : ¬ i < 40 := by omega
        have d2 : decide ((i : Int) < 40) = false := decide_eq_false (by omega)
        clear hcond
        go_wp2_with fail
        refine (lvmeet_no p a1 hz (bs fi) (bs la)).mono ?_
        rintro e w5 ⟨rfl, rfl⟩
        go_wp2_with fail
        refine (lvlevel_no p a1 hz).mono ?_
        rintro e w6 ⟨rfl, rfl⟩
        have KEND := HK
        go_wp2_with fail
        go_loopw [16, 71] (fun s t wj => t = .int .i64 0 ∧ s = .int .i64 0 ∧ Hid (Kept w wj) ∧ Hid (IsV wj p T nx lg sq)) (fun _ t _ => 0)
        case atStart => exact ⟨rfl, rfl, KEND, HV⟩
        case round =>
          clear KEND HV
          obtain ⟨rfl, rfl, KEND, HV⟩ := hrel
          by_cases h1 : inn < fi
          · have e1 : Op.bytesLess (bs inn).toList (bs fi).toList = true := by rw [lvbs_list, lvbs_list, Mm.less_eq]; exact decide_eq_true h1
            clear h1
            go_wp2_with fail
            go_ret
            exact ⟨by simp, KEND.out⟩
          · have e1 : Op.bytesLess (bs inn).toList (bs fi).toList = false := by rw [lvbs_list, lvbs_list, Mm.less_eq]; exact decide_eq_false h1
            by_cases h2 : inn < la
            · have e2 : Op.bytesLess (bs inn).toList (bs la).toList = true := by rw [lvbs_list, lvbs_list, Mm.less_eq]; exact decide_eq_true h2
              clear h1 h2
              go_wp2_with fail
              refine (lvmeet_no p a1 hz (bs inn) (bs la)).mono ?_
              rintro e w8 ⟨rfl, rfl⟩
              go_wp2_with fail
              go_ret
              exact ⟨by simp, KEND.out⟩
            · have e2 : Op.bytesLess (bs inn).toList (bs la).toList = false := by rw [lvbs_list, lvbs_list, Mm.less_eq]; exact decide_eq_false h2
              by_cases h3 : inn = la
              · have e3 : ((bs inn).toList == (bs la).toList) = true := by rw [lvbs_list, lvbs_list, h3]; simp
                clear h3
                clear h1 h2
                go_wp2_with fail
                refine (lvmeet_no p a1 hz (bs inn) (bs la)).mono ?_
                rintro e w8 ⟨rfl, rfl⟩
                go_wp2_with fail
                go_ret
                exact ⟨by simp, KEND.out⟩
              · have e3 : ((bs inn).toList == (bs la).toList) = false := by rw [lvbs_list, lvbs_list]; simpa using h3
                clear h1 h2 h3
                go_wp2_with fail
                go_ret
                exact ⟨by simp, KEND.out⟩
      · have d1 : decide ((i : Int) < (l.length : Int)) = false := decide_eq_false (by omega)
        clear hcond
        go_wp2_with fail
        refine (lvmeet_no p a1 hz (bs fi) (bs la)).mono ?_
        rintro e w5 ⟨rfl, rfl⟩
        go_wp2_with fail
        refine (lvlevel_no p a1 hz).mono ?_
        rintro e w6 ⟨rfl, rfl⟩
        have KEND := HK
        go_wp2_with fail
        go_loopw [16, 71] (fun s t wj => t = .int .i64 0 ∧ s = .int .i64 0 ∧ Hid (Kept w wj) ∧ Hid (IsV wj p T nx lg sq)) (fun _ t _ => 0)
        case atStart => exact ⟨rfl, rfl, KEND, HV⟩
        case round =>
          clear KEND HV
          obtain ⟨rfl, rfl, KEND, HV⟩ := hrel
          by_cases h1 : inn < fi
          · have e1 : Op.bytesLess (bs inn).toList (bs fi).toList = true := by rw [lvbs_list, lvbs_list, Mm.less_eq]; exact decide_eq_true h1
            clear h1
            go_wp2_with fail
            go_ret
            exact ⟨by simp, KEND.out⟩
          · have e1 : Op.bytesLess (bs inn).toList (bs fi).toList = false := by rw [lvbs_list, lvbs_list, Mm.less_eq]; exact decide_eq_false h1
            by_cases h2 : inn < la
            · have e2 : Op.bytesLess (bs inn).toList (bs la).toList = true := by rw [lvbs_list, lvbs_list, Mm.less_eq]; exact decide_eq_true h2
              clear h1 h2
              go_wp2_with fail
              refine (lvmeet_no p a1 hz (bs inn) (bs la)).mono ?_
              rintro e w8 ⟨rfl, rfl⟩
              go_wp2_with fail
              go_ret
              exact ⟨by simp, KEND.out⟩
            · have e2 : Op.bytesLess (bs inn).toList (bs la).toList = false := by rw [lvbs_list, lvbs_list, Mm.less_eq]; exact decide_eq_false h2
              by_cases h3 : inn = la
              · have e3 : ((bs inn).toList == (bs la).toList) = true := by rw [lvbs_list, lvbs_list, h3]; simp
                clear h3
                clear h1 h2
                go_wp2_with fail
                refine (lvmeet_no p a1 hz (bs inn) (bs la)).mono ?_
                rintro e w8 ⟨rfl, rfl⟩
                go_wp2_with fail
                go_ret
                exact ⟨by simp, KEND.out⟩
              · have e3 : ((bs inn).toList == (bs la).toList) = false := by rw [lvbs_list, lvbs_list]; simpa using h3
                clear h1 h2 h3
                go_wp2_with fail
                go_ret
                exact ⟨by simp, KEND.out⟩
theorem LevelMeets_walk (A0 : Option Addr) (c0 : Nat) (l : List Ed) (a1 : Int) (a2 a3 a4 : ByteArray) {w : World} (ha : Eds w A0 l) (hl : l.length ≤ maxLen) (w1 : (Lit.int .i64 a1).wf = true) (w2 : a2.size ≤ maxLen) (w3 : a3.size ≤ maxLen) (w4 : a4.size ≤ maxLen) :
    Calls Tryz.prog 9 #[.slice A0 l.length c0, .int .i64 a1, .string a2, .string a3, .string a4] w fun e w' => e = .returned (.bool true) ∧ Kept w w' := by
  obtain ⟨fi, rfl⟩ : ∃ L : List UInt8, a2 = bs L := ⟨a2.data.toList, (mbs_self a2).symm⟩
  obtain ⟨la, rfl⟩ : ∃ L : List UInt8, a3 = bs L := ⟨a3.data.toList, (mbs_self a3).symm⟩
  obtain ⟨inn, rfl⟩ : ∃ L : List UInt8, a4 = bs L := ⟨a4.data.toList, (mbs_self a4).symm⟩
  unfold maxLen at w2 w3 w4
  have z2 := lvbs_size fi
  have z3 := lvbs_size la
  have z4 := lvbs_size inn
  by_cases h2 : fi.length ≤ 300
  · by_cases h3 : la.length ≤ 300
    · by_cases h4 : inn.length ≤ 300
      · by_cases hz : 0 ≤ a1 ∧ a1 < 4
        · obtain ⟨k, rfl⟩ : ∃ k : Nat, a1 = (k : Int) := ⟨a1.toNat, by omega⟩
          exact lvmeets_in A0 c0 l k (by omega) fi la inn ha hl h2 h3 h4
        · exact lvmeets_out A0 c0 l a1 hz fi la inn ha hl h2 h3 h4
      · have g1 : decide ((300 : Int) < ((bs fi).size : Int)) = false := decide_eq_false (by omega)
        have g2 : decide ((300 : Int) < ((bs la).size : Int)) = false := decide_eq_false (by omega)
        have g3 : decide ((300 : Int) < ((bs inn).size : Int)) = true := decide_eq_true (by omega)
        clear w2 w3 w4 z2 z3 z4 h2 h3 h4 ha hl w1
        go_enter Tryz.func9, Tryz.ntmps9
        go_wp2_with fail
        refine (lvawake_any _).mono ?_
        rintro e w1 ⟨rfl, k1⟩
        have K1 := Lib.hid k1
        clear k1
        go_wp2_with fail
        go_ret
        exact ⟨by simp, K1.out⟩

    · have g1 : decide ((300 : Int) < ((bs fi).size : Int)) = false := decide_eq_false (by omega)
      have g2 : decide ((300 : Int) < ((bs la).size : Int)) = true := decide_eq_true (by omega)
      clear w2 w3 w4 z2 z3 z4 h2 h3 ha hl w1
      go_enter Tryz.func9, Tryz.ntmps9
      go_wp2_with fail
      refine (lvawake_any _).mono ?_
      rintro e w1 ⟨rfl, k1⟩
      have K1 := Lib.hid k1
      clear k1
      go_wp2_with fail
      go_ret
      exact ⟨by simp, K1.out⟩

  · have g1 : decide ((300 : Int) < ((bs fi).size : Int)) = true := decide_eq_true (by omega)
    clear w2 w3 w4 z2 z3 z4 h2 ha hl w1
    go_enter Tryz.func9, Tryz.ntmps9
    go_wp2_with fail
    refine (lvawake_any _).mono ?_
    rintro e w1 ⟨rfl, k1⟩
    have K1 := Lib.hid k1
    clear k1
    go_wp2_with fail
    go_ret
    exact ⟨by simp, K1.out⟩

end Go.Proofs.YtkedbclojhlcgaaGreat
