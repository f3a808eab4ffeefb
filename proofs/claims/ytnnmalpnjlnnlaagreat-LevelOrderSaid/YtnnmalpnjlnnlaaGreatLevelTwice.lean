/-
  Package level over memory: have two of all these tables the same number?
-/
import Derived.Test.YtnnmalpnjlnnlaaGreatLevelTog
import Derived.Test.YtnnmalpnjlnnlaaGreatLevelTab
import Derived.Shelf.SlicesE.Compact
namespace Go.Proofs.YtnnmalpnjlnnlaaGreat
open Go.ChangeShapes Go.WideShapes Go.ChangeAt Go.RowKit
set_option linter.unusedVariables false
set_option maxRecDepth 100000
set_option maxHeartbeats 8000000
open Lv
theorem own_liesU {w : World} {B n : Nat} {v : Value} {l : List Nat} (h : w.ownsRow B 32 1 v n (nsc l)) : ∃ A c, v = .slice A l.length c ∧ n = l.length ∧ Lies w A (nsc l) := by
  have hl : l.length = n := by have := h.1; rw [nsc_len] at this; omega
  rcases h.2 with ⟨e, e0⟩ | ⟨r, cap, cur, e, hbs, hb, hnc, _, _, htk⟩
  · have : l = [] := List.eq_nil_of_length_eq_zero (by omega)
    subst this
    exact ⟨none, 0, e, by simp; omega, ⟨fun _ => rfl, fun ad e => by cases e⟩⟩
  · refine ⟨some ⟨r, 0, none⟩, cap, by rw [hl]; exact e, hl.symm, ⟨fun e => (by cases e), fun ad e j u hu => ?_⟩⟩
    cases e
    have hadd : (⟨r, 0, none⟩ : Addr).add j = ⟨r, j, none⟩ := by unfold Addr.add; split <;> simp_all
    have hj := (List.getElem?_eq_some_iff.1 hu).1
    rw [nsc_len] at hj
    refine ⟨r, rfl, mheap_lt hb, ?_⟩
    rw [hadd]
    rw [← htk, List.getElem?_take, if_pos (by omega)] at hu
    exact mcell hb j (by simpa using hu)
theorem nsc_one (l : List Nat) : ∀ u ∈ nsc l, u.oneCell' = true := fun u hu => by
  unfold nsc at hu
  rw [List.mem_map] at hu
  obtain ⟨x, _, rfl⟩ := hu
  rfl
theorem lvcompact_nil (w : World) : Calls Tryz.prog 81 #[.slice none 0 0] w fun e w' => e = .returned (.slice none 0 0) ∧ w' = w := by
  go_enter Tryz.func81, Tryz.ntmps81
  go_wp2_with fail
  go_ret
  exact ⟨rfl, rfl⟩
/-- what stands twice in a sorted list is found by neighbours -/
theorem compact_twice {l : List Nat} (hs : l.Pairwise (fun x y => x ≤ y)) : (Lib.compact (l.map fun x : Nat => (x : Int))).length < l.length ↔ ¬ l.Nodup := by
  have hk : ∀ j, (hj : j < l.length) → (Lib.keeps (l.map fun x : Nat => (x : Int)).toArray j = false ↔ ∃ h0 : 0 < j, l[j] = l[j - 1]) := fun j hj => by
    unfold Lib.keeps
    have e1 : ((l.map fun x : Nat => (x : Int)).toArray)[j]! = (l[j] : Int) := by simp [hj]
    have e2 : ((l.map fun x : Nat => (x : Int)).toArray)[j - 1]! = (l[j - 1] : Int) := by simp [show j - 1 < l.length by omega]
    rw [e1, e2, decide_eq_false_iff_not]
    constructor
    · intro h
      exact ⟨by omega, by omega⟩
    · rintro ⟨h0, h⟩ (h1 | h1)
      · omega
      · exact h1 (by rw [h])
  rw [List.pairwise_iff_getElem] at hs
  constructor
  · intro h hn
    have : (Lib.compact (l.map fun x : Nat => (x : Int))).length = l.length := by
      rw [Lib.compact_all]
      · simp
      · intro j hj
        rw [List.length_map] at hj
        cases hq : Lib.keeps (l.map fun x : Nat => (x : Int)).toArray j
        · obtain ⟨h0, he⟩ := (hk j hj).1 hq
          rw [List.Nodup, List.pairwise_iff_getElem] at hn
          exact absurd he.symm (hn (j - 1) j (by omega) hj (by omega))
        · rfl
    omega
  · intro hn
    by_cases hA : ∀ j, (hj : j < l.length) → Lib.keeps (l.map fun x : Nat => (x : Int)).toArray j = true
    · refine absurd ?_ hn
      rw [List.Nodup, List.pairwise_iff_getElem]
      intro i j hi hj hij e
      have h1 : l[i] ≤ l[j - 1] := by
        by_cases e2 : i = j - 1
        · subst e2; exact Nat.le_refl _
        · exact hs i (j - 1) hi (by omega) (by omega)
      have h2 := hs (j - 1) j (by omega) hj (by omega)
      have h3 : Lib.keeps (l.map fun x : Nat => (x : Int)).toArray j = false := (hk j hj).2 ⟨by omega, by omega⟩
      rw [hA j hj] at h3
      cases h3
    · have ⟨j, hj, hq⟩ : ∃ j, ∃ hj : j < l.length, Lib.keeps (l.map fun x : Nat => (x : Int)).toArray j = false := by
        apply Classical.byContradiction
        intro hc
        exact hA (fun j hj => by
          cases hq : Lib.keeps (l.map fun x : Nat => (x : Int)).toArray j
          · exact absurd ⟨j, hj, hq⟩ hc
          · rfl)
      unfold Lib.compact Lib.compactUpTo
      rw [List.length_map, List.length_map]
      have := (List.length_filter_lt_length_iff_exists (l := List.range l.length) (p := Lib.keeps (l.map fun x : Nat => (x : Int)).toArray)).2 ⟨j, List.mem_range.2 hj, by rw [hq]; simp⟩
      rw [List.length_range] at this
      exact this
theorem lvcompact_own {w : World} {base : Nat} {v : Value} {l : List Nat} (h : w.ownsRow base 32 1 v l.length (nsc l)) :
    Calls Tryz.prog 81 #[v] w fun e w' => ∃ A c, e = .returned (.slice A (Lib.compact (l.map fun x : Nat => (x : Int))).length c) ∧ w.grownBy w' v.ownBlock := by
  rcases h.2 with ⟨rfl, e0⟩ | ⟨g, cap, cur, rfl, hg, hb, hnc, hcm, hcs, htk⟩
  · have hl0 : l = [] := List.eq_nil_of_length_eq_zero e0
    subst hl0
    refine (lvcompact_nil w).mono ?_
    rintro e w' ⟨rfl, rfl⟩
    exact ⟨none, 0, by simp [Lib.compact, Lib.compactUpTo], ⟨rfl, rfl, rfl, Nat.le_refl _, fun _ _ _ => rfl⟩⟩
  · rw [Nat.mul_one] at htk
    have hH := holds_row hb htk
    obtain ⟨d, hd⟩ : ∃ d : Array Int, d = (l.map fun x : Nat => (x : Int)).toArray := ⟨_, rfl⟩
    have hds : d.size = l.length := by rw [hd]; simp
    have hcl : (Lib.compactUpTo d d.size).length = (Lib.compact (l.map fun x : Nat => (x : Int))).length := by rw [hd]; simp [Lib.compact]
    rw [← hd] at hH
    have hz : ∀ w, (zeroValue (Tryz.compactU_ren.t 23)).run Tryz.prog w = .ok (Su.eU 0) w := Tryz.zeroValue32
    have h := AnyE.slices_Compact Tryz.compactU Su.eU (fun x => rfl) (EqlAt.intD _ _ .u64) (NeqAt.intD _ _ .u64) (0 : Int) hz g 0 cap d w hH (by unfold maxLen at hcm; omega) (by omega)
    rw [hcl, hds] at h
    refine h.mono ?_
    rintro e w' ⟨rfl, q, rfl⟩
    refine ⟨some ⟨g, 0, none⟩, cap, rfl, ⟨rfl, rfl, rfl, by simp [Go.Sort.putRow, Go.Sort.mapBlock, Go.Sort.ahead], fun k hk hne => ?_⟩⟩
    have hk2 : g ≠ k := fun e => hne (by rw [e]; rfl)
    simp [Go.Sort.putRow, Go.Sort.mapBlock, Go.Sort.ahead, Array.getElem?_modify, hk2]
theorem lvtwice_any {T U : Nat → Lvl} {w : World} (h : Tin w T) (g : Tin w U) (hl : ∀ l, l < 4 → (T l).l.length ≤ 10000) (gl : ∀ l, l < 4 → (U l).l.length ≤ 10000) :
    Calls Tryz.prog 39 #[tbv T, tbv U] w fun e w' => e = .returned (.bool (decide (¬ (fls T 4 ++ fls U 4).Nodup))) ∧ Kept w w' := by
  have t1 := fls_len T 10000 hl 4 (Nat.le_refl _)
  have t2 := fls_len U 10000 gl 4 (Nat.le_refl _)
  have HA := Lib.hid (fun W (hW : Kept w W) => lvfiles_any (h.kept hW) (fun l hl2 => Nat.le_trans (hl l hl2) (by omega)))
  have HB := Lib.hid (fun W (hW : Kept w W) => lvfiles_any (g.kept hW) (fun l hl2 => Nat.le_trans (gl l hl2) (by omega)))
  have HP := Lib.hid (show (srt (fls T 4) ++ srt (fls U 4)).Nodup ↔ (fls T 4 ++ fls U 4).Nodup from ((srt_perm _).append (srt_perm _)).nodup_iff)
  have s1 := srt_len (fls T 4)
  have s2 := srt_len (fls U 4)
  unfold tbv at HA HB
  unfold tbv
  generalize hF : decide (¬ (fls T 4 ++ fls U 4).Nodup) = B at *
  have HF := Lib.hid hF
  clear h g hl gl hF
  generalize srt (fls T 4) = F1 at *
  generalize srt (fls U 4) = F2 at *
  rw [← s1] at HA t1
  rw [← s2] at HB t2
  clear s1 s2
  generalize (T 0).v = x0 at *
  generalize (T 1).v = x1 at *
  generalize (T 2).v = x2 at *
  generalize (T 3).v = x3 at *
  generalize (U 0).v = y0 at *
  generalize (U 1).v = y1 at *
  generalize (U 2).v = y2 at *
  generalize (U 3).v = y3 at *
  obtain ⟨W, hW⟩ : ∃ W, W = (w.alloc (.cells #[x0, x1, x2, x3] 71)).alloc (.cells #[y0, y1, y2, y3] 71) := ⟨_, rfl⟩
  have g0 : Kept w W := by rw [hW]; exact ((Kept.refl _).alloc _).alloc _
  have b1 : W.heap[w.heap.size]? = some (.cells #[x0, x1, x2, x3] 71 (0, 0)) := by rw [hW]; exact (malloc_old _ _ (by simp)).trans (malloc_new w _)
  have b2 : W.heap[w.heap.size + 1]? = some (.cells #[y0, y1, y2, y3] 71 (0, 0)) := by rw [hW, show w.heap.size + 1 = (w.alloc (.cells #[x0, x1, x2, x3] 71)).heap.size from by simp]; exact malloc_new _ _
  have HW := Lib.hid hW; have G0 := Lib.hid g0; have B1 := Lib.hid b1; have B2 := Lib.hid b2
  clear hW g0 b1 b2
  go_enter Tryz.func39, Tryz.ntmps39
  go_upto_region 1 with fail
  rw [← HW.out]
  go_cut [5] from 6 (fun v wc => wc.ownsRow w.heap.size 32 1 v (F1 ++ F2).length (nsc (F1 ++ F2)) ∧ Kept w wc)
  case first =>
    obtain ⟨k0, k1, k2, k3⟩ := four_cells B1.out
    obtain ⟨l0, l1, l2, l3⟩ := four_cells B2.out
    have HWK := Lib.hid (Kept.refl W)
    have K0 := Lib.hid (show Kept w W.drew from kept_trans G0.out (kept_drewN _ 1))
    have X0 := Lib.hid (show Kept W W.drew from kept_drewN _ 1)
    go_region_with (first
      | (go_at_call_has 73 (Value.agg #[x0, x1, x2, x3])
         refine (HA.out _ (by first | exact K0.out | exact KU.out)).mono ?_
         rintro e wT ⟨vT, rfl, oT, gT⟩
         obtain ⟨AT, cT, rfl, nT, hT⟩ := own_liesU oT
         have KT := Lib.hid (show Kept w wT from kept_trans (by first | exact K0.out | exact KU.out) gT)
         have XT := Lib.hid (show Kept W wT from kept_trans (by first | exact X0.out | exact XU.out) gT)
         have HLT := Lib.hid hT
         have GT := Lib.hid gT
         obtain ⟨m0, m1, m2, m3⟩ := four_cells (hp_kept B1.out XT.out)
         obtain ⟨n0, n1, n2, n3⟩ := four_cells (hp_kept B2.out XT.out)
         clear oT nT hT gT)
      | (go_at_call_has 73 (Value.agg #[y0, y1, y2, y3])
         refine (HB.out _ (by first | exact K0.out | exact KT.out)).mono ?_
         rintro e wU ⟨vU, rfl, oU, gU⟩
         obtain ⟨AU, cU, rfl, nU, hU⟩ := own_liesU oU
         have KU := Lib.hid (show Kept w wU from kept_trans (by first | exact K0.out | exact KT.out) gU)
         have XU := Lib.hid (show Kept W wU from kept_trans (by first | exact X0.out | exact XT.out) gU)
         have HLU := Lib.hid hU
         have GU := Lib.hid gU
         obtain ⟨m0, m1, m2, m3⟩ := four_cells (hp_kept B1.out XU.out)
         obtain ⟨n0, n1, n2, n3⟩ := four_cells (hp_kept B2.out XU.out)
         clear oU nU hU gU)
      | (go_at_call 79
         refine (lvcatU_any (A1 := AT) (A2 := AU) (c1 := cT) (c2 := cU) (n1 := F1.length) (n2 := F2.length) (xs := nsc F1) (ys := nsc F2) (mcell (malloc_new _ _) 0 (by rfl)) (mcell (malloc_new _ _) 1 (by rfl)) (by simp) (by simp [nsc]) (by simp [nsc]) (by first | exact HLT.out.kept ((Kept.refl _).alloc _) | exact HLT.out.kept (kept_trans GU.out ((Kept.refl _).alloc _))) (by first | exact HLU.out.kept ((Kept.refl _).alloc _) | exact HLU.out.kept (kept_trans GT.out ((Kept.refl _).alloc _))) (nsc_one _) (nsc_one _) (by omega) (by omega) _).mono ?_
         rintro e wc ⟨v, rfl, oc, gc⟩
         have KC := Lib.hid (show Kept w wc from by first | exact kept_trans (kept_trans KU.out ((Kept.refl _).alloc _)) gc | exact kept_trans (kept_trans KT.out ((Kept.refl _).alloc _)) gc)
         have OC := Lib.hid (show wc.ownsRow w.heap.size 32 1 v (F1 ++ F2).length (nsc (F1 ++ F2)) from by rw [nsc_app, List.length_append]; exact own_base oc (by first | exact Below.size (kept_trans KU.out ((Kept.refl _).alloc _)) | exact Below.size (kept_trans KT.out ((Kept.refl _).alloc _))))
         clear oc gc))
    all_goals
      go_wp2_with fail
      go_meet
      exact ⟨OC.out, KC.out⟩
  case rest =>
    obtain ⟨hown, hk⟩ := hcut
    have hlen : (F1 ++ F2).length ≤ 100000 := by rw [List.length_append]; omega
    have HBB := Lib.hid (show ¬ (srt (F1 ++ F2)).Nodup ↔ B = true by
      rw [(srt_perm (F1 ++ F2)).nodup_iff, HP.out, ← HF.out, decide_eq_true_iff])
    generalize F1 ++ F2 = F at *
    have HS := Lib.hid (sort_own hown (by omega))
    obtain ⟨VA, vc, rfl⟩ := own_slice hown
    have HK := Lib.hid hk
    have HLT := Lib.hid (fun b (hb : (Value.slice VA F.length vc).ownBlock = some b) => (own_new hown hb).1)
    clear hown hk t1 t2
    go_upto_region 2 with fail
    go_wp2_with fail
    refine HS.out.mono ?_
    rintro e w2 ⟨rfl, hown2, hg2⟩
    rw [show F.length = (srt F).length from (srt_len F).symm] at hown2
    have HC := Lib.hid (lvcompact_own hown2)
    have HK2 := Lib.hid (Below.grown HK.out hg2 (Below.size HK.out) HLT.out)
    have hlt := compact_twice (srt_sorted F)
    rw [srt_len F] at hlt HC
    have HX := Lib.hid (hlt.trans HBB.out)
    clear hown2 hg2 hlt
    generalize (Lib.compact ((srt F).map fun x : Nat => (x : Int))).length = C at *
    generalize F.length = N at *
    go_wp2_with fail
    refine HC.out.mono ?_
    rintro e w3 ⟨A, c, rfl, hg3⟩
    have HK3 := Lib.hid (Below.grown HK2.out hg3 (Below.size HK2.out) HLT.out)
    clear hg3
    by_cases hcn : C < N
    · have d1 : decide ((C : Int) < (N : Int)) = true := decide_eq_true (by omega)
      have hB := HX.out.1 hcn
      subst hB
      go_wp2_with fail
      go_ret
      exact ⟨by simp, HK3.out⟩
    · have d1 : decide ((C : Int) < (N : Int)) = false := decide_eq_false (by omega)
      have hB : B = false := by
        cases hb : B
        · rfl
        · exact absurd (HX.out.2 hb) hcn
      subst hB
      go_wp2_with fail
      go_ret
      exact ⟨by simp, HK3.out⟩
end Go.Proofs.YtnnmalpnjlnnlaaGreat
