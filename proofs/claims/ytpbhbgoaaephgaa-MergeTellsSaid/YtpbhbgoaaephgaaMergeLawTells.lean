/-
  The walk of screelaw08.MergeTells.
-/
import Derived.Test.YtpbhbgoaaephgaaMergeOwnB
import Derived.RegionTactic
import Derived.Deep.RegionHeld3
namespace Go.Proofs.Ytpbhbgoaaephgaa
open Go.ChangeShapes Go.WideShapes Go.ChangeAt Go.RowKit
set_option linter.unusedVariables false
set_option maxRecDepth 100000
set_option maxHeartbeats 8000000

def rowV (q : Rs) : Value := .slice q.A q.l.length q.c
def orc (os : List Rs) : List Value := os.map rowV
theorem orc_len (os : List Rs) : (orc os).length = os.length := by simp [orc]
theorem infoR : (Try.prog.info? 46).map (fun i => (i.zero, i.size, i.bytes)) = some (some (.slice none 0 0), 1, 24) := by kernel_rfl
theorem orow_empty (w : World) : (w.alloc (.cells #[] 46)).ownsRow w.heap.size 46 1 (.slice (some ⟨w.heap.size, 0, none⟩) 0 0) 0 (orc []) :=
  World.ownsRow_made (base := w.heap.size) (e := 46) (size := 1) w #[] 0 (Nat.le_refl _) (by unfold maxLen; omega) rfl
theorem own_els {w : World} {base c : Nat} {A : Option Addr} {l : List Mm.Ent} (h : w.ownsRow base 51 4 (.slice A l.length c) l.length (elc l)) : Elr base w A c l := by
  obtain ⟨A', c', e, _, h⟩ := els_own h
  cases e; exact h
/-- rows of the law's own -/
structure Ors (w : World) (base : Nat) (v : Value) (os : List Rs) : Prop where
  row : w.ownsRow base 46 1 v os.length (orc os)
  each : ∀ q ∈ os, w.ownsRow base 51 4 (rowV q) q.l.length (elc q.l)
theorem Ors.kept {w w' : World} {base : Nat} {v : Value} {os : List Rs} (h : Ors w base v os) (k : Kept w w') : Ors w' base v os := ⟨rown_kept h.row k, fun q hq => rown_kept (h.each q hq) k⟩
theorem Ors.rws {w : World} {base : Nat} {v : Value} {os : List Rs} (h : Ors w base v os) (hf : ∀ q ∈ os, q.l.length ≤ 4000) : ∃ A c, v = .slice A os.length c ∧ Rws w A os := by
  have each : ∀ q ∈ os, Elr base w q.A q.c q.l := fun q hq => own_els (h.each q hq)
  rcases h.row.2 with ⟨e, e0⟩ | ⟨r, cap, cur, e, hbs, hb, hnc, _, _, htk⟩
  · have : os = [] := List.eq_nil_of_length_eq_zero e0
    subst this
    exact ⟨none, 0, e, ⟨fun j r hr => by simp at hr, fun r hr => by simp at hr, fun r hr => by simp at hr, fun r hr => by simp at hr, fun r hr => by simp at hr⟩⟩
  · refine ⟨some ⟨r, 0, none⟩, cap, e, ⟨fun j q hq => ⟨r, 0, rfl, mheap_lt hb, ?_⟩, fun q hq => (each q hq).els, hf, fun q hq => (each q hq).cap, fun q hq => (each q hq).most⟩⟩
    rw [Nat.zero_add, show w.cell? ⟨r, j, none⟩ = cur[j]? by simp [World.cell?, hb]]
    have e1 : (cur.toList.take (os.length * 1))[j]? = some (rowV q) := by rw [htk]; unfold orc; rw [List.getElem?_map, hq]; rfl
    rw [List.getElem?_take] at e1
    split at e1
    · rw [← Array.getElem?_toList, e1]; rfl
    · cases e1
theorem own_low {w : World} {B B' size n : Nat} {e : TypeId} {v : Value} {xs : List Value} (h : w.ownsRow B e size v n xs) (hb : B' ≤ B) : w.ownsRow B' e size v n xs := by
  refine ⟨h.1, ?_⟩
  rcases h.2 with h0 | ⟨g, cap, cur, hv, hg, hr⟩
  · exact .inl h0
  · exact .inr ⟨g, cap, cur, hv, Nat.le_trans hb hg, hr⟩
theorem allS_len (rows : List (List Mm.Ent)) : (Mg.allS rows).length ≤ rows.flatten.length := by
  unfold Mg.allS; split
  · exact Mg.tog_len rows
  · simp
theorem mcell_new1 (w : World) (x : Value) (t : TypeId) : ∀ j u, [x][j]? = some u → (w.alloc (.cells #[x] t)).cell? ((⟨w.heap.size, 0, none⟩ : Addr).add j) = some u := by
  intro j u hj
  rw [madd_at]
  cases j with
  | zero => simp at hj; subst hj; exact mcell (malloc_new w _) 0 rfl
  | succ j => simp at hj
theorem rS_len (l m : List Mm.Ent) (h : m.length ≤ l.length) : (Mg.rS l m).length ≤ l.length := by
  unfold Mg.rS; split
  · exact h
  · simp
/-- one row more -/
theorem Ors.step {w w1 w2 : World} {base : Nat} {v v2 : Value} {os : List Rs} (h : Ors w base v os) (q : Rs) (k : Kept w w1) (hq : w1.ownsRow base 51 4 (rowV q) q.l.length (elc q.l))
    (hv : w2.ownsRow base 46 1 v2 (os.length + 1) (orc os ++ [rowV q])) (hg : (w1.alloc (.cells #[rowV q] 46)).grownBy w2 v.ownBlock) : Ors w2 base v2 (os ++ [q]) := by
  have E : Ex (fun b => v.ownBlock = some b) w1 w2 := ex_grown ((Kept.refl w1).alloc _) hg
  have hr := rown_kept h.row k
  refine ⟨by rw [List.length_append]; unfold orc at *; rw [List.map_append]; exact hv, fun p hp => ?_⟩
  rcases List.mem_append.1 hp with hp | hp
  · exact own_ex (rown_kept (h.each p hp) k) E (fun b hb => rows_apart (rown_kept (h.each p hp) k) hr (by decide) b hb)
  · rw [List.mem_singleton] at hp
    subst hp
    exact own_ex hq E (fun b hb => rows_apart hq hr (by decide) b hb)
structure KW (a b : World) : Prop where
  k : Kept a b
theorem MergeTells_walk (A : Option Addr) (cap : Nat) (rs : List Rs) (a1 : Int) (S1 S2 : ByteArray) {w : World} (ha : Rwx w A rs) (hl : rs.length ≤ cap ∧ cap ≤ maxLen) (h1 : (Lit.int .u64 a1).wf = true) (hS1 : S1.size ≤ maxLen) (hS2 : S2.size ≤ maxLen) :
    Calls Try.prog 11 #[.slice A rs.length cap, .int .u64 a1, .string S1, .string S2] w fun e w' => e = .returned (.bool true) ∧ Kept w w' := by
  have b1 := bounds_u64 h1
  obtain ⟨s, rfl⟩ : ∃ s : Nat, a1 = (s : Int) := ⟨a1.toNat, by omega⟩
  obtain ⟨kf, rfl⟩ : ∃ k, S1 = bs k := ⟨S1.data.toList, (mbs_self S1).symm⟩
  obtain ⟨kt, rfl⟩ : ∃ k, S2 = bs k := ⟨S2.data.toList, (mbs_self S2).symm⟩
  rw [mbs_size] at hS1 hS2
  have HKT := Lib.hid hS2
  unfold maxLen at hS1 hS2
  have s1 := mbs_size kf
  have s2 := mbs_size kt
  have HX := Lib.hid ha
  have HL0 := Lib.hid (fun w1 (g : Kept w w1) => glarge_any cap (ha.kept g) (Nat.le_trans hl.1 hl.2))
  clear h1 ha hl
  have d1 := (show decide ((300 : Int) < ((bs kf).size : Int)) = decide (300 < kf.length) by rw [s1]; congr 1; exact propext ⟨fun h => by omega, fun h => by omega⟩)
  have d2 := (show decide ((300 : Int) < ((bs kt).size : Int)) = decide (300 < kt.length) by rw [s2]; congr 1; exact propext ⟨fun h => by omega, fun h => by omega⟩)
  go_enter Try.func11, Try.ntmps11
  go_wp2_with fail
  refine (gmawake_any w).mono ?_
  rintro e w1 ⟨rfl, g1⟩
  have HL := Lib.hid (HL0.out w1 g1)
  have G1 := Lib.hid g1
  clear g1
  go_wp2_with fail
  refine HL.out.mono ?_
  rintro e w2 ⟨B, rfl, g2, hB⟩
  have G := Lib.hid (kept_trans G1.out g2)
  clear g2 HL HL0
  cases B with
  | true =>
    clear s1 s2 d1 d2
    go_wp2_with fail
    go_ret
    exact ⟨rfl, G.out⟩
  | false =>
    obtain ⟨h30, h300⟩ := hB rfl
    have HRW := Lib.hid ((HX.out.kept G.out).rws h300)
    have H300 := Lib.hid h300
    clear hB h300
    by_cases c1 : 300 < kf.length
    · rw [decide_eq_true c1] at d1
      clear s1 s2
      go_wp2_with fail
      go_ret
      exact ⟨rfl, G.out⟩
    · rw [decide_eq_false c1] at d1
      by_cases c2 : 300 < kt.length
      · rw [decide_eq_true c2] at d2
        clear s1 s2
        go_wp2_with fail
        go_ret
        exact ⟨rfl, G.out⟩
      · rw [decide_eq_false c2] at d2
        clear s1 s2 c1 c2
        obtain ⟨i0, hi, hz0, hz1, hz2⟩ := info_parts infoR
        have HI := Lib.hid hi; have HZ0 := Lib.hid hz0; have HZ1 := Lib.hid hz1; have HZ2 := Lib.hid hz2
        clear hi hz0 hz1 hz2
        have OR0 := Lib.hid (show Ors (w2.alloc (.cells #[] 46)) w2.heap.size (.slice (some ⟨w2.heap.size, 0, none⟩) 0 0) [] from ⟨orow_empty w2, fun q hq => by simp at hq⟩)
        have K0 := Lib.hid ((Kept.refl w2).alloc (.cells #[] 46))
        go_wp2_with fail
        go_loopw [9, 43] (fun v t wr => ∃ (i : Nat) (os : List Rs), i ≤ rs.length ∧ t = .int .i64 (i : Nat) ∧ os.length = i ∧ Hid (os.map Rs.l = (rs.take i).map Rs.l) ∧ Hid (Ors wr w2.heap.size v os) ∧ Hid (Kept w2 wr)) (fun _ t _ => rs.length - (intOf t).toNat)
        case atStart => exact ⟨0, [], Nat.zero_le _, rfl, rfl, Lib.hid rfl, OR0, K0⟩
        case round =>
          clear OR0 K0
          obtain ⟨i, os, hi, rfl, hos, HM, HO, HK⟩ := hrel
          by_cases hlt : i < rs.length
          · obtain ⟨r, hr⟩ : ∃ r, rs[i]? = some r := ⟨_, List.getElem?_eq_getElem hlt⟩
            have HRI := Lib.hid hr
            have HMEM := Lib.hid (List.mem_of_getElem? hr)
            clear hr
            have hw2 := Below.size HK.out
            have k6 : Kept wr (wr.alloc (.cells #[] 51)) := (Kept.refl _).alloc _
            obtain ⟨b, o, rfl, hb, c0⟩ := (HRW.out.kept HK.out).at_ i r HRI.out
            have c6 := (kept_cell k6 (p := ⟨b, o + i, none⟩) hb).trans c0
            have hl4 : r.l.length ≤ 4000 := HRW.out.few r HMEM.out
            have HRE := Lib.hid ((HRW.out.els r HMEM.out).kept HK.out)
            obtain ⟨Av, cv, ev⟩ := own_slice HO.out.row
            subst ev
            have HOS := Lib.hid hos
            clear hos
            go_wp2_with (at_builtin; refine app_es r.A r.c [] r.l _ _ rfl rfl rfl wr.heap.size (by simp) (own_entsB wr (Nat.le_refl _)) r.l.length rfl rfl (HRE.out.kept ((Kept.refl _).alloc _)) (by simp; omega) ?_)
            intro v1 w7 ho7 hg7
            have k7 : Kept wr w7 := Below.grown k6 hg7 (by simp) (fun b hb => by cases hb; exact Nat.le_refl _)
            have ho7' : w7.ownsRow wr.heap.size 51 4 v1 r.l.length (elc r.l) := ho7
            obtain ⟨Aq, cq, eq⟩ := own_slice ho7'
            subst eq
            have HQ7 := Lib.hid (own_low ho7' hw2)
            have K7 := Lib.hid k7
            have hs7 := Below.size k7
            clear ho7 ho7' hg7 k6 k7 c6
            have hown := rown_kept HO.out.row K7.out
            go_wp2_with (at_builtin; refine wpList_append_own _ rfl _ _ 64 rfl w2.heap.size 46 i0 (.slice none 0 0) 1 24 Try.underlying64 HI.out HZ0.out HZ1.out HZ2.out rfl (by decide) _ os.length (orc os) rfl (hown.alloc _) ⟨w7.heap.size, 0, none⟩ 1 1 [.slice Aq r.l.length cq] rfl rfl (mcell_new1 _ _ _) (by simp [Value.oneCell']) (by have := HOS.out; unfold maxLen; omega) (by have := HOS.out; omega) (by simp; omega) ?_)
            intro v2 w8 ho8 hg8 _
            have HO8 := Lib.hid (HO.out.step ⟨Aq, cq, r.l, 0⟩ K7.out HQ7.out ho8 hg8)
            have HK8 := Lib.hid (show Kept w2 w8 from Below.grown ((kept_trans HK.out K7.out).alloc _) hg8 (by simp; omega) (fun b hb => (HO.out.row.lt b hb).1))
            clear ho8 hg8 hown
            go_wp2_with fail
            go_roundw
            case rel => exact ⟨i + 1, os ++ [⟨Aq, cq, r.l, 0⟩], by omega, by go_num, by rw [List.length_append, HOS.out]; rfl, Lib.hid (by rw [List.map_append, HM.out, List.take_add_one, HRI.out, List.map_append]; rfl), HO8, HK8⟩
            case measure => simp [intOf]; omega
          · have e : i = rs.length := by omega
            subst e
            rw [List.take_length] at HM
            have hml : ∀ q ∈ os, q.l.length ≤ 300 := fun q hq => by
              have h1 := flat_ge hq
              rw [HM.out] at h1
              have := H300.out
              omega
            obtain ⟨Aw, cw, ew, hrws⟩ := HO.out.rws (fun q hq => Nat.le_trans (hml q hq) (by omega))
            subst ew
            have HOW := Lib.hid hrws
            have HRR := Lib.hid (HRW.out.kept HK.out)
            have hos30 : os.length ≤ 30 := by omega
            have HALL := Lib.hid (gall_any cw HOW.out (by omega) (by rw [HM.out]; have := H300.out; omega))
            have HRALL := Lib.hid (fun W (K : Kept wr W) => grall_any cap (HRR.out.kept K) (by omega) (by have := H300.out; omega))
            have HGET := Lib.hid (fun W (K : Kept wr W) => gget_any cw (HOW.out.kept K) (by omega) kf s)
            have HRGET := Lib.hid (fun W (K : Kept wr W) => rgget_any cap (HRR.out.kept K) (by omega) kf s (by omega))
            have HTL := Lib.hid (Nat.le_trans (allS_len (rs.map Rs.l)) H300.out)
            rw [HM.out] at HALL HGET
            generalize Mg.allS (rs.map Rs.l) = T at *
            generalize Mg.allC (rs.map Rs.l) = C at *
            generalize Mg.got (rs.map Rs.l) kf s = F at *
            unfold optV at HGET HRGET
            generalize F.getD Mm.zent = z at *
            generalize F.isSome = bI at *
            unfold entV at HGET HRGET
            have HML := Lib.hid hml; have HOS := Lib.hid hos
            clear hml hos hrws
            go_wp2_with fail
            refine HALL.out.mono ?_
            rintro e w3 ⟨B3, c3, rfl, hel3, g3⟩
            have HE3 := Lib.hid hel3.els; have G3 := Lib.hid g3
            clear hel3 g3 HALL
            go_wp2_with fail
            refine (HRALL.out w3 G3.out).mono ?_
            rintro e w4 ⟨B4, c4, rfl, hel4, g4⟩
            have HE4 := Lib.hid hel4; have G34 := Lib.hid g4; have G4 := Lib.hid (kept_trans G3.out g4)
            clear hel4 g4 HRALL
            go_wp2_with fail
            refine (HGET.out w4 G4.out).mono ?_
            rintro e w5 ⟨rfl, g5⟩
            have k6 : Kept w5 (w5.alloc (entO z)) := (Kept.refl _).alloc _
            have hz6 := malloc_new w5 (entO z)
            have HE35 := Lib.hid (HE3.out.kept (kept_trans G34.out g5)); have HE45 := Lib.hid (HE4.out.kept g5); have G5 := Lib.hid (kept_trans G4.out g5)
            clear g5
            unfold entO at k6 hz6
            go_upto_region 14 with fail
            generalize w5.alloc (.cells #[.string (bs z.key), .int .u64 (z.seq : Nat), .bool z.del, .string (bs z.val)] 51) = w6 at *
            have HZ6 := Lib.hid hz6; have K6 := Lib.hid k6
            have G6 := Lib.hid (kept_trans G5.out k6)
            clear hz6 k6
            generalize w5.heap.size = xb at *
            go_wp2_with fail
            refine (HRGET.out w6 G6.out).mono ?_
            rintro e w7 ⟨rfl, g7⟩
            have k8 : Kept w7 (w7.alloc (entO z)) := (Kept.refl _).alloc _
            have hz8 := malloc_new w7 (entO z)
            unfold entO at k8 hz8
            have K58 := Lib.hid (kept_trans K6.out g7)
            have HX7 := Lib.hid ((Below.block g7 _ (mheap_lt HZ6.out)).trans HZ6.out)
            have G7 := Lib.hid (kept_trans G6.out g7)
            clear g7
            go_upto_region 15 with fail
            generalize w7.alloc (.cells #[.string (bs z.key), .int .u64 (z.seq : Nat), .bool z.del, .string (bs z.val)] 51) = w8 at *
            have HZ8 := Lib.hid hz8
            have HX8 := Lib.hid ((Below.block k8 _ (mheap_lt HX7.out)).trans HX7.out)
            have G8 := Lib.hid (kept_trans G7.out k8)
            have HS := Lib.hid (msame_eq (c1 := c3) (c2 := c4) (HE35.out.kept (kept_trans K58.out k8)) (HE45.out.kept (kept_trans K58.out k8)) rfl rfl (by have := HTL.out; omega) rfl)
            clear hz8 k8
            generalize w7.heap.size = yb at *
            go_wp2_with fail
            refine HS.out.mono ?_
            rintro e w9 ⟨rfl, g9⟩
            have hx9 := (Below.block g9 _ (mheap_lt HX8.out)).trans HX8.out
            have hy9 := (Below.block g9 _ (mheap_lt HZ8.out)).trans HZ8.out
            have u0 := mcell hx9 0 rfl; have u1 := mcell hx9 1 rfl; have u2 := mcell hx9 2 rfl; have u3 := mcell hx9 3 rfl
            have v0 := mcell hy9 0 rfl; have v1 := mcell hy9 1 rfl; have v2 := mcell hy9 2 rfl; have v3 := mcell hy9 3 rfl
            have G9 := Lib.hid (kept_trans G8.out g9)
            clear hx9 hy9 g9
            go_wp2_with fail
            -- THE SECOND LOOP
            have HOW9 := Lib.hid (HOW.out.kept G9.out); have HRR9 := Lib.hid (HRR.out.kept G9.out)
            have HG9 := Lib.hid (kept_trans G.out (kept_trans HK.out G9.out))
            clear u0 u1 u2 u3 v0 v1 v2 v3 HOW HRR HX7 HX8 HZ6 HZ8 HE3 HE4 HE35 HE45 K6 K58 G3 G4 G34 G5 G6 G7 G8 HS HGET HRGET HO HI HZ0 HZ1 HZ2
            go_loopw [101] (fun t wx => ∃ i : Nat, i ≤ os.length ∧ t = .int .i64 (i : Nat) ∧ Hid (Kept w9 wx)) (fun t _ => os.length - (intOf t).toNat)
            case atStart => exact ⟨0, Nat.zero_le _, rfl, Lib.hid (Kept.refl _)⟩
            case round =>
              clear HK
              obtain ⟨i, hi, rfl, HK⟩ := hrel
              by_cases hlt : i < os.length
              · have hir : i < rs.length := by have := HOS.out; omega
                obtain ⟨q, hq⟩ : ∃ q, os[i]? = some q := ⟨_, List.getElem?_eq_getElem hlt⟩
                obtain ⟨r, hr⟩ : ∃ r, rs[i]? = some r := ⟨_, List.getElem?_eq_getElem hir⟩
                have hqr : q.l = r.l := by
                  have h1 : (os.map Rs.l)[i]? = some q.l := by rw [List.getElem?_map, hq]; rfl
                  have h2 : (rs.map Rs.l)[i]? = some r.l := by rw [List.getElem?_map, hr]; rfl
                  rw [HM.out, h2] at h1
                  exact (Option.some.inj h1).symm
                have hq300 := HML.out q (List.mem_of_getElem? hq)
                have HQL := Lib.hid (HOW9.out.els q (List.mem_of_getElem? hq)); have HRL := Lib.hid (HRR9.out.els r (List.mem_of_getElem? hr))
                obtain ⟨b1, o1, rfl, hb1, hc1⟩ := HOW9.out.at_ i q hq
                obtain ⟨b2, o2, rfl, hb2, hc2⟩ := HRR9.out.at_ i r hr
                obtain ⟨Aq, cq, X, pq⟩ := q
                obtain ⟨Ar, cr, X', pr⟩ := r
                simp only at hqr hq300 HQL HRL hc1 hc2
                subst hqr
                clear hq hr
                have HCQ := Lib.hid (fun W (K : Kept w9 W) => And.intro (Nat.lt_of_lt_of_le hb1 (Below.size K)) ((kept_cell K (p := ⟨b1, o1 + i, none⟩) hb1).trans hc1))
                have HCR := Lib.hid (fun W (K : Kept w9 W) => And.intro (Nat.lt_of_lt_of_le hb2 (Below.size K)) ((kept_cell K (p := ⟨b2, o2 + i, none⟩) hb2).trans hc2))
                clear hb1 hb2 hc1 hc2
                have HSN1 := Lib.hid (fun W (K : Kept w9 W) => gseen_any cq (HQL.out.kept K) (by omega) s)
                have HSN2 := Lib.hid (fun W (K : Kept w9 W) => grseen_any cr (HRL.out.kept K) (by omega) s)
                have HNW1 := Lib.hid (fun W (K : Kept w9 W) => gnewest_any cq (HQL.out.kept K) (by omega) s)
                have HNW2 := Lib.hid (fun W (K : Kept w9 W) => grnewest_any cr (HRL.out.kept K) (by omega) s)
                have HBT1 := Lib.hid (fun W (K : Kept w9 W) => gbetween_own cq (HQL.out.kept K) (by omega) kf kt)
                have HBT2 := Lib.hid (fun W (K : Kept w9 W) => grbetween_any cr (HRL.out.kept K) (by omega) kf kt HKT.out)
                have HRW1 := Lib.hid (fun W (K : Kept w9 W) => grow_any Aq cq X (by omega) W (HQL.out.kept K))
                have HRW2 := Lib.hid (fun W (K : Kept w9 W) => grrow_any cr (HRL.out.kept K) (by omega))
                have HSX := Lib.hid (fun W (K : Kept w9 W) => msame_eq (c1 := cq) (c2 := cr) (HQL.out.kept K) (HRL.out.kept K) rfl rfl (by omega) rfl)
                have l1 := rS_len X (Mg.seen X s) (List.length_filter_le _ _); have l2 := rS_len X (Mg.newest X s) (List.length_filter_le _ _); have l3 := rS_len X (Mg.between X kf kt) (List.length_filter_le _ _)
                generalize Mg.rS X (Mg.seen X s) = U1 at *
                generalize Mg.rS X (Mg.newest X s) = U2 at *
                generalize Mg.rS X (Mg.between X kf kt) = U3 at *
                generalize Mg.rC X = CC at *
                generalize Mg.row X = RB at *
                have hcq := (HCQ.out _ HK.out).2; have hbq := (HCQ.out _ HK.out).1
                go_wp2_with fail
                refine (HSN1.out _ HK.out).mono ?_
                rintro e w10 ⟨B10, c10, rfl, hel, g10⟩
                have HK10 := Lib.hid (kept_trans HK.out g10); have HE10 := Lib.hid hel.els
                clear hel g10 hcq hbq
                have hcr := (HCR.out _ HK10.out).2; have hbr := (HCR.out _ HK10.out).1
                go_wp2_with fail
                refine (HSN2.out _ HK10.out).mono ?_
                rintro e w11 ⟨B11, c11, rfl, hel, g11⟩
                have HK11 := Lib.hid (kept_trans HK10.out g11); have HE11 := Lib.hid hel.els; have HE10' := Lib.hid (HE10.out.kept g11)
                clear hel g11 hcr hbr
                have HSM := Lib.hid (fun W (K : KW w11 W) => msame_eq (c1 := c10) (c2 := c11) (HE10'.out.kept K.k) (HE11.out.kept K.k) rfl rfl (by omega) rfl)
                have I0 : KW w11 w11.drew := ⟨⟨rfl, rfl, rfl, Nat.le_refl _, fun _ _ => rfl⟩⟩
                go_wp2_with fail
                refine wp_region_held_drew (S := fun W => KW w11 W) (by kernel_rfl) I0 (fun hHeld => ?_)
                refine wpAnyH_take (i := 0) (v := (.slice B10 U1.length c10)) (List.getElem?_toArray.trans rfl) (by kernel_rfl) (by kernel_rfl) (by kernel_rfl) (fun _ _ _ h => h) (Or.inl ⟨by rfl, ?_⟩) (by assumption) ?_
                · intro W hSw
                  first | rfl | (go_simp; done) | (go_simp; rfl)
                simp only [Act.put, List.setIfInBounds_toArray, List.set_cons_zero, List.set_cons_succ]
                refine wpAnyH_take (i := 1) (v := (.slice B11 U1.length c11)) (List.getElem?_toArray.trans rfl) (by kernel_rfl) (by kernel_rfl) (by kernel_rfl) (fun _ _ _ h => h) (Or.inl ⟨by rfl, ?_⟩) (by assumption) ?_
                · intro W hSw
                  first | rfl | (go_simp; done) | (go_simp; rfl)
                simp only [Act.put, List.setIfInBounds_toArray, List.set_cons_zero, List.set_cons_succ]
                refine wpAnyH_ready (rs := [2]) (by kernel_rfl) (by simp) ?_
                refine AllReadyH.cons (List.getElem?_toArray.trans rfl) (fun K hK => ?_) AllReadyH.nil
                go_simp
                refine (HSM.out _ (by assumption)).mono ?_
                rintro e w12 ⟨rfl, g12⟩
                go_wp2_with fail
                refine hK.out _ _ ⟨kept_trans hHeld.k g12⟩ (fun hHeld => ?_)
                clear hK K
                clear g12
                refine wpAnyH_take (i := 3) (v := (.bool false)) (List.getElem?_toArray.trans rfl) (by kernel_rfl) (by kernel_rfl) (by kernel_rfl) (fun _ _ _ h => h) (Or.inl ⟨by rfl, ?_⟩) (by assumption) ?_
                · intro W hSw
                  first | rfl | (go_simp; done) | (go_simp; rfl)
                simp only [Act.put, List.setIfInBounds_toArray, List.set_cons_zero, List.set_cons_succ]
                refine wpAnyH_take (i := 4) (v := (.bool false)) (List.getElem?_toArray.trans rfl) (by kernel_rfl) (by kernel_rfl) (by kernel_rfl) (fun _ _ _ h => h) (Or.inl ⟨by rfl, ?_⟩) (by assumption) ?_
                · intro W hSw
                  first | rfl | (go_simp; done) | (go_simp; rfl)
                simp only [Act.put, List.setIfInBounds_toArray, List.set_cons_zero, List.set_cons_succ]
                refine wpAnyH_take (i := 5) (v := (.int .i64 CC)) (List.getElem?_toArray.trans rfl) (by kernel_rfl) (by kernel_rfl) (by kernel_rfl) (fun _ _ _ h => h) (Or.inl ⟨by rfl, ?_⟩) (by assumption) ?_
                · intro W hSw
                  first | rfl | (go_simp; done) | (go_simp; rfl)
                simp only [Act.put, List.setIfInBounds_toArray, List.set_cons_zero, List.set_cons_succ]
                refine wpAnyH_take (i := 6) (v := (.int .i64 CC)) (List.getElem?_toArray.trans rfl) (by kernel_rfl) (by kernel_rfl) (by kernel_rfl) (fun _ _ _ h => h) (Or.inl ⟨by rfl, ?_⟩) (by assumption) ?_
                · intro W hSw
                  first | rfl | (go_simp; done) | (go_simp; rfl)
                simp only [Act.put, List.setIfInBounds_toArray, List.set_cons_zero, List.set_cons_succ]
                refine wpAnyH_take (i := 7) (v := (.bool false)) (List.getElem?_toArray.trans rfl) (by kernel_rfl) (by kernel_rfl) (by kernel_rfl) (fun _ _ _ h => h) (Or.inl ⟨by rfl, ?_⟩) (by assumption) ?_
                · intro W hSw
                  first | rfl | (go_simp; done) | (go_simp; rfl)
                simp only [Act.put, List.setIfInBounds_toArray, List.set_cons_zero, List.set_cons_succ]
                refine wpAnyH_take (i := 8) (v := (.bool false)) (List.getElem?_toArray.trans rfl) (by kernel_rfl) (by kernel_rfl) (by kernel_rfl) (fun _ _ _ h => h) (Or.inl ⟨by rfl, ?_⟩) (by assumption) ?_
                · intro W hSw
                  first | rfl | (go_simp; done) | (go_simp; rfl)
                simp only [Act.put, List.setIfInBounds_toArray, List.set_cons_zero, List.set_cons_succ]
                refine wpAnyH_take (i := 9) (v := (.bool false)) (List.getElem?_toArray.trans rfl) (by kernel_rfl) (by kernel_rfl) (by kernel_rfl) (fun _ _ _ h => h) (Or.inl ⟨by rfl, ?_⟩) (by assumption) ?_
                · intro W hSw
                  first | rfl | (go_simp; done) | (go_simp; rfl)
                simp only [Act.put, List.setIfInBounds_toArray, List.set_cons_zero, List.set_cons_succ]
                refine wpAnyH_take (i := 10) (v := (.slice Aq X.length cq)) (List.getElem?_toArray.trans rfl) (by kernel_rfl) (by kernel_rfl) (by kernel_rfl) (fun _ _ _ h => h) (Or.inl ⟨by rfl, ?_⟩) (by assumption) ?_
                · intro W hSw
                  first | rfl | (go_simp; done) | (go_simp; rfl)
                simp only [Act.put, List.setIfInBounds_toArray, List.set_cons_zero, List.set_cons_succ]
                refine wpAnyH_take (i := 12) (v := (.slice (some ⟨b2, o2, none⟩) rs.length cap)) (List.getElem?_toArray.trans rfl) (by kernel_rfl) (by kernel_rfl) (by kernel_rfl) (fun _ _ _ h => h) (Or.inl ⟨by rfl, ?_⟩) (by assumption) ?_
                · intro W hSw
                  first | rfl | (go_simp; done) | (go_simp; rfl)
                simp only [Act.put, List.setIfInBounds_toArray, List.set_cons_zero, List.set_cons_succ]
                refine wpAnyH_take (i := 13) (v := (.int .i64 (i : Nat))) (List.getElem?_toArray.trans rfl) (by kernel_rfl) (by kernel_rfl) (by kernel_rfl) (fun _ _ _ h => h) (Or.inl ⟨by rfl, ?_⟩) (by assumption) ?_
                · intro W hSw
                  first | rfl | (go_simp; done) | (go_simp; rfl)
                simp only [Act.put, List.setIfInBounds_toArray, List.set_cons_zero, List.set_cons_succ]
                refine wpAnyH_take (i := 14) (v := (.pointer (some ⟨b2, o2 + i, none⟩))) (List.getElem?_toArray.trans rfl) (by kernel_rfl) (by kernel_rfl) (by kernel_rfl) (fun _ _ _ h => h) (Or.inl ⟨by rfl, ?_⟩) (by assumption) ?_
                · intro W hSw
                  first | rfl | (go_simp; done) | (go_simp; rfl)
                simp only [Act.put, List.setIfInBounds_toArray, List.set_cons_zero, List.set_cons_succ]
                refine wpAnyH_take (i := 15) (v := (.slice Ar X.length cr)) (List.getElem?_toArray.trans rfl) (by kernel_rfl) (by kernel_rfl) (by kernel_rfl) (fun _ _ _ h => h) (Or.inl ⟨by rfl, ?_⟩) (by assumption) ?_
                · intro W hSw
                  have hcr := (HCR.out W (kept_trans HK11.out hSw.k)).2
                  have hbr := (HCR.out W (kept_trans HK11.out hSw.k)).1
                  first | (go_simp; done) | (go_simp; rfl)
                simp only [Act.put, List.setIfInBounds_toArray, List.set_cons_zero, List.set_cons_succ]
                refine wpAnyH_ready (rs := [11]) (by kernel_rfl) (by simp) ?_
                refine AllReadyH.cons (List.getElem?_toArray.trans rfl) (fun K hK => ?_) AllReadyH.nil
                go_simp
                refine (HRW1.out _ (kept_trans HK11.out hHeld.k)).mono ?_
                rintro e w13 ⟨rfl, g13⟩
                go_wp2_with fail
                refine hK.out _ _ ⟨kept_trans hHeld.k g13⟩ (fun hHeld => ?_)
                clear hK K
                refine wpAnyH_ready (rs := [16]) (by kernel_rfl) (by simp) ?_
                refine AllReadyH.cons (List.getElem?_toArray.trans rfl) (fun K hK => ?_) AllReadyH.nil
                go_simp
                refine (HRW2.out _ (kept_trans HK11.out (by assumption : KW w11 w13).k)).mono ?_
                rintro e w14 ⟨rfl, g14⟩
                go_wp2_with fail
                refine hK.out _ _ ⟨kept_trans (by assumption : KW w11 w13).k g14⟩ (fun hHeld => ?_)
                clear hK K
                refine wpAnyH_take (i := 17) (v := (.bool false)) (List.getElem?_toArray.trans rfl) (by kernel_rfl) (by kernel_rfl) (by kernel_rfl) (fun _ _ _ h => h) (Or.inl ⟨by rfl, ?_⟩) (by assumption) ?_
                · intro W hSw
                  first | rfl | (go_simp; done) | (go_simp; rfl)
                simp only [Act.put, List.setIfInBounds_toArray, List.set_cons_zero, List.set_cons_succ]
                refine wpAnyH_take (i := 18) (v := (.bool false)) (List.getElem?_toArray.trans rfl) (by kernel_rfl) (by kernel_rfl) (by kernel_rfl) (fun _ _ _ h => h) (Or.inl ⟨by rfl, ?_⟩) (by assumption) ?_
                · intro W hSw
                  first | rfl | (go_simp; done) | (go_simp; rfl)
                simp only [Act.put, List.setIfInBounds_toArray, List.set_cons_zero, List.set_cons_succ]
                refine wpAnyH_done (by kernel_rfl) ?_ _
                have HK14 := Lib.hid (kept_trans HK11.out (by assumption : KW w11 w14).k)
                clear HSM I0 HE10 HE10' HE11
                go_wp2_with fail
                refine (HNW1.out _ HK14.out).mono ?_
                rintro e w15 ⟨B15, c15, rfl, hel, g15⟩
                have HK15 := Lib.hid (kept_trans HK14.out g15); have HE15 := Lib.hid hel.els
                clear hel g15
                have hcr := (HCR.out _ HK15.out).2; have hbr := (HCR.out _ HK15.out).1
                go_wp2_with fail
                refine (HNW2.out _ HK15.out).mono ?_
                rintro e w16 ⟨B16, c16, rfl, hel, g16⟩
                have HK16 := Lib.hid (kept_trans HK15.out g16)
                have HSM2 := Lib.hid (msame_eq (c1 := c15) (c2 := c16) (HE15.out.kept g16) hel.els rfl rfl (by omega) rfl)
                clear hel g16 hcr hbr HE15
                go_wp2_with fail
                refine HSM2.out.mono ?_
                rintro e w17 ⟨rfl, g17⟩
                have HK17 := Lib.hid (kept_trans HK16.out g17)
                clear g17 HSM2
                go_wp2_with fail
                refine (HBT1.out _ HK17.out).mono ?_
                rintro e w18 ⟨B18, c18, rfl, ho18, g18⟩
                have HK18 := Lib.hid (kept_trans HK17.out g18); have HO18 := Lib.hid ho18
                have HBS := Lib.hid (Below.size HK17.out)
                clear ho18 g18
                have hcr := (HCR.out _ HK18.out).2; have hbr := (HCR.out _ HK18.out).1
                go_wp2_with fail
                refine (HBT2.out _ HK18.out).mono ?_
                rintro e w19 ⟨B19, c19, rfl, hel, g19⟩
                have HK19 := Lib.hid (kept_trans HK18.out g19); have HO19 := Lib.hid (rown_kept HO18.out g19)
                have HSM3 := Lib.hid (msame_eq (c1 := c18) (c2 := c19) (own_els HO19.out).els hel.els rfl rfl (by omega) rfl)
                clear hel g19 hcr hbr
                go_wp2_with fail
                refine HSM3.out.mono ?_
                rintro e w20 ⟨rfl, g20⟩
                have HK20 := Lib.hid (kept_trans HK19.out g20); have HO20 := Lib.hid (rown_kept HO19.out g20)
                clear g20 HSM3 HO18 HO19
                generalize w17.heap.size = bB at *
                go_wp2_with fail
                go_loopw [194] (fun t wr => ∃ (k : Nat) (L' : List Value), k ≤ U3.length ∧ t = .int .i64 (k : Nat) ∧ Hid (wr.ownsRow bB 51 4 (.slice B18 U3.length c18) U3.length L') ∧ Hid (Kept w9 wr)) (fun t _ => U3.length - (intOf t).toNat)
                case atStart => exact ⟨0, _, Nat.zero_le _, rfl, HO20, HK20⟩
                case round =>
                  clear HO20 HK20
                  obtain ⟨k, L', hk, rfl, HO, HKx⟩ := hrel
                  by_cases hk2 : k < U3.length
                  · have hLl := HO.out.1
                    obtain ⟨g, rfl⟩ : ∃ g, B18 = some ⟨g, 0, none⟩ := by
                      rcases HO.out.2 with ⟨_, e0⟩ | ⟨g, cap', cur, hv, _⟩
                      · omega
                      · cases hv; exact ⟨g, rfl⟩
                    have hu : L'[k * 4]? = some (L'[k * 4]'(by omega)) := List.getElem?_eq_getElem (by omega)
                    generalize L'[k * 4]'(by omega) = u at hu
                    have hcg := own_cell HO.out hu
                    have hfg := own_frozen HO.out (k * 4)
                    have hlg := HO.out.lt g rfl
                    have hgb : g < _ := hlg.2
                    have HO2 := Lib.hid (own_put HO.out (k := k * 4) (by omega) (.string ⟨#[63]⟩))
                    have HK2 := Lib.hid (kept_own (b := g) (o := k * 4) (v := .string ⟨#[63]⟩) HKx.out (Nat.le_trans HBS.out hlg.1))
                    clear hu hLl hlg
                    go_wp2_with fail
                    go_roundw
                    case rel => exact ⟨k + 1, _, by omega, by go_num, HO2, HK2⟩
                    case measure => simp [intOf]; omega
                  · have e : k = U3.length := by omega
                    subst e
                    have hcr := (HCR.out _ HKx.out).2; have hbr := (HCR.out _ HKx.out).1
                    have HSX2 := Lib.hid (HSX.out _ HKx.out)
                    go_wp2_with fail
                    refine HSX2.out.mono ?_
                    rintro e w21 ⟨rfl, g21⟩
                    have HK21 := Lib.hid (kept_trans HKx.out g21)
                    clear g21
                    go_wp2_with fail
                    go_roundw
                    case rel => exact ⟨i + 1, by omega, by go_num, HK21⟩
                    case measure => simp [intOf]; omega
              · have e : i = os.length := by omega
                subst e
                go_wp2_with fail
                go_ret
                exact ⟨rfl, kept_trans HG9.out HK.out⟩
end Go.Proofs.Ytpbhbgoaaephgaa
