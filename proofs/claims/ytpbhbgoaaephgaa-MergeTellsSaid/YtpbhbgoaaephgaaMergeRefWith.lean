/-
  The document's own 'with' of layer 8: an entry more, if none has its key and number.
-/
import Derived.Test.YtpbhbgoaaephgaaMergeRefNewest
import Derived.Test.YtpbhbgoaaephgaaMemRefAdd
namespace Go.Proofs.Ytpbhbgoaaephgaa
open Go.ChangeShapes Go.WideShapes Go.ChangeAt Go.RowKit
set_option linter.unusedVariables false
set_option maxRecDepth 100000
set_option maxHeartbeats 4000000

theorem ins_hit : ∀ {l : List Mm.Ent} {x : Mm.Ent} {k : Nat} {y : Mm.Ent}, (∀ j z, j < k → l[j]? = some z → Mg.ab z x = true) → l[k]? = some y → y.key = x.key → y.seq = x.seq → Mg.ins l x = l
  | [], x, k, y, _, hy, _, _ => by simp at hy
  | z :: l, x, 0, y, _, hy, h1, h2 => by
    simp at hy; subst hy
    unfold Mg.ins
    rw [if_neg (by rw [Mg.ab_same h1 h2]; decide), if_pos ⟨h1, h2⟩]
  | z :: l, x, k + 1, y, h, hy, h1, h2 => by
    unfold Mg.ins
    rw [if_pos (h 0 z (by omega) rfl), ins_hit (k := k) (fun j u hj hu => h (j + 1) u (by omega) hu) hy h1 h2]
theorem ins_miss : ∀ {l : List Mm.Ent} {x : Mm.Ent} {k : Nat}, k ≤ l.length → (∀ j z, j < k → l[j]? = some z → Mg.ab z x = true) → (∀ y, l[k]? = some y → Mg.ab y x = false ∧ ¬ (y.key = x.key ∧ y.seq = x.seq)) → Mg.ins l x = (l.take k ++ [x]) ++ l.drop k
  | [], x, k, hk, _, _ => by simp [Mg.ins]
  | z :: l, x, 0, _, _, h2 => by
    obtain ⟨e1, e2⟩ := h2 z rfl
    unfold Mg.ins
    rw [if_neg (by rw [e1]; decide), if_neg e2]; rfl
  | z :: l, x, k + 1, hk, h, h2 => by
    unfold Mg.ins
    rw [if_pos (h 0 z (by omega) rfl), ins_miss (k := k) (by simpa using hk) (fun j u hj hu => h (j + 1) u (by omega) hu) (fun y hy => h2 y hy)]
    simp
theorem gwith_any {w : World} {A : Option Addr} {l : List Mm.Ent} (c : Nat) (h : Els w A l) (hc : l.length ≤ c) (hm : c ≤ maxLen) (hl : l.length ≤ 3000) (hA : l = [] → ∃ b o, A = some ⟨b, o, none⟩) (x : Mm.Ent) :
    Calls Try.prog 70 #[.slice A l.length c, entV x] w fun e w' => ∃ A' c', e = .returned (.slice A' (Mg.ins l x).length c') ∧ Els w' A' (Mg.ins l x) ∧ (Mg.ins l x).length ≤ c' ∧ c' ≤ maxLen ∧ Kept w w' := by
  have HE := Lib.hid h; have HA0 := Lib.hid hA
  have hz := malloc_new w (.cells #[.string (bs x.key), .int .u64 (x.seq : Nat), .bool x.del, .string (bs x.val)] 51)
  have k1 := (Kept.refl w).alloc (.cells #[.string (bs x.key), .int .u64 (x.seq : Nat), .bool x.del, .string (bs x.val)] 51)
  have HH := Lib.hid (fun k y => ins_hit (l := l) (x := x) (k := k) (y := y))
  have HM := Lib.hid (fun k => ins_miss (l := l) (x := x) (k := k))
  have hins := Mg.ins_len l x
  obtain ⟨i0, hi, hz0, hz1, hz2⟩ := info_parts mentInfo
  have HI := Lib.hid hi; have HZ0 := Lib.hid hz0; have HZ1 := Lib.hid hz1; have HZ2 := Lib.hid hz2
  clear hi hz0 hz1 hz2
  generalize Mg.ins l x = I at *
  unfold maxLen at hm
  unfold entV
  clear h hA
  go_enter Try.func70, Try.ntmps70
  go_wp2_with fail
  generalize (w.alloc (.cells #[.string (bs x.key), .int .u64 (x.seq : Nat), .bool x.del, .string (bs x.val)] 51)) = w1 at *
  have HZ := Lib.hid hz; have K1 := Lib.hid k1
  clear hz k1
  generalize w.heap.size = xb at *
  go_loopw [5] (fun t wr => ∃ k : Nat, k ≤ l.length ∧ t = .int .i64 (k : Nat) ∧ Hid (∀ j z, j < k → l[j]? = some z → Mg.ab z x = true) ∧ Hid (Kept w1 wr)) (fun t _ => l.length - (intOf t).toNat)
  case atStart => exact ⟨0, Nat.zero_le _, rfl, Lib.hid (fun j z hj => absurd hj (by omega)), Lib.hid (Kept.refl _)⟩
  case round =>
    obtain ⟨k, hk, rfl, HA, HK⟩ := hrel
    have rz := (Below.block HK.out _ (mheap_lt HZ.out)).trans HZ.out
    have y0 := mcell (v := .string (bs x.key)) rz 0 rfl; have y1 := mcell (v := .int .u64 (x.seq : Nat)) rz 1 rfl
    have hbx := mheap_lt rz
    have HRZ := Lib.hid rz
    clear rz
    by_cases hlt : k < l.length
    · obtain ⟨y, hy⟩ : ∃ y, l[k]? = some y := ⟨_, List.getElem?_eq_getElem hlt⟩
      obtain ⟨b, o, rfl, hb, c0, c1, c2, c3⟩ := (HE.out.kept (kept_trans K1.out HK.out)) k y hy
      have HAH := Lib.hid (grah_n y x wr)
      have HY := Lib.hid hy
      clear hy
      cases hv : Mg.ab y x with
      | true =>
        have HV := Lib.hid hv
        rw [hv] at HAH
        clear hv
        go_wp2_with fail
        go_quiet ((go_at_call 74; exact HAH.out _))
        go_wp2_with fail
        go_roundw
        case rel => exact ⟨k + 1, by omega, by go_num, Lib.hid (fun j z hj hz => by
          by_cases e : j = k
          · subst e; rw [HY.out] at hz; cases hz; exact HV.out
          · exact HA.out j z (by omega) hz), Lib.hid (kept_trans HK.out (kept_drewN _ _))⟩
        case measure => simp [intOf]; omega
      | false =>
        have HV := Lib.hid hv
        rw [hv] at HAH
        clear hv
        go_wp2_with fail
        go_quiet ((go_at_call 74; exact HAH.out _))
        have kw2 : Kept w1 (wr.drewN nq) := kept_trans HK.out (kept_drewN wr nq)
        generalize wr.drewN nq = w2 at *
        have HKw2 := Lib.hid kw2
        clear kw2
        clear c0 c1 c2 c3 y0 y1 hbx hb HAH HRZ
        have rz := (Below.block HKw2.out _ (mheap_lt HZ.out)).trans HZ.out
        have y0 := mcell (v := .string (bs x.key)) rz 0 rfl; have y1 := mcell (v := .int .u64 (x.seq : Nat)) rz 1 rfl; have y2 := mcell (v := .bool x.del) rz 2 rfl; have y3 := mcell (v := .string (bs x.val)) rz 3 rfl
        have hbx := mheap_lt rz
        clear rz
        obtain ⟨b', o', e, hb, c0, c1, c2, c3⟩ := (HE.out.kept (kept_trans K1.out HKw2.out)) k y HY.out
        cases e
        have n1 := mbs_eq y.key x.key
        by_cases e1 : y.key = x.key
        · rw [decide_eq_true e1] at n1
          by_cases e2 : y.seq = x.seq
          · have n2 : ((y.seq : Int) == (x.seq : Int)) = true := by rw [beq_iff_eq, e2]
            have n3 : (y.seq == x.seq) = true := by rw [beq_iff_eq, e2]
            have HIL := Lib.hid (HH.out k y HA.out HY.out e1 e2)
            clear e1 e2
            go_wp2_with fail
            go_quiet (fail)
            have kw3 : Kept w1 (w2.drewN nq) := kept_trans HKw2.out (kept_drewN w2 nq)
            generalize w2.drewN nq = w3 at *
            have HKw3 := Lib.hid kw3
            clear kw3
            go_wp2_with fail
            go_ret
            exact ⟨some ⟨b, o, none⟩, c, by rw [HIL.out]; rfl, by rw [HIL.out]; exact HE.out.kept (kept_trans K1.out HKw3.out), by rw [HIL.out]; exact hc, by unfold maxLen; omega, kept_trans K1.out HKw3.out⟩
          · have n2 : ((y.seq : Int) == (x.seq : Int)) = false := by rw [beq_eq_false_iff_ne]; omega
            have n3 : (y.seq == x.seq) = false := by rw [beq_eq_false_iff_ne]; exact e2
            have HMS := Lib.hid (show ∀ z, l[k]? = some z → Mg.ab z x = false ∧ ¬ (z.key = x.key ∧ z.seq = x.seq) from fun z hz => by rw [HY.out] at hz; cases hz; exact ⟨HV.out, fun e => e2 e.2⟩)
            clear e1 e2
            go_wp2_with fail
            go_quiet (fail)
            have kw3 : Kept w1 (w2.drewN nq) := kept_trans HKw2.out (kept_drewN w2 nq)
            generalize w2.drewN nq = w3 at *
            have HKw3 := Lib.hid kw3
            clear kw3
            clear c0 c1 c2 c3 y0 y1 y2 y3 hbx hb
            have rz := (Below.block HKw3.out _ (mheap_lt HZ.out)).trans HZ.out
            have y0 := mcell (v := .string (bs x.key)) rz 0 rfl; have y1 := mcell (v := .int .u64 (x.seq : Nat)) rz 1 rfl; have y2 := mcell (v := .bool x.del) rz 2 rfl; have y3 := mcell (v := .string (bs x.val)) rz 3 rfl
            have hbx := mheap_lt rz
            clear rz
            have hOI := HM.out k (by omega) HA.out HMS.out
            have hEF := (HE.out.kept (kept_trans K1.out HKw3.out)).front k
            have hEB : Els w3 (some ⟨b, o + k * 4, none⟩) (l.drop k) := (HE.out.kept (kept_trans K1.out HKw3.out)).back k
            have hPl : (l.take k).length = k := by rw [List.length_take]; omega
            have hDl : l.length - k = (l.drop k).length := by rw [List.length_drop]
            have hP1 : elc (l.take k ++ [x]) = elc (l.take k) ++ [.string (bs x.key), .int .u64 (x.seq : Nat), .bool x.del, .string (bs x.val)] := by rw [elc_app]; simp [elc, ecs]
            have hP1l : (l.take k ++ [x]).length = (l.take k).length + 1 := by rw [List.length_append]; rfl
            generalize l.take k ++ [x] = P1 at *
            generalize l.take k = P at *
            generalize l.drop k = D at *
            have HOI := Lib.hid hOI; have HEF := Lib.hid hEF; have HEB := Lib.hid hEB; have HPL := Lib.hid hPl; have HDL := Lib.hid hDl; have HP1 := Lib.hid hP1; have HP1L := Lib.hid hP1l
            clear hOI hEF hEB hPl hDl hP1 hP1l
            have hc2 : k ≤ c := by omega
            go_wp2_with (at_builtin; refine app_es (some ⟨b, o, none⟩) c [] P _ _ rfl rfl rfl w3.heap.size (by simp) (own_entsB w3 (Nat.le_refl _)) k HPL.out.symm rfl (HEF.out.kept ((Kept.refl _).alloc _)) (by rw [HPL.out]; simp; omega) ?_)
            intro v1 w7 ho7 hg7
            have k7 : Kept w3 w7 := Below.grown ((Kept.refl w3).alloc (.cells #[] 51)) hg7 (by simp) (fun b hb => by cases hb; exact Nat.le_refl _)
            have ho7' : w7.ownsRow w3.heap.size 51 4 v1 P.length (elc P) := ho7
            have HO7 := Lib.hid ho7'; have K7 := Lib.hid k7
            have HLB := Lib.hid (fun b hb => (ho7'.lt b hb).1)
            have HK7 := Lib.hid (kept_trans HKw3.out k7)
            have hs7 := Below.size k7
            clear k7 ho7 ho7' hg7
            clear y0 y1 y2 y3 hbx
            have rz := (Below.block HK7.out _ (mheap_lt HZ.out)).trans HZ.out
            have y0 := mcell (v := .string (bs x.key)) rz 0 rfl; have y1 := mcell (v := .int .u64 (x.seq : Nat)) rz 1 rfl; have y2 := mcell (v := .bool x.del) rz 2 rfl; have y3 := mcell (v := .string (bs x.val)) rz 3 rfl
            have hbx := mheap_lt rz
            clear rz
            have hle : P.length ≤ 3000 := by rw [HPL.out]; omega
            obtain ⟨A7, c7, e7⟩ := own_slice HO7.out
            subst e7
            have hown := HO7.out
            go_wp2_with (at_builtin; refine wpList_append_own _ rfl _ _ 46 rfl w3.heap.size 51 i0 zentV 4 48 Try.underlying46 HI.out HZ0.out HZ1.out HZ2.out rfl (by decide) _ P.length (elc P) rfl (hown.alloc _) ⟨w7.heap.size, 0, none⟩ 1 1 [.string (bs x.key), .int .u64 (x.seq : Nat), .bool x.del, .string (bs x.val)] rfl rfl (mcells_new4 _ _ _ _ _ _ _ rfl) (by simp [Value.oneCell']) (by unfold maxLen; omega) (by omega) (by simp; omega) ?_)
            intro v2 w8 ho8 hg8 _
            have k8 : Kept w3 w8 := Below.grown (K7.out.alloc (.cells #[.string (bs x.key), .int .u64 (x.seq : Nat), .bool x.del, .string (bs x.val)] 51)) hg8 (by simp; omega) HLB.out
            have ho8' : w8.ownsRow w3.heap.size 51 4 v2 P1.length (elc P1) := by rw [HP1L.out, HP1.out]; exact ho8
            have HO8 := Lib.hid ho8'; have K8 := Lib.hid k8
            have HLB8 := Lib.hid (fun b hb => (ho8'.lt b hb).1)
            have hs8 := Below.size k8
            clear k8 ho8 ho8' hg8 hown
            obtain ⟨A8, c8, e8⟩ := own_slice HO8.out
            subst e8
            go_wp2_with (at_builtin; refine app_es (some ⟨b, o + k * 4, none⟩) (c - k) P1 D _ _ rfl rfl rfl w3.heap.size hs8 HO8.out (l.length - k) HDL.out rfl (HEB.out.kept K8.out) (by rw [HP1L.out, HPL.out, ← HDL.out]; omega) ?_)
            intro v3 w9 ho9 hg9
            have k9 : Kept w3 w9 := Below.grown K8.out hg9 hs8 HLB8.out
            have ho9' : w9.ownsRow w3.heap.size 51 4 v3 I.length (elc I) := by rw [HOI.out, List.length_append]; exact ho9
            obtain ⟨A9, c9, rfl, _, hel9⟩ := els_own ho9'
            have HK9 := Lib.hid (kept_trans (kept_trans K1.out HKw3.out) k9)
            have HE9 := Lib.hid hel9
            clear ho9 ho9' hg9 k9 hel9
            go_wp2_with fail
            go_ret
            exact ⟨_, _, rfl, HE9.out.els, HE9.out.cap, HE9.out.most, HK9.out⟩
        · rw [decide_eq_false e1] at n1
          have HMS := Lib.hid (show ∀ z, l[k]? = some z → Mg.ab z x = false ∧ ¬ (z.key = x.key ∧ z.seq = x.seq) from fun z hz => by rw [HY.out] at hz; cases hz; exact ⟨HV.out, fun e => e1 e.1⟩)
          clear e1
          go_wp2_with fail
          go_quiet (fail)
          have kw3 : Kept w1 (w2.drewN nq) := kept_trans HKw2.out (kept_drewN w2 nq)
          generalize w2.drewN nq = w3 at *
          have HKw3 := Lib.hid kw3
          clear kw3
          clear c0 c1 c2 c3 y0 y1 y2 y3 hbx hb
          have rz := (Below.block HKw3.out _ (mheap_lt HZ.out)).trans HZ.out
          have y0 := mcell (v := .string (bs x.key)) rz 0 rfl; have y1 := mcell (v := .int .u64 (x.seq : Nat)) rz 1 rfl; have y2 := mcell (v := .bool x.del) rz 2 rfl; have y3 := mcell (v := .string (bs x.val)) rz 3 rfl
          have hbx := mheap_lt rz
          clear rz
          have hOI := HM.out k (by omega) HA.out HMS.out
          have hEF := (HE.out.kept (kept_trans K1.out HKw3.out)).front k
          have hEB : Els w3 (some ⟨b, o + k * 4, none⟩) (l.drop k) := (HE.out.kept (kept_trans K1.out HKw3.out)).back k
          have hPl : (l.take k).length = k := by rw [List.length_take]; omega
          have hDl : l.length - k = (l.drop k).length := by rw [List.length_drop]
          have hP1 : elc (l.take k ++ [x]) = elc (l.take k) ++ [.string (bs x.key), .int .u64 (x.seq : Nat), .bool x.del, .string (bs x.val)] := by rw [elc_app]; simp [elc, ecs]
          have hP1l : (l.take k ++ [x]).length = (l.take k).length + 1 := by rw [List.length_append]; rfl
          generalize l.take k ++ [x] = P1 at *
          generalize l.take k = P at *
          generalize l.drop k = D at *
          have HOI := Lib.hid hOI; have HEF := Lib.hid hEF; have HEB := Lib.hid hEB; have HPL := Lib.hid hPl; have HDL := Lib.hid hDl; have HP1 := Lib.hid hP1; have HP1L := Lib.hid hP1l
          clear hOI hEF hEB hPl hDl hP1 hP1l
          have hc2 : k ≤ c := by omega
          go_wp2_with (at_builtin; refine app_es (some ⟨b, o, none⟩) c [] P _ _ rfl rfl rfl w3.heap.size (by simp) (own_entsB w3 (Nat.le_refl _)) k HPL.out.symm rfl (HEF.out.kept ((Kept.refl _).alloc _)) (by rw [HPL.out]; simp; omega) ?_)
          intro v1 w7 ho7 hg7
          have k7 : Kept w3 w7 := Below.grown ((Kept.refl w3).alloc (.cells #[] 51)) hg7 (by simp) (fun b hb => by cases hb; exact Nat.le_refl _)
          have ho7' : w7.ownsRow w3.heap.size 51 4 v1 P.length (elc P) := ho7
          have HO7 := Lib.hid ho7'; have K7 := Lib.hid k7
          have HLB := Lib.hid (fun b hb => (ho7'.lt b hb).1)
          have HK7 := Lib.hid (kept_trans HKw3.out k7)
          have hs7 := Below.size k7
          clear k7 ho7 ho7' hg7
          clear y0 y1 y2 y3 hbx
          have rz := (Below.block HK7.out _ (mheap_lt HZ.out)).trans HZ.out
          have y0 := mcell (v := .string (bs x.key)) rz 0 rfl; have y1 := mcell (v := .int .u64 (x.seq : Nat)) rz 1 rfl; have y2 := mcell (v := .bool x.del) rz 2 rfl; have y3 := mcell (v := .string (bs x.val)) rz 3 rfl
          have hbx := mheap_lt rz
          clear rz
          have hle : P.length ≤ 3000 := by rw [HPL.out]; omega
          obtain ⟨A7, c7, e7⟩ := own_slice HO7.out
          subst e7
          have hown := HO7.out
          go_wp2_with (at_builtin; refine wpList_append_own _ rfl _ _ 46 rfl w3.heap.size 51 i0 zentV 4 48 Try.underlying46 HI.out HZ0.out HZ1.out HZ2.out rfl (by decide) _ P.length (elc P) rfl (hown.alloc _) ⟨w7.heap.size, 0, none⟩ 1 1 [.string (bs x.key), .int .u64 (x.seq : Nat), .bool x.del, .string (bs x.val)] rfl rfl (mcells_new4 _ _ _ _ _ _ _ rfl) (by simp [Value.oneCell']) (by unfold maxLen; omega) (by omega) (by simp; omega) ?_)
          intro v2 w8 ho8 hg8 _
          have k8 : Kept w3 w8 := Below.grown (K7.out.alloc (.cells #[.string (bs x.key), .int .u64 (x.seq : Nat), .bool x.del, .string (bs x.val)] 51)) hg8 (by simp; omega) HLB.out
          have ho8' : w8.ownsRow w3.heap.size 51 4 v2 P1.length (elc P1) := by rw [HP1L.out, HP1.out]; exact ho8
          have HO8 := Lib.hid ho8'; have K8 := Lib.hid k8
          have HLB8 := Lib.hid (fun b hb => (ho8'.lt b hb).1)
          have hs8 := Below.size k8
          clear k8 ho8 ho8' hg8 hown
          obtain ⟨A8, c8, e8⟩ := own_slice HO8.out
          subst e8
          go_wp2_with (at_builtin; refine app_es (some ⟨b, o + k * 4, none⟩) (c - k) P1 D _ _ rfl rfl rfl w3.heap.size hs8 HO8.out (l.length - k) HDL.out rfl (HEB.out.kept K8.out) (by rw [HP1L.out, HPL.out, ← HDL.out]; omega) ?_)
          intro v3 w9 ho9 hg9
          have k9 : Kept w3 w9 := Below.grown K8.out hg9 hs8 HLB8.out
          have ho9' : w9.ownsRow w3.heap.size 51 4 v3 I.length (elc I) := by rw [HOI.out, List.length_append]; exact ho9
          obtain ⟨A9, c9, rfl, _, hel9⟩ := els_own ho9'
          have HK9 := Lib.hid (kept_trans (kept_trans K1.out HKw3.out) k9)
          have HE9 := Lib.hid hel9
          clear ho9 ho9' hg9 k9 hel9
          go_wp2_with fail
          go_ret
          exact ⟨_, _, rfl, HE9.out.els, HE9.out.cap, HE9.out.most, HK9.out⟩
    · have hkl : k = l.length := by omega
      obtain ⟨b, o, rfl⟩ : ∃ b o, A = some ⟨b, o, none⟩ := by
        by_cases h0 : l = []
        · exact HA0.out h0
        · have hp : 0 < l.length := List.length_pos_iff.2 h0
          obtain ⟨b, o, e, _⟩ := HE.out 0 _ (List.getElem?_eq_getElem hp)
          exact ⟨b, o, e⟩
      have HMS := Lib.hid (show ∀ z, l[l.length]? = some z → Mg.ab z x = false ∧ ¬ (z.key = x.key ∧ z.seq = x.seq) from fun z hz => by simp at hz)
      subst hkl
      clear y0 y1 hbx HRZ
      go_wp2_with fail
      go_quiet (fail)
      have kw2 : Kept w1 (wr.drewN nq) := kept_trans HK.out (kept_drewN wr nq)
      generalize wr.drewN nq = w2 at *
      have HKw2 := Lib.hid kw2
      clear kw2
      go_wp2_with fail
      go_quiet (fail)
      have kw3 : Kept w1 (w2.drewN nq) := kept_trans HKw2.out (kept_drewN w2 nq)
      generalize w2.drewN nq = w3 at *
      have HKw3 := Lib.hid kw3
      clear kw3
      have rz := (Below.block HKw3.out _ (mheap_lt HZ.out)).trans HZ.out
      have y0 := mcell (v := .string (bs x.key)) rz 0 rfl; have y1 := mcell (v := .int .u64 (x.seq : Nat)) rz 1 rfl; have y2 := mcell (v := .bool x.del) rz 2 rfl; have y3 := mcell (v := .string (bs x.val)) rz 3 rfl
      have hbx := mheap_lt rz
      clear rz
      by_cases hck : c = l.length
      · subst hck
        have hOI := HM.out l.length (by omega) HA.out HMS.out
        have hEF := (HE.out.kept (kept_trans K1.out HKw3.out)).front l.length
        have hEB : Els w3 (some ⟨b, o, none⟩) (l.drop l.length) := by rw [List.drop_length]; exact fun j x hx => by simp at hx
        have hPl : (l.take l.length).length = l.length := by rw [List.length_take]; omega
        have hDl : 0 = (l.drop l.length).length := by rw [List.length_drop]; omega
        have hP1 : elc (l.take l.length ++ [x]) = elc (l.take l.length) ++ [.string (bs x.key), .int .u64 (x.seq : Nat), .bool x.del, .string (bs x.val)] := by rw [elc_app]; simp [elc, ecs]
        have hP1l : (l.take l.length ++ [x]).length = (l.take l.length).length + 1 := by rw [List.length_append]; rfl
        generalize l.take l.length ++ [x] = P1 at *
        generalize l.take l.length = P at *
        generalize l.drop l.length = D at *
        have HOI := Lib.hid hOI; have HEF := Lib.hid hEF; have HEB := Lib.hid hEB; have HPL := Lib.hid hPl; have HDL := Lib.hid hDl; have HP1 := Lib.hid hP1; have HP1L := Lib.hid hP1l
        clear hOI hEF hEB hPl hDl hP1 hP1l
        have hc2 : l.length ≤ l.length := by omega
        go_wp2_with (at_builtin; refine app_es (some ⟨b, o, none⟩) l.length [] P _ _ rfl rfl rfl w3.heap.size (by simp) (own_entsB w3 (Nat.le_refl _)) l.length HPL.out.symm rfl (HEF.out.kept ((Kept.refl _).alloc _)) (by rw [HPL.out]; simp; omega) ?_)
        intro v1 w7 ho7 hg7
        have k7 : Kept w3 w7 := Below.grown ((Kept.refl w3).alloc (.cells #[] 51)) hg7 (by simp) (fun b hb => by cases hb; exact Nat.le_refl _)
        have ho7' : w7.ownsRow w3.heap.size 51 4 v1 P.length (elc P) := ho7
        have HO7 := Lib.hid ho7'; have K7 := Lib.hid k7
        have HLB := Lib.hid (fun b hb => (ho7'.lt b hb).1)
        have HK7 := Lib.hid (kept_trans HKw3.out k7)
        have hs7 := Below.size k7
        clear k7 ho7 ho7' hg7
        clear y0 y1 y2 y3 hbx
        have rz := (Below.block HK7.out _ (mheap_lt HZ.out)).trans HZ.out
        have y0 := mcell (v := .string (bs x.key)) rz 0 rfl; have y1 := mcell (v := .int .u64 (x.seq : Nat)) rz 1 rfl; have y2 := mcell (v := .bool x.del) rz 2 rfl; have y3 := mcell (v := .string (bs x.val)) rz 3 rfl
        have hbx := mheap_lt rz
        clear rz
        have hle : P.length ≤ 3000 := by rw [HPL.out]; omega
        obtain ⟨A7, c7, e7⟩ := own_slice HO7.out
        subst e7
        have hown := HO7.out
        go_wp2_with (at_builtin; refine wpList_append_own _ rfl _ _ 46 rfl w3.heap.size 51 i0 zentV 4 48 Try.underlying46 HI.out HZ0.out HZ1.out HZ2.out rfl (by decide) _ P.length (elc P) rfl (hown.alloc _) ⟨w7.heap.size, 0, none⟩ 1 1 [.string (bs x.key), .int .u64 (x.seq : Nat), .bool x.del, .string (bs x.val)] rfl rfl (mcells_new4 _ _ _ _ _ _ _ rfl) (by simp [Value.oneCell']) (by unfold maxLen; omega) (by omega) (by simp; omega) ?_)
        intro v2 w8 ho8 hg8 _
        have k8 : Kept w3 w8 := Below.grown (K7.out.alloc (.cells #[.string (bs x.key), .int .u64 (x.seq : Nat), .bool x.del, .string (bs x.val)] 51)) hg8 (by simp; omega) HLB.out
        have ho8' : w8.ownsRow w3.heap.size 51 4 v2 P1.length (elc P1) := by rw [HP1L.out, HP1.out]; exact ho8
        have HO8 := Lib.hid ho8'; have K8 := Lib.hid k8
        have HLB8 := Lib.hid (fun b hb => (ho8'.lt b hb).1)
        have hs8 := Below.size k8
        clear k8 ho8 ho8' hg8 hown
        obtain ⟨A8, c8, e8⟩ := own_slice HO8.out
        subst e8
        go_wp2_with (at_builtin; refine app_es (some ⟨b, o, none⟩) 0 P1 D _ _ rfl rfl rfl w3.heap.size hs8 HO8.out 0 HDL.out rfl (HEB.out.kept K8.out) (by rw [HP1L.out, HPL.out, ← HDL.out]; omega) ?_)
        intro v3 w9 ho9 hg9
        have k9 : Kept w3 w9 := Below.grown K8.out hg9 hs8 HLB8.out
        have ho9' : w9.ownsRow w3.heap.size 51 4 v3 I.length (elc I) := by rw [HOI.out, List.length_append]; exact ho9
        obtain ⟨A9, c9, rfl, _, hel9⟩ := els_own ho9'
        have HK9 := Lib.hid (kept_trans (kept_trans K1.out HKw3.out) k9)
        have HE9 := Lib.hid hel9
        clear ho9 ho9' hg9 k9 hel9
        go_wp2_with fail
        go_ret
        exact ⟨_, _, rfl, HE9.out.els, HE9.out.cap, HE9.out.most, HK9.out⟩
      · have hck2 : l.length < c := by omega
        have hOI := HM.out l.length (by omega) HA.out HMS.out
        have hEF := (HE.out.kept (kept_trans K1.out HKw3.out)).front l.length
        have hEB : Els w3 (some ⟨b, o + l.length * 4, none⟩) (l.drop l.length) := by rw [List.drop_length]; exact fun j x hx => by simp at hx
        have hPl : (l.take l.length).length = l.length := by rw [List.length_take]; omega
        have hDl : 0 = (l.drop l.length).length := by rw [List.length_drop]; omega
        have hP1 : elc (l.take l.length ++ [x]) = elc (l.take l.length) ++ [.string (bs x.key), .int .u64 (x.seq : Nat), .bool x.del, .string (bs x.val)] := by rw [elc_app]; simp [elc, ecs]
        have hP1l : (l.take l.length ++ [x]).length = (l.take l.length).length + 1 := by rw [List.length_append]; rfl
        generalize l.take l.length ++ [x] = P1 at *
        generalize l.take l.length = P at *
        generalize l.drop l.length = D at *
        have HOI := Lib.hid hOI; have HEF := Lib.hid hEF; have HEB := Lib.hid hEB; have HPL := Lib.hid hPl; have HDL := Lib.hid hDl; have HP1 := Lib.hid hP1; have HP1L := Lib.hid hP1l
        clear hOI hEF hEB hPl hDl hP1 hP1l
        have hc2 : l.length ≤ c := by omega
        go_wp2_with (at_builtin; refine app_es (some ⟨b, o, none⟩) c [] P _ _ rfl rfl rfl w3.heap.size (by simp) (own_entsB w3 (Nat.le_refl _)) l.length HPL.out.symm rfl (HEF.out.kept ((Kept.refl _).alloc _)) (by rw [HPL.out]; simp; omega) ?_)
        intro v1 w7 ho7 hg7
        have k7 : Kept w3 w7 := Below.grown ((Kept.refl w3).alloc (.cells #[] 51)) hg7 (by simp) (fun b hb => by cases hb; exact Nat.le_refl _)
        have ho7' : w7.ownsRow w3.heap.size 51 4 v1 P.length (elc P) := ho7
        have HO7 := Lib.hid ho7'; have K7 := Lib.hid k7
        have HLB := Lib.hid (fun b hb => (ho7'.lt b hb).1)
        have HK7 := Lib.hid (kept_trans HKw3.out k7)
        have hs7 := Below.size k7
        clear k7 ho7 ho7' hg7
        clear y0 y1 y2 y3 hbx
        have rz := (Below.block HK7.out _ (mheap_lt HZ.out)).trans HZ.out
        have y0 := mcell (v := .string (bs x.key)) rz 0 rfl; have y1 := mcell (v := .int .u64 (x.seq : Nat)) rz 1 rfl; have y2 := mcell (v := .bool x.del) rz 2 rfl; have y3 := mcell (v := .string (bs x.val)) rz 3 rfl
        have hbx := mheap_lt rz
        clear rz
        have hle : P.length ≤ 3000 := by rw [HPL.out]; omega
        obtain ⟨A7, c7, e7⟩ := own_slice HO7.out
        subst e7
        have hown := HO7.out
        go_wp2_with (at_builtin; refine wpList_append_own _ rfl _ _ 46 rfl w3.heap.size 51 i0 zentV 4 48 Try.underlying46 HI.out HZ0.out HZ1.out HZ2.out rfl (by decide) _ P.length (elc P) rfl (hown.alloc _) ⟨w7.heap.size, 0, none⟩ 1 1 [.string (bs x.key), .int .u64 (x.seq : Nat), .bool x.del, .string (bs x.val)] rfl rfl (mcells_new4 _ _ _ _ _ _ _ rfl) (by simp [Value.oneCell']) (by unfold maxLen; omega) (by omega) (by simp; omega) ?_)
        intro v2 w8 ho8 hg8 _
        have k8 : Kept w3 w8 := Below.grown (K7.out.alloc (.cells #[.string (bs x.key), .int .u64 (x.seq : Nat), .bool x.del, .string (bs x.val)] 51)) hg8 (by simp; omega) HLB.out
        have ho8' : w8.ownsRow w3.heap.size 51 4 v2 P1.length (elc P1) := by rw [HP1L.out, HP1.out]; exact ho8
        have HO8 := Lib.hid ho8'; have K8 := Lib.hid k8
        have HLB8 := Lib.hid (fun b hb => (ho8'.lt b hb).1)
        have hs8 := Below.size k8
        clear k8 ho8 ho8' hg8 hown
        obtain ⟨A8, c8, e8⟩ := own_slice HO8.out
        subst e8
        go_wp2_with (at_builtin; refine app_es (some ⟨b, o + l.length * 4, none⟩) (c - l.length) P1 D _ _ rfl rfl rfl w3.heap.size hs8 HO8.out 0 HDL.out rfl (HEB.out.kept K8.out) (by rw [HP1L.out, HPL.out, ← HDL.out]; omega) ?_)
        intro v3 w9 ho9 hg9
        have k9 : Kept w3 w9 := Below.grown K8.out hg9 hs8 HLB8.out
        have ho9' : w9.ownsRow w3.heap.size 51 4 v3 I.length (elc I) := by rw [HOI.out, List.length_append]; exact ho9
        obtain ⟨A9, c9, rfl, _, hel9⟩ := els_own ho9'
        have HK9 := Lib.hid (kept_trans (kept_trans K1.out HKw3.out) k9)
        have HE9 := Lib.hid hel9
        clear ho9 ho9' hg9 k9 hel9
        go_wp2_with fail
        go_ret
        exact ⟨_, _, rfl, HE9.out.els, HE9.out.cap, HE9.out.most, HK9.out⟩
end Go.Proofs.Ytpbhbgoaaephgaa
