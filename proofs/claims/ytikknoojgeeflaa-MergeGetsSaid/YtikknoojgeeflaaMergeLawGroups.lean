/-
  The walk of screelaw08.MergeGroups.
-/
import Derived.Test.YtikknoojgeeflaaMergeLawNewest
namespace Go.Proofs.Ytikknoojgeeflaa
open Go.ChangeShapes Go.WideShapes Go.ChangeAt Go.RowKit
set_option linter.unusedVariables false
set_option maxRecDepth 100000
set_option maxHeartbeats 4000000

theorem tog_two (rows : List (List Mm.Ent)) (k : Nat) : Mg.tog [Mg.tog (rows.take k), Mg.tog (rows.drop k)] = Mg.tog rows := by
  refine (Mg.tog_uniq (Mg.tog_row rows) fun a b => ?_).symm
  rw [Mg.tog_look, show [Mg.tog (rows.take k), Mg.tog (rows.drop k)].flatten = Mg.tog (rows.take k) ++ Mg.tog (rows.drop k) by simp, Mg.look_app, Mg.tog_look, Mg.tog_look, ← Mg.look_app, ← List.flatten_append, List.take_append_drop]
theorem tog_one (rows : List (List Mm.Ent)) : Mg.tog [Mg.tog rows] = Mg.tog rows := by
  refine (Mg.tog_uniq (Mg.tog_row rows) fun a b => ?_).symm
  rw [show [Mg.tog rows].flatten = Mg.tog rows by simp]
theorem all_of {rows : List (List Mm.Ent)} (h : rows.all Mg.row = true) : Mg.allS rows = Mg.tog rows ∧ Mg.allC rows = 0 := allS_yes (fun r hr => List.all_eq_true.1 h r hr)
theorem all_not {rows : List (List Mm.Ent)} (h : rows.all Mg.row = false) : Mg.allS rows = [] ∧ Mg.allC rows = 2 := by
  unfold Mg.allS Mg.allC; rw [h]; exact ⟨rfl, rfl⟩
theorem tog_isrow (rows : List (List Mm.Ent)) : Mg.row (Mg.tog rows) = true := Mg.row_iff.2 (Mg.tog_row rows)
theorem flat_take {rows : List (List Mm.Ent)} (k : Nat) : (rows.take k).flatten.length + (rows.drop k).flatten.length = rows.flatten.length := by
  rw [← List.length_append, ← List.flatten_append, List.take_append_drop]
theorem rws_take {w : World} {A : Option Addr} {rs : List Rs} (h : Rws w A rs) (k : Nat) : Rws w A (rs.take k) :=
  ⟨fun j r hr => (by
    rw [List.getElem?_take] at hr
    split at hr
    · exact h.at_ j r hr
    · cases hr), fun r hr => h.els r (List.mem_of_mem_take hr), fun r hr => h.few r (List.mem_of_mem_take hr), fun r hr => h.cap r (List.mem_of_mem_take hr), fun r hr => h.most r (List.mem_of_mem_take hr)⟩
theorem rws_drop {w : World} {b o : Nat} {rs : List Rs} (h : Rws w (some ⟨b, o, none⟩) rs) (k : Nat) : Rws w (some ⟨b, o + k, none⟩) (rs.drop k) :=
  ⟨fun j r hr => (by
    rw [List.getElem?_drop] at hr
    obtain ⟨b', o', e, hb, hc⟩ := h.at_ (k + j) r hr
    cases e
    exact ⟨b, o + k, rfl, hb, by rw [Nat.add_assoc]; exact hc⟩), fun r hr => h.els r (List.mem_of_mem_drop hr), fun r hr => h.few r (List.mem_of_mem_drop hr), fun r hr => h.cap r (List.mem_of_mem_drop hr), fun r hr => h.most r (List.mem_of_mem_drop hr)⟩
theorem rws_nil (w : World) (A : Option Addr) : Rws w A [] := ⟨fun j r hr => by simp at hr, fun r hr => by simp at hr, fun r hr => by simp at hr, fun r hr => by simp at hr, fun r hr => by simp at hr⟩
theorem gall_n {w : World} {A : Option Addr} {rs : List Rs} (cr n : Nat) (H : Rws w A rs) (hn : rs.length ≤ 30) (hs : (rs.map Rs.l).flatten.length ≤ 300) (he : rs.length = n) :
    Calls Try.prog 30 #[.slice A n cr] w fun e w' => ∃ B c, e = .returned (.tuple #[.slice B (Mg.allS (rs.map Rs.l)).length c, .int .i64 (Mg.allC (rs.map Rs.l))]) ∧ Elr w.heap.size w' B c (Mg.allS (rs.map Rs.l)) ∧ Kept w w' := by
  subst he
  exact gall_any cr H (by omega) (by omega)
theorem MergeGroups_walk (A : Option Addr) (cap : Nat) (rs : List Rs) (a1 : Int) {w : World} (ha : Rwx w A rs) (hl : rs.length ≤ cap ∧ cap ≤ maxLen) (h1 : (Lit.int .u8 a1).wf = true) :
    Calls Try.prog 5 #[.slice A rs.length cap, .int .u8 a1] w fun e w' => e = .returned (.bool true) ∧ Kept w w' := by
  have b1 := bounds_u8 h1
  have HX := Lib.hid ha
  have hlm := hl.2
  have HC := Lib.hid hl.1
  have HL0 := Lib.hid (fun w1 (g : Kept w w1) => glarge_any cap (ha.kept g) (Nat.le_trans hl.1 hl.2))
  unfold maxLen at hlm
  have hlc := hl.1
  clear h1 ha hl
  go_enter Try.func5, Try.ntmps5
  go_wp2_with fail
  refine (gmawake_any w).mono ?_
  rintro e w1 ⟨rfl, g1⟩
  have HL := Lib.hid (HL0.out w1 g1)
  have G1 := Lib.hid g1
  clear g1
  go_wp2_with fail
  refine HL.out.mono ?_
  rintro e w2 ⟨B, rfl, g2, hB⟩
  have G := Lib.hid (kept_trans G1.out g2)
  clear g2 HL HL0
  cases B with
  | true =>
    go_wp2_with fail
    go_ret
    exact ⟨rfl, G.out⟩
  | false =>
    obtain ⟨h30, h300⟩ := hB rfl
    have HRW := Lib.hid ((HX.out.kept G.out).rws h300)
    have H300 := Lib.hid h300
    clear hB h300
    have HALL := Lib.hid (gall_any cap HRW.out (by omega) (by have := H300.out; omega))
    cases hv : (rs.map Rs.l).all Mg.row with
    | false =>
      rw [(all_not hv).1, (all_not hv).2] at HALL
      clear hv
      go_wp2_with fail
      refine HALL.out.mono ?_
      rintro e w3 ⟨B, c, rfl, _, g3⟩
      go_wp2_with fail
      go_ret
      exact ⟨rfl, kept_trans G.out g3⟩
    | true =>
      rw [(all_of hv).1, (all_of hv).2] at HALL
      have hV := List.all_eq_true.1 hv
      clear hv
      obtain ⟨m, rfl⟩ : ∃ m : Nat, a1 = (m : Int) := ⟨a1.toNat, by omega⟩
      obtain ⟨k, hk⟩ : ∃ k, k = m % (rs.length + 1) := ⟨_, rfl⟩
      have hkl : k ≤ rs.length := by have := Nat.mod_lt m (show 0 < rs.length + 1 by omega); omega
      have e1 : (m : Int) % ((rs.length : Int) + 1) = (k : Int) := by rw [hk]; simp
      have e2 : (m : Int).tmod ((rs.length : Int) + 1) = (k : Int) := by rw [Int.tmod_eq_emod_of_nonneg (by omega)]; exact e1
      have hkc : k ≤ cap := by omega
      clear hk
      have hfl := flat_take (rows := rs.map Rs.l) k
      have h300 := H300.out
      have HT := Lib.hid (show ∀ W, Kept w2 W → Calls Try.prog 30 #[.slice A k cap] W fun e w' => ∃ B c, e = .returned (.tuple #[.slice B (Mg.tog ((rs.map Rs.l).take k)).length c, .int .i64 0]) ∧ Elr W.heap.size w' B c (Mg.tog ((rs.map Rs.l).take k)) ∧ Kept W w' from fun W K => by
        have := gall_n cap k (rws_take (HRW.out.kept K) k) (by rw [List.length_take]; omega) (by rw [List.map_take]; omega) (by rw [List.length_take]; omega)
        rw [List.map_take, (all_of (List.all_eq_true.2 fun r hr => hV r (List.mem_of_mem_take hr))).1, (all_of (List.all_eq_true.2 fun r hr => hV r (List.mem_of_mem_take hr))).2] at this
        exact this)
      have HD := Lib.hid (show ∀ W (A' : Option Addr) cd, Rws W A' (rs.drop k) → Calls Try.prog 30 #[.slice A' (rs.length - k) cd] W fun e w' => ∃ B c, e = .returned (.tuple #[.slice B (Mg.tog ((rs.map Rs.l).drop k)).length c, .int .i64 0]) ∧ Elr W.heap.size w' B c (Mg.tog ((rs.map Rs.l).drop k)) ∧ Kept W w' from fun W A' cd H => by
        have := gall_n cd (rs.length - k) H (by rw [List.length_drop]; omega) (by rw [List.map_drop]; omega) (by rw [List.length_drop])
        rw [List.map_drop, (all_of (List.all_eq_true.2 fun r hr => hV r (List.mem_of_mem_drop hr))).1, (all_of (List.all_eq_true.2 fun r hr => hV r (List.mem_of_mem_drop hr))).2] at this
        exact this)
      have q3 : (Mg.tog (rs.map Rs.l)).length ≤ 300 := Nat.le_trans (Mg.tog_len _) h300
      have q45 : (Mg.tog ((rs.map Rs.l).take k)).length + (Mg.tog ((rs.map Rs.l).drop k)).length ≤ 300 := by have h1 := Mg.tog_len ((rs.map Rs.l).take k); have h2 := Mg.tog_len ((rs.map Rs.l).drop k); omega
      have TW := Lib.hid (tog_two (rs.map Rs.l) k)
      have TO := Lib.hid (tog_one (rs.map Rs.l))
      have R3 := Lib.hid (tog_isrow (rs.map Rs.l)); have R4 := Lib.hid (tog_isrow ((rs.map Rs.l).take k)); have R5 := Lib.hid (tog_isrow ((rs.map Rs.l).drop k))
      clear hfl h300 hV H300
      generalize Mg.tog ((rs.map Rs.l).take k) = T4 at *
      generalize Mg.tog ((rs.map Rs.l).drop k) = T5 at *
      generalize Mg.tog (rs.map Rs.l) = T3 at *
      have HB := Lib.hid (show ∀ W p B4 c4 B5 c5, Els W B4 T4 → Els W B5 T5 → T4.length ≤ c4 → c4 ≤ maxLen → T5.length ≤ c5 → c5 ≤ maxLen → W.heap[p]? = some (.cells #[.slice B4 T4.length c4, .slice B5 T5.length c5] 28) → Calls Try.prog 30 #[.slice (some ⟨p, 0, none⟩) 2 2] W fun e w' => ∃ B c, e = .returned (.tuple #[.slice B T3.length c, .int .i64 0]) ∧ Elr W.heap.size w' B c T3 ∧ Kept W w' from fun W p B4 c4 B5 c5 h4 h5 l4 m4 l5 m5 hp => by
        have := gall_n 2 2 (rws_two (r := ⟨B4, c4, T4, 0⟩) (s := ⟨B5, c5, T5, 0⟩) hp h4 h5 (by show T4.length ≤ 4000; omega) (by show T5.length ≤ 4000; omega) l4 l5 m4 m5) (by show 2 ≤ 30; omega) (by show ([T4, T5].flatten).length ≤ 300; rw [List.flatten_cons, List.flatten_cons, List.length_append, List.length_append]; simp; omega) rfl
        rw [show (List.map Rs.l [⟨B4, c4, T4, 0⟩, ⟨B5, c5, T5, 0⟩] : List (List Mm.Ent)) = [T4, T5] from rfl, (all_of (rows := [T4, T5]) (by simp [R4.out, R5.out])).1, (all_of (rows := [T4, T5]) (by simp [R4.out, R5.out])).2, TW.out] at this
        exact this)
      have HON := Lib.hid (show ∀ W p B3 c3, Els W B3 T3 → T3.length ≤ c3 → c3 ≤ maxLen → W.heap[p]? = some (.cells #[.slice B3 T3.length c3] 28) → Calls Try.prog 30 #[.slice (some ⟨p, 0, none⟩) 1 1] W fun e w' => ∃ B c, e = .returned (.tuple #[.slice B T3.length c, .int .i64 0]) ∧ Elr W.heap.size w' B c T3 ∧ Kept W w' from fun W p B3 c3 h3 l3 m3 hp => by
        have := gall_n 1 1 (rws_one (r := ⟨B3, c3, T3, 0⟩) hp h3 (by show T3.length ≤ 4000; omega) l3 m3) (by show 1 ≤ 30; omega) (by show ([T3].flatten).length ≤ 300; rw [List.flatten_cons, List.length_append]; simp; omega) rfl
        rw [show (List.map Rs.l [⟨B3, c3, T3, 0⟩] : List (List Mm.Ent)) = [T3] from rfl, (all_of (rows := [T3]) (by simp [R3.out])).1, (all_of (rows := [T3]) (by simp [R3.out])).2, TO.out] at this
        exact this)
      have hnd : rs.length - k ≤ rs.length := by omega
      have HX2 := Lib.hid (fun W (K : Kept w2 W) => HRW.out.kept K)
      clear HRW HX R4 R5 TW TO
      have hnd : rs.length - k ≤ rs.length := by omega
      by_cases hkn : rs.length = k
      · have hdr : rs.drop k = [] := List.drop_eq_nil_of_le (by omega)
        have HDR := Lib.hid (show ∀ W A', Rws W A' (rs.drop k) from fun W A' => by rw [hdr]; exact rws_nil W A')
        clear hdr HX2
        generalize hn : rs.length = n at *
        subst hkn
        rw [Nat.sub_self] at HD
        cases A with
        | none =>
          go_wp2_with fail
          refine HALL.out.mono ?_
          rintro e w3 ⟨B, c, rfl, hel, g3⟩
          have HE := Lib.hid hel; have G3 := Lib.hid g3
          clear hel g3
          go_wp2_with fail
          refine (HT.out w3 G3.out).mono ?_
          rintro e w4 ⟨B4, c4, rfl, hel4, g4⟩
          have HE4 := Lib.hid hel4; have G4 := Lib.hid (kept_trans G3.out g4); have G4' := Lib.hid g4
          clear hel4 g4
          go_wp2_with fail
          refine (HD.out w4 _ _ (HDR.out w4 _)).mono ?_
          rintro e w5 ⟨B5, c5, rfl, hel5, g5⟩
          have HE5 := Lib.hid hel5; have G5 := Lib.hid g5
          clear hel5 g5
          have k6 : Kept w5 (w5.alloc (.cells #[.slice B4 T4.length c4, .slice B5 T5.length c5] 28)) := (Kept.refl _).alloc _
          have HB6 := Lib.hid (HB.out (w5.alloc (.cells #[.slice B4 T4.length c4, .slice B5 T5.length c5] 28)) w5.heap.size B4 c4 B5 c5 ((HE4.out.els.kept G5.out).kept k6) (HE5.out.els.kept k6) HE4.out.cap HE4.out.most HE5.out.cap HE5.out.most (malloc_new w5 _))
          have G6 := Lib.hid (kept_trans G4'.out (kept_trans G5.out k6))
          clear k6 HB
          go_wp2_with fail
          refine HB6.out.mono ?_
          rintro e w7 ⟨B7, c7, rfl, hel7, g7⟩
          have HE7 := Lib.hid hel7
          have G37 := Lib.hid (kept_trans G6.out g7)
          clear hel7 g7 HB6
          have k8 : Kept w7 (w7.alloc (.cells #[.slice B T3.length c] 28)) := (Kept.refl _).alloc _
          have HON8 := Lib.hid (HON.out (w7.alloc (.cells #[.slice B T3.length c] 28)) w7.heap.size B c ((HE.out.els.kept G37.out).kept k8) HE.out.cap HE.out.most (malloc_new w7 _))
          have G38 := Lib.hid (kept_trans G37.out k8)
          have HE8 := Lib.hid (HE7.out.els.kept k8)
          clear k8 HON
          go_wp2_with fail
          refine HON8.out.mono ?_
          rintro e w9 ⟨B9, c9, rfl, hel9, g9⟩
          have HE9 := Lib.hid hel9.els
          have HEW := Lib.hid (HE.out.els.kept (kept_trans G38.out g9))
          have HS1 := Lib.hid (msame_eq (c1 := c) (c2 := c7) HEW.out (HE8.out.kept g9) rfl rfl (by omega) rfl)
          have HK := Lib.hid (kept_trans G.out (kept_trans G3.out (kept_trans G38.out g9)))
          clear hel9 g9 HON8
          go_wp2_with fail
          refine HS1.out.mono ?_
          rintro e w10 ⟨rfl, g10⟩
          have HS3 := Lib.hid (msame_eq (c1 := c) (c2 := c9) (HEW.out.kept g10) (HE9.out.kept g10) rfl rfl (by omega) rfl)
          have G10 := Lib.hid g10
          clear g10
          go_wp2_with fail
          refine HS3.out.mono ?_
          rintro e w11 ⟨rfl, g11⟩
          have HR2 := grow_any B c T3 (by omega) w11 (HEW.out.kept (kept_trans G10.out g11))
          rw [R3.out] at HR2
          have HR3 := Lib.hid HR2
          have G11 := Lib.hid (kept_trans G10.out g11)
          clear g11 HR2
          go_wp2_with fail
          refine HR3.out.mono ?_
          rintro e w12 ⟨rfl, g12⟩
          go_wp2_with fail
          go_ret
          exact ⟨rfl, kept_trans HK.out (kept_trans G11.out g12)⟩
        | some ad =>
          by_cases hkc2 : n = cap
          · subst hkc2
            go_wp2_with fail
            refine HALL.out.mono ?_
            rintro e w3 ⟨B, c, rfl, hel, g3⟩
            have HE := Lib.hid hel; have G3 := Lib.hid g3
            clear hel g3
            go_wp2_with fail
            refine (HT.out w3 G3.out).mono ?_
            rintro e w4 ⟨B4, c4, rfl, hel4, g4⟩
            have HE4 := Lib.hid hel4; have G4 := Lib.hid (kept_trans G3.out g4); have G4' := Lib.hid g4
            clear hel4 g4
            go_wp2_with fail
            refine (HD.out w4 _ _ (HDR.out w4 _)).mono ?_
            rintro e w5 ⟨B5, c5, rfl, hel5, g5⟩
            have HE5 := Lib.hid hel5; have G5 := Lib.hid g5
            clear hel5 g5
            have k6 : Kept w5 (w5.alloc (.cells #[.slice B4 T4.length c4, .slice B5 T5.length c5] 28)) := (Kept.refl _).alloc _
            have HB6 := Lib.hid (HB.out (w5.alloc (.cells #[.slice B4 T4.length c4, .slice B5 T5.length c5] 28)) w5.heap.size B4 c4 B5 c5 ((HE4.out.els.kept G5.out).kept k6) (HE5.out.els.kept k6) HE4.out.cap HE4.out.most HE5.out.cap HE5.out.most (malloc_new w5 _))
            have G6 := Lib.hid (kept_trans G4'.out (kept_trans G5.out k6))
            clear k6 HB
            go_wp2_with fail
            refine HB6.out.mono ?_
            rintro e w7 ⟨B7, c7, rfl, hel7, g7⟩
            have HE7 := Lib.hid hel7
            have G37 := Lib.hid (kept_trans G6.out g7)
            clear hel7 g7 HB6
            have k8 : Kept w7 (w7.alloc (.cells #[.slice B T3.length c] 28)) := (Kept.refl _).alloc _
            have HON8 := Lib.hid (HON.out (w7.alloc (.cells #[.slice B T3.length c] 28)) w7.heap.size B c ((HE.out.els.kept G37.out).kept k8) HE.out.cap HE.out.most (malloc_new w7 _))
            have G38 := Lib.hid (kept_trans G37.out k8)
            have HE8 := Lib.hid (HE7.out.els.kept k8)
            clear k8 HON
            go_wp2_with fail
            refine HON8.out.mono ?_
            rintro e w9 ⟨B9, c9, rfl, hel9, g9⟩
            have HE9 := Lib.hid hel9.els
            have HEW := Lib.hid (HE.out.els.kept (kept_trans G38.out g9))
            have HS1 := Lib.hid (msame_eq (c1 := c) (c2 := c7) HEW.out (HE8.out.kept g9) rfl rfl (by omega) rfl)
            have HK := Lib.hid (kept_trans G.out (kept_trans G3.out (kept_trans G38.out g9)))
            clear hel9 g9 HON8
            go_wp2_with fail
            refine HS1.out.mono ?_
            rintro e w10 ⟨rfl, g10⟩
            have HS3 := Lib.hid (msame_eq (c1 := c) (c2 := c9) (HEW.out.kept g10) (HE9.out.kept g10) rfl rfl (by omega) rfl)
            have G10 := Lib.hid g10
            clear g10
            go_wp2_with fail
            refine HS3.out.mono ?_
            rintro e w11 ⟨rfl, g11⟩
            have HR2 := grow_any B c T3 (by omega) w11 (HEW.out.kept (kept_trans G10.out g11))
            rw [R3.out] at HR2
            have HR3 := Lib.hid HR2
            have G11 := Lib.hid (kept_trans G10.out g11)
            clear g11 HR2
            go_wp2_with fail
            refine HR3.out.mono ?_
            rintro e w12 ⟨rfl, g12⟩
            go_wp2_with fail
            go_ret
            exact ⟨rfl, kept_trans HK.out (kept_trans G11.out g12)⟩
          · have hlt : n < cap := by omega
            have i4 : ¬ cap = n := by omega
            go_wp2_with fail
            refine HALL.out.mono ?_
            rintro e w3 ⟨B, c, rfl, hel, g3⟩
            have HE := Lib.hid hel; have G3 := Lib.hid g3
            clear hel g3
            go_wp2_with fail
            refine (HT.out w3 G3.out).mono ?_
            rintro e w4 ⟨B4, c4, rfl, hel4, g4⟩
            have HE4 := Lib.hid hel4; have G4 := Lib.hid (kept_trans G3.out g4); have G4' := Lib.hid g4
            clear hel4 g4
            go_wp2_with fail
            refine (HD.out w4 _ _ (HDR.out w4 _)).mono ?_
            rintro e w5 ⟨B5, c5, rfl, hel5, g5⟩
            have HE5 := Lib.hid hel5; have G5 := Lib.hid g5
            clear hel5 g5
            have k6 : Kept w5 (w5.alloc (.cells #[.slice B4 T4.length c4, .slice B5 T5.length c5] 28)) := (Kept.refl _).alloc _
            have HB6 := Lib.hid (HB.out (w5.alloc (.cells #[.slice B4 T4.length c4, .slice B5 T5.length c5] 28)) w5.heap.size B4 c4 B5 c5 ((HE4.out.els.kept G5.out).kept k6) (HE5.out.els.kept k6) HE4.out.cap HE4.out.most HE5.out.cap HE5.out.most (malloc_new w5 _))
            have G6 := Lib.hid (kept_trans G4'.out (kept_trans G5.out k6))
            clear k6 HB
            go_wp2_with fail
            refine HB6.out.mono ?_
            rintro e w7 ⟨B7, c7, rfl, hel7, g7⟩
            have HE7 := Lib.hid hel7
            have G37 := Lib.hid (kept_trans G6.out g7)
            clear hel7 g7 HB6
            have k8 : Kept w7 (w7.alloc (.cells #[.slice B T3.length c] 28)) := (Kept.refl _).alloc _
            have HON8 := Lib.hid (HON.out (w7.alloc (.cells #[.slice B T3.length c] 28)) w7.heap.size B c ((HE.out.els.kept G37.out).kept k8) HE.out.cap HE.out.most (malloc_new w7 _))
            have G38 := Lib.hid (kept_trans G37.out k8)
            have HE8 := Lib.hid (HE7.out.els.kept k8)
            clear k8 HON
            go_wp2_with fail
            refine HON8.out.mono ?_
            rintro e w9 ⟨B9, c9, rfl, hel9, g9⟩
            have HE9 := Lib.hid hel9.els
            have HEW := Lib.hid (HE.out.els.kept (kept_trans G38.out g9))
            have HS1 := Lib.hid (msame_eq (c1 := c) (c2 := c7) HEW.out (HE8.out.kept g9) rfl rfl (by omega) rfl)
            have HK := Lib.hid (kept_trans G.out (kept_trans G3.out (kept_trans G38.out g9)))
            clear hel9 g9 HON8
            go_wp2_with fail
            refine HS1.out.mono ?_
            rintro e w10 ⟨rfl, g10⟩
            have HS3 := Lib.hid (msame_eq (c1 := c) (c2 := c9) (HEW.out.kept g10) (HE9.out.kept g10) rfl rfl (by omega) rfl)
            have G10 := Lib.hid g10
            clear g10
            go_wp2_with fail
            refine HS3.out.mono ?_
            rintro e w11 ⟨rfl, g11⟩
            have HR2 := grow_any B c T3 (by omega) w11 (HEW.out.kept (kept_trans G10.out g11))
            rw [R3.out] at HR2
            have HR3 := Lib.hid HR2
            have G11 := Lib.hid (kept_trans G10.out g11)
            clear g11 HR2
            go_wp2_with fail
            refine HR3.out.mono ?_
            rintro e w12 ⟨rfl, g12⟩
            go_wp2_with fail
            go_ret
            exact ⟨rfl, kept_trans HK.out (kept_trans G11.out g12)⟩
      · have hpos : 0 < rs.length := by omega
        obtain ⟨r0, hr0⟩ : ∃ r, rs[0]? = some r := ⟨_, List.getElem?_eq_getElem hpos⟩
        obtain ⟨b, o, rfl, hb, _⟩ := (HX2.out w2 (Kept.refl _)).at_ 0 r0 hr0
        have HDR := Lib.hid (fun W (K : Kept w2 W) => rws_drop (HX2.out W K) k)
        clear hr0 hb HX2
        generalize rs.length = n at *
        generalize hnk : n - k = nd at *
        have i1 : (k : Int) ≤ (n : Int) := by omega
        have i2 : k < cap := by omega
        have i3 : ¬ k = cap := by omega
        have i4 : ¬ cap = k := by omega
        go_wp2_with fail
        refine HALL.out.mono ?_
        rintro e w3 ⟨B, c, rfl, hel, g3⟩
        have HE := Lib.hid hel; have G3 := Lib.hid g3
        clear hel g3
        go_wp2_with fail
        refine (HT.out w3 G3.out).mono ?_
        rintro e w4 ⟨B4, c4, rfl, hel4, g4⟩
        have HE4 := Lib.hid hel4; have G4 := Lib.hid (kept_trans G3.out g4); have G4' := Lib.hid g4
        clear hel4 g4
        go_wp2_with fail
        refine (HD.out w4 _ _ (HDR.out w4 G4.out)).mono ?_
        rintro e w5 ⟨B5, c5, rfl, hel5, g5⟩
        have HE5 := Lib.hid hel5; have G5 := Lib.hid g5
        clear hel5 g5
        have k6 : Kept w5 (w5.alloc (.cells #[.slice B4 T4.length c4, .slice B5 T5.length c5] 28)) := (Kept.refl _).alloc _
        have HB6 := Lib.hid (HB.out (w5.alloc (.cells #[.slice B4 T4.length c4, .slice B5 T5.length c5] 28)) w5.heap.size B4 c4 B5 c5 ((HE4.out.els.kept G5.out).kept k6) (HE5.out.els.kept k6) HE4.out.cap HE4.out.most HE5.out.cap HE5.out.most (malloc_new w5 _))
        have G6 := Lib.hid (kept_trans G4'.out (kept_trans G5.out k6))
        clear k6 HB
        go_wp2_with fail
        refine HB6.out.mono ?_
        rintro e w7 ⟨B7, c7, rfl, hel7, g7⟩
        have HE7 := Lib.hid hel7
        have G37 := Lib.hid (kept_trans G6.out g7)
        clear hel7 g7 HB6
        have k8 : Kept w7 (w7.alloc (.cells #[.slice B T3.length c] 28)) := (Kept.refl _).alloc _
        have HON8 := Lib.hid (HON.out (w7.alloc (.cells #[.slice B T3.length c] 28)) w7.heap.size B c ((HE.out.els.kept G37.out).kept k8) HE.out.cap HE.out.most (malloc_new w7 _))
        have G38 := Lib.hid (kept_trans G37.out k8)
        have HE8 := Lib.hid (HE7.out.els.kept k8)
        clear k8 HON
        go_wp2_with fail
        refine HON8.out.mono ?_
        rintro e w9 ⟨B9, c9, rfl, hel9, g9⟩
        have HE9 := Lib.hid hel9.els
        have HEW := Lib.hid (HE.out.els.kept (kept_trans G38.out g9))
        have HS1 := Lib.hid (msame_eq (c1 := c) (c2 := c7) HEW.out (HE8.out.kept g9) rfl rfl (by omega) rfl)
        have HK := Lib.hid (kept_trans G.out (kept_trans G3.out (kept_trans G38.out g9)))
        clear hel9 g9 HON8
        go_wp2_with fail
        refine HS1.out.mono ?_
        rintro e w10 ⟨rfl, g10⟩
        have HS3 := Lib.hid (msame_eq (c1 := c) (c2 := c9) (HEW.out.kept g10) (HE9.out.kept g10) rfl rfl (by omega) rfl)
        have G10 := Lib.hid g10
        clear g10
        go_wp2_with fail
        refine HS3.out.mono ?_
        rintro e w11 ⟨rfl, g11⟩
        have HR2 := grow_any B c T3 (by omega) w11 (HEW.out.kept (kept_trans G10.out g11))
        rw [R3.out] at HR2
        have HR3 := Lib.hid HR2
        have G11 := Lib.hid (kept_trans G10.out g11)
        clear g11 HR2
        go_wp2_with fail
        refine HR3.out.mono ?_
        rintro e w12 ⟨rfl, g12⟩
        go_wp2_with fail
        go_ret
        exact ⟨rfl, kept_trans HK.out (kept_trans G11.out g12)⟩
end Go.Proofs.Ytikknoojgeeflaa
