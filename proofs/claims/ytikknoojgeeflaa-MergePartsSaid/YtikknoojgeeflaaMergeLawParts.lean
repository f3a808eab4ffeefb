/-
  The walk of screelaw08.MergeParts.
-/
import Derived.Test.YtikknoojgeeflaaMergeLawNewest
import Derived.Test.YtikknoojgeeflaaMemRefAdd
import Derived.Maps.AppendAt
namespace Go.Proofs.Ytikknoojgeeflaa
open Go.ChangeShapes Go.WideShapes Go.ChangeAt Go.RowKit
set_option linter.unusedVariables false
set_option maxRecDepth 100000
set_option maxHeartbeats 4000000

theorem parts_app : ∀ {l : List Mm.Ent}, Mg.Rw l → ∀ {k : List UInt8}, k ≠ [] → Mg.between l [] k ++ Mg.between l k [] = l
  | [], _, k, _ => rfl
  | x :: l, h, k, hk => by
    obtain ⟨h1, h2⟩ := List.pairwise_cons.1 h
    have ih := parts_app h2 hk
    unfold Mg.between at *
    have e0 : ∀ y : Mm.Ent, Mg.inr [] k y = decide (y.key < k) := fun y => by
      unfold Mg.inr
      rw [decide_eq_false (show ¬ y.key < [] from List.not_lt_nil _), decide_eq_false hk]
      simp
    have e1 : ∀ y : Mm.Ent, Mg.inr k [] y = !decide (y.key < k) := fun y => by unfold Mg.inr; simp
    by_cases hx : x.key < k
    · rw [List.filter_cons_of_pos (by rw [e0]; exact decide_eq_true hx), List.filter_cons_of_neg (by rw [e1, decide_eq_true hx]; decide), List.cons_append, ih]
    · have hall : ∀ y ∈ x :: l, ¬ y.key < k := fun y hy hyk => by
        rcases List.mem_cons.1 hy with rfl | hy
        · exact hx hyk
        · rcases Mg.ab_iff.1 (h1 y hy) with e | ⟨e, _⟩
          · exact hx (Mm.lt_trans e hyk)
          · rw [← e] at hyk; exact hx hyk
      rw [List.filter_eq_nil_iff.2 (fun y hy => by rw [e0, decide_eq_false (hall y hy)]; decide), List.filter_eq_self.2 (fun y hy => by rw [e1, decide_eq_false (hall y hy)]; rfl)]
      rfl
theorem between_row {l : List Mm.Ent} (h : Mg.row l = true) (a b : List UInt8) : Mg.row (Mg.between l a b) = true := Mg.row_iff.2 ((Mg.row_iff.1 h).filter _)
theorem between_mem {l : List Mm.Ent} {a b : List UInt8} {x : Mm.Ent} (h : x ∈ Mg.between l a b) : ¬ x.key < a ∧ (b = [] ∨ x.key < b) := by
  have := (List.mem_filter.1 h).2
  unfold Mg.inr at this
  simpa using this
theorem between_len (l : List Mm.Ent) (a b : List UInt8) : (Mg.between l a b).length ≤ l.length := List.length_filter_le _ _
theorem run_append_owned_nil {P : Program} {w : World} (base : Nat) (t ty e : TypeId) (i : TypeInfo) (size : Nat) (ht : P.underlying t = some (.slice e)) (hi : P.info? e = some i)
    (v : Value) (n : Nat) (xs : List Value) (hown : w.ownsRow base e size v n xs) (c : Nat) :
    (Builtin.append_ #[t, t] ty #[v, .slice none 0 c]).run P w = .ok v w := by
  rcases hown.2 with ⟨rfl, rfl⟩ | ⟨g, cap, cur, rfl, _, _, hnc, _⟩
  · simp [Builtin.append_, run_underlying ht, sizeOf, typeInfo, hi, Builtin.lenOf, Builtin.firstCells]
  · simp [Builtin.append_, run_underlying ht, sizeOf, typeInfo, hi, Builtin.lenOf, Builtin.firstCells, hnc, storeCells]
theorem els_news {wr : World} {ad : Addr} {Y : List Mm.Ent} (hA : Els wr (some ad) Y) : ∀ j u, (elc Y)[j]? = some u → wr.cell? (ad.add j) = some u := fun j u hj => by
  have hjl := (List.getElem?_eq_some_iff.1 hj).1
  rw [elc_len] at hjl
  have hy : Y[j / 4]? = some Y[j / 4] := List.getElem?_eq_getElem (by omega)
  generalize Y[j / 4] = y at hy
  have hg := elc_get hy
  obtain ⟨b, o', e, hb, c0, c1, c2, c3⟩ := hA (j / 4) y hy
  cases e
  rw [madd_at]
  have hm : j % 4 = 0 ∨ j % 4 = 1 ∨ j % 4 = 2 ∨ j % 4 = 3 := by omega
  rcases hm with hm | hm | hm | hm
  · have e : j = j / 4 * 4 + 0 := by omega
    have g := hg 0 _ rfl
    rw [← e] at g
    rw [Nat.add_zero] at e
    rw [← e] at c0
    rw [c0]; rw [g] at hj; exact hj
  · have e : j = j / 4 * 4 + 1 := by omega
    have g := hg 1 _ rfl
    rw [← e] at g
    rw [Nat.add_assoc, ← e] at c1
    rw [c1]; rw [g] at hj; exact hj
  · have e : j = j / 4 * 4 + 2 := by omega
    have g := hg 2 _ rfl
    rw [← e] at g
    rw [Nat.add_assoc, ← e] at c2
    rw [c2]; rw [g] at hj; exact hj
  · have e : j = j / 4 * 4 + 3 := by omega
    have g := hg 3 _ rfl
    rw [← e] at g
    rw [Nat.add_assoc, ← e] at c3
    rw [c3]; rw [g] at hj; exact hj
/-- append of a list of entries that lies in memory (nil of whatever room), onto a row of the call's own, as an operation that may be guarded -/
theorem app_es {ops : Array Oper} {rest : List Oper} {o : Oper} {a : Act} {Q : Exit → Act → World → Prop} {wr : World} {v : Value} (A : Option Addr) (c : Nat) (X Y : List Mm.Ent) (s x : Operand)
    (hw : Region.wanted o (yielded ops a.tmps) = true) (ho : o.op = .call { callee := .builtin .append, args := #[s, x], argTypes := #[28, 28] })
    (hs : a.eval s = v) (Bs : Nat) (hsz : Bs ≤ wr.heap.size) (hown : wr.ownsRow Bs 34 4 v X.length (elc X)) (n : Nat) (hn : n = Y.length) (hx : a.eval x = .slice A n c) (hA : Els wr A Y) (hlen : X.length + Y.length ≤ 4000)
    (h : ∀ v' w1, w1.ownsRow Bs 34 4 v' (X ++ Y).length (elc (X ++ Y)) → wr.grownBy w1 v.ownBlock → wpList Try.prog ops Q rest (a.put o.dst v') w1) :
    wpList Try.prog ops Q (o :: rest) a wr := by
  obtain ⟨i0, hi, hz0, hz1, hz2⟩ := info_parts mentInfo
  subst hn
  refine wpList_step fun K hK => ?_
  rw [if_pos hw]
  cases A with
  | none =>
    have hl : Y = [] := by
      cases Y with
      | nil => rfl
      | cons y l => obtain ⟨b, o', e, _⟩ := hA 0 y rfl; cases e
    subst hl
    have hrun := run_append_owned_nil (P := Try.prog) (w := wr) Bs 28 o.type 34 i0 4 Try.underlying28 hi v X.length (elc X) hown c
    unfold Oper.wp
    simp [execOp, ho, resolve, invoke, builtin, hs, hx, hrun, Result.andThen]
    exact hK _ _ (h v wr (by rw [List.append_nil]; exact hown) ⟨rfl, rfl, rfl, Nat.le_refl _, fun _ _ _ => rfl⟩)
  | some ad =>
    obtain ⟨v', w', hr, h2, h3, _⟩ := run_append_own_at (P := Try.prog) (w := wr) Bs 28 o.type 34 i0 zentV 4 48 Try.underlying28 hi hz0 hz1 hz2 rfl (by decide) v X.length (elc X) hown ad Y.length c (elc Y) (elc_len Y) (els_news hA) (elc_one Y) (by unfold maxLen; omega) (by omega) hsz
    rw [← elc_app, ← List.length_append] at h2
    unfold Oper.wp execOp
    simp only [ho, resolve, invoke, builtin, Sem.run_bind, Sem.run_pure, Result.andThen_ok, List.map_toArray, List.map_cons, List.map_nil, hs, hx, hr]
    exact hK _ _ (h v' w' h2 h3)
theorem MergeParts_walk (A : Option Addr) (cap : Nat) (l : List Mm.Ent) (S1 S2 : ByteArray) {w : World} (ha : Els w A l) (hl : l.length ≤ cap ∧ cap ≤ maxLen ∧ OkE l) (h1 : S1.size ≤ maxLen) (h2 : S2.size ≤ maxLen) :
    Calls Try.prog 9 #[.slice A l.length cap, .string S1, .string S2] w fun e w' => e = .returned (.bool true) ∧ Kept w w' := by
  obtain ⟨k, rfl⟩ : ∃ k, S1 = bs k := ⟨S1.data.toList, (mbs_self S1).symm⟩
  obtain ⟨m, rfl⟩ : ∃ k, S2 = bs k := ⟨S2.data.toList, (mbs_self S2).symm⟩
  rw [mbs_size] at h1 h2
  unfold maxLen at h1 h2
  obtain ⟨hc, hm, ho⟩ := hl
  have HE := Lib.hid ha; have HO := Lib.hid ho; have HC := Lib.hid hc; have HM := Lib.hid hm
  have s1 := mbs_size k; have s2 := mbs_size m
  have t1 := mval_nil k
  clear ha ho hc hm
  go_enter Try.func9, Try.ntmps9
  go_wp2_with fail
  refine (gmawake_any w).mono ?_
  rintro e w1 ⟨rfl, g1⟩
  have k2 : Kept w1 (w1.alloc (.cells #[.slice A l.length cap] 28)) := (Kept.refl _).alloc _
  have HL := Lib.hid (show Calls Try.prog 29 #[.slice (some ⟨w1.heap.size, 0, none⟩) 1 1] (w1.alloc (.cells #[.slice A l.length cap] 28)) (LgOne (w1.alloc (.cells #[.slice A l.length cap] 28)) l) from glarge_one ((HE.out.kept g1).kept k2) HC.out HM.out HO.out (malloc_new w1 _))
  have G2 := Lib.hid (kept_trans g1 k2)
  clear g1 k2
  go_wp2_with fail
  refine HL.out.mono ?_
  rintro e w2 ⟨B, rfl, g2, hB⟩
  have G := Lib.hid (kept_trans G2.out g2)
  clear g2 HL
  cases B with
  | true =>
    clear s1 s2 t1
    go_wp2_with fail
    go_ret
    exact ⟨rfl, G.out⟩
  | false =>
    have h300 := hB rfl
    clear hB
    by_cases c1 : 300 < k.length
    · have d1 : decide ((300 : Int) < ((bs k).size : Int)) = true := by rw [s1]; simp; omega
      clear s1 s2 t1
      go_wp2_with fail
      go_ret
      exact ⟨rfl, G.out⟩
    · have d1 : decide ((300 : Int) < ((bs k).size : Int)) = false := by rw [s1]; simp; omega
      by_cases c2 : 300 < m.length
      · have d2 : decide ((300 : Int) < ((bs m).size : Int)) = true := by rw [s2]; simp; omega
        clear s1 s2 t1
        go_wp2_with fail
        go_ret
        exact ⟨rfl, G.out⟩
      · have d2 : decide ((300 : Int) < ((bs m).size : Int)) = false := by rw [s2]; simp; omega
        by_cases c3 : k = []
        · rw [decide_eq_true c3] at t1
          clear s1 s2 c3
          go_wp2_with fail
          go_ret
          exact ⟨rfl, G.out⟩
        · rw [decide_eq_false c3] at t1
          clear s1 s2
          have HP := Lib.hid c3
          clear c3
          have HB1 := Lib.hid (fun W (K : Kept w2 W) => gbetween_any cap ((HE.out.kept G.out).kept K) (by omega) [] k)
          have HB2 := Lib.hid (fun W (K : Kept w2 W) => gbetween_any cap ((HE.out.kept G.out).kept K) (by omega) k [])
          have HB3 := Lib.hid (fun W (K : Kept w2 W) => gbetween_any cap ((HE.out.kept G.out).kept K) (by omega) k m)
          have HRW := Lib.hid (fun W (K : Kept w2 W) => grow_any A cap l (by omega) W ((HE.out.kept G.out).kept K))
          have HEG := Lib.hid (HE.out.kept G.out)
          have en : bs [] = ⟨#[]⟩ := rfl
          rw [en] at HB1 HB2
          cases hv : Mg.row l with
          | false =>
            have n1 := rS_no (m := Mg.between l [] k) hv; have n2 := rS_no (m := Mg.between l k []) hv; have n3 := rS_no (m := Mg.between l k m) hv
            rw [n1.1, n1.2] at HB1; rw [n2.1, n2.2] at HB2; rw [n3.1, n3.2] at HB3
            rw [hv] at HRW
            clear n1 n2 n3 hv
            go_wp2_with fail
            refine (HB1.out w2 (Kept.refl _)).mono ?_
            rintro e w3 ⟨B3, c3, rfl, _, g3⟩
            have G3 := Lib.hid g3
            clear g3
            go_wp2_with fail
            refine (HB2.out w3 G3.out).mono ?_
            rintro e w4 ⟨B4, c4, rfl, _, g4⟩
            have G4 := Lib.hid (kept_trans G3.out g4)
            clear g4
            go_wp2_with fail
            refine (HB3.out w4 G4.out).mono ?_
            rintro e w5 ⟨B5, c5, rfl, _, g5⟩
            have G5 := Lib.hid (kept_trans G4.out g5)
            clear g5
            go_wp2_with fail
            refine (HRW.out w5 G5.out).mono ?_
            rintro e w6 ⟨rfl, g6⟩
            go_wp2_with fail
            go_ret
            exact ⟨rfl, kept_trans G.out (kept_trans G5.out g6)⟩
          | true =>
            have n1 := rS_yes (m := Mg.between l [] k) hv; have n2 := rS_yes (m := Mg.between l k []) hv; have n3 := rS_yes (m := Mg.between l k m) hv
            rw [n1.1, n1.2] at HB1; rw [n2.1, n2.2] at HB2; rw [n3.1, n3.2] at HB3
            have HPA := Lib.hid (parts_app (Mg.row_iff.1 hv) HP.out)
            have HCR := Lib.hid (between_row hv k m)
            have HCM := Lib.hid (fun x (hx : x ∈ Mg.between l k m) => between_mem hx)
            have q1 := between_len l [] k; have q2 := between_len l k []; have q3 := between_len l k m
            clear n1 n2 n3 hv HRW
            generalize Mg.between l [] k = U at *
            generalize Mg.between l k [] = V at *
            generalize Mg.between l k m = X at *
            go_wp2_with fail
            refine (HB1.out w2 (Kept.refl _)).mono ?_
            rintro e w3 ⟨B3, c3, rfl, hel3, g3⟩
            have G3 := Lib.hid g3; have HE3 := Lib.hid hel3
            clear g3 hel3
            go_wp2_with fail
            refine (HB2.out w3 G3.out).mono ?_
            rintro e w4 ⟨B4, c4, rfl, hel4, g4⟩
            have G4 := Lib.hid (kept_trans G3.out g4); have HE4 := Lib.hid hel4; have G34 := Lib.hid g4
            clear g4 hel4
            go_wp2_with fail
            refine (HB3.out w4 G4.out).mono ?_
            rintro e w5 ⟨B5, c5, rfl, hel5, g5⟩
            have G5 := Lib.hid (kept_trans G4.out g5); have HE5 := Lib.hid hel5; have G35 := Lib.hid (kept_trans G34.out g5); have G45 := Lib.hid g5
            clear g5 hel5 HB1 HB2 HB3
            have tm := mval_nil m
            go_wp2_with fail
            go_loopw [69] (fun t wr => ∃ i : Nat, i ≤ X.length ∧ t = .int .i64 (i : Nat) ∧ Hid (Kept w5 wr)) (fun t _ => X.length - (intOf t).toNat)
            case atStart => exact ⟨0, Nat.zero_le _, rfl, Lib.hid (Kept.refl _)⟩
            case round =>
              obtain ⟨i, hi, rfl, HK⟩ := hrel
              by_cases hlt : i < X.length
              · obtain ⟨x, hx⟩ : ∃ x, X[i]? = some x := ⟨_, List.getElem?_eq_getElem hlt⟩
                obtain ⟨p1, p2⟩ := HCM.out x (List.mem_of_getElem? hx)
                obtain ⟨b, o, rfl, hb, c0, _, _, _⟩ := (HE5.out.els.kept HK.out) i x hx
                have u1 := mbs_less x.key k
                have u2 := mbs_less x.key m
                rw [decide_eq_false p1] at u1
                clear hx p1
                by_cases hm0 : m = []
                · rw [decide_eq_true hm0] at tm
                  clear p2 hm0
                  go_wp2_with fail
                  go_roundw
                  case rel => exact ⟨i + 1, by omega, by go_num, HK⟩
                  case measure => simp [intOf]; omega
                · rw [decide_eq_false hm0] at tm
                  have p3 : x.key < m := by rcases p2 with h | h; · exact absurd h hm0
                                            · exact h
                  rw [decide_eq_true p3] at u2
                  clear p2 p3 hm0
                  go_wp2_with fail
                  go_roundw
                  case rel => exact ⟨i + 1, by omega, by go_num, HK⟩
                  case measure => simp [intOf]; omega
              · have e : i = X.length := by omega
                subst e
                clear tm
                have HEL3 := Lib.hid ((HE3.out.els.kept G35.out).kept HK.out)
                have HEL4 := Lib.hid ((HE4.out.els.kept G45.out).kept HK.out)
                have k6 : Kept wr (wr.alloc (.cells #[] 34)) := (Kept.refl _).alloc _
                go_wp2_with (at_builtin; refine app_es B3 c3 [] U _ _ rfl rfl rfl wr.heap.size (by simp) (own_entsB wr (Nat.le_refl _)) U.length rfl rfl (HEL3.out.kept ((Kept.refl _).alloc _)) (by simp; omega) ?_)
                intro v1 w7 ho7 hg7
                have k7 : Kept wr w7 := Below.grown k6 hg7 (by simp) (fun b hb => by cases hb; exact Nat.le_refl _)
                have ho7' : w7.ownsRow wr.heap.size 34 4 v1 U.length (elc U) := ho7
                have HO7 := Lib.hid ho7'
                have K7 := Lib.hid k7
                have HLB := Lib.hid (fun b hb => (ho7'.lt b hb).1)
                clear k6 k7 ho7 ho7' hg7
                go_wp2_with (at_builtin; refine app_es B4 c4 U V _ _ rfl rfl rfl wr.heap.size (Below.size K7.out) HO7.out V.length rfl rfl (HEL4.out.kept K7.out) (by omega) ?_)
                intro v2 w8 ho8 hg8
                have k8 : Kept wr w8 := Below.grown K7.out hg8 (Below.size K7.out) HLB.out
                rw [HPA.out] at ho8
                obtain ⟨A9, c9, rfl, _, hel9⟩ := els_own ho8
                have HS := Lib.hid (msame_eq (c1 := c9) (c2 := cap) hel9.els ((((HE.out.kept G.out).kept G5.out).kept HK.out).kept k8) rfl rfl (by omega) rfl)
                have K8 := Lib.hid k8
                clear ho8 hg8 k8 hel9
                go_wp2_with fail
                refine HS.out.mono ?_
                rintro e w9 ⟨rfl, g9⟩
                have hr9 := grow_any B5 c5 X (by omega) w9 (((HE5.out.els.kept HK.out).kept K8.out).kept g9)
                rw [HCR.out] at hr9
                have HR9 := Lib.hid hr9
                have G9 := Lib.hid g9
                clear hr9 g9
                go_wp2_with fail
                refine HR9.out.mono ?_
                rintro e w10 ⟨rfl, g10⟩
                go_wp2_with fail
                go_ret
                exact ⟨rfl, kept_trans G.out (kept_trans G5.out (kept_trans HK.out (kept_trans K8.out (kept_trans G9.out g10))))⟩
end Go.Proofs.Ytikknoojgeeflaa
