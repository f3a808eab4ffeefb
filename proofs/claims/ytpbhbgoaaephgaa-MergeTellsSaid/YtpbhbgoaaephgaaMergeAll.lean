/-
  Package merge over memory: All, rows together.
-/
import Derived.Test.YtpbhbgoaaephgaaMergeAllMath
import Derived.Laws.EntriesVeiled
namespace Go.Proofs.Ytpbhbgoaaephgaa
open Go.ChangeShapes Go.WideShapes Go.ChangeAt Go.RowKit
set_option linter.unusedVariables false
set_option maxRecDepth 100000
set_option maxHeartbeats 4000000

theorem elr_nil (n : Nat) (w : World) : Elr n w none 0 [] := ⟨fun j x hx => by simp at hx, fun b o e => (by cases e), by simp, by simp⟩
theorem own_ex {w w' : World} {B size n : Nat} {e : TypeId} {v : Value} {xs : List Value} {F : Nat → Prop} (h : w.ownsRow B e size v n xs) (E : Ex F w w') (hF : ∀ b, v.ownBlock = some b → ¬ F b) : w'.ownsRow B e size v n xs := by
  refine ⟨h.1, ?_⟩
  rcases h.2 with h0 | ⟨g, cap, cur, hv, hb, hh, hr⟩
  · exact .inl h0
  · exact .inr ⟨g, cap, cur, hv, hb, (E.block g (mheap_lt hh) (hF g (by rw [hv]; rfl))).trans hh, hr⟩
theorem rows_apart {w : World} {B B' size size' n n' : Nat} {e e' : TypeId} {v v' : Value} {xs xs' : List Value} (h : w.ownsRow B e size v n xs) (h' : w.ownsRow B' e' size' v' n' xs') (he : e ≠ e') : ∀ b, v.ownBlock = some b → v'.ownBlock ≠ some b := fun b hb => by
  rcases h.2 with ⟨e1, _⟩ | ⟨g, cap, cur, hv, hg, hh, _⟩
  · rw [e1] at hb; cases hb
  · rw [hv] at hb; cases hb
    exact row_ne_block h' hh he
theorem gall_any {w : World} {A : Option Addr} {rs : List Rs} (cr : Nat) (H : Rws w A rs) (hn : rs.length ≤ 1000) (hs : (rs.map Rs.l).flatten.length ≤ 4000) :
    Calls Try.prog 43 #[.slice A rs.length cr] w fun e w' => ∃ B c, e = .returned (.tuple #[.slice B (Mg.allS (rs.map Rs.l)).length c, .int .i64 (Mg.allC (rs.map Rs.l))]) ∧ Elr w.heap.size w' B c (Mg.allS (rs.map Rs.l)) ∧ Kept w w' := by
  have HR := Lib.hid H
  have HN := Lib.hid hn
  have HS := Lib.hid hs
  have g0 : Kept w (w.alloc (hpObj (.slice none 0 0))) := (Kept.refl w).alloc _
  have hq0 : Hq (w.alloc (hpObj (.slice none 0 0))) w.heap.size w.heap.size (.slice none 0 0) [] :=
    ⟨malloc_new w _, World.ownsRow_nil _ _ _ _, fun r hr => by simp at hr, fun r hr => by simp at hr, by simp⟩
  unfold hpObj at g0 hq0
  have G0 := Lib.hid g0; have HQ0 := Lib.hid hq0
  clear H hs g0 hq0
  go_enter Try.func43, Try.ntmps43
  go_wp2_with fail
  go_loopw [12] (fun t wr => ∃ (i : Nat) (V : Value) (R' : List Rs), i ≤ rs.length ∧ t = .int .i64 (i : Nat) ∧ Hid (∀ r ∈ rs.take i, Mg.row r.l = true) ∧ Hid (Hq wr w.heap.size w.heap.size V R') ∧ Hid (Hp.Is rsn R') ∧ Hid (R'.Perm (itsF (rs.take i) 0)) ∧ Hid (Kept w wr)) (fun t _ => rs.length - (intOf t).toNat)
  case atStart => exact ⟨0, _, [], Nat.zero_le _, rfl, Lib.hid (fun r hr => by simp at hr), HQ0, Lib.hid (fun j x y _ hx => by simp at hx), Lib.hid (List.Perm.refl _), G0⟩
  case round =>
    obtain ⟨i, V, R', hi, rfl, HA, HQ, HI, HP, HK⟩ := hrel
    by_cases hlt : i < rs.length
    · obtain ⟨r, hr⟩ : ∃ r, rs[i]? = some r := ⟨_, List.getElem?_eq_getElem hlt⟩
      have hm := List.mem_of_getElem? hr
      obtain ⟨b, o, rfl, hb, c0⟩ := (HR.out.kept HK.out).at_ i r hr
      have hrow := grow_any r.A r.c r.l (HR.out.few r hm) wr ((HR.out.els r hm).kept HK.out)
      have HRI := Lib.hid hr
      have hfew := HR.out.few r hm
      cases hv : Mg.row r.l with
      | false =>
        have HNO := Lib.hid (allS_no (rows := rs.map Rs.l) (i := i) (r := r.l) (by rw [List.getElem?_map, hr]; rfl) hv)
        rw [hv] at hrow
        have HRW := Lib.hid hrow
        clear hrow hv hm hr
        go_wp2_with fail
        refine HRW.out.mono ?_
        rintro e w1 ⟨rfl, k1⟩
        go_wp2_with fail
        go_ret2
        exact ⟨none, 0, by rw [HNO.out.1, HNO.out.2]; rfl, by rw [HNO.out.1]; exact elr_nil _ _, kept_trans HK.out k1⟩
      | true =>
        rw [hv] at hrow
        have HRW := Lib.hid hrow
        have HV := Lib.hid hv
        have HM := Lib.hid hm
        clear hrow hv hm hr
        go_wp2_with fail
        refine HRW.out.mono ?_
        rintro e w1 ⟨rfl, k1⟩
        have K1 := Lib.hid k1
        clear k1
        have HA' := Lib.hid (show ∀ q ∈ rs.take (i + 1), Mg.row q.l = true from fun q hq => by
          rw [List.take_add_one, HRI.out, List.mem_append] at hq
          rcases hq with hq | hq
          · exact HA.out q hq
          · simp at hq; rw [hq]; exact HV.out)
        have HK1 := Lib.hid (kept_trans HK.out K1.out)
        by_cases hl0 : r.l.length = 0
        · have hre : r.l = [] := List.eq_nil_of_length_eq_zero hl0
          have HRE := Lib.hid hre
          have HP' := Lib.hid (show R'.Perm (itsF (rs.take (i + 1)) 0) by rw [itsF_step HRI.out, if_pos hre, List.append_nil]; exact HP.out)
          clear hre
          go_wp2_with fail
          go_roundw
          case rel => exact ⟨i + 1, V, R', by omega, by go_num, HA', Lib.hid (HQ.out.kept K1.out), HI, HP', HK1⟩
          case measure => simp [intOf]; omega
        · have hre : r.l ≠ [] := fun e => hl0 (by rw [e]; rfl)
          have hpos : 0 < r.l.length := Nat.pos_of_ne_zero hl0
          have hok : Rs.ok w1 ⟨r.A, r.c, r.l, i⟩ := ⟨((HR.out.els r HM.out).kept HK1.out), hpos, hfew, HR.out.cap r HM.out, HR.out.most r HM.out, by show i ≤ 4000; omega⟩
          have hrl : R'.length < 4000 := by
            have h1 := HP.out.length_eq
            have h2 := itsF_len (rs.take i) 0
            rw [List.length_take] at h2
            omega
          have hpu := gpush_any (HQ.out.kept K1.out) HI.out (Below.size HK1.out) (Nat.le_refl _) ⟨r.A, r.c, r.l, i⟩ hok (els_block (HR.out.els r HM.out) hre) hrl
          unfold rsV at hpu
          have HPU := Lib.hid hpu
          have HPS := Lib.hid (itsF_step HRI.out)
          have HRE := Lib.hid hre
          have d1 : decide ((0 : Int) < (r.l.length : Int)) = true := decide_eq_true (by omega)
          clear hpu hok hrl hre
          go_wp2_with fail
          refine HPU.out.mono ?_
          rintro e w2 ⟨⟨v, rfl⟩, V', R2, h2, i2, p2, x2⟩
          have H2 := Lib.hid h2; have I2 := Lib.hid i2; have P2 := Lib.hid p2; have X2 := Lib.hid x2
          have hq := HQ.out.own
          have HK2 := Lib.hid (kept_ex HK1.out x2 (fun b hb => by rcases hb with hb | hb; · omega
                                                                  · exact (hq.lt b hb).1))
          have HP' := Lib.hid (show R2.Perm (itsF (rs.take (i + 1)) 0) by
            rw [HPS.out, if_neg HRE.out]
            exact p2.trans ((HP.out.cons _).trans (List.perm_append_comm (l₁ := [_]))))
          clear h2 i2 p2 x2 hq
          go_wp2_with fail
          go_roundw
          case rel => exact ⟨i + 1, V', R2, by omega, by go_num, HA', H2, I2, HP', HK2⟩
          case measure => simp [intOf]; omega
    · have e : i = rs.length := by omega
      subst e
      rw [List.take_length] at HA HP
      have HYES := Lib.hid (allS_yes (rows := rs.map Rs.l) (fun l hl => by obtain ⟨r, hr, rfl⟩ := List.mem_map.1 hl; exact HA.out r hr))
      go_wp2_with fail
      have HLEN := Lib.hid (show R'.length ≤ rs.length by have h1 := HP.out.length_eq; have h2 := itsF_len rs 0; omega)
      go_loopg [7] (rs.map Rs.l).flatten.length (fun k v wr => ∃ (V : Value) (R' : List Rs) (L : List Mm.Ent) (rem : List (List Mm.Ent)), k = rem.flatten.length ∧ Hid (wr.ownsRow w.heap.size 51 4 v L.length (elc L)) ∧ Hid (Hq wr w.heap.size w.heap.size V R') ∧ Hid (Hp.Is rsn R') ∧ Hid (R'.length ≤ rs.length) ∧ Hid (Jt rem R') ∧ Hid (Mg.Jn (rs.map Rs.l) L rem) ∧ Hid (L.length + rem.flatten.length ≤ 4000) ∧ Hid (Kept w wr))
      case atStart => exact ⟨V, R', [], rs.map Rs.l, rfl, Lib.hid (World.ownsRow_nil _ _ _ _), HQ, HI, HLEN, Lib.hid ((Jt.start rs).perm HP.out.symm), Lib.hid (Mg.Jn.start (fun l hl => by obtain ⟨r, hr, rfl⟩ := List.mem_map.1 hl; exact Mg.row_iff.1 (HA.out r hr))), Lib.hid (by simpa using HS.out), HK⟩
      case round =>
        obtain ⟨V, R', L, rem, hk, HO, HQ, HI, HL', HJ, HJN, HTOT, HK⟩ := hrel
        have HEM := Lib.hid (gempty_any HQ.out)
        go_wp2_with fail
        refine HEM.out.mono ?_
        rintro e w1 ⟨rfl, rfl⟩
        by_cases hR : R' = []
        · subst hR
          have hL := HJN.out.done HJ.out.done
          have HLT := Lib.hid hL
          have dR : decide (([] : List Rs) = []) = true := rfl
          obtain ⟨B, c, e1, _, hel⟩ := els_own HO.out
          have HEL := Lib.hid hel
          subst e1
          clear hL hel
          go_wp2_with fail
          go_ret2
          refine ⟨B, c, ?_, ?_, HK.out⟩
          · rw [HYES.out.1, HYES.out.2, ← HLT.out]; rfl
          · rw [HYES.out.1, ← HLT.out]; exact HEL.out
        · have dR : decide (R' = []) = false := decide_eq_false hR
          have hpos : 0 < R'.length := List.length_pos_iff.2 hR
          have HPO := Lib.hid (gpop_any HQ.out HI.out hpos (Below.size HK.out) (Nat.le_refl _))
          clear hpos hR
          go_wp2_with fail
          refine HPO.out.mono ?_
          rintro e w2 ⟨x, R2, V2, rfl, p2, m2, h2, i2, x2, v2⟩
          have P2 := Lib.hid p2; have M2 := Lib.hid m2; have H2 := Lib.hid h2; have I2 := Lib.hid i2; have X2 := Lib.hid x2
          have hxm := p2.mem_iff.1 List.mem_cons_self
          have hq := HQ.out.own
          have hF : ∀ b, (b = w.heap.size ∨ V.ownBlock = some b) → w.heap.size ≤ b := fun b hb => by
            rcases hb with hb | hb
            · omega
            · exact (hq.lt b hb).1
          have HK2 := Lib.hid (kept_ex HK.out x2 hF)
          have hxok := (HQ.out.each x hxm).low (HQ.out.low x hxm) (x2.below (Below.size HK.out) hF) (Below.size HK.out)
          have HXO := Lib.hid hxok
          have HXL := Lib.hid (HQ.out.low x hxm)
          have HO2 := Lib.hid (own_ex HO.out x2 (fun b hb hb2 => by
            rcases hb2 with hb2 | hb2
            · rw [hb2] at hb; exact row_ne_block HO.out HQ.out.blk (by decide) hb
            · exact rows_apart HO.out HQ.out.own (by decide) b hb hb2))
          obtain ⟨y, t, hxl⟩ : ∃ y t, x.l = y :: t := by
            cases hl : x.l with
            | nil => have := hxok.pos; rw [hl] at this; simp at this
            | cons y t => exact ⟨y, t, rfl⟩
          obtain ⟨b, o, hA, hb, c0, c1, c2, c3⟩ := hxok.els 0 y (by rw [hxl]; rfl)
          have hcap := hxok.cap; have hmost := hxok.most; have hfew := hxok.few; have hplace := hxok.place
          rw [Nat.zero_mul, Nat.add_zero] at c0 c1 c2 c3
          rw [hxl] at hcap hfew
          rw [List.length_cons] at hcap hfew
          have HXV := Lib.hid hxl; have HXA := Lib.hid hA
          unfold rsV
          rw [hA, hxl, List.length_cons]
          clear p2 m2 h2 i2 x2 hxm hq hF hxok hxl hA
          go_wp2_with fail
          have k3 : Kept w2 (w2.alloc (.cells #[.slice (some ⟨b, o, none⟩) (t.length + 1) x.c, .int .i64 (x.p : Nat)] 95)) := (Kept.refl w2).alloc _
          have rb3 := malloc_new w2 (.cells #[.slice (some ⟨b, o, none⟩) (t.length + 1) x.c, .int .i64 (x.p : Nat)] 95)
          generalize w2.alloc (.cells #[.slice (some ⟨b, o, none⟩) (t.length + 1) x.c, .int .i64 (x.p : Nat)] 95) = w3 at *
          have HNX := Lib.hid (gnext_any (rown_kept HO2.out k3) y (by have := HTOT.out; omega) (Nat.le_trans (Below.size HK2.out) (Below.size k3)))
          unfold entV at HNX
          refine HNX.out.mono ?_
          rintro e w4 ⟨v4, rfl, ho4, x4⟩
          have hF : ∀ q, u7.ownBlock = some q → w.heap.size ≤ q := fun q hq => (HO2.out.lt q hq).1
          have rb4 := (x4.block _ (mheap_lt rb3) (fun e => by have := (HO2.out.lt _ e).2; omega)).trans rb3
          have h4 := (H2.out.kept k3).ex x4 (row_ne_block HO2.out H2.out.blk (by decide)) (fun q hq => rows_apart H2.out.own HO2.out (by decide) q hq) (Nat.le_trans (Below.size HK2.out) (Below.size k3)) hF
          have hk3 := kept_trans HK2.out k3
          have HK4 := Lib.hid (kept_ex hk3 x4 hF)
          have HX4 := Lib.hid ((HXO.out.kept k3).low HXL.out (x4.below (Below.size hk3) hF) (Below.size hk3))
          have HO4 := Lib.hid ho4; have H4 := Lib.hid h4
          have q0 := mcell (v := .slice (some ⟨b, o, none⟩) (t.length + 1) x.c) rb4 0 rfl
          have q1 := mcell (v := .int .i64 (x.p : Nat)) rb4 1 rfl
          have RB4 := Lib.hid rb4
          have hp := HJ.out.perm P2.out.symm
          have hpx := hp.fwd x List.mem_cons_self
          rw [HXV.out] at hpx
          have hstep := HJN.out.step hpx (fun q y' u hq => by have := hp.min M2.out q y' u hq; have hd : x.hd = y := by unfold Rs.hd; rw [HXV.out]; rfl
                                                              rw [hd] at this; exact this)
          have HSTEP := Lib.hid hstep
          have HJS := Lib.hid (hp.step HXV.out)
          have HFL := Lib.hid (flat_set hpx)
          have HTO2 := Lib.hid (show (Mg.wn L y).length + (rem.set x.p t).flatten.length ≤ 4000 by have := HFL.out; have := HTOT.out; have := Mg.wn_len L y; omega)
          have HRL := Lib.hid (show R2.length + 1 ≤ rs.length by have h1 := P2.out.length_eq; have h2 := HL'.out; rw [List.length_cons] at h1; omega)
          clear k3 rb3 ho4 x4 hF rb4 h4 hk3 hp hpx hstep c0 c1 c2 c3
          by_cases ht : t.length = 0
          · have hte : t = [] := List.eq_nil_of_length_eq_zero ht
            have d1 : decide ((1 : Int) < ((t.length + 1 : Nat) : Int)) = false := decide_eq_false (by omega)
            have HJ2 := Lib.hid (HJS.out.1 hte)
            have HT0 := Lib.hid hte
            clear hte
            generalize hN : t.length + 1 = N at *
            go_wp2_with fail
            go_roundg (rem.set x.p t).flatten.length
            case measure => have := HFL.out; omega
            case rel => exact ⟨V2, R2, Mg.wn L y, rem.set x.p t, rfl, HO4, H4, I2, Lib.hid (by have := HRL.out; omega), HJ2, HSTEP, HTO2, HK4⟩
          · have d1 : decide ((1 : Int) < ((t.length + 1 : Nat) : Int)) = true := decide_eq_true (by omega)
            have htp : 0 < t.length := Nat.pos_of_ne_zero ht
            have hx4 : Rs.ok w4.drew ⟨some ⟨b, o + 4, none⟩, x.c - 1, t, x.p⟩ := Rs.ok.kept ⟨els_tail (by have := HX4.out.els; rw [HXA.out, HXV.out] at this; exact this), htp, by show t.length ≤ 4000; omega, by show t.length ≤ x.c - 1; omega, by show x.c - 1 ≤ maxLen; omega, hplace⟩ (kept_drewN w4 1)
            have hpu := gpush_any (H4.out.kept (kept_drewN w4 1)) I2.out (Nat.le_trans (Below.size HK4.out) (Below.size (kept_drewN w4 1))) (Nat.le_refl _) ⟨some ⟨b, o + 4, none⟩, x.c - 1, t, x.p⟩ hx4 (fun b' o' e => by cases e; exact HXL.out b o HXA.out) (by have := HRL.out; omega)
            unfold rsV at hpu
            have HPU := Lib.hid hpu
            have HJ2 := Lib.hid (HJS.out.2 ⟨some ⟨b, o + 4, none⟩, x.c - 1, t, x.p⟩ rfl rfl)
            have hbx := mheap_lt RB4.out
            have HBX := Lib.hid hbx
            clear hx4 hpu hbx
            go_wp2_with fail
            go_region_with (go_at_call 66; refine HPU.out.mono ?_; rintro e w5 ⟨⟨v5, rfl⟩, V5, R5, h5, i5, p5, x5⟩)
            all_goals
              have hF5 : ∀ q, (q = w.heap.size ∨ V2.ownBlock = some q) → w.heap.size ≤ q := fun q hq => by
                rcases hq with hq | hq
                · omega
                · exact (H4.out.own.lt q hq).1
              have H5 := Lib.hid h5; have I5 := Lib.hid i5
              have HK5 := Lib.hid (kept_ex (kept_trans HK4.out (kept_drewN w4 1)) x5 hF5)
              have HO5 := Lib.hid (own_ex (rown_kept HO4.out (kept_drewN w4 1)) x5 (fun q hq hq2 => by
                rcases hq2 with hq2 | hq2
                · rw [hq2] at hq; exact row_ne_block HO4.out H4.out.blk (by decide) hq
                · exact rows_apart HO4.out H4.out.own (by decide) q hq hq2))
              have HJ5 := Lib.hid (HJ2.out.perm p5.symm)
              have HL5 := Lib.hid (show R5.length ≤ rs.length by have h1 := p5.length_eq; have h2 := HRL.out; rw [List.length_cons] at h1; omega)
              clear h5 i5 p5 x5 hF5
              go_wp2_with fail
              go_roundg (rem.set x.p t).flatten.length
              case measure => have := HFL.out; omega
              case rel => exact ⟨V5, R5, Mg.wn L y, rem.set x.p t, rfl, HO5, H5, I5, HL5, HJ5, HSTEP, HTO2, HK5⟩
end Go.Proofs.Ytpbhbgoaaephgaa
