/-
  The walk of screelaw06.WalTwo.
-/
import Derived.Test.YtlkcdcpdccmodaaGreatDoorWalLawTail
import Derived.Test.YtlkcdcpdccmodaaGreatDoorWalArgs
namespace Go.Proofs.YtlkcdcpdccmodaaGreatDoor
open Go.ChangeShapes Go.WideShapes Go.ChangeAt Go.RowKit
set_option linter.unusedVariables false
set_option maxRecDepth 100000
set_option maxHeartbeats 16000000

theorem tot_two (A B : List UInt8) : Fs.tot (Wl.two A B).files = A.length + B.length := by simp [Fs.tot, Wl.two]
section
variable {w W : World} {p : Nat} {m M : Fs.Dsk} {logs : List (Nat × Wl.Lg)} {rows : List (Value × List (List UInt8))}
theorem St.replayNone (h : St w p m logs rows W) {n : Nat} (hn : n ≤ 1099511627776) (hR : Fs.read m (Wl.nm n) = ([], 10)) :
    Calls Tryz.prog 28 #[.pointer (some ⟨p, 0, none⟩), .int .u64 n] W fun e w' => e = .returned (.tuple #[.slice none 0 0, .int .i64 10]) ∧ Kept W w' ∧ St w p m logs rows w' := by
  obtain ⟨K, G, h1, h2, h3, hd⟩ := h.disk
  exact (wreplay_none hd h.var hn hR).mono fun e w' ⟨he, k⟩ => ⟨he, k, h.kept k⟩
theorem St.numbers1 (h : St w p m logs rows W) {n : Nat} (hn : n ≤ 1099511627776) (hL : Fs.list m = [Wl.nm n]) :
    Calls Tryz.prog 30 #[.pointer (some ⟨p, 0, none⟩)] W fun e w' => ∃ b c, e = .returned (.slice (some ⟨b, 0, none⟩) 1 c) ∧ w'.cell? ⟨b, 0, none⟩ = some (.int .u64 n) ∧ Kept W w' ∧ St w p m logs rows w' := by
  obtain ⟨K, G, h1, h2, h3, hd⟩ := h.disk
  exact (wnumbers_one hd h.var hn hL).mono fun e w' ⟨b, c, he, hc, k⟩ => ⟨b, c, he, hc, k, h.kept k⟩
theorem St.remove {E : Int} (h : St w p m logs rows W) {n : Nat} (hn : n ≤ 1099511627776) (hp : m.pend.length < 1099511627776) (hM : Fs.remove m (Wl.nm n) = (M, E)) :
    Calls Tryz.prog 17 #[.pointer (some ⟨p, 0, none⟩), .int .u64 n] W fun e w' => e = .returned (.int .i64 E) ∧ St w p M logs rows w' :=
  h.op (fun K G hd => wremove_any hd h.var hn hp hM)
end
theorem WalTwo_walk (A : Option Addr) (cap : Nat) (l : List (List UInt8)) (FA : Option Addr) (fcap : Nat) (F : List Bool) {w : World} (ha : Txs w A l) (hl : l.length ≤ maxLen ∧ (∀ x ∈ l, x.length ≤ maxLen) ∧ l.length ≤ cap ∧ cap ≤ maxLen) (hf : Vls blV w FA F) (hF : F.length ≤ maxLen) (hv : Vars w) :
    Calls Tryz.prog 7 #[.slice A l.length cap, .slice FA F.length fcap] w fun e w' => e = .returned (.bool true) ∧ Kept w w' := by
  obtain ⟨hl1, hl2, hl3, hl4⟩ := hl
  unfold maxLen at hl1 hl4 hF
  have HX := Lib.hid hl2; clear hl2
  obtain ⟨i0, hi, hz0, hz1, hz2⟩ := info_parts ftInfo
  have HI := Lib.hid hi; have HZ0 := Lib.hid hz0; have HZ1 := Lib.hid hz1; have HZ2 := Lib.hid hz2
  clear hi hz0 hz1 hz2
  have H0 := Lib.hid (awake_of hv)
  have HV := Lib.hid hv
  go_enter Tryz.func7, Tryz.ntmps7
  go_wp2_with fail
  refine H0.out.mono ?_
  rintro e w1 ⟨rfl, k1⟩
  have H1 := Lib.hid (st_new w1 k1 HV.out)
  go_wp2_with fail
  refine H1.out.mono ?_
  rintro e w2 ⟨p, rfl, s2⟩
  have H2 := Lib.hid (s2.create (n := 5) (by decide) (by decide) (Wl.mkLog_new (by decide)))
  clear H0 H1 s2 k1
  go_wp2_with fail
  refine H2.out.mono ?_
  rintro e w3 ⟨la, rfl, s3⟩
  have H3 := Lib.hid (s3.create (n := 3) (by decide) (by decide) Wl.mkLog_two)
  clear H2 s3
  go_wp2_with fail
  refine H3.out.mono ?_
  rintro e w4 ⟨lb, rfl, s4⟩
  have s5 := s4.newRow.newRow
  simp only [World.size_alloc] at s5
  clear H3 s4
  go_wp2_with fail
  go_loopw [10, 11, 12] (fun xv yv t wr => ∃ (k : Nat) (X Y : List (List UInt8)), k ≤ l.length ∧ k ≤ 60 ∧ t = .int .i64 (k : Int) ∧ X.length + Y.length ≤ k ∧ Hid (Fr.Fit X) ∧ Hid (Fr.Fit Y) ∧ St w p (Wl.two (Fr.join X) (Fr.join Y)) [(la, ⟨5, (Fr.join X).length, false⟩), (lb, ⟨3, (Fr.join Y).length, false⟩)] [(yv, Y), (xv, X)] wr) (fun _ _ t _ => 60 - (intOf t).toNat)
  case atStart => exact ⟨0, [], [], by omega, by omega, rfl, by simp, Lib.hid Fr.fit_nil, Lib.hid Fr.fit_nil, s5⟩
  case round =>
    obtain ⟨k, X, Y, hk1, hk2, rfl, hwk, HFX, HFY, s⟩ := hrel
    clear s5
    have hjx := Fr.join_most X HFX.out
    have hjy := Fr.join_most Y HFY.out
    obtain ⟨xa, xc, rfl, _, _⟩ := s.rowTxs (v := u10) (l := X) (by simp)
    obtain ⟨ya, yc, rfl, _, _⟩ := s.rowTxs (v := u11) (l := Y) (by simp)
    by_cases hlt : k < l.length ∧ k < 60
    · obtain ⟨hlt, hlt2⟩ := hlt
      have hx : l[k]? = some l[k] := List.getElem?_eq_getElem hlt
      have hxm : l[k].length ≤ maxLen := HX.out _ (List.getElem_mem hlt)
      generalize l[k] = x at hx hxm
      obtain ⟨xb0, xo0, rfl, _, hxc⟩ := (s.txs ha) k x hx
      have i1 : (k : Int) < (l.length : Int) := by omega
      have i2 : (k : Int) < 60 := by omega
      by_cases hfk : k < F.length
      · have hz : F[k]? = some F[k] := List.getElem?_eq_getElem hfk
        generalize F[k] = z at hz
        obtain ⟨qb, qo, rfl, hqb, hqc⟩ := (hf.kept s.fin) k z hz
        unfold blV at hqc
        have i3 : (k : Int) < (F.length : Int) := by omega
        cases z with
        | true =>
          by_cases hx8 : x.length ≤ 8000
          · have hmk := (Fr.mk_lens x hx8).2
            have HA := Lib.hid (s.add (l1 := []) (l2 := [(lb, ⟨3, (Fr.join Y).length, false⟩)]) (show (5 : Nat) ≤ 1099511627776 by decide) rfl (by show (Fr.join X).length ≤ _; omega) x hx8 (by rw [tot_two]; omega) (Wl.lay_five (Fr.join X) (Fr.join Y) (Fr.mk x) (by omega)))
            go_wp2_with fail
            refine HA.out.mono ?_
            rintro e w5 ⟨rfl, s5⟩
            have s5' : St w p (Wl.two (Fr.join (X ++ [x])) (Fr.join Y)) [(la, ⟨5, (Fr.join (X ++ [x])).length, false⟩), (lb, ⟨3, (Fr.join Y).length, false⟩)] [(.slice ya Y.length yc, Y), (.slice xa X.length xc, X)] w5 := by rw [← after_more 5 X x]; rw [Fr.join_snoc]; exact s5
            have hs5 := s5'.keep.size
            obtain ⟨xb', xo', e', _, hxc5⟩ := (s5'.txs ha) k x hx
            cases e'
            obtain ⟨_, _, _, _, hr5⟩ := s5'.rowTxs (v := .slice xa X.length xc) (l := X) (by simp)
            clear s5 HA hxc s
            go_wp2_with (at_builtin; refine wpList_append_own_at _ rfl _ _ 49 rfl w.heap.size 9 i0 (.string ByteArray.empty) 1 16 Tryz.underlying49 HI.out HZ0.out HZ1.out HZ2.out rfl (by decide) (.slice xa X.length xc) X.length (txc X) rfl (hr5.alloc _) ⟨w5.heap.size, 0, none⟩ 1 1 [.string (bs x)] rfl rfl (cell_one_new _ _ _) (by simp [Value.oneCell']) (by unfold maxLen; omega) (by omega) (by simp; omega) ?_; intro v' w6 hown' hgrow hnil hloc)
            have hgw := (World.grownBy_alloc w5 (.cells #[.string (bs x)] 9) (Value.slice xa X.length xc).ownBlock).trans hgrow
            have s6 : St w p (Wl.two (Fr.join (X ++ [x])) (Fr.join Y)) [(la, ⟨5, (Fr.join (X ++ [x])).length, false⟩), (lb, ⟨3, (Fr.join Y).length, false⟩)] [(.slice ya Y.length yc, Y), (v', X ++ [x])] w6 := St.grow (r1 := [(.slice ya Y.length yc, Y)]) (r2 := []) s5' hgw (by rw [← txc_snoc]; simpa using hown') (loc_of hloc)
            exact ⟨⟨k + 1, (X ++ [x]), Y, by omega, by omega, by simp, by simp; omega, Lib.hid (fit_snoc HFX.out hx8), HFY, s6⟩, by simp [intOf]; omega⟩
          · have HA := Lib.hid (s.addLong (b := la) (lg := ⟨5, (Fr.join X).length, false⟩) (by simp) rfl x hxm (by omega))
            go_wp2_with fail
            refine HA.out.mono ?_
            rintro e w5 ⟨rfl, s5⟩
            clear HA hxc s
            go_wp2_with fail
            exact ⟨⟨k + 1, X, Y, by omega, by omega, by simp, by omega, HFX, HFY, s5⟩, by simp [intOf]; omega⟩
        | false =>
          by_cases hx8 : x.length ≤ 8000
          · have hmk := (Fr.mk_lens x hx8).2
            have HA := Lib.hid (s.add (l1 := [(la, ⟨5, (Fr.join X).length, false⟩)]) (l2 := []) (show (3 : Nat) ≤ 1099511627776 by decide) rfl (by show (Fr.join Y).length ≤ _; omega) x hx8 (by rw [tot_two]; omega) (Wl.lay_three (Fr.join X) (Fr.join Y) (Fr.mk x) (by omega)))
            go_wp2_with fail
            refine HA.out.mono ?_
            rintro e w5 ⟨rfl, s5⟩
            have s5' : St w p (Wl.two (Fr.join X) (Fr.join (Y ++ [x]))) [(la, ⟨5, (Fr.join X).length, false⟩), (lb, ⟨3, (Fr.join (Y ++ [x])).length, false⟩)] [(.slice ya Y.length yc, Y), (.slice xa X.length xc, X)] w5 := by rw [← after_more 3 Y x]; rw [Fr.join_snoc]; exact s5
            have hs5 := s5'.keep.size
            obtain ⟨xb', xo', e', _, hxc5⟩ := (s5'.txs ha) k x hx
            cases e'
            obtain ⟨_, _, _, _, hr5⟩ := s5'.rowTxs (v := .slice ya Y.length yc) (l := Y) (by simp)
            clear s5 HA hxc s
            go_wp2_with (at_builtin; refine wpList_append_own_at _ rfl _ _ 49 rfl w.heap.size 9 i0 (.string ByteArray.empty) 1 16 Tryz.underlying49 HI.out HZ0.out HZ1.out HZ2.out rfl (by decide) (.slice ya Y.length yc) Y.length (txc Y) rfl (hr5.alloc _) ⟨w5.heap.size, 0, none⟩ 1 1 [.string (bs x)] rfl rfl (cell_one_new _ _ _) (by simp [Value.oneCell']) (by unfold maxLen; omega) (by omega) (by simp; omega) ?_; intro v' w6 hown' hgrow hnil hloc)
            have hgw := (World.grownBy_alloc w5 (.cells #[.string (bs x)] 9) (Value.slice ya Y.length yc).ownBlock).trans hgrow
            have s6 : St w p (Wl.two (Fr.join X) (Fr.join (Y ++ [x]))) [(la, ⟨5, (Fr.join X).length, false⟩), (lb, ⟨3, (Fr.join (Y ++ [x])).length, false⟩)] [(v', Y ++ [x]), (.slice xa X.length xc, X)] w6 := St.grow (r1 := []) (r2 := [(.slice xa X.length xc, X)]) s5' hgw (by rw [← txc_snoc]; simpa using hown') (loc_of hloc)
            exact ⟨⟨k + 1, X, (Y ++ [x]), by omega, by omega, by simp, by simp; omega, HFX, Lib.hid (fit_snoc HFY.out hx8), s6⟩, by simp [intOf]; omega⟩
          · have HA := Lib.hid (s.addLong (b := lb) (lg := ⟨3, (Fr.join Y).length, false⟩) (by simp) rfl x hxm (by omega))
            go_wp2_with fail
            refine HA.out.mono ?_
            rintro e w5 ⟨rfl, s5⟩
            clear HA hxc s
            go_wp2_with fail
            exact ⟨⟨k + 1, X, Y, by omega, by omega, by simp, by omega, HFX, HFY, s5⟩, by simp [intOf]; omega⟩
      · have i3 : ¬ (k : Int) < (F.length : Int) := by omega
        by_cases hx8 : x.length ≤ 8000
        · have hmk := (Fr.mk_lens x hx8).2
          have HA := Lib.hid (s.add (l1 := [(la, ⟨5, (Fr.join X).length, false⟩)]) (l2 := []) (show (3 : Nat) ≤ 1099511627776 by decide) rfl (by show (Fr.join Y).length ≤ _; omega) x hx8 (by rw [tot_two]; omega) (Wl.lay_three (Fr.join X) (Fr.join Y) (Fr.mk x) (by omega)))
          go_wp2_with fail
          refine HA.out.mono ?_
          rintro e w5 ⟨rfl, s5⟩
          have s5' : St w p (Wl.two (Fr.join X) (Fr.join (Y ++ [x]))) [(la, ⟨5, (Fr.join X).length, false⟩), (lb, ⟨3, (Fr.join (Y ++ [x])).length, false⟩)] [(.slice ya Y.length yc, Y), (.slice xa X.length xc, X)] w5 := by rw [← after_more 3 Y x]; rw [Fr.join_snoc]; exact s5
          have hs5 := s5'.keep.size
          obtain ⟨xb', xo', e', _, hxc5⟩ := (s5'.txs ha) k x hx
          cases e'
          obtain ⟨_, _, _, _, hr5⟩ := s5'.rowTxs (v := .slice ya Y.length yc) (l := Y) (by simp)
          clear s5 HA hxc s
          go_wp2_with (at_builtin; refine wpList_append_own_at _ rfl _ _ 49 rfl w.heap.size 9 i0 (.string ByteArray.empty) 1 16 Tryz.underlying49 HI.out HZ0.out HZ1.out HZ2.out rfl (by decide) (.slice ya Y.length yc) Y.length (txc Y) rfl (hr5.alloc _) ⟨w5.heap.size, 0, none⟩ 1 1 [.string (bs x)] rfl rfl (cell_one_new _ _ _) (by simp [Value.oneCell']) (by unfold maxLen; omega) (by omega) (by simp; omega) ?_; intro v' w6 hown' hgrow hnil hloc)
          have hgw := (World.grownBy_alloc w5 (.cells #[.string (bs x)] 9) (Value.slice ya Y.length yc).ownBlock).trans hgrow
          have s6 : St w p (Wl.two (Fr.join X) (Fr.join (Y ++ [x]))) [(la, ⟨5, (Fr.join X).length, false⟩), (lb, ⟨3, (Fr.join (Y ++ [x])).length, false⟩)] [(v', Y ++ [x]), (.slice xa X.length xc, X)] w6 := St.grow (r1 := []) (r2 := [(.slice xa X.length xc, X)]) s5' hgw (by rw [← txc_snoc]; simpa using hown') (loc_of hloc)
          exact ⟨⟨k + 1, X, (Y ++ [x]), by omega, by omega, by simp, by simp; omega, HFX, Lib.hid (fit_snoc HFY.out hx8), s6⟩, by simp [intOf]; omega⟩
        · have HA := Lib.hid (s.addLong (b := lb) (lg := ⟨3, (Fr.join Y).length, false⟩) (by simp) rfl x hxm (by omega))
          go_wp2_with fail
          refine HA.out.mono ?_
          rintro e w5 ⟨rfl, s5⟩
          clear HA hxc s
          go_wp2_with fail
          exact ⟨⟨k + 1, X, Y, by omega, by omega, by simp, by omega, HFX, HFY, s5⟩, by simp [intOf]; omega⟩
    · obtain ⟨hcase⟩ : Nonempty (((k : Int) < (l.length : Int) ∧ ¬ (k : Int) < 60) ∨ ¬ (k : Int) < (l.length : Int)) := ⟨by omega⟩
      have HR := Lib.hid (s.replay (n := 5) (by decide) (Wl.read_five _ _) (by omega) (Fr.reads_join HFX.out))
      have hxl : X.length ≤ maxLen := by unfold maxLen; omega
      have hyl : Y.length ≤ maxLen := by unfold maxLen; omega
      have hyj : (Fr.join Y).length ≤ 16777216 := by omega
      have hxj : (Fr.join X).length ≤ 16777216 := by omega
      rcases hcase with ⟨h60, h61⟩ | h60
      all_goals
        go_wp2_with fail
        refine HR.out.mono ?_
        rintro e w5 ⟨PA, pc, rfl, pt, pl, k5, s5⟩
        have HR2 := Lib.hid (s5.replay (n := 3) (by decide) (Wl.read_three _ _) hyj (Fr.reads_join HFY.out))
        clear HR s
        go_wp2_with fail
        refine HR2.out.mono ?_
        rintro e w6 ⟨QA, qc, rfl, qt, ql, k6, s6⟩
        obtain ⟨_, _, e7, xt6, _⟩ := s6.rowTxs (v := .slice xa X.length xc) (l := X) (by simp)
        cases e7
        obtain ⟨_, _, e7, yt6, _⟩ := s6.rowTxs (v := .slice ya Y.length yc) (l := Y) (by simp)
        cases e7
        have ht := wtexts_any PA xa pc xc X X hxl hxl w6 (pt.kept k6) xt6
        rw [decide_eq_true rfl] at ht
        have HT := Lib.hid ht
        clear HR2 s5 k5 ht pt xt6
        go_wp2_with fail
        refine HT.out.mono ?_
        rintro e w7 ⟨rfl, k7⟩
        have ht := wtexts_any QA ya qc yc Y Y hyl hyl w7 (qt.kept k7) (yt6.kept k7)
        rw [decide_eq_true rfl] at ht
        have HT2 := Lib.hid ht
        have s7 := s6.kept k7
        clear HT ht qt yt6 s6 k6
        go_wp2_with fail
        refine HT2.out.mono ?_
        rintro e w8 ⟨rfl, k8⟩
        have s8 := s7.kept k8
        have HRM := Lib.hid (s8.remove (n := 3) (by decide) (show ([] : List Fs.Chg).length < 1099511627776 by decide) (Wl.remove_three _ _))
        clear HT2 s7 k7 k8
        go_wp2_with fail
        refine HRM.out.mono ?_
        rintro e w9 ⟨rfl, s9⟩
        have HR3 := Lib.hid (s9.replay (n := 5) (by decide) (Wl.read_rest5 _ _) hxj (Fr.reads_join HFX.out))
        clear HRM s8
        go_wp2_with fail
        refine HR3.out.mono ?_
        rintro e w10 ⟨PB, pd, rfl, pt, pl2, k10, s10⟩
        have HR4 := Lib.hid (s10.replayNone (n := 3) (by decide) (Wl.read_rest3 _ _))
        clear HR3 s9
        go_wp2_with fail
        refine HR4.out.mono ?_
        rintro e w11 ⟨rfl, k11, s11⟩
        have HNU := Lib.hid (s11.numbers1 (n := 5) (by decide) (Wl.list_rest _ _))
        clear HR4 s10
        go_wp2_with fail
        refine HNU.out.mono ?_
        rintro e w12 ⟨nb, nc, rfl, hnc, k12, s12⟩
        obtain ⟨_, _, e7, xt12, _⟩ := s12.rowTxs (v := .slice xa X.length xc) (l := X) (by simp)
        cases e7
        have ht := wtexts_any PB xa pd xc X X hxl hxl w12 ((pt.kept k11).kept k12) xt12
        rw [decide_eq_true rfl] at ht
        have HT3 := Lib.hid ht
        clear HNU ht pt xt12 s11 k10 k11 k12
        go_wp2_with fail
        refine HT3.out.mono ?_
        rintro e w13 ⟨rfl, k13⟩
        have hnc13 : w13.cell? ⟨nb, 0, none⟩ = some (.int .u64 5) := by rw [kept_cell k13 (cell_lt hnc)]; exact hnc
        clear HT3 hnc
        go_wp2_with fail
        go_ret
        exact ⟨rfl, kept_trans s12.fin k13⟩
end Go.Proofs.YtlkcdcpdccmodaaGreatDoor
