/-
  The walk of screelaw06.WalTail.
-/
import Derived.Test.YtlkcdcpdccmodaaGreatDoorWalState
namespace Go.Proofs.YtlkcdcpdccmodaaGreatDoor
open Go.ChangeShapes Go.WideShapes Go.ChangeAt Go.RowKit
set_option linter.unusedVariables false
set_option maxRecDepth 100000
set_option maxHeartbeats 4000000

theorem fit_snoc {l : List (List UInt8)} {x : List UInt8} (h : Fr.Fit l) (hx : x.length ≤ 8000) : Fr.Fit (l ++ [x]) := Fr.fit_app.2 ⟨h, fun t ht => by simp at ht; subst ht; exact hx⟩
theorem awake_of {w : World} (hv : Vars w) : Calls Tryz.prog 9 #[] w fun e w' => e = .returned (.bool true) ∧ Kept w w' := wawake_any w hv
/-- one more text, on a disk of one log that burns not -/
theorem lay_more {n : Nat} {l : List (List UInt8)} {x : List UInt8} {q : Int} (hq : ((Fr.join l).length : Int) + (Fr.mk x).length ≤ q) : Wl.lay (Wl.one n (Fr.join l) (Fr.join l).length q (-1) false) n (Fr.mk x) = (Wl.one n (Fr.join (l ++ [x])) (Fr.join (l ++ [x])).length q (-1) false, 0) := by
  rw [Wl.lay_off, if_neg (by omega), Fr.join_snoc]
theorem after_more (n : Nat) (l : List (List UInt8)) (x : List UInt8) : Wl.after ⟨n, (Fr.join l).length, false⟩ (Fr.mk x).length 0 = ⟨n, (Fr.join (l ++ [x])).length, false⟩ := by
  rw [Fr.join_snoc]; simp [Wl.after]
theorem tot_one (n : Nat) (B : List UInt8) (s : Nat) (q f : Int) (d : Bool) : Fs.tot (Wl.one n B s q f d).files = B.length := by simp [Fs.tot, Wl.one]

theorem WalTail_walk (A : Option Addr) (cap : Nat) (l : List (List UInt8)) (S : ByteArray) {w : World} (ha : Txs w A l) (hl : l.length ≤ maxLen ∧ (∀ x ∈ l, x.length ≤ maxLen) ∧ l.length ≤ cap ∧ cap ≤ maxLen) (hS : S.size ≤ maxLen) (hv : Vars w) :
    Calls Tryz.prog 8 #[.slice A l.length cap, .string S] w fun e w' => e = .returned (.bool true) ∧ Kept w w' := by
  obtain ⟨hl1, hl2, hl3, hl4⟩ := hl
  unfold maxLen at hl1 hl4 hS
  have HX := Lib.hid hl2; clear hl2
  obtain ⟨i0, hi, hz0, hz1, hz2⟩ := info_parts ftInfo
  have HI := Lib.hid hi; have HZ0 := Lib.hid hz0; have HZ1 := Lib.hid hz1; have HZ2 := Lib.hid hz2
  clear hi hz0 hz1 hz2
  have H0 := Lib.hid (awake_of hv)
  have HV := Lib.hid hv
  by_cases hbig : 8100 < S.size
  · have hb1 : (8100 : Int) < (S.size : Int) := by omega
    go_enter Tryz.func8, Tryz.ntmps8
    go_wp2_with fail
    refine H0.out.mono ?_
    rintro e w1 ⟨rfl, k1⟩
    go_wp2_with fail
    go_ret
    exact ⟨rfl, k1⟩
  have hb1 : ¬ (8100 : Int) < (S.size : Int) := by omega
  go_enter Tryz.func8, Tryz.ntmps8
  go_wp2_with fail
  refine H0.out.mono ?_
  rintro e w1 ⟨rfl, k1⟩
  have H1 := Lib.hid (st_new w1 k1 HV.out)
  go_wp2_with fail
  refine H1.out.mono ?_
  rintro e w2 ⟨p, rfl, s2⟩
  have H2 := Lib.hid (s2.create (n := 1) (by decide) (by decide) (Wl.mkLog_new (by decide)))
  clear H0 H1 s2 k1
  go_wp2_with fail
  refine H2.out.mono ?_
  rintro e w3 ⟨b, rfl, s3⟩
  have s4 := s3.newRow
  clear H2 s3
  go_wp2_with fail
  go_loopw [8, 9] (fun v t wr => ∃ (k : Nat) (want : List (List UInt8)), k ≤ l.length ∧ k ≤ 60 ∧ t = .int .i64 (k : Int) ∧ want.length ≤ k ∧ Hid (Fr.Fit want) ∧ St w p (Wl.one 1 (Fr.join want) (Fr.join want).length 1048576 (-1) false) [(b, ⟨1, (Fr.join want).length, false⟩)] [(v, want)] wr) (fun _ t _ => 60 - (intOf t).toNat)
  case atStart => exact ⟨0, [], by omega, by omega, rfl, by simp, Lib.hid Fr.fit_nil, s4⟩
  case round =>
    obtain ⟨k, want, hk1, hk2, rfl, hwk, HF, s⟩ := hrel
    clear s4
    have hjl := Fr.join_most want HF.out
    by_cases hlt : k < l.length ∧ k < 60
    · obtain ⟨hlt, hlt2⟩ := hlt
      have hx : l[k]? = some l[k] := List.getElem?_eq_getElem hlt
      have hxm : l[k].length ≤ maxLen := HX.out _ (List.getElem_mem hlt)
      generalize l[k] = x at hx hxm
      obtain ⟨xb, xo, rfl, hxb, hxc⟩ := (s.txs ha) k x hx
      have i1 : (k : Int) < (l.length : Int) := by omega
      have i2 : (k : Int) < 60 := by omega
      obtain ⟨va, vc, rfl, hvt, _⟩ := s.rowTxs (v := u8) (l := want) (by simp)
      by_cases hx8 : x.length ≤ 8000
      · have hmk := (Fr.mk_lens x hx8).2
        have HA := Lib.hid (s.add (l1 := []) (l2 := []) (show (1 : Nat) ≤ 1099511627776 by decide) rfl (by show (Fr.join want).length ≤ _; omega) x hx8 (by rw [tot_one]; omega) (lay_more (by omega)))
        go_wp2_with fail
        refine HA.out.mono ?_
        rintro e w5 ⟨rfl, s5⟩
        have s5' : St w p (Wl.one 1 (Fr.join (want ++ [x])) (Fr.join (want ++ [x])).length 1048576 (-1) false) [(b, ⟨1, (Fr.join (want ++ [x])).length, false⟩)] [(.slice va want.length vc, want)] w5 := by rw [← after_more]; exact s5
        have hs5 := s5'.keep.size
        obtain ⟨xb', xo', e', _, hxc5⟩ := (s5'.txs ha) k x hx
        cases e'
        obtain ⟨_, _, _, _, hr5⟩ := s5'.rowTxs (v := .slice va want.length vc) (l := want) (by simp)
        clear s5 HA hxc s hvt
        go_wp2_with (at_builtin; refine wpList_append_own_at _ rfl _ _ 49 rfl w.heap.size 9 i0 (.string ByteArray.empty) 1 16 Tryz.underlying49 HI.out HZ0.out HZ1.out HZ2.out rfl (by decide) (.slice va want.length vc) want.length (txc want) rfl (hr5.alloc _) ⟨w5.heap.size, 0, none⟩ 1 1 [.string (bs x)] rfl rfl (cell_one_new _ _ _) (by simp [Value.oneCell']) (by unfold maxLen; omega) (by omega) (by simp; omega) ?_; intro v' w6 hown' hgrow hnil hloc; have hgw := (World.grownBy_alloc w5 (.cells #[.string (bs x)] 9) (Value.slice va want.length vc).ownBlock).trans hgrow)
        refine ⟨⟨k + 1, want ++ [x], by omega, by omega, by simp, by simp; omega, Lib.hid (fit_snoc HF.out hx8), St.grow (r1 := []) (r2 := []) s5' hgw ?_ (loc_of hloc)⟩, by simp [intOf]; omega⟩
        rw [← txc_snoc]; simpa using hown'
      · have HA := Lib.hid (s.addLong (b := b) (lg := ⟨1, (Fr.join want).length, false⟩) (by simp) rfl x hxm (by omega))
        go_wp2_with fail
        refine HA.out.mono ?_
        rintro e w5 ⟨rfl, s5⟩
        clear HA hxc s hvt
        go_wp2_with fail
        exact ⟨⟨k + 1, want, by omega, by omega, by simp, by omega, HF, s5⟩, by simp [intOf]; omega⟩
    · have hstop : ¬ ((k : Int) < (l.length : Int) ∧ (k : Int) < 60) := fun h => hlt ⟨by omega, by omega⟩
      have hd : (decide ((k : Int) < (l.length : Int)) && decide ((k : Int) < 60)) = false := by
        rw [Bool.and_eq_false_iff]; simp only [decide_eq_false_iff_not]; omega
      obtain ⟨va, vc, rfl, hvt, hvr⟩ := s.rowTxs (v := u8) (l := want) (by simp)
      have hSl : S.data.toList.length = S.size := by simp
      obtain ⟨G, R, hrd⟩ := Fr.reads_some (Fr.join want ++ S.data.toList)
      obtain ⟨g1, g2, g3⟩ := Wl.reads_tail HF.out hrd
      have hlen : (Fr.join want ++ S.data.toList).length ≤ 16777216 := by rw [List.length_append]; omega
      have HN := Lib.hid (wname_nm (n := 1) (by decide) wr s.var)
      have HAP := Lib.hid (fun w' (k : Kept wr w') => (s.kept k).op (f := 41) (args := #[.pointer (some ⟨p, 0, none⟩), .string (bs (Wl.nm 1)), .string S]) (v := .int .i64 0) (M := Wl.one 1 (Fr.join want ++ S.data.toList) (Fr.join want).length 1048576 (-1) false) (fun K G hd => dk_at (append_any hd (bs (Wl.nm 1)) S (nm_size (by decide)) (by unfold maxLen; omega) (by rw [tot_one]; omega)) (Wl.app_ok 1 _ _ _ _ _ (-1) (by omega) (Wl.burn_off _ _ _ _ _ (by decide)))))
      have hcase : ((k : Int) < (l.length : Int) ∧ ¬ (k : Int) < 60) ∨ ¬ (k : Int) < (l.length : Int) := by omega
      have hle : (want.length : Int) ≤ (G.length : Int) := by omega
      have htl : (G.take want.length).length = want.length := by rw [List.length_take]; omega
      have G2 := Lib.hid g2; have HL := Lib.hid hlen; have HRD := Lib.hid hrd; have G3 := Lib.hid g3; have HTL := Lib.hid htl
      have hGl : G.length ≤ 16777216 := by have := hrd.few.1; omega
      clear g2 hlen hrd g3 htl hstop hd
      rcases hcase with ⟨h60, h61⟩ | h60
      all_goals
        go_wp2_with fail
        refine HN.out.mono ?_
        rintro e w5 ⟨rfl, k5⟩
        go_wp2_with fail
        refine (HAP.out w5 k5).mono ?_
        rintro e w6 ⟨rfl, s6⟩
        have HR := Lib.hid (s6.replay (n := 1) (by decide) (Wl.read_one _ _ _ _ _ _) HL.out HRD.out)
        clear HN HAP s hvt hvr
        go_wp2_with fail
        refine HR.out.mono ?_
        rintro e w7 ⟨GA, gc, rfl, gt, gl, k7, s7⟩
        obtain ⟨_, _, e7, wt7, _⟩ := s7.rowTxs (v := .slice va want.length vc) (l := want) (by simp)
        cases e7
        have ht := wtexts_any GA va gc vc (G.take want.length) want (by unfold maxLen; have := HTL.out; omega) (by unfold maxLen; omega) w7 (gt.take _) wt7
        rw [HTL.out, G2.out, decide_eq_true rfl] at ht
        have HT := Lib.hid ht
        have hgi : (want.length : Int) ≤ (gc : Int) := by omega
        clear HR s6 k5 k7 gt wt7 ht
        go_wp2_with fail
        refine HT.out.mono ?_
        rintro e w8 ⟨rfl, k8⟩
        by_cases hS0 : S.data.toList = []
        · have d0 : S.toList = [] := by rw [Lib.toList_data]; exact hS0
          have d1 : (S.toList == []) = true := by simpa using d0
          have hGe : G.length = want.length := by rw [G3.out hS0]
          have hGe2 : ((G.length : Int) == (want.length : Int)) = true := by rw [hGe]; simp
          have hGe3 := Lib.hid hGe
          clear hGe
          go_wp2_with fail
          go_ret
          exact ⟨rfl, kept_trans s7.fin k8⟩
        · have d0 : S.toList ≠ [] := by rw [Lib.toList_data]; exact hS0
          have d1 : (S.toList == []) = false := by simpa using d0
          go_wp2_with fail
          go_ret
          exact ⟨rfl, kept_trans s7.fin k8⟩
end Go.Proofs.YtlkcdcpdccmodaaGreatDoor
