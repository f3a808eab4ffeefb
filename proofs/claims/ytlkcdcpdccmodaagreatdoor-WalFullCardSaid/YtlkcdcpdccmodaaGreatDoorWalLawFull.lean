/-
  The walk of screelaw06.WalFull.
-/
import Derived.Test.YtlkcdcpdccmodaaGreatDoorWalLawTail
import Derived.Test.YtlkcdcpdccmodaaGreatDoorWalArgs
namespace Go.Proofs.YtlkcdcpdccmodaaGreatDoor
open Go.ChangeShapes Go.WideShapes Go.ChangeAt Go.RowKit
set_option linter.unusedVariables false
set_option maxRecDepth 100000
set_option maxHeartbeats 16000000

theorem quota_one (n : Nat) (B : List UInt8) (s : Nat) (q f : Int) (d : Bool) (z : Int) (hz : 0 ≤ z) : Fs.quota (Wl.one n B s q f d) z = Wl.one n B s z f d := by
  unfold Fs.quota Wl.one; simp; omega
theorem quota_of {K : Nat → Prop} {w : World} {p : Nat} {G : Gh} {m M : Fs.Dsk} (h : IsDisk K w p G m) (n : Int) (hn : n ≤ 9223372036854775807) (e : Fs.quota m n = M) :
    Calls Tryz.prog 21 #[.pointer (some ⟨p, 0, none⟩), .int .i64 n] w fun e w' => e = .returned (.tuple #[]) ∧ Dk K w' p M ∧ Kp K w w' := by
  subst e; exact (quota_any h n hn).mono fun e w' ⟨he, hd, k⟩ => ⟨he, ⟨G, hd⟩, k⟩
theorem WalFull_walk (A : Option Addr) (cap : Nat) (l : List (List UInt8)) (QA : Option Addr) (qcap : Nat) (Q : List Int) {w : World} (ha : Txs w A l) (hl : l.length ≤ maxLen ∧ (∀ x ∈ l, x.length ≤ maxLen) ∧ l.length ≤ cap ∧ cap ≤ maxLen) (hq : Vls u16V w QA Q) (hQ : Q.length ≤ maxLen ∧ ∀ z ∈ Q, 0 ≤ z ∧ z ≤ 65535) (hv : Vars w) :
    Calls Tryz.prog 6 #[.slice A l.length cap, .slice QA Q.length qcap] w fun e w' => e = .returned (.bool true) ∧ Kept w w' := by
  obtain ⟨hl1, hl2, hl3, hl4⟩ := hl
  obtain ⟨hQ1, hQ2⟩ := hQ
  unfold maxLen at hl1 hl4 hQ1
  have HX := Lib.hid hl2; clear hl2
  have HQ := Lib.hid hQ2; clear hQ2
  obtain ⟨i0, hi, hz0, hz1, hz2⟩ := info_parts ftInfo
  have HI := Lib.hid hi; have HZ0 := Lib.hid hz0; have HZ1 := Lib.hid hz1; have HZ2 := Lib.hid hz2
  clear hi hz0 hz1 hz2
  have H0 := Lib.hid (awake_of hv)
  have HV := Lib.hid hv
  go_enter Tryz.func6, Tryz.ntmps6
  go_wp2_with fail
  refine H0.out.mono ?_
  rintro e w1 ⟨rfl, k1⟩
  have H1 := Lib.hid (st_new w1 k1 HV.out)
  go_wp2_with fail
  refine H1.out.mono ?_
  rintro e w2 ⟨p, rfl, s2⟩
  have H2 := Lib.hid (s2.create (n := 0) (by decide) (by decide) (Wl.mkLog_new (by decide)))
  clear H0 H1 s2 k1
  go_wp2_with fail
  refine H2.out.mono ?_
  rintro e w3 ⟨b, rfl, s3⟩
  have s4 := s3.newRow
  clear H2 s3
  go_wp2_with fail
  go_loopw [8, 9] (fun v t wr => ∃ (k : Nat) (want : List (List UInt8)) (q : Int), k ≤ l.length ∧ k ≤ 60 ∧ t = .int .i64 (k : Int) ∧ want.length ≤ k ∧ Hid (Fr.Fit want) ∧ St w p (Wl.one 0 (Fr.join want) (Fr.join want).length q (-1) false) [(b, ⟨0, (Fr.join want).length, false⟩)] [(v, want)] wr) (fun _ t _ => 60 - (intOf t).toNat)
  case atStart => exact ⟨0, [], 1048576, by omega, by omega, rfl, by simp, Lib.hid Fr.fit_nil, s4⟩
  case round =>
    obtain ⟨k, want, q, hk1, hk2, rfl, hwk, HF, s⟩ := hrel
    clear s4
    have hjl := Fr.join_most want HF.out
    obtain ⟨va, vc, rfl, _, _⟩ := s.rowTxs (v := u8) (l := want) (by simp)
    by_cases hlt : k < l.length ∧ k < 60
    · obtain ⟨hlt, hlt2⟩ := hlt
      have hx : l[k]? = some l[k] := List.getElem?_eq_getElem hlt
      have hxm : l[k].length ≤ maxLen := HX.out _ (List.getElem_mem hlt)
      generalize l[k] = x at hx hxm
      obtain ⟨xb0, xo0, rfl, _, _⟩ := (s.txs ha) k x hx
      have i1 : (k : Int) < (l.length : Int) := by omega
      have i2 : (k : Int) < 60 := by omega
      by_cases hqk : k < Q.length
      · have hz : Q[k]? = some Q[k] := List.getElem?_eq_getElem hqk
        have hzr := HQ.out _ (List.getElem_mem hqk)
        generalize Q[k] = q1 at hz hzr
        obtain ⟨qb, qo, rfl, hqb, hqc⟩ := (hq.kept s.fin) k q1 hz
        unfold u16V at hqc
        have i3 : (k : Int) < (Q.length : Int) := by omega
        have hwz : IntKind.i64.wrap q1 = q1 := by rw [IntKind.wrap_i64]; omega
        have HQT := Lib.hid (s.op (f := 21) (args := #[.pointer (some ⟨p, 0, none⟩), .int .i64 q1]) (v := .tuple #[]) (fun K G hd => quota_of hd q1 (by omega) (quota_one 0 (Fr.join want) (Fr.join want).length q (-1) false q1 hzr.1)))
        go_wp2_with fail
        refine HQT.out.mono ?_
        rintro e w3' ⟨rfl, s1⟩
        clear HQT hqc
        have HSZ := Lib.hid (s1.look (R := fun e _ => e = .returned (.int .i64 ((Fr.join want).length : Nat))) (f := 33) (args := #[.pointer (some ⟨p, 0, none⟩)]) (fun K G hd => by have := size_any hd; rw [Wl.size_one] at this; exact this))
        clear s
        go_wp2_with fail
        refine HSZ.out.mono ?_
        rintro e w4 ⟨rfl, _, s4⟩
        obtain ⟨xb, xo, e', _, hxc4⟩ := (s4.txs ha) k x hx
        cases e'
        clear HSZ s1
        by_cases hx8 : x.length ≤ 8000
        · have hmk := (Fr.mk_lens x hx8).2
          have hb8 : ¬ (8000 : Int) < ((bs x).size : Int) := by rw [fbs_size]; omega
          by_cases hfull : q1 < ((Fr.join want).length : Int) + (Fr.mk x).length
          · have HA := Lib.hid (s4.add (l1 := []) (l2 := []) (show (0 : Nat) ≤ 1099511627776 by decide) rfl (by show (Fr.join want).length ≤ _; omega) x hx8 (by rw [tot_one]; omega) (show Wl.lay (Wl.one 0 (Fr.join want) (Fr.join want).length q1 (-1) false) 0 (Fr.mk x) = (Wl.one 0 (Fr.join want) (Fr.join want).length q1 (-1) false, 12) by rw [Wl.lay_off, if_pos hfull]))
            go_wp2_with fail
            refine HA.out.mono ?_
            rintro e w5 ⟨rfl, s5a⟩
            have s5 : St w p (Wl.one 0 (Fr.join want) (Fr.join want).length q1 (-1) false) [(b, ⟨0, (Fr.join want).length, false⟩)] [(.slice va want.length vc, want)] w5 := s5a
            clear HA s4 hxc4 s5a
            have HSZ2 := Lib.hid (s5.look (R := fun e _ => e = .returned (.int .i64 ((Fr.join want).length : Nat))) (f := 33) (args := #[.pointer (some ⟨p, 0, none⟩)]) (fun K G hd => by have := size_any hd; rw [Wl.size_one] at this; exact this))
            go_wp2_with fail
            refine HSZ2.out.mono ?_
            rintro e w7 ⟨rfl, _, s7⟩
            clear HSZ2 s5
            have HBR := Lib.hid (wbroken_any (s7.log (b, ⟨0, (Fr.join want).length, false⟩) (by simp)).1)
            obtain ⟨xb7, xo7, e', _, hxc7⟩ := (s7.txs ha) k x hx
            cases e'
            go_wp2_with fail
            refine HBR.out.mono ?_
            rintro e w8 ⟨rfl, rfl⟩
            have HLS := Lib.hid (wsize_any (s7.log (b, ⟨0, (Fr.join want).length, false⟩) (by simp)).1)
            have HSZ3 := Lib.hid (s7.look (R := fun e _ => e = .returned (.int .i64 ((Fr.join want).length : Nat))) (f := 33) (args := #[.pointer (some ⟨p, 0, none⟩)]) (fun K G hd => by have := size_any hd; rw [Wl.size_one] at this; exact this))
            clear HBR
            go_wp2_with fail
            refine HLS.out.mono ?_
            rintro e w8 ⟨rfl, rfl⟩
            go_wp2_with fail
            refine HSZ3.out.mono ?_
            rintro e w9 ⟨rfl, _, s9⟩
            clear HLS HSZ3 s7 hxc7
            go_wp2_with fail
            exact ⟨⟨k + 1, want, q1, by omega, by omega, by simp, by omega, HF, s9⟩, by simp [intOf]; omega⟩
          · have HA := Lib.hid (s4.add (l1 := []) (l2 := []) (show (0 : Nat) ≤ 1099511627776 by decide) rfl (by show (Fr.join want).length ≤ _; omega) x hx8 (by rw [tot_one]; omega) (lay_more (by omega)))
            go_wp2_with fail
            refine HA.out.mono ?_
            rintro e w5 ⟨rfl, s5⟩
            have s5' : St w p (Wl.one 0 (Fr.join (want ++ [x])) (Fr.join (want ++ [x])).length q1 (-1) false) [(b, ⟨0, (Fr.join (want ++ [x])).length, false⟩)] [(.slice va want.length vc, want)] w5 := by rw [← after_more]; exact s5
            have hs5 := s5'.keep.size
            obtain ⟨xb', xo', e', _, hxc5⟩ := (s5'.txs ha) k x hx
            cases e'
            obtain ⟨_, _, _, _, hr5⟩ := s5'.rowTxs (v := .slice va want.length vc) (l := want) (by simp)
            clear s5 HA s4 hxc4
            go_wp2_with (at_builtin; refine wpList_append_own_at _ rfl _ _ 49 rfl w.heap.size 9 i0 (.string ByteArray.empty) 1 16 Tryz.underlying49 HI.out HZ0.out HZ1.out HZ2.out rfl (by decide) (.slice va want.length vc) want.length (txc want) rfl (hr5.alloc _) ⟨w5.heap.size, 0, none⟩ 1 1 [.string (bs x)] rfl rfl (cell_one_new _ _ _) (by simp [Value.oneCell']) (by unfold maxLen; omega) (by omega) (by simp; omega) ?_; intro v' w6 hown' hgrow hnil hloc)
            have hgw := (World.grownBy_alloc w5 (.cells #[.string (bs x)] 9) (Value.slice va want.length vc).ownBlock).trans hgrow
            have s6 : St w p (Wl.one 0 (Fr.join (want ++ [x])) (Fr.join (want ++ [x])).length q1 (-1) false) [(b, ⟨0, (Fr.join (want ++ [x])).length, false⟩)] [(v', want ++ [x])] w6 := St.grow (r1 := []) (r2 := []) s5' hgw (by rw [← txc_snoc]; simpa using hown') (loc_of hloc)
            obtain ⟨va6, vc6, rfl, _, _⟩ := s6.rowTxs (v := v') (l := want ++ [x]) (by simp)
            clear s5' hr5 hown' hgrow hnil hloc hgw hxc5
            have s7 := s6; clear s6
            have HBR := Lib.hid (wbroken_any (s7.log (b, ⟨0, (Fr.join (want ++ [x])).length, false⟩) (by simp)).1)
            obtain ⟨xb7, xo7, e', _, hxc7⟩ := (s7.txs ha) k x hx
            cases e'
            go_wp2_with fail
            refine HBR.out.mono ?_
            rintro e w8 ⟨rfl, rfl⟩
            have HLS := Lib.hid (wsize_any (s7.log (b, ⟨0, (Fr.join (want ++ [x])).length, false⟩) (by simp)).1)
            have HSZ3 := Lib.hid (s7.look (R := fun e _ => e = .returned (.int .i64 ((Fr.join (want ++ [x])).length : Nat))) (f := 33) (args := #[.pointer (some ⟨p, 0, none⟩)]) (fun K G hd => by have := size_any hd; rw [Wl.size_one] at this; exact this))
            clear HBR
            go_wp2_with fail
            refine HLS.out.mono ?_
            rintro e w8 ⟨rfl, rfl⟩
            go_wp2_with fail
            refine HSZ3.out.mono ?_
            rintro e w9 ⟨rfl, _, s9⟩
            clear HLS HSZ3 s7 hxc7
            go_wp2_with fail
            exact ⟨⟨k + 1, (want ++ [x]), q1, by omega, by omega, by simp, by simp; omega, Lib.hid (fit_snoc HF.out hx8), by rw [List.length_append] at s9; exact s9⟩, by simp [intOf]; omega⟩
        · have hb8 : (8000 : Int) < ((bs x).size : Int) := by rw [fbs_size]; omega
          have HA := Lib.hid (s4.addLong (b := b) (lg := ⟨0, (Fr.join want).length, false⟩) (by simp) rfl x hxm (by omega))
          go_wp2_with fail
          refine HA.out.mono ?_
          rintro e w5 ⟨rfl, s5⟩
          clear HA s4 hxc4
          have HSZ2 := Lib.hid (s5.look (R := fun e _ => e = .returned (.int .i64 ((Fr.join want).length : Nat))) (f := 33) (args := #[.pointer (some ⟨p, 0, none⟩)]) (fun K G hd => by have := size_any hd; rw [Wl.size_one] at this; exact this))
          go_wp2_with fail
          refine HSZ2.out.mono ?_
          rintro e w7 ⟨rfl, _, s7⟩
          clear HSZ2 s5
          have HBR := Lib.hid (wbroken_any (s7.log (b, ⟨0, (Fr.join want).length, false⟩) (by simp)).1)
          obtain ⟨xb7, xo7, e', _, hxc7⟩ := (s7.txs ha) k x hx
          cases e'
          go_wp2_with fail
          refine HBR.out.mono ?_
          rintro e w8 ⟨rfl, rfl⟩
          have HLS := Lib.hid (wsize_any (s7.log (b, ⟨0, (Fr.join want).length, false⟩) (by simp)).1)
          have HSZ3 := Lib.hid (s7.look (R := fun e _ => e = .returned (.int .i64 ((Fr.join want).length : Nat))) (f := 33) (args := #[.pointer (some ⟨p, 0, none⟩)]) (fun K G hd => by have := size_any hd; rw [Wl.size_one] at this; exact this))
          clear HBR
          go_wp2_with fail
          refine HLS.out.mono ?_
          rintro e w8 ⟨rfl, rfl⟩
          go_wp2_with fail
          refine HSZ3.out.mono ?_
          rintro e w9 ⟨rfl, _, s9⟩
          clear HLS HSZ3 s7 hxc7
          go_wp2_with fail
          exact ⟨⟨k + 1, want, q1, by omega, by omega, by simp, by omega, HF, s9⟩, by simp [intOf]; omega⟩
      · have i3 : ¬ (k : Int) < (Q.length : Int) := by omega
        obtain ⟨q1, hq1⟩ : ∃ q1, q1 = q := ⟨q, rfl⟩
        subst hq1
        have s1 := s
        have HSZ := Lib.hid (s1.look (R := fun e _ => e = .returned (.int .i64 ((Fr.join want).length : Nat))) (f := 33) (args := #[.pointer (some ⟨p, 0, none⟩)]) (fun K G hd => by have := size_any hd; rw [Wl.size_one] at this; exact this))
        clear s
        go_wp2_with fail
        refine HSZ.out.mono ?_
        rintro e w4 ⟨rfl, _, s4⟩
        obtain ⟨xb, xo, e', _, hxc4⟩ := (s4.txs ha) k x hx
        cases e'
        clear HSZ s1
        by_cases hx8 : x.length ≤ 8000
        · have hmk := (Fr.mk_lens x hx8).2
          have hb8 : ¬ (8000 : Int) < ((bs x).size : Int) := by rw [fbs_size]; omega
          by_cases hfull : q1 < ((Fr.join want).length : Int) + (Fr.mk x).length
          · have HA := Lib.hid (s4.add (l1 := []) (l2 := []) (show (0 : Nat) ≤ 1099511627776 by decide) rfl (by show (Fr.join want).length ≤ _; omega) x hx8 (by rw [tot_one]; omega) (show Wl.lay (Wl.one 0 (Fr.join want) (Fr.join want).length q1 (-1) false) 0 (Fr.mk x) = (Wl.one 0 (Fr.join want) (Fr.join want).length q1 (-1) false, 12) by rw [Wl.lay_off, if_pos hfull]))
            go_wp2_with fail
            refine HA.out.mono ?_
            rintro e w5 ⟨rfl, s5a⟩
            have s5 : St w p (Wl.one 0 (Fr.join want) (Fr.join want).length q1 (-1) false) [(b, ⟨0, (Fr.join want).length, false⟩)] [(.slice va want.length vc, want)] w5 := s5a
            clear HA s4 hxc4 s5a
            have HSZ2 := Lib.hid (s5.look (R := fun e _ => e = .returned (.int .i64 ((Fr.join want).length : Nat))) (f := 33) (args := #[.pointer (some ⟨p, 0, none⟩)]) (fun K G hd => by have := size_any hd; rw [Wl.size_one] at this; exact this))
            go_wp2_with fail
            refine HSZ2.out.mono ?_
            rintro e w7 ⟨rfl, _, s7⟩
            clear HSZ2 s5
            have HBR := Lib.hid (wbroken_any (s7.log (b, ⟨0, (Fr.join want).length, false⟩) (by simp)).1)
            obtain ⟨xb7, xo7, e', _, hxc7⟩ := (s7.txs ha) k x hx
            cases e'
            go_wp2_with fail
            refine HBR.out.mono ?_
            rintro e w8 ⟨rfl, rfl⟩
            have HLS := Lib.hid (wsize_any (s7.log (b, ⟨0, (Fr.join want).length, false⟩) (by simp)).1)
            have HSZ3 := Lib.hid (s7.look (R := fun e _ => e = .returned (.int .i64 ((Fr.join want).length : Nat))) (f := 33) (args := #[.pointer (some ⟨p, 0, none⟩)]) (fun K G hd => by have := size_any hd; rw [Wl.size_one] at this; exact this))
            clear HBR
            go_wp2_with fail
            refine HLS.out.mono ?_
            rintro e w8 ⟨rfl, rfl⟩
            go_wp2_with fail
            refine HSZ3.out.mono ?_
            rintro e w9 ⟨rfl, _, s9⟩
            clear HLS HSZ3 s7 hxc7
            go_wp2_with fail
            exact ⟨⟨k + 1, want, q1, by omega, by omega, by simp, by omega, HF, s9⟩, by simp [intOf]; omega⟩
          · have HA := Lib.hid (s4.add (l1 := []) (l2 := []) (show (0 : Nat) ≤ 1099511627776 by decide) rfl (by show (Fr.join want).length ≤ _; omega) x hx8 (by rw [tot_one]; omega) (lay_more (by omega)))
            go_wp2_with fail
            refine HA.out.mono ?_
            rintro e w5 ⟨rfl, s5⟩
            have s5' : St w p (Wl.one 0 (Fr.join (want ++ [x])) (Fr.join (want ++ [x])).length q1 (-1) false) [(b, ⟨0, (Fr.join (want ++ [x])).length, false⟩)] [(.slice va want.length vc, want)] w5 := by rw [← after_more]; exact s5
            have hs5 := s5'.keep.size
            obtain ⟨xb', xo', e', _, hxc5⟩ := (s5'.txs ha) k x hx
            cases e'
            obtain ⟨_, _, _, _, hr5⟩ := s5'.rowTxs (v := .slice va want.length vc) (l := want) (by simp)
            clear s5 HA s4 hxc4
            go_wp2_with (at_builtin; refine wpList_append_own_at _ rfl _ _ 49 rfl w.heap.size 9 i0 (.string ByteArray.empty) 1 16 Tryz.underlying49 HI.out HZ0.out HZ1.out HZ2.out rfl (by decide) (.slice va want.length vc) want.length (txc want) rfl (hr5.alloc _) ⟨w5.heap.size, 0, none⟩ 1 1 [.string (bs x)] rfl rfl (cell_one_new _ _ _) (by simp [Value.oneCell']) (by unfold maxLen; omega) (by omega) (by simp; omega) ?_; intro v' w6 hown' hgrow hnil hloc)
            have hgw := (World.grownBy_alloc w5 (.cells #[.string (bs x)] 9) (Value.slice va want.length vc).ownBlock).trans hgrow
            have s6 : St w p (Wl.one 0 (Fr.join (want ++ [x])) (Fr.join (want ++ [x])).length q1 (-1) false) [(b, ⟨0, (Fr.join (want ++ [x])).length, false⟩)] [(v', want ++ [x])] w6 := St.grow (r1 := []) (r2 := []) s5' hgw (by rw [← txc_snoc]; simpa using hown') (loc_of hloc)
            obtain ⟨va6, vc6, rfl, _, _⟩ := s6.rowTxs (v := v') (l := want ++ [x]) (by simp)
            clear s5' hr5 hown' hgrow hnil hloc hgw hxc5
            have s7 := s6; clear s6
            have HBR := Lib.hid (wbroken_any (s7.log (b, ⟨0, (Fr.join (want ++ [x])).length, false⟩) (by simp)).1)
            obtain ⟨xb7, xo7, e', _, hxc7⟩ := (s7.txs ha) k x hx
            cases e'
            go_wp2_with fail
            refine HBR.out.mono ?_
            rintro e w8 ⟨rfl, rfl⟩
            have HLS := Lib.hid (wsize_any (s7.log (b, ⟨0, (Fr.join (want ++ [x])).length, false⟩) (by simp)).1)
            have HSZ3 := Lib.hid (s7.look (R := fun e _ => e = .returned (.int .i64 ((Fr.join (want ++ [x])).length : Nat))) (f := 33) (args := #[.pointer (some ⟨p, 0, none⟩)]) (fun K G hd => by have := size_any hd; rw [Wl.size_one] at this; exact this))
            clear HBR
            go_wp2_with fail
            refine HLS.out.mono ?_
            rintro e w8 ⟨rfl, rfl⟩
            go_wp2_with fail
            refine HSZ3.out.mono ?_
            rintro e w9 ⟨rfl, _, s9⟩
            clear HLS HSZ3 s7 hxc7
            go_wp2_with fail
            exact ⟨⟨k + 1, (want ++ [x]), q1, by omega, by omega, by simp, by simp; omega, Lib.hid (fit_snoc HF.out hx8), by rw [List.length_append] at s9; exact s9⟩, by simp [intOf]; omega⟩
        · have hb8 : (8000 : Int) < ((bs x).size : Int) := by rw [fbs_size]; omega
          have HA := Lib.hid (s4.addLong (b := b) (lg := ⟨0, (Fr.join want).length, false⟩) (by simp) rfl x hxm (by omega))
          go_wp2_with fail
          refine HA.out.mono ?_
          rintro e w5 ⟨rfl, s5⟩
          clear HA s4 hxc4
          have HSZ2 := Lib.hid (s5.look (R := fun e _ => e = .returned (.int .i64 ((Fr.join want).length : Nat))) (f := 33) (args := #[.pointer (some ⟨p, 0, none⟩)]) (fun K G hd => by have := size_any hd; rw [Wl.size_one] at this; exact this))
          go_wp2_with fail
          refine HSZ2.out.mono ?_
          rintro e w7 ⟨rfl, _, s7⟩
          clear HSZ2 s5
          have HBR := Lib.hid (wbroken_any (s7.log (b, ⟨0, (Fr.join want).length, false⟩) (by simp)).1)
          obtain ⟨xb7, xo7, e', _, hxc7⟩ := (s7.txs ha) k x hx
          cases e'
          go_wp2_with fail
          refine HBR.out.mono ?_
          rintro e w8 ⟨rfl, rfl⟩
          have HLS := Lib.hid (wsize_any (s7.log (b, ⟨0, (Fr.join want).length, false⟩) (by simp)).1)
          have HSZ3 := Lib.hid (s7.look (R := fun e _ => e = .returned (.int .i64 ((Fr.join want).length : Nat))) (f := 33) (args := #[.pointer (some ⟨p, 0, none⟩)]) (fun K G hd => by have := size_any hd; rw [Wl.size_one] at this; exact this))
          clear HBR
          go_wp2_with fail
          refine HLS.out.mono ?_
          rintro e w8 ⟨rfl, rfl⟩
          go_wp2_with fail
          refine HSZ3.out.mono ?_
          rintro e w9 ⟨rfl, _, s9⟩
          clear HLS HSZ3 s7 hxc7
          go_wp2_with fail
          exact ⟨⟨k + 1, want, q1, by omega, by omega, by simp, by omega, HF, s9⟩, by simp [intOf]; omega⟩
    · obtain ⟨hcase⟩ : Nonempty (((k : Int) < (l.length : Int) ∧ ¬ (k : Int) < 60) ∨ ¬ (k : Int) < (l.length : Int)) := ⟨by omega⟩
      have hlen : (Fr.join want).length ≤ 16777216 := by omega
      have HR := Lib.hid (s.replay (n := 0) (by decide) (Wl.read_one _ _ _ _ _ _) hlen (Fr.reads_join HF.out))
      have hwl : want.length ≤ maxLen := by unfold maxLen; omega
      rcases hcase with ⟨h60, h61⟩ | h60
      all_goals
        go_wp2_with fail
        refine HR.out.mono ?_
        rintro e w7 ⟨GA, gc, rfl, gt, gl, k7, s7⟩
        obtain ⟨_, _, e7, wt7, _⟩ := s7.rowTxs (v := .slice va want.length vc) (l := want) (by simp)
        cases e7
        have ht := wtexts_any GA va gc vc want want hwl hwl w7 gt wt7
        rw [decide_eq_true rfl] at ht
        have HT := Lib.hid ht
        clear HR s k7 gt wt7 ht
        go_wp2_with fail
        refine HT.out.mono ?_
        rintro e w8 ⟨rfl, k8⟩
        go_wp2_with fail
        go_ret
        exact ⟨rfl, kept_trans s7.fin k8⟩
end Go.Proofs.YtlkcdcpdccmodaaGreatDoor
