/-
  The walk of screelaw06.WalKeeps.
-/
import Derived.Test.YtlkcdcpdccmodaaGreatDoorWalLawTail
import Derived.Test.YtlkcdcpdccmodaaGreatDoorWalArgs
namespace Go.Proofs.YtlkcdcpdccmodaaGreatDoor
open Go.ChangeShapes Go.WideShapes Go.ChangeAt Go.RowKit
set_option linter.unusedVariables false
set_option maxRecDepth 100000
set_option maxHeartbeats 16000000

theorem St.op2 {w W : World} {p : Nat} {m M : Fs.Dsk} {logs : List (Nat × Wl.Lg)} {rows : List (Value × List (List UInt8))} {f : FuncId} {args : Array Value} {v : Value} (h : St w p m logs rows W) (hc : ∀ K G, (∀ x, x < w.heap.size → K x) → IsDisk K W p G m → Calls Tryz.prog f args W fun e w' => e = .returned v ∧ Dk K w' p M ∧ Kp K W w') :
    Calls Tryz.prog f args W fun e w' => e = .returned v ∧ St w p M logs rows w' := by
  obtain ⟨K, G, h1, h2, h3, hd⟩ := h.disk
  refine (hc K G h1 hd).mono fun e w' ⟨he, ⟨G', hd'⟩, k⟩ => ⟨he, ⟨K, G', h1, h2, h3, hd'⟩, fun q hq => ⟨(h.log q hq).1.kp k (h2 q hq), (h.log q hq).2⟩, fun q hq => own_same (h.row q hq) (fun r hr => k.block r (h3 q hq r hr)), h.keep.trans (k.mono h1), h.vars, h.logsA, h.rowsA⟩
theorem St.crash {w W : World} {p : Nat} {m M : Fs.Dsk} {logs : List (Nat × Wl.Lg)} {rows : List (Value × List (List UInt8))} (h : St w p m logs rows W) (n : Int) (KA : Option Addr) (kcap : Nat) (keep : List Int) (hk : IntsAt (fun i => i < w.heap.size) w (.slice KA keep.length kcap) keep) (hkl : keep.length ≤ 9223372036854775807) (e : Fs.crash m n keep = M) :
    Calls Tryz.prog 23 #[.pointer (some ⟨p, 0, none⟩), .int .i64 n, .slice KA keep.length kcap] W fun e w' => e = .returned (.tuple #[]) ∧ St w p M logs rows w' := by
  subst e
  have hk' : IntsAt (fun i => i < w.heap.size) W (.slice KA keep.length kcap) keep := hk.kp h.keep
  exact h.op2 (fun K G h1 hd => crash_any hd n _ keep hkl (hk'.mono h1))
theorem fuse_one (n : Nat) (B : List UInt8) (s : Nat) (q f z : Int) (hz : 0 ≤ z) : Fs.fuse (Wl.one n B s q f false) z = Wl.one n B s q z false := by
  unfold Fs.fuse Wl.one; simp; omega
theorem lay_lit' {n : Nat} {l : List (List UInt8)} {x : List UInt8} {f : Int} (hf : 2 ≤ f) (hq : ((Fr.join l).length : Int) + (Fr.mk x).length ≤ 1048576) : Wl.lay (Wl.one n (Fr.join l) (Fr.join l).length 1048576 f false) n (Fr.mk x) = (Wl.one n (Fr.join (l ++ [x])) (Fr.join (l ++ [x])).length 1048576 (f - 2) false, 0) := by
  rw [Wl.lay_lit _ _ _ _ _ _ hf hq, Fr.join_snoc]
theorem keeps_far (n : Nat) (hn : 1099511627776 < n) (A : Option Addr) (cap : Nat) (l : List (List UInt8)) (fuse changes : Int) (KA : Option Addr) (kcap : Nat) (keep : List Int) {w : World} (hv : Vars w) :
    Calls Tryz.prog 5 #[.int .u64 n, .slice A l.length cap, .int .u8 fuse, .int .i64 changes, .slice KA keep.length kcap] w fun e w' => e = .returned (.bool true) ∧ Kept w w' := by
  have H0 := Lib.hid (awake_of hv)
  have HV := Lib.hid hv
  have hni : (1099511627776 : Int) < (n : Int) := by omega
  go_enter Tryz.func5, Tryz.ntmps5
  go_wp2_with fail
  refine H0.out.mono ?_
  rintro e w1 ⟨rfl, k1⟩
  have H1 := Lib.hid (st_new w1 k1 HV.out)
  go_wp2_with fail
  refine H1.out.mono ?_
  rintro e w2 ⟨p, rfl, s2⟩
  have H2 := Lib.hid (wcreate_far (w := w2) p hn)
  go_wp2_with fail
  refine H2.out.mono ?_
  rintro e w3 ⟨rfl, rfl⟩
  go_wp2_with fail
  go_ret
  exact ⟨rfl, s2.fin⟩
theorem keeps_in (n : Nat) (hn : n ≤ 1099511627776) (A : Option Addr) (cap : Nat) (l : List (List UInt8)) (fuse changes : Int) (hf1 : 0 ≤ fuse) (hf2 : fuse ≤ 255) (KA : Option Addr) (kcap : Nat) (keep : List Int) {w : World} (ha : Txs w A l) (hl : l.length ≤ maxLen ∧ (∀ x ∈ l, x.length ≤ maxLen) ∧ l.length ≤ cap ∧ cap ≤ maxLen) (hk : IntsAt (fun i => i < w.heap.size) w (.slice KA keep.length kcap) keep) (hkl0 : keep.length ≤ maxLen) (hv : Vars w) :
    Calls Tryz.prog 5 #[.int .u64 n, .slice A l.length cap, .int .u8 fuse, .int .i64 changes, .slice KA keep.length kcap] w fun e w' => e = .returned (.bool true) ∧ Kept w w' := by
  obtain ⟨hl1, hl2, hl3, hl4⟩ := hl
  unfold maxLen at hl1 hl4
  have hkl : keep.length ≤ 9223372036854775807 := hkl0
  clear hkl0
  have HX := Lib.hid hl2; clear hl2
  have H0 := Lib.hid (awake_of hv)
  have HV := Lib.hid hv
  have hwf : IntKind.i64.wrap fuse = fuse := by rw [IntKind.wrap_i64]; omega
  go_enter Tryz.func5, Tryz.ntmps5
  go_wp2_with fail
  refine H0.out.mono ?_
  rintro e w1 ⟨rfl, k1⟩
  have H1 := Lib.hid (st_new w1 k1 HV.out)
  go_wp2_with fail
  refine H1.out.mono ?_
  rintro e w2 ⟨p, rfl, s2⟩
  have H2 := Lib.hid (s2.create hn (show ([] : List Fs.Chg).length < 1099511627776 by decide) (Wl.mkLog_new hn))
  clear H0 H1 s2 k1
  go_wp2_with fail
  refine H2.out.mono ?_
  rintro e w3 ⟨b, rfl, s3⟩
  have H3 := Lib.hid (s3.op (f := 19) (args := #[.pointer (some ⟨p, 0, none⟩), .int .i64 fuse]) (v := .tuple #[]) (fun K G hd => fuse_of hd fuse (by omega) (fuse_one n [] 0 1048576 (-1) fuse hf1)))
  clear H2 s3
  go_wp2_with fail
  refine H3.out.mono ?_
  rintro e w4 ⟨rfl, s4⟩
  clear H3
  go_wp2_with fail
  go_loopw [14] (fun t wr => ∃ (k : Nat) (f : Int), k ≤ l.length ∧ k ≤ 60 ∧ t = .int .i64 (k : Int) ∧ 0 ≤ f ∧ Hid (Fr.Fit (l.take k)) ∧ St w p (Wl.one n (Fr.join (l.take k)) (Fr.join (l.take k)).length 1048576 f false) [(b, ⟨n, (Fr.join (l.take k)).length, false⟩)] [] wr) (fun t _ => 60 - (intOf t).toNat)
  case atStart => exact ⟨0, fuse, by omega, by omega, rfl, hf1, Lib.hid (by simp [Fr.fit_nil]), s4⟩
  case round =>
    obtain ⟨k, f, hk1, hk2, rfl, hf0, HF, s⟩ := hrel
    clear s4
    have hjl := Fr.join_most _ HF.out
    rw [List.length_take, Nat.min_eq_left hk1] at hjl
    by_cases hlt : k < l.length ∧ k < 60
    · obtain ⟨hlt, hlt2⟩ := hlt
      have hx : l[k]? = some l[k] := List.getElem?_eq_getElem hlt
      have hxm : l[k].length ≤ maxLen := HX.out _ (List.getElem_mem hlt)
      generalize l[k] = x at hx hxm
      obtain ⟨xb0, xo0, rfl, _, hxc⟩ := (s.txs ha) k x hx
      have hxs : (bs x).size = x.length := fbs_size x
      have HXS := Lib.hid hxs; clear hxs
      have i1 : (k : Int) < (l.length : Int) := by omega
      have i2 : (k : Int) < 60 := by omega
      have htake : l.take (k + 1) = l.take k ++ [x] := by rw [List.take_add_one, hx]; rfl
      have HTK := Lib.hid htake; clear htake
      by_cases hx8 : x.length ≤ 8000
      · have i3 : ¬ (8000 : Int) < ((bs x).size : Int) := by rw [HXS.out]; omega
        have hmk := (Fr.mk_lens x hx8).2
        by_cases hkp : keep.length ≤ 100
        · have i4 : ¬ (100 : Int) < (keep.length : Int) := by omega
          have FIT1 : Hid (Fr.Fit (l.take (k + 1))) := Lib.hid (by rw [HTK.out]; exact fit_snoc HF.out hx8)
          by_cases hf2' : 2 ≤ f
          · have HA := Lib.hid (s.add (l1 := []) (l2 := []) hn rfl (by show (Fr.join (l.take k)).length ≤ _; omega) x hx8 (by rw [tot_one]; omega) (lay_lit' hf2' (by omega)))
            go_wp2_with fail
            refine HA.out.mono ?_
            rintro e w5 ⟨rfl, s5⟩
            clear HA s hxc
            go_wp2_with fail
            refine ⟨⟨k + 1, f - 2, by omega, by omega, by simp, by omega, FIT1, ?_⟩, by simp [intOf]; omega⟩
            rw [HTK.out, ← after_more]; exact s5
          · by_cases hf1' : f = 1
            · subst hf1'
              have HA := Lib.hid (s.add (l1 := []) (l2 := []) hn rfl (by show (Fr.join (l.take k)).length ≤ _; omega) x hx8 (by rw [tot_one]; omega) (Wl.lay_lit1 n (Fr.join (l.take k)) (Fr.mk x) (Fr.join (l.take k)).length 1048576 (by omega)))
              go_wp2_with fail
              refine HA.out.mono ?_
              rintro e w5 ⟨rfl, s5⟩
              have sT : St w p (Wl.one n (Fr.join (l.take (k + 1))) (Fr.join (l.take k)).length 1048576 0 true) [(b, Wl.after ⟨n, (Fr.join (l.take k)).length, false⟩ (Fr.mk x).length 30)] [] w5 := by rw [HTK.out, Fr.join_snoc]; exact s5
              clear HA s hxc s5
              generalize (some ⟨xb0, xo0, none⟩ : Option Addr) = A at *
              have FITJ : Hid (Fr.Fit (l.take (k + 1))) := FIT1
              obtain ⟨FF, hFF⟩ : ∃ F : Int, F = 0 := ⟨_, rfl⟩
              obtain ⟨DD, hDD⟩ : ∃ D : Bool, D = true := ⟨_, rfl⟩
              rw [← hFF, ← hDD] at sT
              clear hFF hDD
              obtain ⟨c, hc1, hc2, ec⟩ := Wl.crash_log n (Fr.join (l.take (k + 1))) (Fr.join (l.take k)).length 1048576 FF DD changes keep (Wl.join_mono (by omega))
              obtain ⟨g, r, hr⟩ := Fr.reads_some ((Fr.join (l.take (k + 1))).take c)
              have htt : (l.take (k + 1)).take k = l.take k := by rw [List.take_take, Nat.min_eq_left (by omega)]
              have hjj : (l.take (k + 1)).length = k + 1 := by rw [List.length_take]; omega
              obtain ⟨g1, g2, g3⟩ := Wl.reads_cut FITJ.out (n := k) (by rw [hjj]; omega) (by rw [htt]; exact hc1) hr
              rw [hjj] at g2
              rw [List.take_take, Nat.min_eq_left g2] at g3
              have hBl : ((Fr.join (l.take (k + 1))).take c).length ≤ 16777216 := by
                have h7 := Fr.join_most _ FITJ.out
                rw [hjj] at h7
                rw [List.length_take]; omega
              have hgt : (l.take g.length).length = g.length := by rw [List.length_take]; omega
              have HCR := Lib.hid (sT.crash changes KA kcap keep hk hkl ec)
              have G3 := Lib.hid g3; have HRD := Lib.hid hr; have HBL := Lib.hid hBl; have HGT := Lib.hid hgt
              have i5 : ¬ (g.length : Int) < (k : Int) := by omega
              have i6 : ¬ (k : Int) + 1 < (g.length : Int) := by omega
              have i7 : ¬ (l.length : Int) < (g.length : Int) := by omega
              have i8 : (g.length : Int) ≤ (cap : Int) := by omega
              have hgm : g.length ≤ maxLen := by unfold maxLen; omega
              clear g3 hr hBl hgt htt hjj ec hc1 hc2 sT
              go_wp2_with fail
              refine HCR.out.mono ?_
              rintro e w6 ⟨rfl, s6⟩
              have HRP := Lib.hid (s6.replay hn (Wl.read_one _ _ _ _ _ _) HBL.out HRD.out)
              clear HCR
              go_wp2_with fail
              refine HRP.out.mono ?_
              rintro e w7 ⟨GA, gc, rfl, gt, gl, k7, s7⟩
              have ht := wtexts_any GA A gc cap g (l.take g.length) hgm (by rw [HGT.out]; exact hgm) w7 gt ((s7.txs ha).take _)
              rw [HGT.out, decide_eq_true G3.out] at ht
              have HT := Lib.hid ht
              clear HRP ht gt s6 k7
              go_wp2_with fail
              refine HT.out.mono ?_
              rintro e w8 ⟨rfl, k8⟩
              go_wp2_with fail
              go_ret
              exact ⟨rfl, kept_trans s7.fin k8⟩
            · have hf00 : f = 0 := by omega
              subst hf00
              have HA := Lib.hid (s.add (l1 := []) (l2 := []) hn rfl (by show (Fr.join (l.take k)).length ≤ _; omega) x hx8 (by rw [tot_one]; omega) (Wl.lay_lit0 n (Fr.join (l.take k)) (Fr.mk x) (Fr.join (l.take k)).length 1048576 (by omega)))
              go_wp2_with fail
              refine HA.out.mono ?_
              rintro e w5 ⟨rfl, sT⟩
              clear HA s hxc
              generalize (some ⟨xb0, xo0, none⟩ : Option Addr) = A at *
              have FITJ : Hid (Fr.Fit (l.take (k))) := HF
              obtain ⟨FF, hFF⟩ : ∃ F : Int, F = 0 := ⟨_, rfl⟩
              obtain ⟨DD, hDD⟩ : ∃ D : Bool, D = true := ⟨_, rfl⟩
              rw [← hFF, ← hDD] at sT
              clear hFF hDD
              obtain ⟨c, hc1, hc2, ec⟩ := Wl.crash_log n (Fr.join (l.take (k))) (Fr.join (l.take k)).length 1048576 FF DD changes keep (Wl.join_mono (by omega))
              obtain ⟨g, r, hr⟩ := Fr.reads_some ((Fr.join (l.take (k))).take c)
              have htt : (l.take (k)).take k = l.take k := by rw [List.take_take, Nat.min_eq_left (by omega)]
              have hjj : (l.take (k)).length = k := by rw [List.length_take]; omega
              obtain ⟨g1, g2, g3⟩ := Wl.reads_cut FITJ.out (n := k) (by rw [hjj]; omega) (by rw [htt]; exact hc1) hr
              rw [hjj] at g2
              rw [List.take_take, Nat.min_eq_left g2] at g3
              have hBl : ((Fr.join (l.take (k))).take c).length ≤ 16777216 := by
                have h7 := Fr.join_most _ FITJ.out
                rw [hjj] at h7
                rw [List.length_take]; omega
              have hgt : (l.take g.length).length = g.length := by rw [List.length_take]; omega
              have HCR := Lib.hid (sT.crash changes KA kcap keep hk hkl ec)
              have G3 := Lib.hid g3; have HRD := Lib.hid hr; have HBL := Lib.hid hBl; have HGT := Lib.hid hgt
              have i5 : ¬ (g.length : Int) < (k : Int) := by omega
              have i6 : ¬ (k : Int) + 1 < (g.length : Int) := by omega
              have i7 : ¬ (l.length : Int) < (g.length : Int) := by omega
              have i8 : (g.length : Int) ≤ (cap : Int) := by omega
              have hgm : g.length ≤ maxLen := by unfold maxLen; omega
              clear g3 hr hBl hgt htt hjj ec hc1 hc2 sT
              go_wp2_with fail
              refine HCR.out.mono ?_
              rintro e w6 ⟨rfl, s6⟩
              have HRP := Lib.hid (s6.replay hn (Wl.read_one _ _ _ _ _ _) HBL.out HRD.out)
              clear HCR
              go_wp2_with fail
              refine HRP.out.mono ?_
              rintro e w7 ⟨GA, gc, rfl, gt, gl, k7, s7⟩
              have ht := wtexts_any GA A gc cap g (l.take g.length) hgm (by rw [HGT.out]; exact hgm) w7 gt ((s7.txs ha).take _)
              rw [HGT.out, decide_eq_true G3.out] at ht
              have HT := Lib.hid ht
              clear HRP ht gt s6 k7
              go_wp2_with fail
              refine HT.out.mono ?_
              rintro e w8 ⟨rfl, k8⟩
              go_wp2_with fail
              go_ret
              exact ⟨rfl, kept_trans s7.fin k8⟩
        · have i4 : (100 : Int) < (keep.length : Int) := by omega
          have kf := s.fin
          clear s
          go_wp2_with fail
          go_ret
          exact ⟨rfl, kf⟩
      · have i3 : (8000 : Int) < ((bs x).size : Int) := by rw [HXS.out]; omega
        have kf := s.fin
        clear s
        go_wp2_with fail
        go_ret
        exact ⟨rfl, kf⟩
    · obtain ⟨hcase⟩ : Nonempty (((k : Int) < (l.length : Int) ∧ ¬ (k : Int) < 60) ∨ ¬ (k : Int) < (l.length : Int)) := ⟨by omega⟩
      have sT := s
      clear s
      have FITJ : Hid (Fr.Fit (l.take (k))) := HF
      obtain ⟨FF, hFF⟩ : ∃ F : Int, F = f := ⟨_, rfl⟩
      obtain ⟨DD, hDD⟩ : ∃ D : Bool, D = false := ⟨_, rfl⟩
      rw [← hFF, ← hDD] at sT
      clear hFF hDD
      rcases hcase with ⟨h60, h61⟩ | h60
      all_goals
        obtain ⟨c, hc1, hc2, ec⟩ := Wl.crash_log n (Fr.join (l.take (k))) (Fr.join (l.take k)).length 1048576 FF DD changes keep (Wl.join_mono (by omega))
        obtain ⟨g, r, hr⟩ := Fr.reads_some ((Fr.join (l.take (k))).take c)
        have htt : (l.take (k)).take k = l.take k := by rw [List.take_take, Nat.min_eq_left (by omega)]
        have hjj : (l.take (k)).length = k := by rw [List.length_take]; omega
        obtain ⟨g1, g2, g3⟩ := Wl.reads_cut FITJ.out (n := k) (by rw [hjj]; omega) (by rw [htt]; exact hc1) hr
        rw [hjj] at g2
        rw [List.take_take, Nat.min_eq_left g2] at g3
        have hBl : ((Fr.join (l.take (k))).take c).length ≤ 16777216 := by
          have h7 := Fr.join_most _ FITJ.out
          rw [hjj] at h7
          rw [List.length_take]; omega
        have hgt : (l.take g.length).length = g.length := by rw [List.length_take]; omega
        have HCR := Lib.hid (sT.crash changes KA kcap keep hk hkl ec)
        have G3 := Lib.hid g3; have HRD := Lib.hid hr; have HBL := Lib.hid hBl; have HGT := Lib.hid hgt
        have i5 : ¬ (g.length : Int) < (k : Int) := by omega
        have i6 : ¬ (k : Int) + 1 < (g.length : Int) := by omega
        have i7 : ¬ (l.length : Int) < (g.length : Int) := by omega
        have i8 : (g.length : Int) ≤ (cap : Int) := by omega
        have hgm : g.length ≤ maxLen := by unfold maxLen; omega
        clear g3 hr hBl hgt htt hjj ec hc1 hc2 sT
        go_wp2_with fail
        refine HCR.out.mono ?_
        rintro e w6 ⟨rfl, s6⟩
        have HRP := Lib.hid (s6.replay hn (Wl.read_one _ _ _ _ _ _) HBL.out HRD.out)
        clear HCR
        go_wp2_with fail
        refine HRP.out.mono ?_
        rintro e w7 ⟨GA, gc, rfl, gt, gl, k7, s7⟩
        have ht := wtexts_any GA A gc cap g (l.take g.length) hgm (by rw [HGT.out]; exact hgm) w7 gt ((s7.txs ha).take _)
        rw [HGT.out, decide_eq_true G3.out] at ht
        have HT := Lib.hid ht
        clear HRP ht gt s6 k7
        go_wp2_with fail
        refine HT.out.mono ?_
        rintro e w8 ⟨rfl, k8⟩
        go_wp2_with fail
        go_ret
        exact ⟨rfl, kept_trans s7.fin k8⟩

theorem WalKeeps_walk (n0 : Int) (A : Option Addr) (cap : Nat) (l : List (List UInt8)) (fuse changes : Int) (KA : Option Addr) (kcap : Nat) (keep : List Int) {w : World} (hn : (Lit.int .u64 n0).wf = true) (ha : Txs w A l) (hl : l.length ≤ maxLen ∧ (∀ x ∈ l, x.length ≤ maxLen) ∧ l.length ≤ cap ∧ cap ≤ maxLen) (hfu : (Lit.int .u8 fuse).wf = true) (hch : (Lit.int .i64 changes).wf = true) (hk : IntsAt (fun i => i < w.heap.size) w (.slice KA keep.length kcap) keep) (hkl : keep.length ≤ maxLen) (hv : Vars w) :
    Calls Tryz.prog 5 #[.int .u64 n0, .slice A l.length cap, .int .u8 fuse, .int .i64 changes, .slice KA keep.length kcap] w fun e w' => e = .returned (.bool true) ∧ Kept w w' := by
  obtain ⟨h1, h2⟩ := bounds_u64 hn
  obtain ⟨f1, f2⟩ := bounds_u8 hfu
  obtain ⟨n, rfl⟩ : ∃ n : Nat, n0 = (n : Int) := ⟨n0.toNat, by omega⟩
  by_cases hn' : n ≤ 1099511627776
  · exact keeps_in n hn' A cap l fuse changes f1 f2 KA kcap keep ha hl hk hkl hv
  · exact keeps_far n (by omega) A cap l fuse changes KA kcap keep hv
end Go.Proofs.YtlkcdcpdccmodaaGreatDoor
