/-
  FsSure of the statements of layer 3 returns true, whatever acts, name, bytes, crash.
-/
import Derived.Test.YtomgbanpldecfaaFsLawDead
import Derived.Test.YtomgbanpldecfaaFsSureMath
namespace Go.Proofs.Ytomgbanpldecfaa
open Go.ChangeShapes Go.WideShapes Go.ChangeAt Go.RowKit Go.Maps
set_option linter.unusedVariables false
set_option maxHeartbeats 400000

theorem ext_of {s : ByteArray} (a b : Nat) : s.extract a b = bs ((s.data.toList.drop a).take (b - a)) := bs_of (by rw [Lib.extract_data])
theorem sure_end (b more S : ByteArray) (j : Nat) (hj : j ≤ more.size) (z2 : b.size ≤ 1000) (z3 : more.size ≤ 1000) (hS : bs (b.data.toList ++ more.data.toList.take j) = S) :
    b.size ≤ S.size ∧ decide (b.size ≤ S.size) = true ∧ (b.size : Int) ≤ (S.size : Int) ∧ S.extract 0 b.size = b ∧ IntKind.i64.wrap ((b.size : Int) + (more.size : Int)) = (b.size : Int) + (more.size : Int) ∧ (S.size : Int) ≤ (b.size : Int) + (more.size : Int) ∧
      decide ((S.size : Int) ≤ (b.size : Int) + (more.size : Int)) = true ∧ IntKind.i64.wrap ((S.size : Int) - (b.size : Int)) = (j : Int) ∧ (j : Int) ≤ (more.size : Int) ∧ S.extract b.size S.size = more.extract 0 j := by
  have hbl : b.data.toList.length = b.size := by simp
  have hml : more.data.toList.length = more.size := by simp
  have hSz : S.size = b.size + j := by rw [← hS, bs_len, List.length_append, List.length_take, hbl, hml]; omega
  have hd : S.data.toList = b.data.toList ++ more.data.toList.take j := by rw [← hS]; rfl
  refine ⟨by omega, by simp; omega, by omega, ?_, IntWalk.i64_in _ (by omega), by omega, by simp; omega, ?_, by omega, ?_⟩
  · rw [ext_of, hd, List.drop_zero, Nat.sub_zero, List.take_append, List.take_of_length_le (by omega), hbl, Nat.sub_self, List.take_zero, List.append_nil, bs_self']
  · have e : (S.size : Int) - (b.size : Int) = (j : Int) := by omega
    rw [e]; exact IntWalk.i64_in _ (by omega)
  · rw [ext_of, ext_of, hd, List.drop_append, List.drop_of_length_le (by omega), hbl, Nat.sub_self, List.drop_zero, List.nil_append, List.drop_zero, Nat.sub_zero, List.take_take]
    congr 2
    omega
set_option maxRecDepth 100000 in
set_option maxHeartbeats 8000000 in
theorem FsSure_walk (A : Option Addr) (cap : Nat) (l : List FsAct) (s b more : ByteArray) (n : Int) (KA : Option Addr) (kcap : Nat) (keep : List Int) {w : World} (ha : ActsIn w.heap.size w A l) (hll : l.length ≤ maxLen) (hs : s.size ≤ maxLen) (hb : b.size ≤ maxLen) (hm : more.size ≤ maxLen) (hn : (Lit.int .i64 n).wf = true)
    (hkv : IntsAt (fun i => i < w.heap.size) w (.slice KA keep.length kcap) keep) (hkl : keep.length ≤ maxLen) :
    Calls Try.prog 3 #[.slice A l.length cap, .string s, .string b, .string more, .int .i64 n, .slice KA keep.length kcap] w fun e w' => e = .returned (.bool true) ∧ Kept w w' := by
  unfold maxLen at hll hs hb hm hkl
  have hnw : ∀ W, Kept w W → Calls Try.prog 9 #[] W fun e w' => ∃ p, e = .returned (.pointer (some ⟨p, 0, none⟩)) ∧ Dk (fun b => b < w.heap.size) w' p Fs.new ∧ Kp (fun b => b < w.heap.size) W w' := fun W hW => new_any (fun b hb => Nat.lt_of_lt_of_le hb (Below.size hW))
  by_cases hsz : s.size ≤ 100 ∧ b.size ≤ 1000 ∧ more.size ≤ 1000 ∧ keep.length ≤ 100
  · obtain ⟨z1, z2, z3, z4⟩ := hsz
    go_enter Try.func3, Try.ntmps3
    go_wp2_with (first
      | (go_at_call 8; refine (awake_any _).mono ?_; rintro e w1 ⟨rfl, g1⟩)
      | (go_at_call 9; refine (hnw _ g1).mono ?_; rintro e w2 ⟨p, rfl, d2, k2⟩))
    have HN := Lib.hid hnw; clear hnw
    have kw2 : Kp (fun b => b < w.heap.size) w w2 := (kp_kept g1 (fun b hb => hb)).trans k2
    clear k2 g1
    go_loopw [14] (fun t wr => ∃ (k : Nat) (m : Fs.Dsk), k ≤ l.length ∧ k ≤ 100 ∧ t = .int .i64 k ∧ Dk (fun b => b < w.heap.size) wr p m ∧ Fs.tot m.files ≤ 1000 * k ∧ m.pend.length ≤ k ∧ Hid (Fs.Off m ∧ m.quota = 1048576) ∧ Kp (fun b => b < w.heap.size) w wr) (fun t _ => l.length - (intOf t).toNat)
    case atStart => exact ⟨0, Fs.new, Nat.zero_le _, by omega, rfl, d2, by simp [Fs.new, Fs.tot], by simp [Fs.new], ⟨⟨rfl, rfl⟩, rfl⟩, kw2⟩
    case round =>
      obtain ⟨k, m, hk1, hk2, rfl, ⟨G, h⟩, htot, hpend, HO, kw⟩ := hrel
      clear d2 kw2
      by_cases hlt : k < l.length ∧ k < 100
      · obtain ⟨hlt, hlt2⟩ := hlt
        obtain ⟨x, hx⟩ : ∃ x, l[k]? = some x := ⟨_, List.getElem?_eq_getElem hlt⟩
        obtain ⟨b', o, hA, hact⟩ := (ha.kp kw) k x hx
        subst hA
        obtain ⟨hbB, c0, c1, c2, c3, ⟨ka, kc, c4, hks⟩, n1, a1, b1, kk1⟩ := hact
        have hlg := large_any x ka kc kk1 a1 b1
        cases hL : x.large
        · have hlg' : ∀ W, Calls Try.prog 10 #[.agg #[.int .i64 x.kind, .int .i64 x.n, .string x.a, .string x.b, .slice ka x.k.length kc]] W fun e w' => e = .returned (.bool false) ∧ Kept W w' := fun W => by have := hlg W; rw [hL] at this; exact this
          obtain ⟨hs1, hs2, hs3⟩ := large_no hL
          have HFT := Lib.hid (fplay_tot m x)
          have HFO := Lib.hid (fun h6 => fplay_off HO.out.1 x h6)
          have HFQ := Lib.hid (fun h7 => fplay_quota m x h7)
          clear hlg hL hx
          have hbl : x.b.data.toList.length = x.b.size := by simp
          have HBL := Lib.hid hbl; clear hbl
          go_wp2_with fail
          refine (hlg' _).mono ?_
          rintro e w3 ⟨rfl, g3⟩
          have kw3 := kw.trans (kp_kept g3 h.lt)
          have hc3 : ∀ j, w3.cell? ⟨b', j, none⟩ = wr.cell? ⟨b', j, none⟩ := fun j => kept_cell g3 (p := ⟨b', j, none⟩) (Nat.lt_of_lt_of_le hbB kw.size)
          have y0 := (hc3 _).trans c0
          have y1 := (hc3 _).trans c1
          have y2 := (hc3 _).trans c2
          have y3 := (hc3 _).trans c3
          have y4 := (hc3 _).trans c4
          clear hc3 c0 c1 c2 c3 c4
          have hpl := play_any (h.kept g3) x ka kc (hks.kp (kp_kept g3 h.lt)) hs3 a1 b1 n1 (by rw [HBL.out]; omega) (by omega)
          by_cases h6 : x.kind < 6
          · go_wp2_with fail
            refine hpl.mono ?_
            rintro e w6 ⟨rfl, d6, k6⟩
            have htot6 : Fs.tot (fplay m x).1.files ≤ 1000 * (k + 1) := by have := HFT.out.1; rw [HBL.out] at this; omega
            have hpend6 : (fplay m x).1.pend.length ≤ k + 1 := by have := HFT.out.2; omega
            go_wp2
            go_roundw
            case rel => exact ⟨k + 1, _, by omega, by omega, by go_num, d6, htot6, hpend6, ⟨HFO.out (by omega), (HFQ.out (by omega)).trans HO.out.2⟩, kw3.trans k6⟩
            case measure => simp [intOf]; omega
          · have hge6 : 6 ≤ x.kind := by omega
            clear h6
            go_wp2
            go_roundw
            case rel => exact ⟨k + 1, m, by omega, by omega, by go_num, ⟨G, h.kept g3⟩, by omega, by omega, HO, kw3⟩
            case measure => simp [intOf]; omega
        · have hlg' : ∀ W, Calls Try.prog 10 #[.agg #[.int .i64 x.kind, .int .i64 x.n, .string x.a, .string x.b, .slice ka x.k.length kc]] W fun e w' => e = .returned (.bool true) ∧ Kept W w' := fun W => by have := hlg W; rw [hL] at this; exact this
          clear hlg hL hx
          go_wp2_with (go_at_call 10; refine (hlg' _).mono ?_; rintro e w3 ⟨rfl, g3⟩)
          go_ret
          exact ⟨rfl, kept_trans (kw.below (fun i hi => hi)) g3⟩
      · have hcc := create_any h s (by unfold maxLen; omega) (by omega)
        have htail := fun hc => Fs.sure_tail h.good HO.out.1 HO.out.2 (by omega) (by omega) (s := s.data.toList) hc b.data.toList more.data.toList (by simpa using z2) (by simpa using z3) n keep
        have HTL := Lib.hid htail; clear htail
        have hkr := hkv.kp kw
        by_cases hc : (Fs.create m s.data.toList).2 = 0
        · obtain ⟨m1, m2, m3, m4, m5, e1, e2, e3, e4, e5, t1, t4, j, hj, er⟩ := HTL.out hc
          have c1 := dk_of hcc e1
          have HE2 := Lib.hid e2; have HE3 := Lib.hid e3; have HE4 := Lib.hid e4; have HE5 := Lib.hid e5; have HER := Lib.hid er
          clear hcc e1 e2 e3 e4 e5 er hc HTL
          by_cases hlt' : k < l.length
          · have hk100 : ¬ (k < 100) := by omega
            clear hlt
            go_wp2_with fail
            refine c1.mono ?_
            rintro e w3 ⟨rfl, ⟨G3, h3⟩, k3⟩
            go_wp2_with fail
            refine (dk_of (append_any h3 s b (by unfold maxLen; omega) (by unfold maxLen; omega) t1) HE2.out).mono ?_
            rintro e w4 ⟨rfl, ⟨G4, h4⟩, k4⟩
            go_wp2_with fail
            refine (dk_of (sync_any h4 s (by unfold maxLen; omega)) HE3.out).mono ?_
            rintro e w5 ⟨rfl, ⟨G5, h5⟩, k5⟩
            go_wp2_with fail
            refine (dk_of (syncDir_any h5) HE4.out).mono ?_
            rintro e w6 ⟨rfl, ⟨G6, h6⟩, k6⟩
            go_wp2_with fail
            refine (dk_of (append_any h6 s more (by unfold maxLen; omega) (by unfold maxLen; omega) t4) HE5.out).mono ?_
            rintro e w7 ⟨rfl, ⟨G7, h7⟩, k7⟩
            go_wp2_with fail
            refine (crash_any h7 n _ keep (by omega) (hkr.kp ((((k3.trans k4).trans k5).trans k6).trans k7))).mono ?_
            rintro e w8 ⟨rfl, ⟨G8, h8⟩, k8⟩
            go_wp2_with fail
            refine (read_of h8 s (by unfold maxLen; omega) HER.out).mono ?_
            rintro e w9 ⟨rfl, rfl⟩
            go_wp2
            have hj' : j ≤ more.size := by simpa using hj
            generalize hS : bs (b.data.toList ++ more.data.toList.take j) = S
            have HS := Lib.hid hS; clear hS
            obtain ⟨f1, f2, f3, f4, f5, f6, f7, f8, f9, f10⟩ := sure_end b more S j hj' z2 z3 HS.out
            go_quiet (fail)
            go_wp2
            go_ret
            exact ⟨rfl, kept_trans ((((((((kw.trans k3).trans k4).trans k5).trans k6).trans k7).trans k8)).below (fun i hi => hi)) (kept_drewN _ _)⟩
          · clear hlt
            go_wp2_with fail
            refine c1.mono ?_
            rintro e w3 ⟨rfl, ⟨G3, h3⟩, k3⟩
            go_wp2_with fail
            refine (dk_of (append_any h3 s b (by unfold maxLen; omega) (by unfold maxLen; omega) t1) HE2.out).mono ?_
            rintro e w4 ⟨rfl, ⟨G4, h4⟩, k4⟩
            go_wp2_with fail
            refine (dk_of (sync_any h4 s (by unfold maxLen; omega)) HE3.out).mono ?_
            rintro e w5 ⟨rfl, ⟨G5, h5⟩, k5⟩
            go_wp2_with fail
            refine (dk_of (syncDir_any h5) HE4.out).mono ?_
            rintro e w6 ⟨rfl, ⟨G6, h6⟩, k6⟩
            go_wp2_with fail
            refine (dk_of (append_any h6 s more (by unfold maxLen; omega) (by unfold maxLen; omega) t4) HE5.out).mono ?_
            rintro e w7 ⟨rfl, ⟨G7, h7⟩, k7⟩
            go_wp2_with fail
            refine (crash_any h7 n _ keep (by omega) (hkr.kp ((((k3.trans k4).trans k5).trans k6).trans k7))).mono ?_
            rintro e w8 ⟨rfl, ⟨G8, h8⟩, k8⟩
            go_wp2_with fail
            refine (read_of h8 s (by unfold maxLen; omega) HER.out).mono ?_
            rintro e w9 ⟨rfl, rfl⟩
            go_wp2
            have hj' : j ≤ more.size := by simpa using hj
            generalize hS : bs (b.data.toList ++ more.data.toList.take j) = S
            have HS := Lib.hid hS; clear hS
            obtain ⟨f1, f2, f3, f4, f5, f6, f7, f8, f9, f10⟩ := sure_end b more S j hj' z2 z3 HS.out
            go_quiet (fail)
            go_wp2
            go_ret
            exact ⟨rfl, kept_trans ((((((((kw.trans k3).trans k4).trans k5).trans k6).trans k7).trans k8)).below (fun i hi => hi)) (kept_drewN _ _)⟩
        · have b0 : ((Fs.create m s.data.toList).2 == 0) = false := by simpa using hc
          have HCC := Lib.hid hcc
          clear hcc hc HTL
          generalize Fs.create m s.data.toList = r at HCC b0
          obtain ⟨m1, c1⟩ := r
          simp only at b0
          by_cases hlt' : k < l.length
          · have hk100 : ¬ (k < 100) := by omega
            clear hlt
            go_wp2_with fail
            refine HCC.out.mono ?_
            rintro e w3 ⟨rfl, d3, k3⟩
            simp only
            go_wp2
            go_ret
            exact ⟨rfl, (kw.trans k3).below (fun i hi => hi)⟩
          · clear hlt
            go_wp2_with fail
            refine HCC.out.mono ?_
            rintro e w3 ⟨rfl, d3, k3⟩
            simp only
            go_wp2
            go_ret
            exact ⟨rfl, (kw.trans k3).below (fun i hi => hi)⟩
  · clear hnw
    by_cases q1 : s.size ≤ 100
    · by_cases q2 : b.size ≤ 1000
      · by_cases q3 : more.size ≤ 1000
        · have q4 : 100 < keep.length := by omega
          clear hsz
          go_enter Try.func3, Try.ntmps3
          go_wp2_with (go_at_call 8; refine (awake_any _).mono ?_; rintro e w1 ⟨rfl, g1⟩)
          go_ret
          exact ⟨rfl, g1⟩
        · have q4 : 1000 < more.size := by omega
          clear hsz
          go_enter Try.func3, Try.ntmps3
          go_wp2_with (go_at_call 8; refine (awake_any _).mono ?_; rintro e w1 ⟨rfl, g1⟩)
          go_ret
          exact ⟨rfl, g1⟩
      · have q4 : 1000 < b.size := by omega
        clear hsz
        go_enter Try.func3, Try.ntmps3
        go_wp2_with (go_at_call 8; refine (awake_any _).mono ?_; rintro e w1 ⟨rfl, g1⟩)
        go_ret
        exact ⟨rfl, g1⟩
    · have q4 : 100 < s.size := by omega
      clear hsz
      go_enter Try.func3, Try.ntmps3
      go_wp2_with (go_at_call 8; refine (awake_any _).mono ?_; rintro e w1 ⟨rfl, g1⟩)
      go_ret
      exact ⟨rfl, g1⟩
end Go.Proofs.Ytomgbanpldecfaa
