/-
  The document's own: which leases bytes are.
-/
import Derived.Test.YtdmnmbomijnjeaaColRefDec
namespace Go.Proofs.Ytdmnmbomijnjeaa
open Go.ChangeShapes Go.WideShapes Go.ChangeAt Go.RowKit
set_option linter.unusedVariables false
set_option maxRecDepth 100000
set_option maxHeartbeats 8000000
open Co
/-- the reader, the lease that is read, and the list of the call's own -/
structure VK (w0 : World) (B p q : Nat) (v : Value) (n : Nat) (xs : List Value) (R : List UInt8) (b : Bool) (c : Array Value) (W : World) : Prop where
  k : Kept w0 W
  hp : w0.heap.size ≤ p
  hq : w0.heap.size ≤ q
  hpB : p < B
  hpq : p ≠ q
  hvq : v.ownBlock ≠ some q
  i : IRd W p R b
  c : W.heap[q]? = some (.cells c 68 (0, 0))
  o : W.ownsRow B 68 3 v n xs
theorem VK.num {w0 : World} {B p q : Nat} {v : Value} {n : Nat} {xs : List Value} {R R' : List UInt8} {b b' : Bool} {c : Array Value} {W W' : World} (h : VK w0 B p q v n xs R b c W) (hi : IRd W' p R' b') (k : IBut p W W') : VK w0 B p q v n xs R' b' c W' :=
  ⟨k.new h.k h.hp, h.hp, h.hq, h.hpB, h.hpq, h.hvq, hi, k.at h.c (fun e => h.hpq e.symm), k.own h.o (fun e => by have := (h.o.lt p e).1; have := h.hpB; omega)⟩
theorem VK.set {w0 : World} {B p q : Nat} {v : Value} {n : Nat} {xs : List Value} {R : List UInt8} {b : Bool} {c : Array Value} {W : World} (h : VK w0 B p q v n xs R b c W) (j : Nat) (x : Value) : VK w0 B p q v n xs R b (c.setIfInBounds j x) (W.setCell ⟨q, j, none⟩ x) :=
  ⟨clkset h.k h.hq j x, h.hp, h.hq, h.hpB, h.hpq, h.hvq, clset_ne h.i h.hpq j x, clset h.c j x, (IBut.set q j W x).own h.o h.hvq⟩
theorem encL_nil {l : List Ls} {n : Nat} (h : ris n l = true) (e : encL l = []) : l = [] := by
  cases l with
  | nil => rfl
  | cons x l =>
    obtain ⟨h1, _, _⟩ := ris_cons.1 h
    rw [encL] at e
    exact absurd e (enc1_ne x h1 _)
/-- a round of the reader, where the bytes are leases' -/
theorem lse_step {L : List Ls} {k : Nat} {R : List UInt8} (hr : ris 0 L = true) (hR : R = encL (L.drop k)) (hne : R ≠ []) :
    k < L.length ∧ inB (inR (inR R false) (inB R false)) (inB (inR R false) (inB R false)) = false ∧ inR (inR (inR R false) (inB R false)) (inB (inR R false) (inB R false)) = encL (L.drop (k + 1)) ∧
      L.take k ++ [⟨inN R false, inN (inR R false) (inB R false), inN (inR (inR R false) (inB R false)) (inB (inR R false) (inB R false))⟩] = L.take (k + 1) := by
  have hk : k < L.length := by
    apply Nat.lt_of_not_le
    intro h
    rw [hR, List.drop_eq_nil_of_le h] at hne
    exact hne rfl
  obtain ⟨x, hx⟩ : ∃ x, L[k]? = some x := ⟨_, List.getElem?_eq_getElem hk⟩
  have hd : L.drop k = x :: L.drop (k + 1) := by
    rw [List.drop_eq_getElem_cons hk]
    rw [List.getElem?_eq_getElem hk] at hx
    cases hx
    rfl
  have h1 := (ris_mem hr x (List.mem_of_getElem? hx)).1
  rw [hd, encL] at hR
  obtain ⟨a1, a2, a3, a4, a5⟩ := rd1_enc h1 (encL (L.drop (k + 1)))
  rw [← hR] at a1 a2 a3 a4 a5
  obtain ⟨b1, b2, b3⟩ := in_yes a3
  rw [b1, b2, b3]
  obtain ⟨c1, c2, c3⟩ := in_yes a4
  rw [c1, c2, c3]
  obtain ⟨d1, d2, d3⟩ := in_yes a5
  rw [d1, d2, d3]
  refine ⟨hk, rfl, a2, ?_⟩
  rw [List.take_add_one, hx, ← a1]
  rfl
theorem noL {s : List UInt8} (h : bL s = false) : dL s = [] ∧ dLC s = 2 := by unfold dL dLC; rw [h]; exact ⟨rfl, rfl⟩
theorem clrunlease_any (s : List UInt8) (hs : s.length ≤ 16777216) (w : World) :
    Calls Try.prog 23 #[.string (bs s)] w fun e w' => ∃ A c, e = .returned (.tuple #[.slice A (dL s).length c, .int .i64 (dLC s)]) ∧ Lss w' A (dL s) ∧ Kept w w' := by
  obtain ⟨i0, hi, hz0, hz1, hz2⟩ := info_parts rlsInfo
  have HI := Lib.hid hi; have HZ0 := Lib.hid hz0; have HZ1 := Lib.hid hz1; have HZ2 := Lib.hid hz2
  have HYES := Lib.hid (@bL_back s); have HNO := Lib.hid (@noL s)
  have HENC := Lib.hid (fun (M : List Ls) (h1 : isL M = true) (h2 : encL M = s) => (show bL s = true from by rw [← h2]; exact (bL_enc h1).1))
  have HSTEP := Lib.hid (fun k R (h : bL s = true) => @lse_step (dL s) k R (encL_isL (bL_back h).1).2)
  have HDC := Lib.hid (show bL s = true → dLC s = 0 from fun h => by unfold dLC; rw [h]; rfl)
  have HNIL := Lib.hid (fun k (h : bL s = true) => (show encL ((dL s).drop k) = [] → (dL s).drop k = [] from encL_nil (ris_drop k (encL_isL (bL_back h).1).2)))
  have H5 := Lib.hid (fun h : bL s = true => (encL_isL (bL_back h).1).1)
  have H0 := Lib.hid (show bL s = true → s = encL ((dL s).drop 0) from fun h => by rw [List.drop_zero, (bL_back h).2.1])
  have HEQ := Lib.hid (fun l m => clbs_eq l m)
  generalize dLC s = rC at *
  generalize dL s = L at *
  generalize bL s = Q at *
  clear hi hz0 hz1 hz2
  have I0 := Lib.hid (clhp (clnew w (.cells #[.string (bs s), .bool false] 76)) ((Kept.refl _).alloc (.cells #[] 68)))
  have O0 := own_rls0 (w.alloc (.cells #[.string (bs s), .bool false] 76))
  rw [World.size_alloc] at O0
  have HO0 := Lib.hid O0
  have K0 := Lib.hid (show Kept w ((w.alloc (.cells #[.string (bs s), .bool false] 76)).alloc (.cells #[] 68)) from ((Kept.refl w).alloc _).alloc _)
  clear O0
  go_enter Try.func23, Try.ntmps23
  go_wp2_with fail
  go_loopw [5, 6] (fun v t wr => ∃ (M : List Ls) (R : List UInt8) (b : Bool) (k : Nat) (A : Option Addr) (c : Nat), k ≤ 6 ∧ M.length = k ∧ v = .slice A k c ∧ t = .int .i64 k ∧ Hid (wr.ownsRow (w.heap.size + 1) 68 3 (.slice A k c) k (lsl M)) ∧ Hid (IRd wr w.heap.size R b) ∧ R.length ≤ s.length ∧ Hid (Q = true → k ≤ L.length ∧ b = false ∧ M = L.take k ∧ R = encL (L.drop k)) ∧ Hid (Kept w wr)) (fun _ t _ => 6 - (intOf t).toNat)
  case atStart => exact ⟨[], s, false, 0, _, _, by omega, rfl, rfl, rfl, HO0, I0, Nat.le_refl _, Lib.hid (fun h => ⟨Nat.zero_le _, rfl, rfl, H0.out h⟩), K0⟩
  case round =>
    obtain ⟨M, R, b, k, A, c, hk6, hM, rfl, rfl, HOWN, HIN, hRl, HG, HK⟩ := hrel
    have i0' := ircell HIN.out 0 rfl
    have i1' := ircell HIN.out 1 rfl
    have HZR := Lib.hid (clbs_size R)
    by_cases hgo : k < 6 ∧ R ≠ [] ∧ b = false
    · obtain ⟨h6, hR, rfl⟩ := hgo
      have d1 : decide ((k : Int) < 6) = true := decide_eq_true (by omega)
      have hRpos : 0 < R.length := List.length_pos_iff.2 hR
      have d2 : decide ((0 : Int) < ((bs R).size : Int)) = true := decide_eq_true (by rw [HZR.out]; omega)
      have d3 : 0 < (bs R).size := by rw [HZR.out]; exact hRpos
      have d4 : decide (0 < (bs R).size) = true := decide_eq_true d3
      have l1 := inR_le R false
      have l2 := inR_le (inR R false) (inB R false)
      have l3 := inR_le (inR (inR R false) (inB R false)) (inB (inR R false) (inB R false))
      have HN1 := Lib.hid (fun W (h : IRd W w.heap.size R false) => irnum_any (by omega) W h)
      have HN2 := Lib.hid (fun W (h : IRd W w.heap.size (inR R false) (inB R false)) => irnum_any (by omega) W h)
      have HN3 := Lib.hid (fun W (h : IRd W w.heap.size (inR (inR R false) (inB R false)) (inB (inR R false) (inB R false))) => irnum_any (by omega) W h)
      have HL3 := Lib.hid (show (inR (inR (inR R false) (inB R false)) (inB (inR R false) (inB R false))).length ≤ s.length from by omega)
      have HG3 := Lib.hid (fun (h : Q = true) => (show k + 1 ≤ L.length ∧ inB (inR (inR R false) (inB R false)) (inB (inR R false) (inB R false)) = false ∧ M ++ [⟨inN R false, inN (inR R false) (inB R false), inN (inR (inR R false) (inB R false)) (inB (inR R false) (inB R false))⟩] = L.take (k + 1) ∧ inR (inR (inR R false) (inB R false)) (inB (inR R false) (inB R false)) = encL (L.drop (k + 1)) from by
        obtain ⟨g1, _, g3, g4⟩ := HG.out h
        obtain ⟨q1, q2, q3, q4⟩ := HSTEP.out k R h g4 hR
        exact ⟨q1, q2, by rw [g3]; exact q4, q3⟩))
      obtain ⟨M', hM'⟩ : ∃ M' : List Ls, M' = M ++ [⟨inN R false, inN (inR R false) (inB R false), inN (inR (inR R false) (inB R false)) (inB (inR R false) (inB R false))⟩] := ⟨_, rfl⟩
      rw [← hM'] at HG3
      have HQL := Lib.hid (show lsl M' = lsl M ++ [.int .u64 (inN R false : Nat), .int .u64 (inN (inR R false) (inB R false) : Nat), .int .u64 (inN (inR (inR R false) (inB R false)) (inB (inR R false) (inB R false)) : Nat)] from by rw [hM', lsl_app, lsl_one]; rfl)
      have HLN := Lib.hid (show M'.length = k + 1 from by rw [hM', List.length_append, hM]; rfl)
      clear hM' l1 l2 l3 HG hR hRpos
      generalize inN (inR (inR R false) (inB R false)) (inB (inR R false) (inB R false)) = N3 at *
      generalize inB (inR (inR R false) (inB R false)) (inB (inR R false) (inB R false)) = B3 at *
      generalize inR (inR (inR R false) (inB R false)) (inB (inR R false) (inB R false)) = R3 at *
      generalize inN (inR R false) (inB R false) = N2 at *
      generalize inB (inR R false) (inB R false) = B2 at *
      generalize inR (inR R false) (inB R false) = R2 at *
      generalize inN R false = N1 at *
      generalize inB R false = B1 at *
      generalize inR R false = R1 at *
      have V0 := Lib.hid (show VK w (w.heap.size + 1) w.heap.size wr.heap.size (.slice A k c) k (lsl M) R false #[.int .u64 0, .int .u64 0, .int .u64 0] (wr.alloc (.cells #[.int .u64 0, .int .u64 0, .int .u64 0] 68)) from
        ⟨HK.out.alloc _, Nat.le_refl _, HK.out.size, Nat.lt_succ_self _, (fun e => by have := cllt HIN.out; omega), (fun e => by have := (HOWN.out.lt _ e).2; omega), HIN.out.kept ((Kept.refl _).alloc _), clnew _ _, HOWN.out.alloc _⟩)
      go_wp2_with fail
      refine (HN1.out _ V0.out.i).mono ?_
      rintro e w2 ⟨rfl, i2, g2⟩
      have V2 := Lib.hid (V0.out.num i2 g2)
      have y1 := clcell V2.out.c 0 rfl; have f1 := clsoft V2.out.c 0
      have V3 := Lib.hid (V2.out.set 0 (.int .u64 (N1 : Nat)))
      clear i2 g2 V0 i0' i1'
      go_wp2_with fail
      refine (HN2.out _ V3.out.i).mono ?_
      rintro e w4 ⟨rfl, i4, g4⟩
      have V4 := Lib.hid (V3.out.num i4 g4)
      clear y1 f1
      have y1 := clcell V4.out.c 1 rfl; have f1 := clsoft V4.out.c 1
      have V5 := Lib.hid (V4.out.set 1 (.int .u64 (N2 : Nat)))
      clear i4 g4 V2 V3
      go_wp2_with fail
      refine (HN3.out _ V5.out.i).mono ?_
      rintro e w6 ⟨rfl, i6, g6⟩
      have V6 := Lib.hid (V5.out.num i6 g6)
      clear y1 f1
      have y1 := clcell V6.out.c 2 rfl; have f1 := clsoft V6.out.c 2
      have V7 := Lib.hid (V6.out.set 2 (.int .u64 (N3 : Nat)))
      have x0 := clcell V7.out.c 0 rfl; have x1 := clcell V7.out.c 1 rfl; have x2 := clcell V7.out.c 2 rfl
      clear i6 g6 V4 V5
      obtain ⟨w7, hw7⟩ : ∃ w7, w7 = w6.setCell ⟨wr.heap.size, 2, none⟩ (.int .u64 (N3 : Nat)) := ⟨_, rfl⟩
      rw [← hw7] at V7 x0 x1 x2
      go_upto_region 10 with fail
      rw [← hw7]
      clear y1 f1 V6 hw7
      go_wp2_with (at_builtin; refine wpList_append_own _ rfl _ _ 35 rfl (w.heap.size + 1) 68 i0 zlsV 3 24 Try.underlying35 HI.out HZ0.out HZ1.out HZ2.out rfl (by decide) _ k (lsl M) rfl (V7.out.o.alloc _) ⟨w7.heap.size, 0, none⟩ 1 1 [.int .u64 (N1 : Nat), .int .u64 (N2 : Nat), .int .u64 (N3 : Nat)] rfl rfl (clnew3 _ _ _ _ _ _ rfl) (by simp [Value.oneCell']) (by unfold maxLen; omega) (by omega) (by rw [World.size_alloc]; have := cllt V7.out.i; omega) ?_)
      intro v' w8 hown2 hg _
      have K8 := Lib.hid (show Kept w w8 from Below.grown (V7.out.k.alloc _) hg (by rw [World.size_alloc]; have := V7.out.k.size; omega) (fun b hb => by have := (V7.out.o.lt b hb).1; omega))
      have I8 := Lib.hid (show IRd w8 w.heap.size R3 B3 from by
        have h1 := V7.out.i.kept ((Kept.refl w7).alloc (.cells #[.int .u64 (N1 : Nat), .int .u64 (N2 : Nat), .int .u64 (N3 : Nat)] 68))
        exact (hg.block _ (cllt h1) (fun e => by have := (V7.out.o.lt _ e.symm).1; omega)).trans h1)
      rw [← HQL.out] at hown2
      obtain ⟨A2, c2, rfl, hl2, _⟩ := lss_own hown2
      rw [HLN.out] at hown2 ⊢
      have O8 := Lib.hid hown2
      clear hown2 hg x0 x1 x2 V7
      go_wp2_with fail
      go_roundw
      case rel => exact ⟨M', R3, B3, k + 1, A2, c2, by omega, HLN.out, rfl, by go_num, O8, I8, HL3.out, HG3, K8⟩
      case measure => simp [intOf]; omega
    · obtain ⟨A', c', hsl, hnl, hls⟩ := lss_own HOWN.out
      obtain ⟨rfl, rfl⟩ : A' = A ∧ c' = c := by
        injection hsl with q1 q2 q3; exact ⟨q1.symm, q3.symm⟩
      have HCL := Lib.hid (fun W (hW : Kept wr W) => clrleases_any (hls.lss.kept hW) (by omega) c')
      rw [hM] at HCL
      have HLS := Lib.hid hls
      clear hls hsl hnl HOWN HI HZ0 HZ1 HZ2
      by_cases h6 : k = 6
      · subst h6
        have d1 : decide (((6 : Nat) : Int) < 6) = false := rfl
        clear hgo
        cases Q with
        | true =>
          obtain ⟨g1, _⟩ := HG.out rfl
          have := H5.out rfl
          omega
        | false =>
        obtain ⟨rfl, rfl⟩ := HNO.out rfl
        cases b with
        | true =>
          obtain ⟨T9, hT9⟩ : ∃ T9, T9 = bs (encLS M) := ⟨_, rfl⟩
          obtain ⟨C9, hC9⟩ : ∃ C9, C9 = encLC M := ⟨_, rfl⟩
          rw [← hT9, ← hC9] at HCL
          clear hT9 hC9 HYES HNO HENC HSTEP HDC HNIL H5 H0 HG HEQ
          go_wp2_with fail
          refine (HCL.out _ (Kept.refl _)).mono ?_
          rintro e w9 ⟨rfl, g9⟩
          have K9 := Lib.hid (kept_trans HK.out g9)
          have ib9 := ircell (HIN.out.kept g9) 1 rfl
          have HLS9 := Lib.hid (HLS.out.lss.kept g9)
          clear g9 i0' i1'
          go_wp2_with fail
          go_ret2
          exact ⟨none, 0, rfl, Lss.nil _ _, K9.out⟩
        | false =>
        cases hik : isL M with
        | false =>
          rw [show encLC M = 2 from by unfold encLC; rw [hik]; rfl] at HCL
          generalize bs (encLS M) = T9 at *
          clear hik HYES HNO HENC HSTEP HDC HNIL H5 H0 HG HEQ
          go_wp2_with fail
          refine (HCL.out _ (Kept.refl _)).mono ?_
          rintro e w9 ⟨rfl, g9⟩
          have K9 := Lib.hid (kept_trans HK.out g9)
          have ib9 := ircell (HIN.out.kept g9) 1 rfl
          have HLS9 := Lib.hid (HLS.out.lss.kept g9)
          clear g9 i0' i1'
          go_wp2_with fail
          go_ret2
          exact ⟨none, 0, rfl, Lss.nil _ _, K9.out⟩
        | true =>
          have hns : encL M ≠ s := fun h => by have := HENC.out M hik h; cases this
          rw [show encLC M = 0 from by unfold encLC; rw [hik]; rfl, show encLS M = encL M from by unfold encLS; rw [hik]; rfl] at HCL
          have hne : ((bs (encL M)).toList == (bs s).toList) = false := by rw [HEQ.out]; simp [hns]
          have hne2 : ((bs (encL M)).toList != (bs s).toList) = true := by rw [bne, hne]; rfl
          generalize bs (encL M) = T9 at *
          generalize bs s = S at *
          clear hik hns HYES HNO HENC HSTEP HDC HNIL H5 H0 HG HEQ
          go_wp2_with fail
          refine (HCL.out _ (Kept.refl _)).mono ?_
          rintro e w9 ⟨rfl, g9⟩
          have K9 := Lib.hid (kept_trans HK.out g9)
          have ib9 := ircell (HIN.out.kept g9) 1 rfl
          have HLS9 := Lib.hid (HLS.out.lss.kept g9)
          clear g9 i0' i1'
          go_wp2_with fail
          go_ret2
          exact ⟨none, 0, rfl, Lss.nil _ _, K9.out⟩
      have d1 : decide ((k : Int) < 6) = true := decide_eq_true (by omega)
      by_cases hR : R = []
      · subst hR
        have d2 : decide ((0 : Int) < ((bs []).size : Int)) = false := rfl
        have d3 : ¬ 0 < (bs []).size := Nat.lt_irrefl 0
        have d4 : decide (0 < (bs []).size) = false := rfl
        have hk5 : k ≤ 5 := by omega
        clear hgo
        cases Q with
        | true =>
          obtain ⟨g1, rfl, g3, g4⟩ := HG.out rfl
          have hd := HNIL.out k rfl g4.symm
          have hkl : k = L.length := by
            have := congrArg List.length hd
            rw [List.length_drop] at this
            simp at this
            omega
          have hML : M = L := by rw [g3, hkl, List.take_length]
          obtain ⟨y1, y2, _⟩ := HYES.out rfl
          have hT9 : bs (encLS M) = bs s := by rw [hML]; unfold encLS; rw [if_pos y1, y2]
          have hC9 : encLC M = 0 := by rw [hML]; unfold encLC; rw [if_pos y1]
          rw [hT9, hC9] at HCL
          have HDC9 := Lib.hid (HDC.out rfl)
          have HKL := Lib.hid hkl; have HML := Lib.hid hML
          have hne : ((bs s).toList != (bs s).toList) = false := by simp
          clear hd hkl hML y1 y2 hT9 hC9 g3 g4 HYES HNO HENC HSTEP HDC HNIL H5 H0 HG HEQ
          go_wp2_with fail
          refine (HCL.out _ (Kept.refl _)).mono ?_
          rintro e w9 ⟨rfl, g9⟩
          have K9 := Lib.hid (kept_trans HK.out g9)
          have ib9 := ircell (HIN.out.kept g9) 1 rfl
          have HLS9 := Lib.hid (HLS.out.lss.kept g9)
          clear g9 i0' i1'
          go_wp2_with fail
          go_ret2
          exact ⟨A', c', by rw [HDC9.out, ← HKL.out] <;> rfl, by rw [← HML.out]; exact HLS9.out, K9.out⟩
        | false =>
        obtain ⟨rfl, rfl⟩ := HNO.out rfl
        cases b with
        | true =>
          obtain ⟨T9, hT9⟩ : ∃ T9, T9 = bs (encLS M) := ⟨_, rfl⟩
          obtain ⟨C9, hC9⟩ : ∃ C9, C9 = encLC M := ⟨_, rfl⟩
          rw [← hT9, ← hC9] at HCL
          clear hT9 hC9 HYES HNO HENC HSTEP HDC HNIL H5 H0 HG HEQ
          go_wp2_with fail
          refine (HCL.out _ (Kept.refl _)).mono ?_
          rintro e w9 ⟨rfl, g9⟩
          have K9 := Lib.hid (kept_trans HK.out g9)
          have ib9 := ircell (HIN.out.kept g9) 1 rfl
          have HLS9 := Lib.hid (HLS.out.lss.kept g9)
          clear g9 i0' i1'
          go_wp2_with fail
          go_ret2
          exact ⟨none, 0, rfl, Lss.nil _ _, K9.out⟩
        | false =>
        cases hik : isL M with
        | false =>
          rw [show encLC M = 2 from by unfold encLC; rw [hik]; rfl] at HCL
          generalize bs (encLS M) = T9 at *
          clear hik HYES HNO HENC HSTEP HDC HNIL H5 H0 HG HEQ
          go_wp2_with fail
          refine (HCL.out _ (Kept.refl _)).mono ?_
          rintro e w9 ⟨rfl, g9⟩
          have K9 := Lib.hid (kept_trans HK.out g9)
          have ib9 := ircell (HIN.out.kept g9) 1 rfl
          have HLS9 := Lib.hid (HLS.out.lss.kept g9)
          clear g9 i0' i1'
          go_wp2_with fail
          go_ret2
          exact ⟨none, 0, rfl, Lss.nil _ _, K9.out⟩
        | true =>
          have hns : encL M ≠ s := fun h => by have := HENC.out M hik h; cases this
          rw [show encLC M = 0 from by unfold encLC; rw [hik]; rfl, show encLS M = encL M from by unfold encLS; rw [hik]; rfl] at HCL
          have hne : ((bs (encL M)).toList == (bs s).toList) = false := by rw [HEQ.out]; simp [hns]
          have hne2 : ((bs (encL M)).toList != (bs s).toList) = true := by rw [bne, hne]; rfl
          generalize bs (encL M) = T9 at *
          generalize bs s = S at *
          clear hik hns HYES HNO HENC HSTEP HDC HNIL H5 H0 HG HEQ
          go_wp2_with fail
          refine (HCL.out _ (Kept.refl _)).mono ?_
          rintro e w9 ⟨rfl, g9⟩
          have K9 := Lib.hid (kept_trans HK.out g9)
          have ib9 := ircell (HIN.out.kept g9) 1 rfl
          have HLS9 := Lib.hid (HLS.out.lss.kept g9)
          clear g9 i0' i1'
          go_wp2_with fail
          go_ret2
          exact ⟨none, 0, rfl, Lss.nil _ _, K9.out⟩
      have hRpos : 0 < R.length := List.length_pos_iff.2 hR
      have d2 : decide ((0 : Int) < ((bs R).size : Int)) = true := decide_eq_true (by rw [HZR.out]; omega)
      have d3 : 0 < (bs R).size := by rw [HZR.out]; exact hRpos
      have d4 : decide (0 < (bs R).size) = true := decide_eq_true d3
      have hb : b = true := by
        cases b with
        | true => rfl
        | false => exact absurd ⟨by omega, hR, rfl⟩ hgo
      subst hb
      clear hgo hR hRpos
      cases Q with
      | true =>
        obtain ⟨_, g2, _⟩ := HG.out rfl
        cases g2
      | false =>
      obtain ⟨rfl, rfl⟩ := HNO.out rfl
      obtain ⟨T9, hT9⟩ : ∃ T9, T9 = bs (encLS M) := ⟨_, rfl⟩
      obtain ⟨C9, hC9⟩ : ∃ C9, C9 = encLC M := ⟨_, rfl⟩
      rw [← hT9, ← hC9] at HCL
      clear hT9 hC9 HYES HNO HENC HSTEP HDC HNIL H5 H0 HG HEQ
      go_wp2_with fail
      refine (HCL.out _ (Kept.refl _)).mono ?_
      rintro e w9 ⟨rfl, g9⟩
      have K9 := Lib.hid (kept_trans HK.out g9)
      have ib9 := ircell (HIN.out.kept g9) 1 rfl
      have HLS9 := Lib.hid (HLS.out.lss.kept g9)
      clear g9 i0' i1'
      go_wp2_with fail
      go_ret2
      exact ⟨none, 0, rfl, Lss.nil _ _, K9.out⟩
end Go.Proofs.Ytdmnmbomijnjeaa
