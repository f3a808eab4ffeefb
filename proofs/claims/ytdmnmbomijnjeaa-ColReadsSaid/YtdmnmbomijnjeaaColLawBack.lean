/-
  ColBack: what is encoded is decoded to the same; what is decoded has just these bytes.
-/
import Derived.Test.YtdmnmbomijnjeaaColOwn
import Derived.Test.YtdmnmbomijnjeaaColLawApart
namespace Go.Proofs.Ytdmnmbomijnjeaa
open Go.ChangeShapes Go.WideShapes Go.ChangeAt Go.RowKit
set_option linter.unusedVariables false
set_option maxRecDepth 100000
set_option maxHeartbeats 8000000
open Co
theorem lk_neq (x : Lk) (W : World) : Sem.run Try.prog (binOp .neq 24 (lkv x) (lkv x)) W = .ok (.bool false) W := by
  unfold lkv
  rw [run_neq_struct, run_equalIn_struct _ _ _ _ _ (by kernel_rfl) (by kernel_rfl)]
  simp [go_sem]
theorem wr_neq (x : Wr) (W : World) : Sem.run Try.prog (binOp .neq 26 (wrv x) (wrv x)) W = .ok (.bool false) W := by
  unfold wrv
  rw [run_neq_struct, run_equalIn_struct _ _ _ _ _ (by kernel_rfl) (by kernel_rfl)]
  simp [go_sem]
/-- the two boxes of the call's own -/
structure K2 (w0 : World) (n : Nat) (a b : Array Value) (W : World) : Prop where
  k : Kept w0 W
  a : W.heap[n]? = some (.cells a 24 (0, 0))
  b : W.heap[n + 1]? = some (.cells b 26 (0, 0))
theorem K2.kept {w0 : World} {n : Nat} {a b : Array Value} {W W' : World} (h : K2 w0 n a b W) (k : Kept W W') : K2 w0 n a b W' := ⟨kept_trans h.k k, clhp h.a k, clhp h.b k⟩
theorem K2.new (w : World) (a b : Array Value) : K2 w w.heap.size a b ((w.alloc (.cells a 24)).alloc (.cells b 26)) := by
  have h1 := clnew w (.cells a 24)
  have h2 := clnew (w.alloc (.cells a 24)) (.cells b 26)
  rw [World.size_alloc] at h2
  exact ⟨((Kept.refl w).alloc _).alloc _, clhp h1 ((Kept.refl _).alloc _), h2⟩
theorem backK (l : Lk) : (isK l = false → encKC l = 2) ∧ (isK l = true → encKC l = 0 ∧ encKS l = encK l ∧ dK (encK l) = l ∧ dKC (encK l) = 0 ∧ (encK l).length ≤ 16777216) := by
  unfold encKC encKS
  refine ⟨fun h => by rw [h]; rfl, fun h => ?_⟩
  obtain ⟨_, h1, h2⟩ := bK_enc h
  have := (encK_len h).2
  have := (isK_iff.1 h).1
  rw [h]
  exact ⟨rfl, rfl, h1, h2, by omega⟩
theorem backW (l : Wr) : (isW l = false → encWC l = 2) ∧ (isW l = true → encWC l = 0 ∧ encWS l = encW l ∧ dW (encW l) = l ∧ dWC (encW l) = 0 ∧ (encW l).length ≤ 16777216) := by
  unfold encWC encWS
  refine ⟨fun h => by rw [h]; rfl, fun h => ?_⟩
  obtain ⟨_, h1, h2⟩ := bW_enc h
  have := (encW_len h).2
  rw [h]
  exact ⟨rfl, rfl, h1, h2, by omega⟩
theorem backL (l : List Ls) : (isL l = false → encLC l = 2) ∧ (isL l = true → encLC l = 0 ∧ encLS l = encL l ∧ dL (encL l) = l ∧ dLC (encL l) = 0 ∧ (encL l).length ≤ 16777216 ∧ l.length ≤ 5) := by
  unfold encLC encLS
  refine ⟨fun h => by rw [h]; rfl, fun h => ?_⟩
  obtain ⟨_, h1, h2⟩ := bL_enc h
  have := (encL_len (encL_isL h).2).2
  have := (encL_isL h).1
  rw [h]
  exact ⟨rfl, rfl, h1, h2, by omega, by omega⟩
theorem thereK (s : List UInt8) : (bK s = false → dKC s = 2) ∧ (bK s = true → dKC s = 0 ∧ encKS (dK s) = s ∧ encKC (dK s) = 0) ∧ (dK s).p.length ≤ maxLen ∧ (dK s).a ≤ 18446744073709551615 := by
  refine ⟨fun h => by unfold dKC; rw [h]; rfl, fun h => ?_, ?_⟩
  · obtain ⟨h1, h2, _⟩ := bK_back h
    exact ⟨by unfold dKC; rw [h]; rfl, by unfold encKS; rw [if_pos h1, h2], by unfold encKC; rw [if_pos h1]⟩
  · cases h : bK s with
    | false => unfold dK; rw [h]; exact ⟨by show (0 : Nat) ≤ maxLen; exact Nat.zero_le _, by show (0 : Nat) ≤ 18446744073709551615; exact Nat.zero_le _⟩
    | true =>
      obtain ⟨h1, h2, _⟩ := bK_back h
      obtain ⟨q1, q2, q3, q4⟩ := isK_iff.1 h1
      exact ⟨by unfold maxLen; omega, by omega⟩
theorem thereW (s : List UInt8) : (bW s = false → dWC s = 2) ∧ (bW s = true → dWC s = 0 ∧ encWS (dW s) = s ∧ encWC (dW s) = 0) := by
  refine ⟨fun h => by unfold dWC; rw [h]; rfl, fun h => ?_⟩
  obtain ⟨h1, h2, _⟩ := bW_back h
  exact ⟨by unfold dWC; rw [h]; rfl, by unfold encWS; rw [if_pos h1, h2], by unfold encWC; rw [if_pos h1]⟩
theorem thereL (s : List UInt8) : (bL s = false → dLC s = 2 ∧ dL s = []) ∧ (bL s = true → dLC s = 0 ∧ encLS (dL s) = s ∧ encLC (dL s) = 0) ∧ (dL s).length ≤ 5 := by
  refine ⟨fun h => by unfold dLC dL; rw [h]; exact ⟨rfl, rfl⟩, fun h => ?_, ?_⟩
  · obtain ⟨h1, h2, _⟩ := bL_back h
    exact ⟨by unfold dLC; rw [h]; rfl, by unfold encLS; rw [if_pos h1, h2], by unfold encLC; rw [if_pos h1]⟩
  · cases h : bL s with
    | false => unfold dL; rw [h]; simp
    | true => exact (encL_isL (bL_back h).1).1
theorem ColBack_walk {w : World} (l : Lk) (x : Wr) (A : Option Addr) (c : Nat) (L : List Ls) (s : ByteArray) (hl : OkK l) (hx : OkW x) (hA : Lss w A L) (hL : L.length ≤ c ∧ c ≤ maxLen ∧ OkLs L ∧ (A = none → c = 0) ∧ (∀ a, A = some a → a.spot = none ∨ L = [])) (hs : s.size ≤ maxLen) :
    Calls Try.prog 5 #[lkv l, wrv x, .slice A L.length c, .string s] w fun e w' => e = .returned (.bool true) ∧ Kept w w' := by
  obtain ⟨s, rfl, hs⟩ := list_of hs
  have hLl : L.length ≤ maxLen := Nat.le_trans hL.1 hL.2.1
  have HK := Lib.hid (cllock_any l hl.1 hl.2.2)
  have HW := Lib.hid (clwrite_any x)
  have HL := Lib.hid (fun W (hW : Kept w W) => clleases_any (hA.kept hW) hLl c)
  have HA := Lib.hid (fun W (hW : Kept w W) => hA.kept hW)
  have HLV := Lib.hid (show lkv l = .agg #[.string (bs l.p), .int .u64 (l.s : Nat), .int .i64 l.k, .int .u64 (l.a : Nat)] from rfl)
  have HWV := Lib.hid (show wrv x = .agg #[.int .u64 (x.s : Nat), .int .i64 x.k] from rfl)
  have zp := clbs_size l.p
  have zs := clbs_size s
  have hpl := hl.1
  have hsn : ((bs s).toList == (bs s).toList) = true := by simp
  have hsn2 : ((bs s).toList != (bs s).toList) = false := by rw [bne, hsn]; rfl
  unfold maxLen at hLl hpl hs
  have I0 := Lib.hid (K2.new w #[.string (bs l.p), .int .u64 (l.s : Nat), .int .i64 l.k, .int .u64 (l.a : Nat)] #[.int .u64 (x.s : Nat), .int .i64 x.k])
  have HQK := Lib.hid (lk_neq l); have HQW := Lib.hid (wr_neq x)
  rw [HLV.out] at HQK HK ⊢
  rw [HWV.out] at HQW HW ⊢
  have HBK := Lib.hid (backK l); have HBW := Lib.hid (backW x); have HBL := Lib.hid (backL L)
  obtain ⟨P, hP⟩ : ∃ P, P = bs l.p := ⟨_, rfl⟩
  obtain ⟨st, hst⟩ : ∃ st, st = l.s := ⟨_, rfl⟩
  obtain ⟨kk, hkk⟩ : ∃ kk, kk = l.k := ⟨_, rfl⟩
  obtain ⟨aa, haa⟩ : ∃ aa, aa = l.a := ⟨_, rfl⟩
  obtain ⟨xs, hxs⟩ : ∃ xs, xs = x.s := ⟨_, rfl⟩
  obtain ⟨xk, hxk⟩ : ∃ xk, xk = x.k := ⟨_, rfl⟩
  rw [← hP] at zp
  rw [← hP, ← hst, ← hkk, ← haa] at HQK HK I0 HLV ⊢
  rw [← hxs, ← hxk] at HQW HW I0 HWV ⊢
  clear hP hst hkk haa hxs hxk hA hl hx
  by_cases hp : 1024 < P.size
  · have d1 : decide ((1024 : Int) < (P.size : Int)) = true := decide_eq_true (by omega)
    go_enter Try.func5, Try.ntmps5
    go_wp2_with fail
    refine (clawake_any _).mono ?_
    rintro e w1 ⟨rfl, g1⟩
    have I1 := Lib.hid (I0.out.kept g1)
    have c0 := clcell I1.out.a 0 rfl
    clear g1 I0
    go_wp2_with fail
    go_ret
    exact ⟨rfl, I1.out.k⟩
  have d1 : decide ((1024 : Int) < (P.size : Int)) = false := decide_eq_false (by omega)
  by_cases hn : 40 < L.length
  · have d2 : decide ((40 : Int) < (L.length : Int)) = true := decide_eq_true (by omega)
    go_enter Try.func5, Try.ntmps5
    go_wp2_with fail
    refine (clawake_any _).mono ?_
    rintro e w1 ⟨rfl, g1⟩
    have I1 := Lib.hid (I0.out.kept g1)
    have c0 := clcell I1.out.a 0 rfl
    clear g1 I0
    go_wp2_with fail
    go_ret
    exact ⟨rfl, I1.out.k⟩
  have d2 : decide ((40 : Int) < (L.length : Int)) = false := decide_eq_false (by omega)
  by_cases hm : 1024 < (bs s).size
  · have d3 : decide ((1024 : Int) < ((bs s).size : Int)) = true := decide_eq_true (by omega)
    go_enter Try.func5, Try.ntmps5
    go_wp2_with fail
    refine (clawake_any _).mono ?_
    rintro e w1 ⟨rfl, g1⟩
    have I1 := Lib.hid (I0.out.kept g1)
    have c0 := clcell I1.out.a 0 rfl
    clear g1 I0
    go_wp2_with fail
    go_ret
    exact ⟨rfl, I1.out.k⟩
  have d3 : decide ((1024 : Int) < ((bs s).size : Int)) = false := decide_eq_false (by omega)
  have HUK := Lib.hid (fun W => clunlock_any s (by omega) W)
  have HUW := Lib.hid (fun W => clunwrite_any s (by omega) W)
  have HUL := Lib.hid (fun W => clunlease_any s (by omega) W)
  obtain ⟨tk1, tk2, tk3, tk4⟩ := thereK s
  obtain ⟨tw1, tw2⟩ := thereW s
  obtain ⟨tl1, tl2, tl3⟩ := thereL s
  have HDK := Lib.hid (fun W => cllock_any (dK s) tk3 tk4 W)
  have HDW := Lib.hid (fun W => clwrite_any (dW s) W)
  have HTK := Lib.hid (And.intro tk1 tk2); have HTW := Lib.hid (And.intro tw1 tw2); have HTL := Lib.hid (And.intro tl1 tl2)
  have HL40 := Lib.hid (show L.length ≤ 40 by omega)
  clear tk1 tk2 tk3 tk4 tw1 tw2 tl1 tl2 hp hn hm zp zs hs hLl hpl
  go_enter Try.func5, Try.ntmps5
  go_wp2_with fail
  refine (clawake_any _).mono ?_
  rintro e w1 ⟨rfl, g1⟩
  have I1 := Lib.hid (I0.out.kept g1)
  have c0 := clcell I1.out.a 0 rfl; have c1 := clcell I1.out.a 1 rfl; have c2 := clcell I1.out.a 2 rfl; have c3 := clcell I1.out.a 3 rfl
  clear g1 I0
  go_wp2_with fail
  refine (HK.out _).mono ?_
  rintro e w2 ⟨rfl, g1⟩
  have I2 := Lib.hid (I1.out.kept g1)
  clear g1 I1 c0 c1 c2 c3 d1 d2 d3 HK
  go_upto_if 55 with fail
  go_cut [] from 9 (fun wc => Hid (K2 w w.heap.size #[.string P, .int .u64 (st : Nat), .int .i64 kk, .int .u64 (aa : Nat)] #[.int .u64 (xs : Nat), .int .i64 xk] wc))
  case first =>
    cases hb : isK l with
    | false =>
      rw [HBK.out.1 hb]
      go_wp2_with fail
      go_meet
      exact I2
    | true =>
      obtain ⟨e1, e2, e3, e4, e5⟩ := HBK.out.2 hb
      have hu := clunlock_any (encK l) e5
      rw [e3, e4, HLV.out] at hu
      rw [e1, e2]
      have HU := Lib.hid hu
      clear hu e1 e2 e3 e4 e5 hb HUK HDK
      have hq := HQK.out
      go_wp2_with fail
      refine (HU.out _).mono ?_
      rintro e w3 ⟨rfl, g1⟩
      have q1 := (Kept.refl w3).alloc (.cells #[.string P, .int .u64 (st : Nat), .int .i64 kk, .int .u64 (aa : Nat)] 24)
      have I3 := Lib.hid ((I2.out.kept g1).kept q1)
      have c0 := clcell I3.out.a 0 rfl; have c1 := clcell I3.out.a 1 rfl; have c2 := clcell I3.out.a 2 rfl; have c3 := clcell I3.out.a 3 rfl
      clear g1 q1 HU
      go_wp2_with fail
      go_meet
      exact I3
  case rest =>
  have I3 := Lib.hid hcut.out
  have c0 := clcell I3.out.b 0 rfl; have c1 := clcell I3.out.b 1 rfl
  clear hcut I2 HBK HQK
  go_wp2_with fail
  refine (HW.out _).mono ?_
  rintro e w4 ⟨rfl, g1⟩
  have I4 := Lib.hid (I3.out.kept g1)
  clear g1 I3 c0 c1 HW
  go_upto_if 74 with fail
  go_cut [] from 9 (fun wc => Hid (K2 w w.heap.size #[.string P, .int .u64 (st : Nat), .int .i64 kk, .int .u64 (aa : Nat)] #[.int .u64 (xs : Nat), .int .i64 xk] wc))
  case first =>
    cases hb : isW x with
    | false =>
      rw [HBW.out.1 hb]
      go_wp2_with fail
      go_meet
      exact I4
    | true =>
      obtain ⟨e1, e2, e3, e4, e5⟩ := HBW.out.2 hb
      have hu := clunwrite_any (encW x) e5
      rw [e3, e4, HWV.out] at hu
      rw [e1, e2]
      have HU := Lib.hid hu
      clear hu e1 e2 e3 e4 e5 hb HUK HDK
      have hq := HQW.out
      go_wp2_with fail
      refine (HU.out _).mono ?_
      rintro e w5 ⟨rfl, g1⟩
      have q1 := (Kept.refl w5).alloc (.cells #[.int .u64 (xs : Nat), .int .i64 xk] 26)
      have I5 := Lib.hid ((I4.out.kept g1).kept q1)
      have c0 := clcell I5.out.b 0 rfl; have c1 := clcell I5.out.b 1 rfl
      clear g1 q1 HU
      go_wp2_with fail
      go_meet
      exact I5
  case rest =>
  have I5 := Lib.hid hcut.out
  clear hcut I4 HBW HQW
  go_wp2_with fail
  refine (HL.out _ I5.out.k).mono ?_
  rintro e w6 ⟨rfl, g1⟩
  have I6 := Lib.hid (I5.out.kept g1)
  clear g1 I5
  go_upto_if 93 with fail
  go_cut [] from 9 (fun wc => Hid (K2 w w.heap.size #[.string P, .int .u64 (st : Nat), .int .i64 kk, .int .u64 (aa : Nat)] #[.int .u64 (xs : Nat), .int .i64 xk] wc))
  case first =>
    cases hb : isL L with
    | false =>
      rw [HBL.out.1 hb]
      go_wp2_with fail
      go_meet
      exact I6
    | true =>
      obtain ⟨e1, e2, e3, e4, e5, e6⟩ := HBL.out.2 hb
      have hu := clunlease_any (encL L) e5
      rw [e3, e4] at hu
      rw [e1, e2]
      have HU := Lib.hid hu
      clear hu e1 e2 e3 e4 e5 hb HUK HDK HUL HUW HDW
      go_wp2_with fail
      refine (HU.out _).mono ?_
      rintro e w7 ⟨A7, c7, rfl, hls, _, _, g1⟩
      have I7 := Lib.hid (I6.out.kept g1)
      have HLS := Lib.hid hls
      clear g1 HU hls
      go_wp2_with fail
      refine (clown_any (HA.out _ I7.out.k) (by have := HL40.out; omega) c).mono ?_
      rintro e w8 ⟨B8, c8, rfl, hb8, _, _, g1⟩
      have I8 := Lib.hid (I7.out.kept g1)
      have HLS8 := Lib.hid (HLS.out.kept g1)
      have HB8 := Lib.hid hb8
      clear g1 hb8
      go_wp2_with fail
      refine (clown_any HLS8.out (by have := HL40.out; omega) c7).mono ?_
      rintro e w9 ⟨B9, c9, rfl, hb9, _, _, g1⟩
      have I9 := Lib.hid (I8.out.kept g1)
      have HB8' := Lib.hid (HB8.out.kept g1)
      have HB9 := Lib.hid hb9
      clear g1 hb9
      go_wp2_with fail
      refine (clsame2_any HB8'.out HB9.out (by have := HL40.out; omega) c8 c9).mono ?_
      rintro e w10 ⟨rfl, g1⟩
      have I10 := Lib.hid (I9.out.kept g1)
      clear g1
      go_wp2_with fail
      go_meet
      exact I10
  case rest =>
  have I7 := Lib.hid hcut.out
  clear hcut I6 HBL HL HA HL40
  obtain ⟨P2, z0, z1, z2, hP2⟩ : ∃ P2 z0 z1 z2, lkv (dK s) = .agg #[.string P2, .int .u64 z0, .int .i64 z1, .int .u64 z2] := ⟨_, _, _, _, rfl⟩
  rw [hP2] at HUK HDK
  clear hP2
  go_wp2_with fail
  refine (HUK.out _).mono ?_
  rintro e w8 ⟨rfl, g1⟩
  have I8 := Lib.hid ((I7.out.kept g1).kept ((Kept.refl w8).alloc (.cells #[.string P2, .int .u64 z0, .int .i64 z1, .int .u64 z2] 24)))
  clear g1 I7 HUK
  go_upto_if 115 with fail
  go_cut [] from 9 (fun wc => Hid (K2 w w.heap.size #[.string P, .int .u64 (st : Nat), .int .i64 kk, .int .u64 (aa : Nat)] #[.int .u64 (xs : Nat), .int .i64 xk] wc))
  case first =>
    cases hb : bK s with
    | false =>
      rw [HTK.out.1 hb]
      go_wp2_with fail
      go_meet
      exact I8
    | true =>
      obtain ⟨e1, e2, e3⟩ := HTK.out.2 hb
      rw [e2, e3] at HDK
      rw [e1]
      clear e1 e2 e3 hb
      go_wp2_with fail
      refine (HDK.out _).mono ?_
      rintro e w9 ⟨rfl, g1⟩
      have I9 := Lib.hid (I8.out.kept g1)
      clear g1
      go_wp2_with fail
      go_meet
      exact I9
  case rest =>
  have I9 := Lib.hid hcut.out
  clear hcut I8 HTK HDK
  obtain ⟨y0, y1, hP3⟩ : ∃ y0 y1, wrv (dW s) = .agg #[.int .u64 y0, .int .i64 y1] := ⟨_, _, rfl⟩
  rw [hP3] at HUW HDW
  clear hP3
  go_wp2_with fail
  refine (HUW.out _).mono ?_
  rintro e w10 ⟨rfl, g1⟩
  have I10 := Lib.hid ((I9.out.kept g1).kept ((Kept.refl w10).alloc (.cells #[.int .u64 y0, .int .i64 y1] 26)))
  clear g1 I9 HUW
  go_upto_if 134 with fail
  go_cut [] from 9 (fun wc => Hid (K2 w w.heap.size #[.string P, .int .u64 (st : Nat), .int .i64 kk, .int .u64 (aa : Nat)] #[.int .u64 (xs : Nat), .int .i64 xk] wc))
  case first =>
    cases hb : bW s with
    | false =>
      rw [HTW.out.1 hb]
      go_wp2_with fail
      go_meet
      exact I10
    | true =>
      obtain ⟨e1, e2, e3⟩ := HTW.out.2 hb
      rw [e2, e3] at HDW
      rw [e1]
      clear e1 e2 e3 hb
      go_wp2_with fail
      refine (HDW.out _).mono ?_
      rintro e w11 ⟨rfl, g1⟩
      have I11 := Lib.hid (I10.out.kept g1)
      clear g1
      go_wp2_with fail
      go_meet
      exact I11
  case rest =>
  have I11 := Lib.hid hcut.out
  clear hcut I10 HTW HDW
  have HDL := Lib.hid (fun W A (h : Lss W A (dL s)) c => clleases_any h (by unfold maxLen; omega) c)
  cases hb : bL s with
  | false =>
    obtain ⟨e1, e2⟩ := HTL.out.1 hb
    rw [e1, e2] at HUL
    go_wp2_with fail
    refine (HUL.out _).mono ?_
    rintro e w12 ⟨A12, c12, rfl, _, _, _, g1⟩
    have I12 := Lib.hid (I11.out.kept g1)
    clear g1
    go_wp2_with fail
    go_ret
    exact ⟨rfl, I12.out.k⟩
  | true =>
    obtain ⟨e1, e2, e3⟩ := HTL.out.2 hb
    rw [e1] at HUL
    rw [e2, e3] at HDL
    go_wp2_with fail
    refine (HUL.out _).mono ?_
    rintro e w12 ⟨A12, c12, rfl, hls, _, _, g1⟩
    have I12 := Lib.hid (I11.out.kept g1)
    have HLS := Lib.hid hls
    clear g1 hls
    go_wp2_with fail
    refine (HDL.out _ _ HLS.out c12).mono ?_
    rintro e w13 ⟨rfl, g1⟩
    have I13 := Lib.hid (I12.out.kept g1)
    clear g1
    go_wp2_with fail
    go_ret
    exact ⟨rfl, I13.out.k⟩
end Go.Proofs.Ytdmnmbomijnjeaa
