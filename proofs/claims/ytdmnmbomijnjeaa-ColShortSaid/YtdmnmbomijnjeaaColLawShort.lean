/-
  ColShort: no value of a column family has more bytes than a store's value may.
-/
import Derived.Test.YtdmnmbomijnjeaaColArgs
namespace Go.Proofs.Ytdmnmbomijnjeaa
open Go.ChangeShapes Go.WideShapes Go.ChangeAt Go.RowKit
set_option linter.unusedVariables false
set_option maxRecDepth 100000
set_option maxHeartbeats 8000000
open Co
theorem encKS_sz (l : Lk) : (isK l = true → l.p.length + 3 ≤ (encKS l).length ∧ (encKS l).length ≤ l.p.length + 13 ∧ encKC l = 0) ∧ (isK l = false → encKC l = 2) ∧ (encKS l).length ≤ 100 := by
  unfold encKS encKC
  cases h : isK l with
  | true =>
    obtain ⟨h1, h2⟩ := encK_len h
    obtain ⟨⟨q1, q2⟩, _⟩ := isK_iff.1 h
    exact ⟨fun _ => ⟨h1, h2, rfl⟩, (fun hh => by cases hh), (by show (encK l).length ≤ 100; omega)⟩
  | false => exact ⟨(fun hh => by cases hh), fun _ => rfl, by simp⟩
theorem encWS_sz (l : Wr) : (isW l = true → 2 ≤ (encWS l).length ∧ (encWS l).length ≤ 7 ∧ encWC l = 0) ∧ (isW l = false → encWC l = 2) ∧ (encWS l).length ≤ 100 := by
  unfold encWS encWC
  cases h : isW l with
  | true =>
    obtain ⟨h1, h2⟩ := encW_len h
    exact ⟨fun _ => ⟨h1, h2, rfl⟩, (fun hh => by cases hh), (by show (encW l).length ≤ 100; omega)⟩
  | false => exact ⟨(fun hh => by cases hh), fun _ => rfl, by simp⟩
theorem encLS_sz (l : List Ls) : (isL l = true → 3 * l.length ≤ (encLS l).length ∧ (encLS l).length ≤ 18 * l.length ∧ encLC l = 0) ∧ (isL l = false → encLC l = 2) ∧ (encLS l).length ≤ 100 := by
  unfold encLS encLC
  cases h : isL l with
  | true =>
    obtain ⟨h5, hr⟩ := encL_isL h
    obtain ⟨h1, h2⟩ := encL_len hr
    exact ⟨fun _ => ⟨h1, h2, rfl⟩, (fun hh => by cases hh), (by show (encL l).length ≤ 100; omega)⟩
  | false => exact ⟨(fun hh => by cases hh), fun _ => rfl, by simp⟩
theorem ColShort_walk {w : World} (l : Lk) (x : Wr) (A : Option Addr) (c : Nat) (L : List Ls) (hl : OkK l) (hx : OkW x) (hA : Lss w A L) (hL : L.length ≤ c ∧ c ≤ maxLen ∧ OkLs L ∧ (A = none → c = 0) ∧ (∀ a, A = some a → a.spot = none ∨ L = [])) :
    Calls Try.prog 8 #[lkv l, wrv x, .slice A L.length c] w fun e w' => e = .returned (.bool true) ∧ Kept w w' := by
  have hLl : L.length ≤ maxLen := Nat.le_trans hL.1 hL.2.1
  have HK := Lib.hid (cllock_any l hl.1 hl.2.2)
  have HW := Lib.hid (clwrite_any x)
  have HL := Lib.hid (fun W (hW : Kept w W) => clleases_any (hA.kept hW) hLl c)
  obtain ⟨k1, k2, k3⟩ := encKS_sz l
  obtain ⟨w1, w2, w3⟩ := encWS_sz x
  obtain ⟨l1, l2, l3⟩ := encLS_sz L
  have zk := clbs_size (encKS l); have zw := clbs_size (encWS x); have zl := clbs_size (encLS L)
  have zp := clbs_size l.p
  unfold maxLen at hLl
  have hpl := hl.1
  unfold maxLen at hpl
  unfold lkv at *
  unfold wrv at *
  rw [← zk] at k1 k3
  rw [← zw] at w1 w3
  rw [← zl] at l1 l3
  rw [← zp] at k1 hpl
  generalize bs (encKS l) = TK at *
  generalize bs (encWS x) = TW at *
  generalize bs (encLS L) = TL at *
  generalize encKC l = CK at *
  generalize encWC x = CW at *
  generalize encLC L = CL at *
  generalize isK l = BK at *
  generalize isW x = BW at *
  generalize isL L = BL at *
  obtain ⟨p, st, kk, aa⟩ := l
  obtain ⟨xs, xk⟩ := x
  dsimp only at *
  generalize bs p = P at *
  have I0 := Lib.hid (KX.new w #[.string P, .int .u64 (st : Nat), .int .i64 kk, .int .u64 (aa : Nat)] 24)
  have hI := (clnew (w.alloc (.cells #[.string P, .int .u64 (st : Nat), .int .i64 kk, .int .u64 (aa : Nat)] 24)) (.cells #[.int .u64 (xs : Nat), .int .i64 xk] 26))
  rw [World.size_alloc] at hI
  have J0 := Lib.hid (show KX w (w.heap.size + 1) #[.int .u64 (xs : Nat), .int .i64 xk] 26 ((w.alloc (.cells #[.string P, .int .u64 (st : Nat), .int .i64 kk, .int .u64 (aa : Nat)] 24)).alloc (.cells #[.int .u64 (xs : Nat), .int .i64 xk] 26)) from ⟨((Kept.refl w).alloc _).alloc _, hI⟩)
  have I1 := Lib.hid (I0.out.kept ((Kept.refl _).alloc (.cells #[.int .u64 (xs : Nat), .int .i64 xk] 26)))
  have HN := Lib.hid (show L.length ≤ 40 → IntKind.i64.wrap (3 * (L.length : Int)) = 3 * (L.length : Int) ∧ IntKind.i64.wrap (18 * (L.length : Int)) = 18 * (L.length : Int) from fun h => ⟨IntWalk.i64_in _ (by omega), IntWalk.i64_in _ (by omega)⟩)
  clear hI I0 zk zw zl zp hl hx hA hL
  by_cases hp : 1024 < P.size
  · have d1 : decide ((1024 : Int) < (P.size : Int)) = true := decide_eq_true (by omega)
    have HP := Lib.hid hp
    clear k1 k2 k3 w1 w2 w3 l1 l2 l3 hp
    go_enter Try.func8, Try.ntmps8
    go_wp2_with fail
    refine (clawake_any _).mono ?_
    rintro e w1 ⟨rfl, g1⟩
    have J1 := Lib.hid (J0.out.kept g1)
    obtain ⟨c0, c1, c2, c3⟩ := (I1.out.kept g1).c4
    clear g1 I1 J0
    go_wp2_with fail
    go_ret
    exact ⟨rfl, J1.out.k⟩
  by_cases hn : 40 < L.length
  · have d1 : decide ((1024 : Int) < (P.size : Int)) = false := decide_eq_false (by omega)
    have d2 : decide ((40 : Int) < (L.length : Int)) = true := decide_eq_true (by omega)
    have HP := Lib.hid hp
    have HNn := Lib.hid hn
    clear k1 k2 k3 w1 w2 w3 l1 l2 l3 hp hn
    go_enter Try.func8, Try.ntmps8
    go_wp2_with fail
    refine (clawake_any _).mono ?_
    rintro e w1 ⟨rfl, g1⟩
    have J1 := Lib.hid (J0.out.kept g1)
    obtain ⟨c0, c1, c2, c3⟩ := (I1.out.kept g1).c4
    clear g1 I1 J0
    go_wp2_with fail
    go_ret
    exact ⟨rfl, J1.out.k⟩
  have d1 : decide ((1024 : Int) < (P.size : Int)) = false := decide_eq_false (by omega)
  have d2 : decide ((40 : Int) < (L.length : Int)) = false := decide_eq_false (by omega)
  have hp' : P.size ≤ 1024 := by omega
  have hn' : L.length ≤ 40 := by omega
  obtain ⟨q3, q18⟩ := HN.out hn'
  have r3 : IntKind.i64.wrap ((P.size : Int) + 3) = (P.size : Int) + 3 := IntWalk.i64_in _ (by omega)
  have r13 : IntKind.i64.wrap ((P.size : Int) + 13) = (P.size : Int) + 13 := IntWalk.i64_in _ (by omega)
  have t1 : decide ((TK.size : Int) ≤ 100) = true := decide_eq_true (by omega)
  have t2 : decide ((TW.size : Int) ≤ 100) = true := decide_eq_true (by omega)
  have t3 : decide ((TL.size : Int) ≤ 100) = true := decide_eq_true (by omega)
  go_enter Try.func8, Try.ntmps8
  go_wp2_with fail
  refine (clawake_any _).mono ?_
  rintro e w1 ⟨rfl, g1⟩
  have J1 := Lib.hid (J0.out.kept g1)
  have I2 := Lib.hid (I1.out.kept g1)
  obtain ⟨c0, c1, c2, c3⟩ := I2.out.c4
  clear g1 I1 J0
  go_wp2_with fail
  refine (HK.out _).mono ?_
  rintro e w2 ⟨rfl, g1⟩
  have J2 := Lib.hid (J1.out.kept g1)
  have I3 := Lib.hid (I2.out.kept g1)
  obtain ⟨e0, e1⟩ := J2.out.c2
  clear g1 I2 J1 c0 c1 c2 c3
  go_wp2_with fail
  refine (HW.out _).mono ?_
  rintro e w3 ⟨rfl, g1⟩
  have J3 := Lib.hid (J2.out.kept g1)
  have I4 := Lib.hid (I3.out.kept g1)
  clear g1 I3 J2 e0 e1
  go_wp2_with fail
  refine (HL.out _ J3.out.k).mono ?_
  rintro e w4 ⟨rfl, g1⟩
  have K5 := Lib.hid (J3.out.kept g1).k
  obtain ⟨c0, c1, c2, c3⟩ := (I4.out.kept g1).c4
  clear g1 I4 J3 HK HW HL HN
  have HEND := Lib.hid K5.out
  cases BK with
  | true =>
    obtain ⟨u0, v0, rfl⟩ := k1 rfl
    have x0 : decide ((TK.size : Int) < (P.size : Int) + 3) = false := decide_eq_false (by omega)
    have y0 : decide ((P.size : Int) + 13 < (TK.size : Int)) = false := decide_eq_false (by omega)
    cases BW with
    | true =>
      obtain ⟨u1, v1, rfl⟩ := w1 rfl
      have x1 : decide ((TW.size : Int) < 2) = false := decide_eq_false (by omega)
      have y1 : decide (7 < (TW.size : Int)) = false := decide_eq_false (by omega)
      cases BL with
      | true =>
        obtain ⟨u2, v2, rfl⟩ := l1 rfl
        have x2 : decide ((TL.size : Int) < 3 * (L.length : Int)) = false := decide_eq_false (by omega)
        have y2 : decide (18 * (L.length : Int) < (TL.size : Int)) = false := decide_eq_false (by omega)
        go_wp2_with fail
        go_ret
        exact ⟨rfl, K5.out⟩
      | false =>
        obtain rfl := l2 rfl
        go_wp2_with fail
        go_ret
        exact ⟨rfl, K5.out⟩
    | false =>
      obtain rfl := w2 rfl
      cases BL with
      | true =>
        obtain ⟨u2, v2, rfl⟩ := l1 rfl
        have x2 : decide ((TL.size : Int) < 3 * (L.length : Int)) = false := decide_eq_false (by omega)
        have y2 : decide (18 * (L.length : Int) < (TL.size : Int)) = false := decide_eq_false (by omega)
        go_wp2_with fail
        go_ret
        exact ⟨rfl, K5.out⟩
      | false =>
        obtain rfl := l2 rfl
        go_wp2_with fail
        go_ret
        exact ⟨rfl, K5.out⟩
  | false =>
    obtain rfl := k2 rfl
    cases BW with
    | true =>
      obtain ⟨u1, v1, rfl⟩ := w1 rfl
      have x1 : decide ((TW.size : Int) < 2) = false := decide_eq_false (by omega)
      have y1 : decide (7 < (TW.size : Int)) = false := decide_eq_false (by omega)
      cases BL with
      | true =>
        obtain ⟨u2, v2, rfl⟩ := l1 rfl
        have x2 : decide ((TL.size : Int) < 3 * (L.length : Int)) = false := decide_eq_false (by omega)
        have y2 : decide (18 * (L.length : Int) < (TL.size : Int)) = false := decide_eq_false (by omega)
        go_wp2_with fail
        go_ret
        exact ⟨rfl, K5.out⟩
      | false =>
        obtain rfl := l2 rfl
        go_wp2_with fail
        go_ret
        exact ⟨rfl, K5.out⟩
    | false =>
      obtain rfl := w2 rfl
      cases BL with
      | true =>
        obtain ⟨u2, v2, rfl⟩ := l1 rfl
        have x2 : decide ((TL.size : Int) < 3 * (L.length : Int)) = false := decide_eq_false (by omega)
        have y2 : decide (18 * (L.length : Int) < (TL.size : Int)) = false := decide_eq_false (by omega)
        go_wp2_with fail
        go_ret
        exact ⟨rfl, K5.out⟩
      | false =>
        obtain rfl := l2 rfl
        go_wp2_with fail
        go_ret
        exact ⟨rfl, K5.out⟩
end Go.Proofs.Ytdmnmbomijnjeaa
