/-
  ColApart: two locks that may be are the same just if their bytes are; likewise two writes.
-/
import Derived.Test.YtdmnmbomijnjeaaColArgs
namespace Go.Proofs.Ytdmnmbomijnjeaa
open Go.ChangeShapes Go.WideShapes Go.ChangeAt Go.RowKit
set_option linter.unusedVariables false
set_option maxRecDepth 100000
set_option maxHeartbeats 8000000
open Co
theorem lk_eq (x y : Lk) : x = y ↔ x.p = y.p ∧ x.s = y.s ∧ x.k = y.k ∧ x.a = y.a := by
  cases x; cases y; simp
theorem wr_eq (x y : Wr) : x = y ↔ x.s = y.s ∧ x.k = y.k := by
  cases x; cases y; simp
theorem lk_eql (x y : Lk) (b : Bool) (hb : b = true ↔ x = y) (W : World) : Sem.run Try.prog (binOp .eql 24 (lkv x) (lkv y)) W = .ok (.bool b) W := by
  unfold lkv
  rw [run_eql_struct, run_equalIn_struct _ _ _ _ _ (by kernel_rfl) (by kernel_rfl)]
  simp [go_sem]
  rw [clbs_list, clbs_list]
  rw [lk_eq] at hb
  cases b with
  | true =>
    obtain ⟨h1, h2, h3, h4⟩ := hb.1 rfl
    simp [h1, h2, h3, h4]
  | false =>
    have hn : ¬ (x.p = y.p ∧ x.s = y.s ∧ x.k = y.k ∧ x.a = y.a) := fun h => by have := hb.2 h; cases this
    by_cases h1 : x.p = y.p <;> by_cases h2 : x.s = y.s <;> by_cases h3 : x.k = y.k <;> by_cases h4 : x.a = y.a <;> simp_all <;> omega
theorem wr_eql (x y : Wr) (b : Bool) (hb : b = true ↔ x = y) (W : World) : Sem.run Try.prog (binOp .eql 26 (wrv x) (wrv y)) W = .ok (.bool b) W := by
  unfold wrv
  rw [run_eql_struct, run_equalIn_struct _ _ _ _ _ (by kernel_rfl) (by kernel_rfl)]
  simp [go_sem]
  rw [wr_eq] at hb
  cases b with
  | true =>
    obtain ⟨h2, h3⟩ := hb.1 rfl
    simp [h2, h3]
  | false =>
    have hn : ¬ (x.s = y.s ∧ x.k = y.k) := fun h => by have := hb.2 h; cases this
    by_cases h2 : x.s = y.s <;> by_cases h3 : x.k = y.k <;> simp_all <;> omega
theorem apartK (l m : Lk) : (isK l = true → isK m = true → ∃ b : Bool, ((bs (encKS l)).toList == (bs (encKS m)).toList) = b ∧ (b = true ↔ l = m)) := fun h1 h2 => by
  unfold encKS
  rw [if_pos h1, if_pos h2, clbs_list, clbs_list]
  exact ⟨_, rfl, by rw [beq_iff_eq]; exact encK_inj h1 h2⟩
theorem apartW (l m : Wr) : (isW l = true → isW m = true → ∃ b : Bool, ((bs (encWS l)).toList == (bs (encWS m)).toList) = b ∧ (b = true ↔ l = m)) := fun h1 h2 => by
  unfold encWS
  rw [if_pos h1, if_pos h2, clbs_list, clbs_list]
  exact ⟨_, rfl, by rw [beq_iff_eq]; exact encW_inj h1 h2⟩
theorem codeK (l : Lk) : (isK l = true → encKC l = 0) ∧ (isK l = false → encKC l = 2) := by
  unfold encKC; exact ⟨fun h => by rw [h]; rfl, fun h => by rw [h]; rfl⟩
theorem codeW (l : Wr) : (isW l = true → encWC l = 0) ∧ (isW l = false → encWC l = 2) := by
  unfold encWC; exact ⟨fun h => by rw [h]; rfl, fun h => by rw [h]; rfl⟩
/-- four boxes of the call's own -/
structure K4 (w0 : World) (n : Nat) (a b c d : Array Value) (W : World) : Prop where
  k : Kept w0 W
  a : W.heap[n]? = some (.cells a 24 (0, 0))
  b : W.heap[n + 1]? = some (.cells b 24 (0, 0))
  c : W.heap[n + 2]? = some (.cells c 26 (0, 0))
  d : W.heap[n + 3]? = some (.cells d 26 (0, 0))
theorem K4.kept {w0 : World} {n : Nat} {a b c d : Array Value} {W W' : World} (h : K4 w0 n a b c d W) (k : Kept W W') : K4 w0 n a b c d W' := ⟨kept_trans h.k k, clhp h.a k, clhp h.b k, clhp h.c k, clhp h.d k⟩
theorem K4.new (w : World) (a b c d : Array Value) : K4 w w.heap.size a b c d ((((w.alloc (.cells a 24)).alloc (.cells b 24)).alloc (.cells c 26)).alloc (.cells d 26)) := by
  have h1 := clnew w (.cells a 24)
  have h2 := clnew (w.alloc (.cells a 24)) (.cells b 24)
  have h3 := clnew ((w.alloc (.cells a 24)).alloc (.cells b 24)) (.cells c 26)
  have h4 := clnew (((w.alloc (.cells a 24)).alloc (.cells b 24)).alloc (.cells c 26)) (.cells d 26)
  rw [World.size_alloc] at h2
  rw [World.size_alloc, World.size_alloc] at h3
  rw [World.size_alloc, World.size_alloc, World.size_alloc] at h4
  exact ⟨(((Kept.refl w).alloc _).alloc _).alloc _ |>.alloc _, clhp h1 ((((Kept.refl _).alloc _).alloc _).alloc _), clhp h2 (((Kept.refl _).alloc _).alloc _), clhp h3 ((Kept.refl _).alloc _), h4⟩
theorem ColApart_walk {w : World} (l m : Lk) (x y : Wr) (hl : OkK l) (hm : OkK m) (hx : OkW x) (hy : OkW y) :
    Calls Try.prog 6 #[lkv l, lkv m, wrv x, wrv y] w fun e w' => e = .returned (.bool true) ∧ Kept w w' := by
  have HK1 := Lib.hid (cllock_any l hl.1 hl.2.2)
  have HK2 := Lib.hid (cllock_any m hm.1 hm.2.2)
  have HW1 := Lib.hid (clwrite_any x)
  have HW2 := Lib.hid (clwrite_any y)
  have hAK := apartK l m; have hAW := apartW x y
  obtain ⟨k1, k2⟩ := codeK l; obtain ⟨m1, m2⟩ := codeK m
  obtain ⟨x1, x2⟩ := codeW x; obtain ⟨y1, y2⟩ := codeW y
  have HEK := Lib.hid (fun b h W => lk_eql l m b h W)
  have HEW := Lib.hid (fun b h W => wr_eql x y b h W)
  have hz1 := hl.1; have hz2 := hm.1
  rw [← clbs_size] at hz1 hz2
  generalize bs (encKS l) = TK at *
  generalize bs (encKS m) = TM at *
  generalize bs (encWS x) = TX at *
  generalize bs (encWS y) = TY at *
  generalize encKC l = CK at *
  generalize encKC m = CM at *
  generalize encWC x = CX at *
  generalize encWC y = CY at *
  generalize isK l = BK at *
  generalize isK m = BM at *
  generalize isW x = BX at *
  generalize isW y = BY at *
  generalize hlm : (l = m) = Elm at *
  generalize hxy : (x = y) = Exy at *
  clear hlm hxy hl hm hx hy
  unfold lkv at *
  unfold wrv at *
  obtain ⟨p, st, kk, aa⟩ := l
  obtain ⟨p2, st2, kk2, aa2⟩ := m
  obtain ⟨xs, xk⟩ := x
  obtain ⟨ys, yk⟩ := y
  dsimp only at *
  generalize bs p = P at *
  generalize bs p2 = P2 at *
  unfold maxLen at hz1 hz2
  have I0 := Lib.hid (K4.new w #[.string P, .int .u64 (st : Nat), .int .i64 kk, .int .u64 (aa : Nat)] #[.string P2, .int .u64 (st2 : Nat), .int .i64 kk2, .int .u64 (aa2 : Nat)] #[.int .u64 (xs : Nat), .int .i64 xk] #[.int .u64 (ys : Nat), .int .i64 yk])
  by_cases hp : 1024 < P.size
  · have d1 : decide ((1024 : Int) < (P.size : Int)) = true := decide_eq_true (by omega)
    have HP := Lib.hid hp
    clear k1 k2 m1 m2 x1 x2 y1 y2 hp hAK hAW
    go_enter Try.func6, Try.ntmps6
    go_wp2_with fail
    refine (clawake_any _).mono ?_
    rintro e w1 ⟨rfl, g1⟩
    have I1 := Lib.hid (I0.out.kept g1)
    have c0 := clcell I1.out.a 0 rfl; have e0 := clcell I1.out.b 0 rfl
    clear g1 I0
    go_wp2_with fail
    go_ret
    exact ⟨rfl, I1.out.k⟩
  by_cases hn : 1024 < P2.size
  · have d1 : decide ((1024 : Int) < (P.size : Int)) = false := decide_eq_false (by omega)
    have d2 : decide ((1024 : Int) < (P2.size : Int)) = true := decide_eq_true (by omega)
    have HP := Lib.hid hp
    have HNn := Lib.hid hn
    clear k1 k2 m1 m2 x1 x2 y1 y2 hp hn hAK hAW
    go_enter Try.func6, Try.ntmps6
    go_wp2_with fail
    refine (clawake_any _).mono ?_
    rintro e w1 ⟨rfl, g1⟩
    have I1 := Lib.hid (I0.out.kept g1)
    have c0 := clcell I1.out.a 0 rfl; have e0 := clcell I1.out.b 0 rfl
    clear g1 I0
    go_wp2_with fail
    go_ret
    exact ⟨rfl, I1.out.k⟩
  have d1 : decide ((1024 : Int) < (P.size : Int)) = false := decide_eq_false (by omega)
  have d2 : decide ((1024 : Int) < (P2.size : Int)) = false := decide_eq_false (by omega)
  clear hp hn hz1 hz2
  go_enter Try.func6, Try.ntmps6
  go_wp2_with fail
  refine (clawake_any _).mono ?_
  rintro e w1 ⟨rfl, g1⟩
  have I1 := Lib.hid (I0.out.kept g1)
  have c0 := clcell I1.out.a 0 rfl; have c1 := clcell I1.out.a 1 rfl; have c2 := clcell I1.out.a 2 rfl; have c3 := clcell I1.out.a 3 rfl
  have e0 := clcell I1.out.b 0 rfl
  clear g1 I0
  go_wp2_with fail
  refine (HK1.out _).mono ?_
  rintro e w2 ⟨rfl, g1⟩
  have I2 := Lib.hid (I1.out.kept g1)
  clear g1 I1 c0 c1 c2 c3 e0
  have c0 := clcell I2.out.b 0 rfl; have c1 := clcell I2.out.b 1 rfl; have c2 := clcell I2.out.b 2 rfl; have c3 := clcell I2.out.b 3 rfl
  go_wp2_with fail
  refine (HK2.out _).mono ?_
  rintro e w3 ⟨rfl, g1⟩
  have I3 := Lib.hid (I2.out.kept g1)
  clear g1 I2 c0 c1 c2 c3
  have c0 := clcell I3.out.a 0 rfl; have c1 := clcell I3.out.a 1 rfl; have c2 := clcell I3.out.a 2 rfl; have c3 := clcell I3.out.a 3 rfl
  have e0 := clcell I3.out.b 0 rfl; have e1 := clcell I3.out.b 1 rfl; have e2 := clcell I3.out.b 2 rfl; have e3 := clcell I3.out.b 3 rfl
  have s0 := clcell I3.out.c 0 rfl; have s1 := clcell I3.out.c 1 rfl
  cases BK with
  | false =>
    obtain rfl := k2 rfl
    go_wp2_with fail
    refine (HW1.out _).mono ?_
    rintro e w4 ⟨rfl, g1⟩
    have I4 := Lib.hid (I3.out.kept g1)
    clear g1 I3 c0 c1 c2 c3 e0 e1 e2 e3 s0 s1
    have c0 := clcell I4.out.d 0 rfl; have c1 := clcell I4.out.d 1 rfl
    go_wp2_with fail
    refine (HW2.out _).mono ?_
    rintro e w5 ⟨rfl, g1⟩
    have I5 := Lib.hid (I4.out.kept g1)
    clear g1 I4 c0 c1
    have c0 := clcell I5.out.c 0 rfl; have c1 := clcell I5.out.c 1 rfl
    have e0 := clcell I5.out.d 0 rfl; have e1 := clcell I5.out.d 1 rfl
    cases BX with
    | false =>
      obtain rfl := x2 rfl
      go_wp2_with fail
      go_ret
      exact ⟨rfl, I5.out.k⟩
    | true =>
    obtain rfl := x1 rfl
    cases BY with
    | false =>
      obtain rfl := y2 rfl
      go_wp2_with fail
      go_ret
      exact ⟨rfl, I5.out.k⟩
    | true =>
    obtain rfl := y1 rfl
    obtain ⟨b2, hb2, hbe2⟩ := hAW rfl rfl
    have hq2 := HEW.out b2 hbe2
    clear hAW hbe2 HEW
    cases b2
    · go_wp2_with fail
      go_ret
      exact ⟨rfl, I5.out.k⟩
    · go_wp2_with fail
      go_ret
      exact ⟨rfl, I5.out.k⟩
  | true =>
  obtain rfl := k1 rfl
  cases BM with
  | false =>
    obtain rfl := m2 rfl
    go_wp2_with fail
    refine (HW1.out _).mono ?_
    rintro e w4 ⟨rfl, g1⟩
    have I4 := Lib.hid (I3.out.kept g1)
    clear g1 I3 c0 c1 c2 c3 e0 e1 e2 e3 s0 s1
    have c0 := clcell I4.out.d 0 rfl; have c1 := clcell I4.out.d 1 rfl
    go_wp2_with fail
    refine (HW2.out _).mono ?_
    rintro e w5 ⟨rfl, g1⟩
    have I5 := Lib.hid (I4.out.kept g1)
    clear g1 I4 c0 c1
    have c0 := clcell I5.out.c 0 rfl; have c1 := clcell I5.out.c 1 rfl
    have e0 := clcell I5.out.d 0 rfl; have e1 := clcell I5.out.d 1 rfl
    cases BX with
    | false =>
      obtain rfl := x2 rfl
      go_wp2_with fail
      go_ret
      exact ⟨rfl, I5.out.k⟩
    | true =>
    obtain rfl := x1 rfl
    cases BY with
    | false =>
      obtain rfl := y2 rfl
      go_wp2_with fail
      go_ret
      exact ⟨rfl, I5.out.k⟩
    | true =>
    obtain rfl := y1 rfl
    obtain ⟨b2, hb2, hbe2⟩ := hAW rfl rfl
    have hq2 := HEW.out b2 hbe2
    clear hAW hbe2 HEW
    cases b2
    · go_wp2_with fail
      go_ret
      exact ⟨rfl, I5.out.k⟩
    · go_wp2_with fail
      go_ret
      exact ⟨rfl, I5.out.k⟩
  | true =>
  obtain rfl := m1 rfl
  obtain ⟨b1, hb1, hbe1⟩ := hAK rfl rfl
  have hq1 := HEK.out b1 hbe1
  clear hAK hbe1 HEK
  cases b1
  · go_wp2_with fail
    refine (HW1.out _).mono ?_
    rintro e w4 ⟨rfl, g1⟩
    have I4 := Lib.hid (I3.out.kept g1)
    clear g1 I3 c0 c1 c2 c3 e0 e1 e2 e3 s0 s1
    have c0 := clcell I4.out.d 0 rfl; have c1 := clcell I4.out.d 1 rfl
    go_wp2_with fail
    refine (HW2.out _).mono ?_
    rintro e w5 ⟨rfl, g1⟩
    have I5 := Lib.hid (I4.out.kept g1)
    clear g1 I4 c0 c1
    have c0 := clcell I5.out.c 0 rfl; have c1 := clcell I5.out.c 1 rfl
    have e0 := clcell I5.out.d 0 rfl; have e1 := clcell I5.out.d 1 rfl
    cases BX with
    | false =>
      obtain rfl := x2 rfl
      go_wp2_with fail
      go_ret
      exact ⟨rfl, I5.out.k⟩
    | true =>
    obtain rfl := x1 rfl
    cases BY with
    | false =>
      obtain rfl := y2 rfl
      go_wp2_with fail
      go_ret
      exact ⟨rfl, I5.out.k⟩
    | true =>
    obtain rfl := y1 rfl
    obtain ⟨b2, hb2, hbe2⟩ := hAW rfl rfl
    have hq2 := HEW.out b2 hbe2
    clear hAW hbe2 HEW
    cases b2
    · go_wp2_with fail
      go_ret
      exact ⟨rfl, I5.out.k⟩
    · go_wp2_with fail
      go_ret
      exact ⟨rfl, I5.out.k⟩
  · go_wp2_with fail
    refine (HW1.out _).mono ?_
    rintro e w4 ⟨rfl, g1⟩
    have I4 := Lib.hid (I3.out.kept g1)
    clear g1 I3 c0 c1 c2 c3 e0 e1 e2 e3 s0 s1
    have c0 := clcell I4.out.d 0 rfl; have c1 := clcell I4.out.d 1 rfl
    go_wp2_with fail
    refine (HW2.out _).mono ?_
    rintro e w5 ⟨rfl, g1⟩
    have I5 := Lib.hid (I4.out.kept g1)
    clear g1 I4 c0 c1
    have c0 := clcell I5.out.c 0 rfl; have c1 := clcell I5.out.c 1 rfl
    have e0 := clcell I5.out.d 0 rfl; have e1 := clcell I5.out.d 1 rfl
    cases BX with
    | false =>
      obtain rfl := x2 rfl
      go_wp2_with fail
      go_ret
      exact ⟨rfl, I5.out.k⟩
    | true =>
    obtain rfl := x1 rfl
    cases BY with
    | false =>
      obtain rfl := y2 rfl
      go_wp2_with fail
      go_ret
      exact ⟨rfl, I5.out.k⟩
    | true =>
    obtain rfl := y1 rfl
    obtain ⟨b2, hb2, hbe2⟩ := hAW rfl rfl
    have hq2 := HEW.out b2 hbe2
    clear hAW hbe2 HEW
    cases b2
    · go_wp2_with fail
      go_ret
      exact ⟨rfl, I5.out.k⟩
    · go_wp2_with fail
      go_ret
      exact ⟨rfl, I5.out.k⟩
end Go.Proofs.Ytdmnmbomijnjeaa
