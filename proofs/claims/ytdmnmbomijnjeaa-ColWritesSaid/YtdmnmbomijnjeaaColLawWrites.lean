/-
  ColWrites: a lock's, a write's and leases' bytes, or that they may not be, are as the document says.
-/
import Derived.Test.YtdmnmbomijnjeaaColRefList
import Derived.Test.YtdmnmbomijnjeaaColLawApart
import Derived.Test.YtdmnmbomijnjeaaColLawBack
namespace Go.Proofs.Ytdmnmbomijnjeaa
open Go.ChangeShapes Go.WideShapes Go.ChangeAt Go.RowKit
set_option linter.unusedVariables false
set_option maxRecDepth 100000
set_option maxHeartbeats 8000000
open Co
theorem ColWrites_walk {w : World} (l : Lk) (x : Wr) (A : Option Addr) (c : Nat) (L : List Ls) (hl : OkK l) (hx : OkW x) (hA : Lss w A L) (hL : L.length ≤ c ∧ c ≤ maxLen ∧ OkLs L ∧ (A = none → c = 0) ∧ (∀ a, A = some a → a.spot = none ∨ L = [])) :
    Calls Try.prog 3 #[lkv l, wrv x, .slice A L.length c] w fun e w' => e = .returned (.bool true) ∧ Kept w w' := by
  have hLl : L.length ≤ maxLen := Nat.le_trans hL.1 hL.2.1
  have HK := Lib.hid (cllock_any l hl.1 hl.2.2)
  have HRK := Lib.hid (clrlock_any l hl.1 hl.2.2)
  have HW := Lib.hid (clwrite_any x)
  have HRW := Lib.hid (clrwrite_any x)
  have HL := Lib.hid (fun W (hW : Kept w W) => clleases_any (hA.kept hW) hLl c)
  have HA := Lib.hid (fun W (hW : Kept w W) => hA.kept hW)
  have HRL := Lib.hid (fun W B (hB : Lss W B L) (h : L.length ≤ 1000) d => clrleases_any hB h d)
  have zp := clbs_size l.p
  have hpl := hl.1
  unfold maxLen at hLl hpl
  rw [← zp] at hpl
  unfold lkv at *
  unfold wrv at *
  generalize bs (encKS l) = TK at *
  generalize bs (encWS x) = TW at *
  generalize bs (encLS L) = TL at *
  generalize encKC l = CK at *
  generalize encWC x = CW at *
  generalize encLC L = CL at *
  obtain ⟨p, st, kk, aa⟩ := l
  obtain ⟨xs, xk⟩ := x
  dsimp only at *
  generalize bs p = P at *
  have I0 := Lib.hid (K2.new w #[.string P, .int .u64 (st : Nat), .int .i64 kk, .int .u64 (aa : Nat)] #[.int .u64 (xs : Nat), .int .i64 xk])
  clear hA hl hx hL zp
  by_cases hp : 1024 < P.size
  · have d1 : decide ((1024 : Int) < (P.size : Int)) = true := decide_eq_true (by omega)
    have HP := Lib.hid hp
    clear hp
    go_enter Try.func3, Try.ntmps3
    go_wp2_with fail
    refine (clawake_any _).mono ?_
    rintro e w1 ⟨rfl, g1⟩
    have I1 := Lib.hid (I0.out.kept g1)
    have c0 := clcell I1.out.a 0 rfl
    clear g1 I0
    go_wp2_with fail
    go_ret
    exact ⟨rfl, I1.out.k⟩
  have d1 : decide ((1024 : Int) < (P.size : Int)) = false := decide_eq_false (by omega)
  by_cases hn : 40 < L.length
  · have d2 : decide ((40 : Int) < (L.length : Int)) = true := decide_eq_true (by omega)
    have HP := Lib.hid hp
    clear hp
    go_enter Try.func3, Try.ntmps3
    go_wp2_with fail
    refine (clawake_any _).mono ?_
    rintro e w1 ⟨rfl, g1⟩
    have I1 := Lib.hid (I0.out.kept g1)
    have c0 := clcell I1.out.a 0 rfl
    clear g1 I0
    go_wp2_with fail
    go_ret
    exact ⟨rfl, I1.out.k⟩
  have d2 : decide ((40 : Int) < (L.length : Int)) = false := decide_eq_false (by omega)
  have HLN := Lib.hid (show L.length ≤ 1000 by omega)
  clear hp hn
  go_enter Try.func3, Try.ntmps3
  go_wp2_with fail
  refine (clawake_any _).mono ?_
  rintro e w1 ⟨rfl, g1⟩
  have I1 := Lib.hid (I0.out.kept g1)
  have c0 := clcell I1.out.a 0 rfl; have c1 := clcell I1.out.a 1 rfl; have c2 := clcell I1.out.a 2 rfl; have c3 := clcell I1.out.a 3 rfl
  clear g1 I0
  go_wp2_with fail
  refine (HK.out _).mono ?_
  rintro e w2 ⟨rfl, g1⟩
  have I2 := Lib.hid (I1.out.kept g1)
  clear g1 I1 c0 c1 c2 c3
  have c0 := clcell I2.out.a 0 rfl; have c1 := clcell I2.out.a 1 rfl; have c2 := clcell I2.out.a 2 rfl; have c3 := clcell I2.out.a 3 rfl
  go_wp2_with fail
  refine (HRK.out _).mono ?_
  rintro e w3 ⟨rfl, g1⟩
  have I3 := Lib.hid (I2.out.kept g1)
  clear g1 I2 c0 c1 c2 c3
  have c0 := clcell I3.out.b 0 rfl; have c1 := clcell I3.out.b 1 rfl
  go_wp2_with fail
  refine (HW.out _).mono ?_
  rintro e w4 ⟨rfl, g1⟩
  have I4 := Lib.hid (I3.out.kept g1)
  clear g1 I3 c0 c1
  have c0 := clcell I4.out.b 0 rfl; have c1 := clcell I4.out.b 1 rfl
  go_wp2_with fail
  refine (HRW.out _).mono ?_
  rintro e w5 ⟨rfl, g1⟩
  have I5 := Lib.hid (I4.out.kept g1)
  clear g1 I4 c0 c1
  go_wp2_with fail
  refine (HL.out _ I5.out.k).mono ?_
  rintro e w6 ⟨rfl, g1⟩
  have I6 := Lib.hid (I5.out.kept g1)
  clear g1 I5
  go_wp2_with fail
  refine (clown_any (HA.out _ I6.out.k) HLN.out c).mono ?_
  rintro e w7 ⟨B7, c7, rfl, hb7, _, _, g1⟩
  have I7 := Lib.hid (I6.out.kept g1)
  have HB7 := Lib.hid hb7
  clear g1 I6 hb7
  go_wp2_with fail
  refine (HRL.out _ _ HB7.out HLN.out c7).mono ?_
  rintro e w8 ⟨rfl, g1⟩
  have I8 := Lib.hid (I7.out.kept g1)
  clear g1 I7
  go_wp2_with fail
  go_ret
  exact ⟨rfl, I8.out.k⟩
end Go.Proofs.Ytdmnmbomijnjeaa
