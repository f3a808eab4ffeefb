/-
  The walk of the statement NumLengths: it answers true for every unsigned 64-bit number and every string.
-/
import Derived.Test.YtfakkjolanegcaaNumLawBack
import Derived.Test.YtfakkjolanegcaaNumLawFits
namespace Go.Proofs.Ytfakkjolanegcaa
open Go.ChangeShapes Go.WideShapes Go.ChangeAt Go.RowKit
set_option linter.unusedVariables false
set_option maxHeartbeats 400000

theorem take_of_short' (n : Nat) (s : ByteArray) (h1 : (0 : Int) ≤ n) (h2 : (n : Int) ≤ 18446744073709551615) (hs : s.size ≤ 4096) (w : World) :
    Calls Try.prog 23 #[.string (bs (Nm.short n) ++ s)] w fun e w' => e = .returned (.tuple #[.int .u64 n, .string s, .bool true]) ∧ Kept w w' :=
  take_of_short n s h1 h2 hs w

theorem NumLengths_walk (a0 : Int) (a1 : ByteArray) (w0 : (Lit.int .u64 a0).wf = true) (w1 : a1.size ≤ maxLen) (w : World) :
    Calls Try.prog 9 #[.int .u64 a0, .string a1] w fun e w' => e = .returned (.bool true) ∧ Kept w w' := by
  obtain ⟨n1, n2⟩ := bounds_u64 w0
  unfold maxLen at w1
  clear w0
  obtain ⟨n, rfl⟩ := Int.eq_ofNat_of_zero_le n1
  have hn : n < 18446744073709551616 := by omega
  have sz0 := size_short n hn
  have l1 : (bs (Nm.short n)).size = Nm.sz n := by rw [bs, ByteArray.size, List.size_toArray, Nm.short_len n hn]
  have HL := Lib.hid l1; clear l1
  have HZ := Lib.hid (Nm.sz_max n)
  by_cases hs : a1.size ≤ 4096
  · go_enter Try.func9, Try.ntmps9
    go_wp2_with fail
    refine (awake_any _).mono ?_; rintro e w1 ⟨rfl, g1⟩
    go_wp2_with fail
    go_loop [5, 6] (fun t x => ∃ j y : Nat, t = .int .i64 j ∧ x = .int .u64 y ∧ Halved n j y) (fun _ x => (intOf x).toNat)
    case atStart => exact ⟨0, n, rfl, rfl, Halved.start n⟩
    case round =>
      obtain ⟨j, y, rfl, rfl, hH⟩ := hrel
      have hj := hH.le hn
      have hy := hH.2
      by_cases hpos : 0 < y
      · go_wp2_with fail
        go_round
        case rel => exact ⟨j + 1, y / 2, by go_num, by go_num, hH.next hpos⟩
        case measure => simp [intOf]; omega
      · have y0 : y = 0 := by omega
        subst y0
        have HE := Lib.hid hH.done
        clear hH
        by_cases j0 : j = 0
        · subst j0
          have l1 : (bs (Nm.short n)).size = 1 := by rw [HL.out, HZ.out, ← HE.out]; decide
          go_wp2_with fail
          refine (short_any _ n1 n2 _).mono ?_; rintro e w2 ⟨rfl, g2⟩; rw [Int.toNat_natCast]
          go_wp2_with fail
          refine (take_of_short' n a1 n1 n2 hs _).mono ?_; rintro e w3 ⟨rfl, g3⟩
          go_wp2_with fail
          go_ret
          exact ⟨ret_bool (by simp), kept_trans g1 (kept_trans g2 g3)⟩
        · have l1 : (bs (Nm.short n)).size = (j + 6) / 7 := by rw [HL.out, HZ.out, ← HE.out]; omega
          go_wp2_with fail
          refine (short_any _ n1 n2 _).mono ?_; rintro e w2 ⟨rfl, g2⟩; rw [Int.toNat_natCast]
          go_wp2_with fail
          refine (take_of_short' n a1 n1 n2 hs _).mono ?_; rintro e w3 ⟨rfl, g3⟩
          go_wp2_with fail
          go_ret
          exact ⟨ret_bool (by simp), kept_trans g1 (kept_trans g2 g3)⟩
  · go_enter Try.func9, Try.ntmps9
    go_wp2_with fail
    refine (awake_any _).mono ?_; rintro e w1 ⟨rfl, g1⟩
    go_wp2_with fail
    go_ret
    exact ⟨rfl, g1⟩
end Go.Proofs.Ytfakkjolanegcaa
