/-
  BatchReads of the statements of layer 5 returns true, whatever the bytes.
-/
import Derived.Test.YtalcmiaohclnjaaBatchRefBack
namespace Go.Proofs.Ytalcmiaohclnjaa
open Go.ChangeShapes Go.WideShapes Go.ChangeAt Go.RowKit
set_option linter.unusedVariables false
set_option maxHeartbeats 1000000

theorem rdecode_some (s : ByteArray) (hs : s.size ≤ 16777216) {n : Nat} {l : List Bt.Op} (h : Bt.dec s.data.toList = some (n, l)) (w : World) :
    Calls Try.prog 21 #[.string s] w fun e w' => ∃ A c, e = .returned (.tuple #[.int .u64 n, .slice A l.length c, .int .i64 0]) ∧ Ops w' A l ∧ Kept w w' := by
  refine (rdecode_any s hs w).mono fun e w' ht => ?_
  rcases ht with ⟨n', l', A, c, hO, rfl, h1, h2⟩ | ⟨hO, _⟩
  · rw [h] at hO
    injection hO with hO
    injection hO with e1 e2
    subst e1 e2
    exact ⟨A, c, rfl, h1, h2⟩
  · rw [h] at hO; cases hO
theorem rdecode_none (s : ByteArray) (hs : s.size ≤ 16777216) (h : Bt.dec s.data.toList = none) (w : World) :
    Calls Try.prog 21 #[.string s] w fun e w' => e = .returned (.tuple #[.int .u64 0, .slice none 0 0, .int .i64 2]) ∧ Kept w w' := by
  refine (rdecode_any s hs w).mono fun e w' ht => ?_
  rcases ht with ⟨n', l', A, c, hO, _⟩ | ⟨_, rfl, h2⟩
  · rw [h] at hO; cases hO
  · exact ⟨rfl, h2⟩
theorem same_nil (w : World) : Calls Try.prog 19 #[.slice none 0 0, .slice none 0 0] w fun e w' => e = .returned (.bool true) ∧ Kept w w' :=
  same_self none none 0 0 [] (by unfold maxLen; simp) w (fun j x hx => by simp at hx) (fun j x hx => by simp at hx)
theorem BatchReads_walk {w : World} (s : ByteArray) (hs : s.size ≤ maxLen) :
    Calls Try.prog 4 #[.string s] w fun e w' => e = .returned (.bool true) ∧ Kept w w' := by
  unfold maxLen at hs
  by_cases hbig : 8192 < s.size
  · have d : decide ((8192 : Int) < (s.size : Int)) = true := by simp; omega
    go_enter Try.func4, Try.ntmps4
    go_wp2_with fail
    refine (bawake_any _).mono ?_
    rintro e w1 ⟨rfl, g1⟩
    go_wp2_with fail
    go_ret
    exact ⟨rfl, g1⟩
  · have d : decide ((8192 : Int) < (s.size : Int)) = false := by simp; omega
    cases hd : Bt.dec s.data.toList with
    | none =>
      have h1 := Lib.hid (decode_none s (by omega) hd)
      have h2 := Lib.hid (rdecode_none s (by omega) hd)
      clear hd hbig
      go_enter Try.func4, Try.ntmps4
      go_wp2_with fail
      refine (bawake_any _).mono ?_
      rintro e w1 ⟨rfl, g1⟩
      go_wp2_with fail
      refine (h1.out _).mono ?_
      rintro e w2 ⟨rfl, g2⟩
      go_wp2_with fail
      refine (h2.out _).mono ?_
      rintro e w3 ⟨rfl, g3⟩
      go_wp2_with fail
      refine (same_nil _).mono ?_
      rintro e w4 ⟨rfl, g4⟩
      go_wp2_with fail
      go_ret
      exact ⟨rfl, kept_trans g1 (kept_trans g2 (kept_trans g3 g4))⟩
    | some y =>
      obtain ⟨n, l⟩ := y
      have h16 := (ok_sane (Bt.dec_back hd).2).2
      have h1 := Lib.hid (decode_some s (by omega) hd)
      have h2 := Lib.hid (rdecode_some s (by omega) hd)
      clear hd hbig
      go_enter Try.func4, Try.ntmps4
      go_wp2_with fail
      refine (bawake_any _).mono ?_
      rintro e w1 ⟨rfl, g1⟩
      go_wp2_with fail
      refine (h1.out _).mono ?_
      rintro e w2 ⟨A2, c2, rfl, o2, g2⟩
      go_wp2_with fail
      refine (h2.out _).mono ?_
      rintro e w3 ⟨A3, c3, rfl, o3, g3⟩
      go_wp2_with fail
      refine (same_self A2 A3 c2 c3 l (by unfold maxLen; omega) _ (o2.kept g3) o3).mono ?_
      rintro e w4 ⟨rfl, g4⟩
      go_wp2_with fail
      go_ret
      exact ⟨rfl, kept_trans g1 (kept_trans g2 (kept_trans g3 g4))⟩
end Go.Proofs.Ytalcmiaohclnjaa
