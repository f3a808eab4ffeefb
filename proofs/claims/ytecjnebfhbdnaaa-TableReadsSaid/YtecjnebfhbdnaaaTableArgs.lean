/-
  What the laws of layer 11 share: which entries are too many, or too large, to be looked at.
-/
import Derived.Test.YtecjnebfhbdnaaaTableOpen
import Derived.Test.YtecjnebfhbdnaaaMergeEs
namespace Go.Proofs.Ytecjnebfhbdnaaa
open Go.ChangeShapes Go.WideShapes Go.ChangeAt Go.RowKit
set_option linter.unusedVariables false
set_option maxRecDepth 100000
set_option maxHeartbeats 2000000

/-- what large tells: nothing is asked of it -/
def LgT (w : World) (e : Ending) (w' : World) : Prop := ∃ B, e = .returned (.bool B) ∧ Kept w w'
theorem tlarge_any {w : World} {A : Option Addr} {l : List Mm.Ent} (c : Nat) (h : Els w A l) (hl : l.length ≤ maxLen) (ho : OkEl l) :
    Calls Try.prog 8 #[.slice A l.length c] w (LgT w) := by
  obtain ⟨n, hn⟩ : ∃ n, n = l.length := ⟨_, rfl⟩
  rw [← hn] at hl ⊢
  have HN := Lib.hid hn; have HE := Lib.hid h; have HOK := Lib.hid ho
  unfold maxLen at hl
  have hl2 : n ≤ 9223372036854775807 := by omega
  clear h ho hn hl
  by_cases hb : 80 < n ∧ n ≤ 500
  · have d1 : decide ((80 : Int) < (n : Int)) = true := decide_eq_true (by omega)
    have d2 : decide ((n : Int) ≤ 500) = true := decide_eq_true (by omega)
    go_enter Try.func8, Try.ntmps8
    go_wp2_with fail
    go_ret
    exact ⟨true, rfl, Kept.refl _⟩
  · by_cases h80 : 80 < n
    · have d1 : decide ((80 : Int) < (n : Int)) = true := decide_eq_true (by omega)
      have d2 : decide ((n : Int) ≤ 500) = false := decide_eq_false (by omega)
      clear hb
      go_enter Try.func8, Try.ntmps8
      go_wp2_with fail
      go_loopw [3] (fun t wr => ∃ k : Nat, k ≤ n ∧ k ≤ 501 ∧ t = .int .i64 k ∧ Hid (Kept w wr)) (fun t _ => 501 - (intOf t).toNat)
      case atStart => exact ⟨0, Nat.zero_le _, by omega, rfl, Lib.hid (Kept.refl _)⟩
      case round =>
        obtain ⟨k, hk, hk5, rfl, HK⟩ := hrel
        by_cases hlt : k < n
        · have e1 : decide ((k : Int) < (n : Int)) = true := decide_eq_true (by omega)
          by_cases h5 : k ≤ 500
          · have e2 : decide ((k : Int) ≤ 500) = true := decide_eq_true (by omega)
            obtain ⟨x, hx⟩ : ∃ x, l[k]? = some x := ⟨_, List.getElem?_eq_getElem (by have := HN.out; omega)⟩
            obtain ⟨b, o, rfl, hbb, q0, q1, q2, q3⟩ := (HE.out.kept HK.out) k x hx
            obtain ⟨z1, z2⟩ := HOK.out x (List.mem_of_getElem? hx)
            have s1 := fbs_size x.key; have s2 := fbs_size x.val
            unfold maxLen at z1 z2
            have y1 : (bs x.key).size ≤ 9223372036854775807 := by omega
            have y2 : (bs x.val).size ≤ 9223372036854775807 := by omega
            clear hx z1 z2 s1 s2
            by_cases g1 : 300 < (bs x.key).size
            · have f1 : decide ((300 : Int) < ((bs x.key).size : Int)) = true := decide_eq_true (by omega)
              go_wp2_with fail
              go_ret
              exact ⟨true, rfl, HK.out⟩
            · have f1 : decide ((300 : Int) < ((bs x.key).size : Int)) = false := decide_eq_false (by omega)
              by_cases g2 : 300 < (bs x.val).size
              · have f2 : decide ((300 : Int) < ((bs x.val).size : Int)) = true := decide_eq_true (by omega)
                go_wp2_with fail
                go_ret
                exact ⟨true, rfl, HK.out⟩
              · have f2 : decide ((300 : Int) < ((bs x.val).size : Int)) = false := decide_eq_false (by omega)
                go_wp2_with fail
                go_roundw
                case rel => exact ⟨k + 1, by omega, by omega, by go_num, HK⟩
                case measure => simp [intOf]; omega
          · have e2 : decide ((k : Int) ≤ 500) = false := decide_eq_false (by omega)
            go_wp2_with fail
            go_ret
            exact ⟨false, rfl, HK.out⟩
        · have e1 : decide ((k : Int) < (n : Int)) = false := decide_eq_false (by omega)
          go_wp2_with fail
          go_ret
          exact ⟨false, rfl, HK.out⟩
    · have d1 : decide ((80 : Int) < (n : Int)) = false := decide_eq_false (by omega)
      clear hb
      go_enter Try.func8, Try.ntmps8
      go_wp2_with fail
      go_loopw [3] (fun t wr => ∃ k : Nat, k ≤ n ∧ k ≤ 501 ∧ t = .int .i64 k ∧ Hid (Kept w wr)) (fun t _ => 501 - (intOf t).toNat)
      case atStart => exact ⟨0, Nat.zero_le _, by omega, rfl, Lib.hid (Kept.refl _)⟩
      case round =>
        obtain ⟨k, hk, hk5, rfl, HK⟩ := hrel
        by_cases hlt : k < n
        · have e1 : decide ((k : Int) < (n : Int)) = true := decide_eq_true (by omega)
          by_cases h5 : k ≤ 500
          · have e2 : decide ((k : Int) ≤ 500) = true := decide_eq_true (by omega)
            obtain ⟨x, hx⟩ : ∃ x, l[k]? = some x := ⟨_, List.getElem?_eq_getElem (by have := HN.out; omega)⟩
            obtain ⟨b, o, rfl, hbb, q0, q1, q2, q3⟩ := (HE.out.kept HK.out) k x hx
            obtain ⟨z1, z2⟩ := HOK.out x (List.mem_of_getElem? hx)
            have s1 := fbs_size x.key; have s2 := fbs_size x.val
            unfold maxLen at z1 z2
            have y1 : (bs x.key).size ≤ 9223372036854775807 := by omega
            have y2 : (bs x.val).size ≤ 9223372036854775807 := by omega
            clear hx z1 z2 s1 s2
            by_cases g1 : 300 < (bs x.key).size
            · have f1 : decide ((300 : Int) < ((bs x.key).size : Int)) = true := decide_eq_true (by omega)
              go_wp2_with fail
              go_ret
              exact ⟨true, rfl, HK.out⟩
            · have f1 : decide ((300 : Int) < ((bs x.key).size : Int)) = false := decide_eq_false (by omega)
              by_cases g2 : 300 < (bs x.val).size
              · have f2 : decide ((300 : Int) < ((bs x.val).size : Int)) = true := decide_eq_true (by omega)
                go_wp2_with fail
                go_ret
                exact ⟨true, rfl, HK.out⟩
              · have f2 : decide ((300 : Int) < ((bs x.val).size : Int)) = false := decide_eq_false (by omega)
                go_wp2_with fail
                go_roundw
                case rel => exact ⟨k + 1, by omega, by omega, by go_num, HK⟩
                case measure => simp [intOf]; omega
          · have e2 : decide ((k : Int) ≤ 500) = false := decide_eq_false (by omega)
            go_wp2_with fail
            go_ret
            exact ⟨false, rfl, HK.out⟩
        · have e1 : decide ((k : Int) < (n : Int)) = false := decide_eq_false (by omega)
          go_wp2_with fail
          go_ret
          exact ⟨false, rfl, HK.out⟩
end Go.Proofs.Ytecjnebfhbdnaaa
