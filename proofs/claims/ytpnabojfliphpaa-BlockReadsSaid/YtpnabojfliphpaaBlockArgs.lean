/-
  Which entries are too large to be looked at by the laws of layer 9.
-/
import Derived.Test.YtpnabojfliphpaaBlockAwake
namespace Go.Proofs.Ytpnabojfliphpaa
open Go.ChangeShapes Go.WideShapes Go.ChangeAt Go.RowKit
set_option linter.unusedVariables false
set_option maxRecDepth 100000
set_option maxHeartbeats 2000000

/-- what 'large' tells: that they aren't, only if they are small -/
def KLg (w : World) (l : List Mm.Ent) (e : Ending) (w' : World) : Prop := ∃ B, e = .returned (.bool B) ∧ Kept w w' ∧ (B = false → l.length ≤ 60 ∧ ∀ x ∈ l, x.key.length ≤ 300 ∧ x.val.length ≤ 300)
theorem klarge_any {w : World} {A : Option Addr} {l : List Mm.Ent} (c : Nat) (h : Els w A l) (hl : l.length ≤ maxLen) (ho : OkEs l) :
    Calls Try.prog 15 #[.slice A l.length c] w (KLg w l) := by
  have HE := Lib.hid h; have HO := Lib.hid ho
  unfold maxLen at hl
  clear h ho
  by_cases h0 : 60 < l.length
  · have d0 : decide ((60 : Int) < (l.length : Int)) = true := decide_eq_true (by omega)
    go_enter Try.func15, Try.ntmps15
    go_wp2_with fail
    go_ret
    exact ⟨true, rfl, Kept.refl _, fun e => by cases e⟩
  · have d0 : decide ((60 : Int) < (l.length : Int)) = false := decide_eq_false (by omega)
    go_enter Try.func15, Try.ntmps15
    go_wp2_with fail
    go_loopw [9] (fun t wr => ∃ k : Nat, k ≤ l.length ∧ t = .int .i64 k ∧ Hid (∀ x ∈ l.take k, x.key.length ≤ 300 ∧ x.val.length ≤ 300) ∧ Kept w wr) (fun t _ => l.length - (intOf t).toNat)
    case atStart => exact ⟨0, Nat.zero_le _, rfl, Lib.hid (fun x hx => by simp at hx), Kept.refl _⟩
    case round =>
      obtain ⟨k, hk, rfl, HF, hkr⟩ := hrel
      by_cases hlt : k < l.length
      · obtain ⟨x, hx⟩ : ∃ x, l[k]? = some x := ⟨_, List.getElem?_eq_getElem hlt⟩
        have hmem : x ∈ l := List.mem_of_getElem? hx
        obtain ⟨b, o, rfl, hb, c0, c1, c2, c3⟩ := (HE.out.kept hkr) k x hx
        have hz := HO.out x hmem
        have e1 := mbs_size x.key; have e2 := mbs_size x.val
        unfold maxLen at hz
        obtain ⟨z1, z2, _⟩ := hz
        have HT := Lib.hid (show l.take (k + 1) = l.take k ++ [x] by rw [List.take_add_one, hx]; rfl)
        clear hx hmem c1 c2
        by_cases h1 : 300 < x.key.length
        · have d1 : decide ((300 : Int) < ((bs x.key).size : Int)) = true := by rw [e1]; exact decide_eq_true (by omega)
          clear e1 e2
          go_wp2_with fail
          go_ret
          exact ⟨true, rfl, hkr, fun e => by cases e⟩
        · have d1 : decide ((300 : Int) < ((bs x.key).size : Int)) = false := by rw [e1]; exact decide_eq_false (by omega)
          by_cases h2 : 300 < x.val.length
          · have d2 : decide ((300 : Int) < ((bs x.val).size : Int)) = true := by rw [e2]; exact decide_eq_true (by omega)
            clear e1 e2
            go_wp2_with fail
            go_ret
            exact ⟨true, rfl, hkr, fun e => by cases e⟩
          · have d2 : decide ((300 : Int) < ((bs x.val).size : Int)) = false := by rw [e2]; exact decide_eq_false (by omega)
            have HN := Lib.hid (show ∀ y ∈ l.take (k + 1), y.key.length ≤ 300 ∧ y.val.length ≤ 300 from fun y hy => by
              rw [HT.out, List.mem_append] at hy
              rcases hy with hy | hy
              · exact HF.out y hy
              · simp at hy; rw [hy]; exact ⟨by omega, by omega⟩)
            clear e1 e2
            go_wp2_with fail
            go_roundw
            case rel => exact ⟨k + 1, by omega, by go_num, HN, hkr⟩
            case measure => simp [intOf]; omega
      · have e : k = l.length := by omega
        subst e
        go_wp2_with fail
        go_ret
        exact ⟨false, rfl, hkr, fun _ => ⟨by omega, by have := HF.out; rw [List.take_length] at this; exact this⟩⟩
theorem es_el {l : List Mm.Ent} (h : OkEs l) : OkEl l := fun x hx => ⟨(h x hx).1, (h x hx).2.1⟩
theorem bs_back (S : ByteArray) : ∃ K, S = bs K ∧ K.length = S.size := ⟨S.data.toList, (mbs_self S).symm, by simp⟩
end Go.Proofs.Ytpnabojfliphpaa
