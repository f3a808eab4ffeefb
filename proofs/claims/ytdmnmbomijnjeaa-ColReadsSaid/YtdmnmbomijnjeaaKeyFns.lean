/-
  What the functions of package key compute, each for every input: May, isFamily, timed, lastTime, Escape, raised, Family, First, Behind, Make.
-/
import Derived.Test.YtdmnmbomijnjeaaBytes
import Derived.Test.YtdmnmbomijnjeaaKeyMath
namespace Go.Proofs.Ytdmnmbomijnjeaa
open Go.ChangeShapes Go.WideShapes Go.ChangeAt Go.RowKit
set_option linter.unusedVariables false
set_option maxRecDepth 100000
set_option maxHeartbeats 400000

theorem kmay_any (s : ByteArray) (hs : s.size ≤ maxLen) (w : World) :
    Calls Try.prog 41 #[.string s] w fun e w' => e = .returned (.bool (Ky.may s.data.toList)) ∧ w = w' := by
  have hl : s.data.toList.length = s.size := by simp
  unfold maxLen at hs
  have HM := Lib.hid (show Ky.may s.data.toList = decide (1 ≤ s.size ∧ s.size ≤ 24) from by unfold Ky.may; rw [hl])
  clear hl
  by_cases h1 : 1 ≤ s.size
  · by_cases h2 : s.size ≤ 24
    · go_enter Try.func41, Try.ntmps41
      go_wp2
      go_ret
      exact ⟨ret_bool (by rw [HM.out, Bool.eq_iff_iff]; simp <;> omega), rfl⟩
    · go_enter Try.func41, Try.ntmps41
      go_wp2
      go_ret
      exact ⟨ret_bool (by rw [HM.out, Bool.eq_iff_iff]; simp <;> omega), rfl⟩
  · go_enter Try.func41, Try.ntmps41
    go_wp2
    go_ret
    exact ⟨ret_bool (by rw [HM.out, Bool.eq_iff_iff]; simp <;> omega), rfl⟩
theorem take_snoc (s : ByteArray) (k : Nat) (h : k < s.size) : s.data.toList.take (k + 1) = s.data.toList.take k ++ [s[k]] := by
  rw [List.take_succ_eq_append_getElem (by simpa using h)]; rfl
theorem take_all (s : ByteArray) (k : Nat) (h : s.size ≤ k) : s.data.toList.take k = s.data.toList := List.take_of_length_le (by simpa using h)
theorem escB_take_len (s : ByteArray) (k : Nat) (h : k ≤ s.size) : (Ky.escB (s.data.toList.take k)).length ≤ 2 * k := by
  have := (Ky.escB_len (s.data.toList.take k)).2
  rw [List.length_take_of_le (by simpa using h)] at this
  exact this
theorem ret_se {a b : List UInt8} {x y : Int} (h1 : a = b) (h2 : x = y) : Ending.returned (.tuple #[.string (bs a), .int .i64 x]) = .returned (.tuple #[.string (bs b), .int .i64 y]) := by rw [h1, h2]
theorem u8_zero (c : UInt8) : (((c.toNat : Nat) : Int) == 0) = (c == 0) := by
  rw [Bool.eq_iff_iff, beq_iff_eq, beq_iff_eq, ← UInt8.toNat_inj]
  show _ ↔ c.toNat = 0
  omega
theorem kept_set {w w' : World} (h : Kept w w') {a : Addr} (ha : w.heap.size ≤ a.block) (u : Value) : Kept w (w'.setCell a u) := Below.setCell h ha u
theorem bs_size (l : List UInt8) : (bs l).size = l.length := by simp [bs, ByteArray.size]
theorem bs_app (a b : List UInt8) : bs a ++ bs b = bs (a ++ b) := bs_of (by simp [bs, ByteArray.data_append])
theorem firstE_no {c : Int} {u : List UInt8} (h : ¬ (Ky.okF c = true ∧ Ky.may u = true)) : (Ky.firstE c u != 0) = true ∧ Ky.firstS c u = [] ∧ ∀ t, Ky.makeE c u t = Ky.firstE c u ∧ Ky.makeS c u t = [] := by
  refine ⟨?_, ?_, fun t => ⟨?_, ?_⟩⟩
  · unfold Ky.firstE
    rcases Bool.eq_false_or_eq_true (Ky.okF c) with hf | hf
    · rcases Bool.eq_false_or_eq_true (Ky.may u) with hm | hm
      · exact absurd ⟨hf, hm⟩ h
      · rw [hf, hm]; rfl
    · rw [hf]; rfl
  · unfold Ky.firstS; rw [if_neg (by simpa using h)]
  · unfold Ky.firstE Ky.makeE
    rcases Bool.eq_false_or_eq_true (Ky.okF c) with hf | hf
    · rcases Bool.eq_false_or_eq_true (Ky.may u) with hm | hm
      · exact absurd ⟨hf, hm⟩ h
      · rw [hf, hm]; rfl
    · rw [hf]; rfl
  · unfold Ky.makeS
    rw [if_neg]
    intro hh
    simp only [Bool.and_eq_true] at hh
    exact h ⟨hh.1, hh.2.1⟩
/-- a call that leaves the world as it is, inside a region that only reads -/
theorem quiet_l {P : Program} {f : FuncId} {args : Array Value} {w : World} {n : Nat} {v : Value} (h : Calls P f args (w.drewN n) fun e w' => e = .returned v ∧ w.drewN n = w') :
    Calls P f args (w.drewN n) fun e w'' => e = .returned v ∧ ∃ m, w'' = w.drewN m := h.mono fun _ _ k => ⟨k.1, n, k.2.symm⟩
end Go.Proofs.Ytdmnmbomijnjeaa
