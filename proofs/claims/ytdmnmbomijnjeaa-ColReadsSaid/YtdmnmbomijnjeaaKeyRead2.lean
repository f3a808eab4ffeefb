/-
  What Read of package key computes, for every input.
-/
import Derived.Test.YtdmnmbomijnjeaaKeyRead
namespace Go.Proofs.Ytdmnmbomijnjeaa
open Go.ChangeShapes Go.WideShapes Go.ChangeAt Go.RowKit
set_option linter.unusedVariables false
set_option maxRecDepth 100000
set_option maxHeartbeats 400000

/-- the parts as the program holds them -/
def parts (c : Int) (u : List UInt8) (t : Int) : Value := .agg #[.int .i64 c, .string (bs u), .int .u64 t]
theorem kept_lt {w w1 : World} {o : Obj} (g : Kept (w.alloc o) w1) : w.heap.size < w1.heap.size := by
  have := Below.size g
  simp at this
  omega
/-- a block of three cells that was there stays -/
theorem three {w w1 : World} {a b c : Value} {t : TypeId} (g : Kept (w.alloc (.cells #[a, b, c] t)) w1) :
    (w1.cell? ⟨w.heap.size, 0, none⟩ = some a ∧ w1.cell? ⟨w.heap.size, 1, none⟩ = some b ∧ w1.cell? ⟨w.heap.size, 2, none⟩ = some c) ∧
    (w1.frozen? ⟨w.heap.size, 0, none⟩ = false ∧ w1.frozen? ⟨w.heap.size, 1, none⟩ = false ∧ w1.frozen? ⟨w.heap.size, 2, none⟩ = false) := by
  refine ⟨⟨?_, ?_, ?_⟩, ?_, ?_, ?_⟩
  · rw [kept_cell g (by simp)]; simp
  · rw [kept_cell g (by simp)]; simp
  · rw [kept_cell g (by simp)]; simp
  · rw [kept_frozen g (by simp)]; simp
  · rw [kept_frozen g (by simp)]; simp
  · rw [kept_frozen g (by simp)]; simp
/-- bytes that are a store's key -/
def IsKey (l : List UInt8) : Prop := ∃ c u t, Ky.Ok c u t ∧ l = Ky.mk c u t
theorem head_of (s : ByteArray) (c : Int) (hlen : 1 ≤ s.size) (hc : ((s[0].toNat : Nat) : Int) = c) : (s.toList == []) = false ∧ wrap64 ((s[0].toNat : Nat) : Int) = c := by
  have hl : s.data.toList.length = s.size := by simp
  have hc8 := s[0].toNat_lt
  refine ⟨?_, by rw [IntWalk.wrap64_in _ (by constructor <;> omega)]; exact hc⟩
  rw [Lib.toList_data, beq_eq_false_iff_ne]; intro e; rw [e] at hl; simp at hl; omega
theorem byte_head (s : ByteArray) (hp0 : 0 < s.size) : s.data.toList = Ky.cfb ((s[0].toNat : Nat) : Int) :: s.data.toList.drop 1 := by
  have hcb : Ky.cfb ((s[0].toNat : Nat) : Int) = s[0] := by unfold Ky.cfb; rw [Int.toNat_natCast, Nm.u8_back]
  have h1 := List.take_append_drop 1 s.data.toList
  rw [take_snoc s 0 hp0] at h1
  rw [hcb]
  exact h1.symm
end Go.Proofs.Ytdmnmbomijnjeaa
