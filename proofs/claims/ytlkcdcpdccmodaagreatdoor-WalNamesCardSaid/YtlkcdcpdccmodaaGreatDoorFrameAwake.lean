/-
  What the helpers of the statements of layer 4 tell: awake, large, texts.
-/
import Derived.Test.YtlkcdcpdccmodaaGreatDoorFrameAll
namespace Go.Proofs.YtlkcdcpdccmodaaGreatDoor
open Go.ChangeShapes Go.WideShapes Go.ChangeAt Go.RowKit
set_option linter.unusedVariables false
set_option maxRecDepth 100000
set_option maxHeartbeats 400000

def zeros8 : List UInt8 := List.replicate 8001 0
theorem zeros8_len : zeros8.length = 8001 := List.length_replicate
theorem zeros_cells (n : Nat) : madeCells (Value.int .u8 0).cells (n * 1) = (cellsOf (List.replicate n 0)).toArray := by
  apply Array.ext
  · rw [size_madeCells]; simp [cellsOf]
  · intro i h1 h2
    simp [madeCells, Value.cells, Nat.mod_one, cellsOf]
theorem zeros8_cells : madeCells (Value.int .u8 0).cells (8001 * 1) = (cellsOf zeros8).toArray := zeros_cells 8001
theorem zeros8_make (wx : World) : (Instr.makeSlice 106 (.int .i64 8001) (.int .i64 8001)).run Tryz.prog wx = .ok (.slice (some ⟨wx.heap.size, 0, none⟩) 8001 8001) (wx.alloc (.cells (cellsOf zeros8).toArray 5)) := by
  obtain ⟨i0, hi, hz0, hz1, hz2⟩ := info_parts info5
  have := run_make (P := Tryz.prog) wx 106 5 i0 (.int .u8 0) Tryz.underlying106 hi hz0 .i64 .i64 8001 8001 (by omega) (by omega) (by rw [hz2]; omega) (by omega)
  rw [show (8001 : Int).toNat = 8001 from rfl, hz1, zeros8_cells] at this
  exact this
theorem awake_make (w : World) : Calls Tryz.prog 42 #[.string ⟨#[97]⟩] w fun e w' => e = .returned (.tuple #[.string ⟨#[1, 97, 196]⟩, .int .i64 0]) ∧ Kept w w' := make_any ⟨#[97]⟩ (by decide) w
theorem awake_take (w : World) : Calls Tryz.prog 90 #[.string ⟨#[1, 97, 196, 122, 122]⟩] w fun e w' => e = .returned (.tuple #[.string ⟨#[97]⟩, .string ⟨#[122, 122]⟩, .int .i64 0]) ∧ Kept w w' := ftake_any ⟨#[1, 97, 196, 122, 122]⟩ (by decide) w
theorem awake_all (w : World) : Calls Tryz.prog 62 #[.string ⟨#[1, 97, 196, 0, 165, 2, 97]⟩] w fun e w' => ∃ A c, e = .returned (.tuple #[.slice A 2 c, .int .i64 5]) ∧ Txs w' A [[97], []] ∧ Kept w w' :=
  all_any ⟨#[1, 97, 196, 0, 165, 2, 97]⟩ (by decide) [[97], []] [2, 97] ⟨fun t ht => by simp at ht; rcases ht with rfl | rfl <;> decide, rfl, rfl⟩ w
theorem awake_none (w : World) : Calls Tryz.prog 90 #[.string ⟨#[]⟩] w fun e w' => e = .returned (.tuple #[.string ⟨#[]⟩, .string ⟨#[]⟩, .int .i64 10]) ∧ Kept w w' := ftake_any ⟨#[]⟩ (by decide) w
theorem awake_big (w : World) : Calls Tryz.prog 42 #[.string (bs zeros8)] w fun e w' => e = .returned (.tuple #[.string ⟨#[]⟩, .int .i64 5]) ∧ Kept w w' := by
  have h := make_any (bs zeros8) (by rw [fbs_size, zeros8_len]; unfold maxLen; omega) w
  have e1 : Fr.makeS zeros8 = [] := by unfold Fr.makeS; rw [if_neg (by rw [zeros8_len]; omega)]
  have e2 : Fr.makeE zeros8 = 5 := by unfold Fr.makeE; rw [if_neg (by rw [zeros8_len]; omega)]
  rw [bs_data, e1, e2] at h
  exact h
end Go.Proofs.YtlkcdcpdccmodaaGreatDoor
