/-
  A row of bytes of a law's own, as a list: what lies in it, what a store makes of it, as a string.
-/
import Derived.Test.YtpbhbgoaaephgaaBloomLawHas
namespace Go.Proofs.Ytpbhbgoaaephgaa
open Go.ChangeShapes Go.WideShapes Go.ChangeAt Go.RowKit
set_option linter.unusedVariables false
set_option maxRecDepth 100000
set_option maxHeartbeats 1000000

structure Rw8 (w : World) (B : Nat) (l : List UInt8) : Prop where
  blk : ∃ (rest : List Value) (z : Nat × Nat), w.heap[B]? = some (.cells (cellsOf l ++ rest).toArray 5 z) ∧ (z.2 = 0 ∨ l.length ≤ z.1)
theorem Rw8.lt {w : World} {B : Nat} {l : List UInt8} (h : Rw8 w B l) : B < w.heap.size := by
  obtain ⟨r, z, hb, _⟩ := h.blk
  exact (Array.getElem?_eq_some_iff.1 hb).1
theorem Rw8.cell {w : World} {B : Nat} {l : List UInt8} (h : Rw8 w B l) {j : Nat} (hj : j < l.length) : w.cell? ⟨B, j, none⟩ = some (.int .u8 ((l.getD j 0).toNat : Nat)) := by
  obtain ⟨r, z, hb, _⟩ := h.blk
  rw [blk_cell hb, List.getElem?_toArray]
  unfold cellsOf
  rw [List.getElem?_append_left (by simpa using hj), List.getElem?_map, List.getD_eq_getElem?_getD, List.getElem?_eq_getElem hj]
  rfl
theorem Rw8.soft {w : World} {B : Nat} {l : List UInt8} (h : Rw8 w B l) {j : Nat} (hj : j < l.length) : w.frozen? ⟨B, j, none⟩ = false := by
  obtain ⟨r, z, hb, hz⟩ := h.blk
  simp only [World.frozen?, hb]
  simp
  intro h1
  omega
theorem Rw8.set {w : World} {B : Nat} {l : List UInt8} (h : Rw8 w B l) {j : Nat} (hj : j < l.length) (x : UInt8) : Rw8 (w.setCell ⟨B, j, none⟩ (.int .u8 (x.toNat : Nat))) B (l.set j x) := by
  obtain ⟨r, z, hb, hz⟩ := h.blk
  refine ⟨r, z, ?_, by simpa using hz⟩
  rw [mset hb, List.setIfInBounds_toArray]
  unfold cellsOf
  rw [List.set_append_left _ _ (by simpa using hj), List.map_set]
theorem Rw8.kept {w w' : World} {B : Nat} {l : List UInt8} (h : Rw8 w B l) (k : Kept w w') : Rw8 w' B l := by
  obtain ⟨r, z, hb, hz⟩ := h.blk
  exact ⟨r, z, mblk_kept hb k, hz⟩
theorem Rw8.drew {w : World} {B : Nat} {l : List UInt8} (h : Rw8 w B l) : Rw8 w.drew B l := h.kept ⟨rfl, rfl, rfl, Nat.le_refl _, fun _ _ => rfl⟩
theorem Rw8.str {w : World} {B : Nat} {l : List UInt8} (h : Rw8 w B l) (cap : Nat) : (convert 36 9 (.slice (some ⟨B, 0, none⟩) l.length cap)).run Try.prog w = .ok (.string (bs l)) w :=
  conv_cells l rfl fun j hj => by
    rw [h.cell hj, List.getD_eq_getElem?_getD, List.getElem?_eq_getElem hj]; rfl
theorem rw8_made (w : World) (n : Nat) : Rw8 (w.alloc (.cells (List.replicate n (.int .u8 0)).toArray 5)) w.heap.size (List.replicate n 0) :=
  ⟨[], (0, 0), by rw [mblk_new, List.append_nil]; unfold cellsOf; rw [List.map_replicate]; rfl, .inl rfl⟩
theorem rw8_conv (s : ByteArray) (w : World) : ∃ (W0 : World) (cap : Nat), (convert 9 36 (.string s)).run Try.prog w = .ok (.slice (some ⟨w.heap.size, 0, none⟩) s.size cap) W0 ∧ Rw8 W0 w.heap.size s.data.toList ∧ Kept w W0 := by
  have e : Lib.bytesCells w 5 s = (cellsOf s.data.toList ++ List.replicate (grownCap w s.size 0 5 - s.size) (Value.int .u8 0)).toArray := by
    apply Array.toList_inj.1
    unfold Lib.bytesCells cellsOf
    simp
  have hb := Lib.bytesWorld_at_new w 5 s
  have hz : s.data.toList.length ≤ (Lib.bytesCells w 5 s).size := by simp [Lib.bytesCells]
  generalize (Lib.bytesCells w 5 s).size = Z at hb hz
  rw [e] at hb
  exact ⟨Lib.bytesWorld w 5 s, _, Lib.run_convert_string_bytes w 9 36 5 s Try.underlying9 Try.underlying36 Try.underlying5, ⟨_, _, hb, .inr hz⟩,
    ⟨rfl, rfl, rfl, by rw [Lib.bytesWorld_size]; omega, fun j hj => Lib.bytesWorld_at_old w _ s j hj⟩⟩
/-- a byte with all bits -/
theorem all_ones {l : List UInt8} (h : ∀ j, j < l.length → l.getD j 0 = 255) (c : Nat) (hc : c < 8 * l.length) : Bm.hasB l c = true := by
  unfold Bm.hasB
  rw [h (c / 8) (by omega)]
  have : ∀ k : Fin 8, (255 : UInt8).toNat.testBit k.val = true := by decide
  exact this ⟨c % 8, by omega⟩
theorem may_ones {l : List UInt8} (h : ∀ j, j < l.length → l.getD j 0 = 255) (k : List UInt8) : Bm.may l k = true := by
  unfold Bm.may
  rw [List.all_eq_true]
  exact fun c hc => all_ones h c (Bm.bits_lt _ _ c hc)
theorem getD_set (l : List UInt8) (i j : Nat) (x : UInt8) (hi : i < l.length) : (l.set i x).getD j 0 = if i = j then x else l.getD j 0 := by
  rw [List.getD_eq_getElem?_getD, List.getD_eq_getElem?_getD, List.getElem?_set]
  simp only [hi, if_true]
  split
  · rfl
  · rfl
/-- a bit taken away -/
theorem clear_bit (b : UInt8) (x : Nat) (hb : b = 255) : ∃ q : UInt8, bits BinOp.andNot IntKind.u8 ((b.toNat : Nat) : Int) (((UInt8.ofNat (2 ^ (x % 8))).toNat : Nat) : Int) = ((q.toNat : Nat) : Int) ∧ q.toNat.testBit (x % 8) = false := by
  subst hb
  have hs := Bm.pow_byte (x % 8) (by omega)
  have : ∀ k : Fin 8, (255 &&& (255 - 2 ^ k.val)) < 256 ∧ Nat.testBit (255 &&& (255 - 2 ^ k.val)) k.val = false := by decide
  obtain ⟨h1, h2⟩ := this ⟨x % 8, by omega⟩
  refine ⟨UInt8.ofNat (255 &&& (255 - 2 ^ (x % 8))), ?_, ?_⟩
  · rw [u8_andNot_nat _ _ (UInt8.toNat_lt _) (UInt8.toNat_lt _), hs, UInt8.toNat_ofNat_of_lt' h1]; rfl
  · rw [UInt8.toNat_ofNat_of_lt' h1]; exact h2
theorem may_cleared {l : List UInt8} {k : List UInt8} {x : Nat} (hx : x ∈ Bm.bits k (8 * l.length)) (h : Bm.hasB l x = false) : Bm.may l k = false := by
  unfold Bm.may
  rw [List.all_eq_false]
  exact ⟨x, hx, by rw [h]; decide⟩
end Go.Proofs.Ytpbhbgoaaephgaa
