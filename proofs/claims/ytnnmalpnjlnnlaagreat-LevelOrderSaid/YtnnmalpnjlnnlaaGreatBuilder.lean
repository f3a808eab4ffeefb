/-
  strings.Builder, as package frame uses it: WriteString puts the text behind what is there, String tells it all.
-/
import Derived.Test.YtnnmalpnjlnnlaaGreatLaysB
import Derived.Test.YtnnmalpnjlnnlaaGreatBytes
import Derived.Lib.Builder
import Derived.Lib.AppendStr
import Derived.Laws.Externs
namespace Go.Proofs.YtnnmalpnjlnnlaaGreat
open Go.ChangeShapes Go.WideShapes Go.ChangeAt Go.RowKit
set_option linter.unusedVariables false
set_option maxHeartbeats 1000000
set_option maxRecDepth 100000

theorem bldInfo : (Tryz.prog.info? 101).map (·.size) = some 2 := by kernel_rfl
theorem bldLies : liesAt Tryz.prog Tryz.prog.depth 101 (2 / Tryz.prog.cellsOf 101) 0 101 1 = true := by kernel_rfl
/-- the block b, of the call's own (from B on), is a Builder that holds the bytes l -/
def Bld (B b : Nat) (l : List UInt8) (w : World) : Prop :=
  ∃ (p : Option Addr) (v : Value), B ≤ b ∧ (p = none ∨ p = some ⟨b, 0, none⟩) ∧ w.heap[b]? = some (.cells #[.pointer p, v] 101 (0, 0)) ∧ w.ownsRow B 5 1 v l.length (cellsOf l)
theorem blk_cell {w : World} {b : Nat} {c : Array Value} {t : TypeId} {z : Nat × Nat} (h : w.heap[b]? = some (.cells c t z)) (j : Nat) : w.cell? ⟨b, j, none⟩ = c[j]? := by simp [World.cell?, h]
theorem blk_soft {w : World} {b : Nat} {c : Array Value} {t : TypeId} (h : w.heap[b]? = some (.cells c t (0, 0))) (j : Nat) : w.frozen? ⟨b, j, none⟩ = false := by simp [World.frozen?, h]
theorem bld_apart {w : World} {B b n : Nat} {c : Array Value} {v : Value} {xs : List Value} (h : w.heap[b]? = some (.cells c 101 (0, 0))) (ho : w.ownsRow B 5 1 v n xs) : v.ownBlock ≠ some b := Lib.ownBlock_ne ho h (by decide)
/-- a store into the Builder's own block -/
theorem bld_store {w : World} {B b n : Nat} {c : Array Value} {v : Value} {xs : List Value} (h : w.heap[b]? = some (.cells c 101 (0, 0))) (ho : w.ownsRow B 5 1 v n xs) (j : Nat) (x : Value) :
    (w.setCell ⟨b, j, none⟩ x).heap[b]? = some (.cells (c.setIfInBounds j x) 101 (0, 0)) ∧ (w.setCell ⟨b, j, none⟩ x).ownsRow B 5 1 v n xs := by
  have hne := bld_apart h ho
  refine ⟨by simp [World.setCell, Array.getElem?_modify, h], ?_⟩
  exact ho.kept (row := some b) ⟨rfl, rfl, rfl, by simp [World.setCell], fun k _ hk => Below.heap_setCell _ _ _ _ (fun e => hk (by simp [e]))⟩ (.inr hne)
theorem own_shape1 {w : World} {base n size : Nat} {e : TypeId} {v : Value} {xs : List Value} (h : w.ownsRow base e size v n xs) : ∃ a m c, v = .slice a m c := by
  rcases h.2 with ⟨e, _⟩ | ⟨g, c, cur, e, _⟩
  · exact ⟨_, _, _, e⟩
  · exact ⟨_, _, _, e⟩
theorem toList_size (s : ByteArray) : s.data.toList.length = s.size := by simp
/-- blocks of other types than bytes, but b, are as they were -/
def Ther (b : Nat) (w w' : World) : Prop := ∀ (k : Nat) (c : Array Value) (t : TypeId) (z : Nat × Nat), k ≠ b → t ≠ 5 → w.heap[k]? = some (.cells c t z) → w'.heap[k]? = some (.cells c t z)
theorem Ther.refl (b : Nat) (w : World) : Ther b w w := fun _ _ _ _ _ _ h => h
theorem Ther.trans {b : Nat} {w w1 w2 : World} (h : Ther b w w1) (k : Ther b w1 w2) : Ther b w w2 := fun i c t z h1 h2 h3 => k i c t z h1 h2 (h i c t z h1 h2 h3)
theorem Ther.kept {b : Nat} {w w1 : World} (k : Kept w w1) : Ther b w w1 := fun i c t z _ _ h3 => (Below.block k i (Array.getElem?_eq_some_iff.1 h3).1).trans h3
theorem Ther.set (b j : Nat) (w : World) (x : Value) : Ther b w (w.setCell ⟨b, j, none⟩ x) := fun i c t z h1 _ h3 => (Below.heap_setCell _ _ _ _ (fun e => h1 e)).trans h3
theorem bld_check2 (B b : Nat) (l : List UInt8) (w : World) (h : Bld B b l w) :
    Calls Tryz.prog 87 #[.pointer (some ⟨b, 0, none⟩)] w fun e w' => e = .returned (.tuple #[]) ∧ ∃ v, w'.heap[b]? = some (.cells #[.pointer (some ⟨b, 0, none⟩), v] 101 (0, 0)) ∧ w'.ownsRow B 5 1 v l.length (cellsOf l) ∧ Below B w w' ∧ Ther b w w' := by
  obtain ⟨p, v, hB, hp, hb, ho⟩ := h
  obtain ⟨j, hj, hjs⟩ := Option.map_eq_some_iff.1 bldInfo
  have c0 := blk_cell hb 0
  have f0 := blk_soft hb 0
  simp only [List.getElem?_toArray, List.getElem?_cons_zero] at c0
  have hsh : w.shape? b = some (101, 2) := by simp [World.shape?, hb]
  have e1 := Lib.run_to_unsafe (P := Tryz.prog) w ⟨b, 0, none⟩ Tryz.underlying98 Tryz.underlying152 hj (by rw [hjs]; decide) hsh (Nat.zero_lt_succ 1)
  have e2 : (callFunc 107 #[.pointer (some ⟨b, 0, none⟩)]).run Tryz.prog w = .ok (Next.value (.pointer (some ⟨b, 0, none⟩))) w := by
    rw [run_callFunc_extern Tryz.func107 (by kernel_rfl) (by kernel_rfl) (by kernel_rfl) (e := Extern.AbiNoEscape.same) (by kernel_rfl), Lib.run_noEscape]
    rfl
  have e3 := Lib.run_from_unsafe (P := Tryz.prog) w ⟨b, 0, none⟩ Tryz.underlying152 Tryz.underlying98 hj hsh bldLies
  have e4 := Lib.run_neq_ptr_same (P := Tryz.prog) w ⟨b, 0, none⟩ Tryz.underlying98 hj
  have st := bld_store hb ho 0 (.pointer (some ⟨b, 0, none⟩))
  have HB := Lib.hid hb; have ST := Lib.hid st
  clear hb st hsh
  rcases hp with rfl | rfl
  · go_enter Tryz.func87, Tryz.ntmps87
    go_wp2
    go_end0
    exact ⟨rfl, v, ST.out.1, ST.out.2, (Below.refl B w).setCell (p := ⟨b, 0, none⟩) hB _, Ther.set b 0 w _⟩
  · go_enter Tryz.func87, Tryz.ntmps87
    go_wp2
    go_end0
    exact ⟨rfl, v, HB.out, ho, Below.refl B w, Ther.refl b w⟩
theorem strCells_of (s : ByteArray) : Lib.strCells s = cellsOf s.data.toList := rfl
theorem bld_write2 (B b : Nat) (l : List UInt8) (s : ByteArray) (w : World) (h : Bld B b l w) (hlen : l.length + s.size ≤ 16777216) (hBw : B ≤ w.heap.size) :
    Calls Tryz.prog 60 #[.pointer (some ⟨b, 0, none⟩), .string s] w fun e w' => e = .returned (.tuple #[.int .i64 s.size, .nilIface]) ∧ Bld B b (l ++ s.data.toList) w' ∧ Below B w w' ∧ Ther b w w' := by
  obtain ⟨i0, hi, hz0, hz1, hz2⟩ := info_parts info5
  have hB : B ≤ b := h.elim fun _ h => h.elim fun _ h => h.1
  have hs16 : s.size ≤ 16777216 := by omega
  go_enter Tryz.func60, Tryz.ntmps60
  go_wp2_with fail
  refine (bld_check2 B b l _ h).mono ?_
  rintro e w1 ⟨rfl, v, hb, ho, g1, t1⟩
  have c1 := blk_cell hb 1
  simp only [List.getElem?_toArray, List.getElem?_cons_succ, List.getElem?_cons_zero] at c1
  have hne := bld_apart hb ho
  have hBw1 := g1.size
  have HB := Lib.hid hb; clear hb
  have T1 := Lib.hid t1; clear t1
  go_wp2_with (at_builtin; refine Lib.wpList_append_own_string _ rfl _ _ 99 9 rfl B 5 i0 Tryz.underlying99 Tryz.underlying9 hi hz0 hz1 hz2 v l.length (cellsOf l) rfl ho s rfl (by unfold maxLen; omega) (by omega) (by omega) ?_)
  intro v' w2 ho2 hg _
  have hb2 := (hg.block b (Array.getElem?_eq_some_iff.1 HB.out).1 (fun e => hne e.symm)).trans HB.out
  have t2 : Ther b w1 w2 := fun i c t z _ ht hi => (hg.block i (Array.getElem?_eq_some_iff.1 hi).1 (fun e => Lib.ownBlock_ne ho hi ht e.symm)).trans hi
  have T2 := Lib.hid (T1.out.trans t2); clear t2
  have f1 := blk_soft hb2 1
  have d1 := blk_cell hb2 1
  simp only [List.getElem?_toArray, List.getElem?_cons_succ, List.getElem?_cons_zero] at d1
  have hsh := own_shape1 ho2
  obtain ⟨a2, n2, k2, rfl⟩ := hsh
  have ho3 := ho2
  rw [strCells_of, cellsOf_app, ← toList_size, ← List.length_append] at ho3
  have st := bld_store hb2 ho3 1 (.slice a2 n2 k2)
  have ST := Lib.hid st
  have g2 : Below B w w2 := g1.grown hg (by omega) (fun k hk => (ho.lt k hk).1)
  clear hb2 st ho2 ho3 ho hi hz0 hz1 hz2
  go_wp2
  go_ret2
  exact ⟨rfl, ⟨_, _, hB, .inr rfl, ST.out.1, ST.out.2⟩, g2.setCell (p := ⟨b, 1, none⟩) hB _, T2.out.trans (Ther.set b 1 w2 _)⟩
theorem bld_write (B b : Nat) (l : List UInt8) (s : ByteArray) (w : World) (h : Bld B b l w) (hlen : l.length + s.size ≤ 16777216) (hBw : B ≤ w.heap.size) :
    Calls Tryz.prog 60 #[.pointer (some ⟨b, 0, none⟩), .string s] w fun e w' => e = .returned (.tuple #[.int .i64 s.size, .nilIface]) ∧ Bld B b (l ++ s.data.toList) w' ∧ Below B w w' :=
  (bld_write2 B b l s w h hlen hBw).mono fun _ _ h => ⟨h.1, h.2.1, h.2.2.1⟩
theorem bldExtra : Builder.Extra Tryz.prog Tryz.lays169_ren := -- 101
  { sizeBuilder := by kernel_rfl, liesBuilder := by kernel_rfl, t5 := Tryz.underlying5, a5 := Tryz.isAgg5, z5 := Tryz.sizeOf5, v5 := Tryz.zeroValue5, infoByte := by kernel_rfl, cellsByte := by kernel_rfl, sizeByte := by kernel_rfl, neB5 := by decide }
theorem bld_string (B b : Nat) (l : List UInt8) (w : World) (h : Bld B b l w) (hBw : B ≤ w.heap.size) :
    Calls Tryz.prog 63 #[.pointer (some ⟨b, 0, none⟩)] w fun e w' => e = .returned (.string (bs l)) ∧ Below B w w' := by
  obtain ⟨p, v, hB, hp, hb, ho⟩ := h
  have ho' : w.ownsRow B 5 1 v (cellsOf l).length (cellsOf l) := by rw [cellsOf_len]; exact ho
  refine Any.Builder_String_any Tryz.lays169 bldExtra B b l w ?_ hBw
  rcases hp with rfl | rfl
  · exact .inl ⟨hB, v, hb, ho', bld_apart hb ho⟩
  · exact .inr ⟨hB, v, hb, ho', bld_apart hb ho⟩
theorem Bld.kept {B b : Nat} {l : List UInt8} {w w' : World} (h : Bld B b l w) (k : Kept w w') : Bld B b l w' := by
  obtain ⟨p, v, hB, hp, hb, ho⟩ := h
  exact ⟨p, v, hB, hp, (Below.block k b (Array.getElem?_eq_some_iff.1 hb).1).trans hb, own_kept ho k⟩
/-- a new Builder -/
theorem bld_new (w : World) : Bld w.heap.size w.heap.size [] (w.alloc (.cells #[.pointer none, .slice none 0 0] 101)) :=
  ⟨none, .slice none 0 0, Nat.le_refl _,   .inl rfl, (by show (w.heap.push _)[w.heap.size]? = _; exact Array.getElem?_push_size), World.ownsRow_nil _ _ _ _⟩
end Go.Proofs.YtnnmalpnjlnnlaaGreat
