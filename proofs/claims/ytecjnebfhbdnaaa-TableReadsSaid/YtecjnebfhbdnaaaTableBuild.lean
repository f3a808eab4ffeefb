/-
  Package table: Build.
-/
import Derived.Test.YtecjnebfhbdnaaaTableChunk
import Derived.Test.YtecjnebfhbdnaaaTableParts
import Derived.Test.YtecjnebfhbdnaaaTableKeys
import Derived.Test.YtecjnebfhbdnaaaInRound
import Derived.Deep.AppendLies
import Derived.Test.YtecjnebfhbdnaaaBloomRefMake
namespace Go.Proofs.Ytecjnebfhbdnaaa
open Go.ChangeShapes Go.WideShapes Go.ChangeAt Go.RowKit
set_option linter.unusedVariables false
set_option maxRecDepth 100000
set_option maxHeartbeats 4000000

namespace Tb
open Mm
def outP (l : List Ent) (pre : List Nat) : List UInt8 := (pre.map fun i => Bk.enc (bl l i)).flatten
def plP (l : List Ent) (n x : Nat) : Pl := match (bl l x).getLast? with
  | none => ⟨[], 0, 0, 0⟩
  | some y => ⟨y.key, y.seq, n, (Bk.enc (bl l x)).length⟩
def ixP (l : List Ent) (pre : List Nat) : List Pl := (List.range pre.length).map fun j => plP l (outP l (pre.take j)).length (pre[j]?.getD 0)
theorem outP_snoc (l : List Ent) (pre : List Nat) (x : Nat) : outP l (pre ++ [x]) = outP l pre ++ Bk.enc (bl l x) := by unfold outP; simp
theorem outP_range (l : List Ent) (k : Nat) : outP l (List.range k) = out l k := rfl
theorem ixP_snoc (l : List Ent) (pre : List Nat) (x : Nat) : ixP l (pre ++ [x]) = ixP l pre ++ [plP l (outP l pre).length x] := by
  unfold ixP
  rw [List.length_append, List.length_singleton, List.range_succ, List.map_append, List.map_singleton]
  congr 1
  · refine List.map_congr_left fun j hj => ?_
    have hj := List.mem_range.1 hj
    rw [List.take_append_of_le_length (by omega), List.getElem?_append_left hj]
  · rw [List.take_left, List.getElem?_append_right (Nat.le_refl _), Nat.sub_self]
    rfl
theorem ixP_len (l : List Ent) (pre : List Nat) : (ixP l pre).length = pre.length := by unfold ixP; simp
theorem ixP_range (l : List Ent) (k : Nat) : ixP l (List.range k) = (List.range k).map (pl l) := by
  unfold ixP
  rw [List.length_range]
  refine List.map_congr_left fun j hj => ?_
  have hj := List.mem_range.1 hj
  rw [List.take_range, show min j k = j by omega, outP_range, List.getElem?_range hj]
  rfl
theorem outP_len {l : List Ent} : ∀ {pre : List Nat}, (∀ i ∈ pre, Bk.isB (bl l i) = true) → (outP l pre).length ≤ 7000 * pre.length
  | [], _ => by simp [outP]
  | x :: pre, h => by
    have ih := outP_len (l := l) (pre := pre) (fun i hi => h i (List.mem_cons_of_mem _ hi))
    have h1 := Bk.enc_len (h x List.mem_cons_self)
    unfold outP at ih ⊢
    rw [List.map_cons, List.flatten_cons, List.length_append, List.length_cons]
    omega
theorem isT_no_bl {l : List Ent} {i : Nat} (hi : i < nb l) (h : Bk.isB (bl l i) = false) : isT l = false := by
  cases ht : isT l with
  | false => rfl
  | true => rw [bl_isB ht hi] at h; cases h
theorem isT_all {l : List Ent} (h1 : 1 ≤ l.length) (h2 : l.length ≤ 500) (h3 : Mg.row l = true) (h : ∀ i, i < nb l → Bk.isB (bl l i) = true) : isT l = true := by
  refine isT_iff.2 ⟨h1, h2, fun x hx => ?_, h3⟩
  rw [← all_bl l, List.mem_flatten] at hx
  obtain ⟨q, hq, hx⟩ := hx
  obtain ⟨i, hi, rfl⟩ := List.mem_map.1 hq
  exact (Bk.isB_iff.1 (h i (List.mem_range.1 hi))).2.2.1 x hx
theorem okP {l : List Ent} (h : isT l = true) : ∀ p ∈ (tv l).index, OkP p := by
  intro p hp
  obtain ⟨i, hi⟩ := List.getElem?_of_mem hp
  obtain ⟨hn, rfl⟩ := tv_at hi
  obtain ⟨x, hx, hm⟩ := bl_last hn
  obtain ⟨k1, k2, k3, k4, k5, k6⟩ := may_iff.1 ((isT_iff.1 h).2.2.1 x (bl_mem hm))
  have o1 := out_len h i (by omega)
  have o2 := Bk.enc_len (bl_isB h hn)
  have o3 := nb_le h
  unfold pl
  rw [hx]
  exact ⟨k2, k6, by simp only; omega, by simp only; omega⟩
theorem tixs_idx {l : List Ent} (h : isT l = true) : tixs (tv l).index (tv l).index.length = idx l := by
  unfold tixs idx
  rw [List.take_length, tv_len]
  congr 1
  show (((List.range (nb l)).map (pl l)).map tixb).flatten = _
  unfold ix
  rw [List.map_map]
  congr 1
  refine List.map_congr_left fun i hi => ?_
  obtain ⟨x, hx, _⟩ := bl_last (List.mem_range.1 hi)
  show tixb (pl l i) = ix1 l i
  unfold pl ix1 tixb
  rw [hx]
end Tb
theorem els_part {w : World} {b o : Nat} {l : List Mm.Ent} (h : Els w (some ⟨b, o, none⟩) l) (x : Nat) : Els w (some ⟨b, o + 8 * x * 4, none⟩) (Tb.bl l x) := fun j y hy => by
  have hj := (List.getElem?_eq_some_iff.1 hy).1
  rw [Tb.bl_len] at hj
  rw [Tb.bl_get _ _ _ (by omega)] at hy
  obtain ⟨b', o', e, hb, c0, c1, c2, c3⟩ := h _ y hy
  cases e
  have e1 : o + (8 * x + j) * 4 = o + 8 * x * 4 + j * 4 := by omega
  rw [e1] at c0 c1 c2 c3
  exact ⟨b, _, rfl, hb, c0, c1, c2, c3⟩
/-- between two rounds of Build -/
structure BI (w0 : World) (Z : Nat) (l : List Mm.Ent) (pre : List Nat) (W : World) : Prop where
  bld : ∃ v, BldV w0.heap.size Z (Tb.outP l pre) v W
  idx : ∃ v, Boxed W (Z + 1) 56 v ∧ W.ownsRow w0.heap.size 61 4 v (Tb.ixP l pre).length (plc (Tb.ixP l pre))
  r2 : W.heap[w0.heap.size]? = some (.cells #[.string ⟨#[]⟩] 9 (0, 0))
  r3 : W.heap[w0.heap.size + 1]? = some (.cells #[.int .i64 0] 25 (0, 0))
  isb : ∀ i ∈ pre, Bk.isB (Tb.bl l i) = true
  below : Below w0.heap.size w0 W
/-- behind a part that is no block -/
structure BX (w0 : World) (l : List Mm.Ent) (pre : List Nat) (W : World) : Prop where
  no : ∃ p x, pre = p ++ [x] ∧ Bk.isB (Tb.bl l x) = false
  r2 : W.heap[w0.heap.size]? = some (.cells #[.string ⟨#[]⟩] 9 (0, 0))
  r3 : W.heap[w0.heap.size + 1]? = some (.cells #[.int .i64 2] 25 (0, 0))
  below : Below w0.heap.size w0 W
theorem grown_cells {W W' : World} {row : Option Nat} (hg : W.grownBy W' row) (hr : ∀ r, row = some r → ∃ o : Obj, W.heap[r]? = some o ∧ o.isCells = false) {b : Nat} {c : Array Value} {t : TypeId} {z : Nat × Nat} (hb : W.heap[b]? = some (.cells c t z)) : W'.heap[b]? = some (.cells c t z) :=
  (hg.block b (mheap_lt hb) (fun e => by obtain ⟨o, ho, hc⟩ := hr b e.symm; rw [hb] at ho; cases ho; cases hc)).trans hb
theorem grown_heap {W W' : World} {row : Option Nat} (hg : W.grownBy W' row) (hr : ∀ r, row = some r → ∃ o : Obj, W.heap[r]? = some o ∧ o.isCells = false) {base n size : Nat} {e : TypeId} {v : Value} {xs : List Value} (h : W.ownsRow base e size v n xs) : ∀ r, v.ownBlock = some r → W'.heap[r]? = W.heap[r]? := fun r hv => by
  rcases h.2 with ⟨rfl, _⟩ | ⟨g, cap, cur, rfl, _, hgb, _⟩
  · simp [Value.ownBlock] at hv
  · have : g = r := by simpa [Value.ownBlock] using hv
    subst this
    rw [grown_cells hg hr hgb, hgb]
theorem BI.grown {w0 W W' : World} {Z : Nat} {l : List Mm.Ent} {pre : List Nat} {row : Option Nat} {B : Nat} (h : BI w0 Z l pre W) (hB : w0.heap.size ≤ B) (hg : W.grownBy W' row) (hr : ∀ r, row = some r → B ≤ r ∧ ∃ o : Obj, W.heap[r]? = some o ∧ o.isCells = false) : BI w0 Z l pre W' := by
  have hr' := fun r e => (hr r e).2
  obtain ⟨⟨v, hv⟩, ⟨u, hu, ho⟩, h2, h3, h4, h5⟩ := h
  refine ⟨⟨v, hv.same ?_ (grown_heap hg hr' hv.own)⟩, ⟨u, grown_cells hg hr' hu, kown_same ho (grown_heap hg hr' ho)⟩, grown_cells hg hr' h2, grown_cells hg hr' h3, h4, ⟨hg.os.trans h5.os, hg.tape.trans h5.tape, hg.output.trans h5.output, Nat.le_trans h5.size hg.size, fun k hk => ?_⟩⟩
  · obtain ⟨p, _, hp⟩ := hv.blk
    rw [grown_cells hg hr' hp, hp]
  · rw [hg.block k (Nat.lt_of_lt_of_le hk h5.size) (fun e => by have := (hr k e.symm).1; omega)]
    exact h5.block k hk
theorem BX.grown {w0 W W' : World} {l : List Mm.Ent} {pre : List Nat} {row : Option Nat} {B : Nat} (h : BX w0 l pre W) (hB : w0.heap.size ≤ B) (hg : W.grownBy W' row) (hr : ∀ r, row = some r → B ≤ r ∧ ∃ o : Obj, W.heap[r]? = some o ∧ o.isCells = false) : BX w0 l pre W' := by
  have hr' := fun r e => (hr r e).2
  obtain ⟨h1, h2, h3, h5⟩ := h
  refine ⟨h1, grown_cells hg hr' h2, grown_cells hg hr' h3, ⟨hg.os.trans h5.os, hg.tape.trans h5.tape, hg.output.trans h5.output, Nat.le_trans h5.size hg.size, fun k hk => ?_⟩⟩
  rw [hg.block k (Nat.lt_of_lt_of_le hk h5.size) (fun e => by have := (hr k e.symm).1; omega)]
  exact h5.block k hk
theorem BI.kept {w0 W W' : World} {Z : Nat} {l : List Mm.Ent} {pre : List Nat} (h : BI w0 Z l pre W) (k : Kept W W') : BI w0 Z l pre W' := by
  obtain ⟨⟨v, hv⟩, ⟨u, hu, ho⟩, h2, h3, h4, h5⟩ := h
  exact ⟨⟨v, hv.kept k⟩, ⟨u, mblk_kept hu k, own_kept ho k⟩, mblk_kept h2 k, mblk_kept h3 k, h4, h5.trans (k.mono h5.size)⟩
/-- a step that changes cells alone, and neither boxes of ints nor of lists of entries -/
def Stp (W W' : World) : Prop := KeepsOthers W W' ∧ ChK W W'
theorem stp_of {W W' : World} (hs : W.heap.size ≤ W'.heap.size) (h : ∀ k, k < W.heap.size → W'.heap[k]? = W.heap[k]? ∨ ∃ c t z, W.heap[k]? = some (.cells c t z) ∧ t ≠ 3 ∧ t ≠ 22) : Stp W W' := by
  refine ⟨⟨hs, fun k o hk ho => ?_⟩, ⟨hs, fun k c t z hk ht => ?_⟩⟩
  · rcases h k (Array.getElem?_eq_some_iff.1 hk).1 with e | ⟨c, t, z, e, _⟩
    · rw [e, hk]
    · rw [hk] at e; cases e; cases ho
  · rcases h k (Array.getElem?_eq_some_iff.1 hk).1 with e | ⟨c', t', z', e, n1, n2⟩
    · rw [e, hk]
    · rw [hk] at e; cases e
      rcases ht with ht | ht
      · exact absurd ht n1
      · exact absurd ht n2
theorem stp_trans {A B C : World} (h : Stp A B) (k : Stp B C) : Stp A C := ⟨h.1.trans k.1, h.2.trans k.2⟩
theorem stp_kept {A B : World} (h : Kept A B) : Stp A B := stp_of (Below.size h) (fun k hk => .inl (h.block k hk))
theorem own_type {w : World} {base n size : Nat} {e : TypeId} {v : Value} {xs : List Value} (h : w.ownsRow base e size v n xs) {r : Nat} (hv : v.ownBlock = some r) : ∃ c z, w.heap[r]? = some (.cells c e z) := by
  rcases h.2 with ⟨rfl, _⟩ | ⟨g, cap, cur, rfl, _, hgb, _⟩
  · simp [Value.ownBlock] at hv
  · have : g = r := by simpa [Value.ownBlock] using hv
    subst this
    exact ⟨_, _, hgb⟩
theorem own_not {w : World} {base n size b : Nat} {e t : TypeId} {v : Value} {xs : List Value} {c : Array Value} {z : Nat × Nat} (h : w.ownsRow base e size v n xs) (hb : w.heap[b]? = some (.cells c t z)) (ht : t ≠ e) : v.ownBlock ≠ some b := fun q => by
  obtain ⟨c', z', hc⟩ := own_type h q
  rw [hb] at hc; cases hc; exact ht rfl
/-- what the round's region needs of the state: the Builder, the index's row, its box -/
def BP (w0 : World) (Z : Nat) (l : List Mm.Ent) (pre : List Nat) (vB vI : Value) (W : World) : Prop :=
  BldV w0.heap.size Z (Tb.outP l pre) vB W ∧ W.ownsRow w0.heap.size 61 4 vI (Tb.ixP l pre).length (plc (Tb.ixP l pre)) ∧ W.heap[Z + 1]? = some (.cells #[vI] 56 (0, 0)) ∧ W.cell? ⟨Z + 1, 0, none⟩ = some vI ∧ w0.heap.size ≤ W.heap.size ∧ BI w0 Z l pre W
theorem bi_parts {w0 W W' : World} {Z : Nat} {l : List Mm.Ent} {pre : List Nat} {vB vI : Value} (h : BP w0 Z l pre vB vI W) (k : Kept W W') : BP w0 Z l pre vB vI W' :=
  ⟨h.1.kept k, own_kept h.2.1 k, mblk_kept h.2.2.1 k, blk_cell (mblk_kept h.2.2.1 k) 0, Nat.le_trans h.2.2.2.2.1 (Below.size k), h.2.2.2.2.2.kept k⟩
theorem bi_alloc {w0 W : World} {Z : Nat} {l : List Mm.Ent} {pre : List Nat} {vB vI : Value} (h : BP w0 Z l pre vB vI W) {o : Obj} : (W.alloc o).cell? ⟨Z + 1, 0, none⟩ = some vI := (bi_parts h ((Kept.refl W).alloc o)).2.2.2.1
theorem bi_after {w0 w5 w7 : World} {Z x g1 cap1 : Nat} {l : List Mm.Ent} {pre : List Nat} {vB vI : Value} {E : List UInt8} {P0 : Tb.Pl} {ob : Obj} (h : BP w0 Z l pre vB vI w5) (hZ : w0.heap.size + 2 ≤ Z)
    (hown : w7.ownsRow w0.heap.size 61 4 (.slice (some ⟨g1, 0, none⟩) ((Tb.ixP l pre).length + 1) cap1) ((Tb.ixP l pre).length + 1) (plc (Tb.ixP l pre) ++ pcs P0)) (hgr : (w5.alloc ob).grownBy w7 vI.ownBlock)
    (hP : Tb.plP l (Tb.outP l pre).length x = P0) (hE : E = Bk.enc (Tb.bl l x)) (hB : Bk.isB (Tb.bl l x) = true) (hlen : (Tb.outP l pre).length ≤ 500000) (hel : E.length ≤ 7000) :
    w7.cell? ⟨Z + 1, 0, none⟩ = some vI ∧ w7.frozen? ⟨Z + 1, 0, none⟩ = false ∧
    Calls Try.prog 29 #[.pointer (some ⟨Z, 0, none⟩), .string (bs E)] (w7.setCell ⟨Z + 1, 0, none⟩ (.slice (some ⟨g1, 0, none⟩) ((Tb.ixP l pre).length + 1) cap1)) fun e w8 => e = .returned (.tuple #[.int .i64 (bs E).size, .nilIface]) ∧ BI w0 Z l (pre ++ [x]) w8 ∧ Stp w5 w8 := by
  obtain ⟨hb, hro, hbox, _, hsz, hbi⟩ := bi_parts h ((Kept.refl w5).alloc ob)
  have s0 : Stp w5 (w5.alloc ob) := stp_kept ((Kept.refl w5).alloc ob)
  generalize w5.alloc ob = w6 at *
  obtain ⟨pp, hpp, hblk⟩ := hb.blk
  have n1 := own_not hro hblk (by decide)
  have n2 := own_not hro hbox (by decide)
  have nr2 := own_not hro hbi.r2 (by decide)
  have nr3 := own_not hro hbi.r3 (by decide)
  have nvB : ∀ r, vB.ownBlock = some r → vI.ownBlock ≠ some r := fun r hr => by
    obtain ⟨c', z', hc⟩ := own_type hb.own hr
    exact own_not hro hc (by decide)
  have at7 : ∀ (k : Nat) (c : Array Value) (t : TypeId) (z : Nat × Nat), w6.heap[k]? = some (.cells c t z) → vI.ownBlock ≠ some k → w7.heap[k]? = some (.cells c t z) := fun k c t z hk hn => (hgr.block k (mheap_lt hk) (fun e => hn e.symm)).trans hk
  have hblk7 := at7 _ _ _ _ hblk n1
  have hbox7 := at7 _ _ _ _ hbox n2
  have hr27 := at7 _ _ _ _ hbi.r2 nr2
  have hr37 := at7 _ _ _ _ hbi.r3 nr3
  have hb7 : BldV w0.heap.size Z (Tb.outP l pre) vB w7 := hb.same (by rw [hblk7, hblk]) (fun r hr => hgr.block r (hb.own.lt r hr).2 (fun e => nvB r hr e.symm))
  have bel7 : Below w0.heap.size w0 w7 := Below.grown hbi.below hgr hbi.below.size (fun r hr => (hro.lt r hr).1)
  have s1 : Stp w6 w7 := stp_of hgr.size (fun k hk => by
    by_cases e : vI.ownBlock = some k
    · obtain ⟨c', z', hc⟩ := own_type hro e
      exact .inr ⟨c', _, z', hc, by decide, by decide⟩
    · exact .inl (hgr.block k hk (fun q => e q.symm)))
  refine ⟨blk_cell hbox7 0, blk_soft hbox7 0, ?_⟩
  generalize hv7 : Value.slice (some ⟨g1, 0, none⟩) ((Tb.ixP l pre).length + 1) cap1 = v7 at *
  have hne : Z ≠ Z + 1 := by omega
  have ng := own_not hown hbox7 (by decide)
  have box8 : (w7.setCell ⟨Z + 1, 0, none⟩ v7).heap[Z + 1]? = some (.cells #[v7] 56 (0, 0)) := mset hbox7 0 v7
  have oth8 : ∀ k, k ≠ Z + 1 → (w7.setCell ⟨Z + 1, 0, none⟩ v7).heap[k]? = w7.heap[k]? := fun k hk => Below.heap_setCell _ _ _ _ (fun e => hk e)
  have hown8 := kown_same hown (fun r hr => oth8 r (fun e => ng (by rw [hr, e])))
  have hb8 : BldV w0.heap.size Z (Tb.outP l pre) vB (w7.setCell ⟨Z + 1, 0, none⟩ v7) := hb7.same (oth8 _ hne) (fun r hr => oth8 r (fun e => own_not hb7.own hbox7 (by decide) (by rw [hr, e])))
  have r28 := (oth8 w0.heap.size (by omega)).trans hr27
  have r38 := (oth8 (w0.heap.size + 1) (by omega)).trans hr37
  have bel8 : Below w0.heap.size w0 (w7.setCell ⟨Z + 1, 0, none⟩ v7) := Below.setCell bel7 (p := ⟨Z + 1, 0, none⟩) (by show w0.heap.size ≤ Z + 1; omega) v7
  have s2 : Stp w7 (w7.setCell ⟨Z + 1, 0, none⟩ v7) := stp_of (by simp [World.setCell]) (fun k hk => by
    by_cases e : k = Z + 1
    · subst e; exact .inr ⟨_, _, _, hbox7, by decide, by decide⟩
    · exact .inl (oth8 k e))
  generalize w7.setCell ⟨Z + 1, 0, none⟩ v7 = w8 at *
  have hblk8 := (oth8 Z hne).trans hblk7
  refine (kbld_write (bs E) hb8 (by rw [fbs_size]; omega) bel8.size).mono ?_
  rintro e w9 ⟨rfl, v', hb9, _, hex⟩
  have mB := fun (k : Nat) (c : Array Value) (t : TypeId) (z : Nat × Nat) (hk : w8.heap[k]? = some (.cells c t z)) (hz : k ≠ Z) (ht : t ≠ 5) => (hex.block k (mheap_lt hk) (fun q => q.elim hz (own_not hb8.own hk ht))).trans hk
  refine ⟨rfl, ⟨⟨v', by rw [Tb.outP_snoc, ← hE]; exact hb9⟩, ⟨v7, mB _ _ _ _ box8 (by omega) (by decide), ?_⟩, mB _ _ _ _ r28 (by omega) (by decide), mB _ _ _ _ r38 (by omega) (by decide), fun i hi => ?_, ?_⟩, ?_⟩
  · have : w9.ownsRow w0.heap.size 61 4 v7 ((Tb.ixP l pre).length + 1) (plc (Tb.ixP l pre) ++ pcs P0) := kown_same hown8 (fun r hr => by
      obtain ⟨c', z', hc⟩ := own_type hown8 hr
      rw [mB _ _ _ _ hc (fun q => by subst q; rw [hblk8] at hc; cases hc) (by decide), hc])
    rw [Tb.ixP_snoc, hP, plc_app, List.length_append]
    simpa [plc] using this
  · rcases List.mem_append.1 hi with hi | hi
    · exact hbi.isb i hi
    · rw [List.mem_singleton.1 hi]; exact hB
  · exact bel8.trans (hex.below bel8.size (fun i hi => hi.elim (fun q => by omega) (fun q => (hb8.own.lt i q).1)))
  · refine stp_trans s0 (stp_trans s1 (stp_trans s2 (stp_of hex.size (fun k hk => ?_))))
    by_cases q : k = Z ∨ vB.ownBlock = some k
    · rcases q with q | q
      · subst q; exact .inr ⟨_, _, _, hblk8, by decide, by decide⟩
      · obtain ⟨c', z', hc⟩ := own_type hb8.own q
        exact .inr ⟨c', _, z', hc, by decide, by decide⟩
    · exact .inl (hex.block k hk q)
theorem bi_new {w w1 : World} (l : List Mm.Ent) (A : Option Addr) (L c : Nat) (g : Kept w w1) (hs : w.heap.size + 2 ≤ w1.heap.size) (h2 : w1.heap[w.heap.size]? = some (.cells #[.string ⟨#[]⟩] 9 (0, 0))) (h3 : w1.heap[w.heap.size + 1]? = some (.cells #[.int .i64 0] 25 (0, 0))) {Z : Nat} (hZ : Z = w1.heap.size) :
    Calls Try.prog 25 #[.slice A L c, .int .i64 8] ((w1.alloc (.cells #[.pointer none, .slice none 0 0] 55)).alloc (.cells #[.slice none 0 0] 56)) fun e w' => e = .returned (.func (.func 55) #[] #[.pointer (some ⟨Z + 2, 0, none⟩), .pointer (some ⟨Z + 3, 0, none⟩)]) ∧ BI w Z l [] w' ∧ w'.heap[Z + 2]? = some (.cells #[.slice A L c] 22 (0, 0)) ∧ w'.heap[Z + 3]? = some (.cells #[.int .i64 8] 3 (0, 0)) ∧ w'.heap.size = Z + 4 := by
  subst hZ
  refine (tchunk_any A L c _).mono ?_
  rintro e w' ⟨rfl, rfl⟩
  have b0 := malloc_new w1 (.cells #[.pointer none, .slice none 0 0] 55)
  have b1 := malloc_new (w1.alloc (.cells #[.pointer none, .slice none 0 0] 55)) (.cells #[.slice none 0 0] 56)
  have b2 := malloc_new ((w1.alloc (.cells #[.pointer none, .slice none 0 0] 55)).alloc (.cells #[.slice none 0 0] 56)) (.cells #[.slice A L c] 22)
  have b3 := malloc_new (((w1.alloc (.cells #[.pointer none, .slice none 0 0] 55)).alloc (.cells #[.slice none 0 0] 56)).alloc (.cells #[.slice A L c] 22)) (.cells #[.int .i64 8] 3)
  have k1 : Kept w1 ((((w1.alloc (.cells #[.pointer none, .slice none 0 0] 55)).alloc (.cells #[.slice none 0 0] 56)).alloc (.cells #[.slice A L c] 22)).alloc (.cells #[.int .i64 8] 3)) := ((((Kept.refl w1).alloc _).alloc _).alloc _).alloc _
  have k2 : Kept (w1.alloc (.cells #[.pointer none, .slice none 0 0] 55)) ((((w1.alloc (.cells #[.pointer none, .slice none 0 0] 55)).alloc (.cells #[.slice none 0 0] 56)).alloc (.cells #[.slice A L c] 22)).alloc (.cells #[.int .i64 8] 3)) := (((Kept.refl _).alloc _).alloc _).alloc _
  have k3 : Kept ((w1.alloc (.cells #[.pointer none, .slice none 0 0] 55)).alloc (.cells #[.slice none 0 0] 56)) ((((w1.alloc (.cells #[.pointer none, .slice none 0 0] 55)).alloc (.cells #[.slice none 0 0] 56)).alloc (.cells #[.slice A L c] 22)).alloc (.cells #[.int .i64 8] 3)) := ((Kept.refl _).alloc _).alloc _
  have k4 : Kept (((w1.alloc (.cells #[.pointer none, .slice none 0 0] 55)).alloc (.cells #[.slice none 0 0] 56)).alloc (.cells #[.slice A L c] 22)) ((((w1.alloc (.cells #[.pointer none, .slice none 0 0] 55)).alloc (.cells #[.slice none 0 0] 56)).alloc (.cells #[.slice A L c] 22)).alloc (.cells #[.int .i64 8] 3)) := (Kept.refl _).alloc _
  simp only [malloc_size] at b1 b2 b3
  refine ⟨by simp only [malloc_size], ⟨⟨.slice none 0 0, ⟨by omega, ⟨none, .inl rfl, mblk_kept b0 k2⟩, World.ownsRow_nil _ _ _ _⟩⟩, ⟨.slice none 0 0, mblk_kept b1 k3, World.ownsRow_nil _ _ _ _⟩, mblk_kept h2 k1, mblk_kept h3 k1, fun i hi => by simp at hi, g.trans (k1.mono (by omega))⟩, mblk_kept b2 k4, b3, by simp only [malloc_size]⟩
theorem tbuild_row {w : World} {b o : Nat} {l : List Mm.Ent} (c : Nat) (h : Els w (some ⟨b, o, none⟩) l) (h1 : 1 ≤ l.length) (h5 : l.length ≤ 500) (hc : l.length ≤ c) (hcm : c ≤ maxLen) (ho : OkEl l) (hrow : Mg.row l = true) :
    Calls Try.prog 9 #[.slice (some ⟨b, o, none⟩) l.length c] w fun e w' => e = .returned (.tuple #[.string (bs (Tb.encS l)), .int .i64 (Tb.encC l)]) ∧ Kept w w' := by
  have HE := Lib.hid h
  have HROW := Lib.hid (fun (W : World) (g : Kept w W) => callsIn_wide (n := 4).2 (by have := grow_any (some ⟨b, o, none⟩) c l (by omega) W (h.kept g); rw [hrow] at this; exact this))
  have d1 : decide ((l.length : Int) < 1) = false := decide_eq_false (by omega)
  have d2 : decide ((500 : Int) < (l.length : Int)) = false := decide_eq_false (by omega)
  have HOK := Lib.hid ho; have HR := Lib.hid hrow
  have HNB := Lib.hid (show (l.length + 7) / 8 = Tb.nb l from rfl)
  obtain ⟨L, hL⟩ : ∃ L, L = l.length := ⟨_, rfl⟩
  rw [← hL] at d1 d2 h1 h5 hc HNB
  have HL := Lib.hid hL
  rw [← hL]
  rw [← hL] at HROW
  clear h ho hrow hL
  refine (callsIn_wide (n := 5)).1 ?_
  refine callsIn_of_wp_marks Try.func9 rfl trivial ?_ rfl
  simp only [Try.ntmps9, List.size_toArray, List.length_cons, List.length_nil, Nat.reduceAdd, Nat.reduceSub, Array.replicate_succ, Array.replicate_zero, List.push_toArray, List.append_toArray, List.nil_append, List.cons_append]
  gi_wp2
  refine ⟨trivial, (HROW.out _ (((Kept.refl w).alloc _).alloc _)).mono ?_⟩
  rintro e w1 ⟨rfl, g1⟩
  have R2 := Lib.hid (mblk_kept ((malloc_old _ _ (by simp)).trans (malloc_new w (.cells #[.string ⟨#[]⟩] 9))) g1)
  have R3 := Lib.hid (mblk_kept (show ((w.alloc (.cells #[.string ⟨#[]⟩] 9)).alloc (.cells #[.int .i64 0] 25)).heap[w.heap.size + 1]? = some (.cells #[.int .i64 0] 25 (0, 0)) by have := malloc_new (w.alloc (.cells #[.string ⟨#[]⟩] 9)) (.cells #[.int .i64 0] 25); rwa [malloc_size] at this) g1)
  have G1 := Lib.hid (kept_trans (((Kept.refl w).alloc _).alloc _) g1)
  obtain ⟨Z, hZ⟩ : ∃ Z, Z = w1.heap.size := ⟨_, rfl⟩
  have hs1 : w.heap.size + 2 ≤ w1.heap.size := by have := Below.size g1; simp at this; omega
  have HCH := Lib.hid (callsIn_wide (n := 4).2 (bi_new (w := w) l (some ⟨b, o, none⟩) L c G1.out hs1 R2.out R3.out hZ))
  have HZ := Lib.hid hZ
  have hZ0 : w.heap.size + 2 ≤ Z := by omega
  clear g1 HROW hs1 R2 R3 hZ
  gi_wp2
  rw [← HZ.out]
  refine ⟨trivial, HCH.out.mono ?_⟩
  rintro e w2 ⟨rfl, hbi, hp0, hp1, hsz⟩
  clear HCH
  gi_wp2
  refine wpIn_rangeFunc_ownF (gf := 55) (lb := #[.pointer (some ⟨Z + 2, 0, none⟩), .pointer (some ⟨Z + 3, 0, none⟩)]) rfl (by omega) rfl trivial (enters_of Try.func55 (by kernel_rfl) rfl) (tchunk_stops (w := w2) 4 (by omega) hp0 hp1 h5 hc hcm) (fun h k => h.trans k) (fun W l o o' _ hl ho _ => ChK.put W l o o' hl ho) (Below.refl _ _) (fun _ => rfl)
    (BI w Z l) (fun c pre W => c = .ret ∧ BX w l pre W) (fun pre W W' row h hg hr => h.grown (by omega) hg hr) (fun c pre W W' row h hg hr => ⟨h.1, h.2.grown (by omega) hg hr⟩) hbi
    (fun x => { tmps := #[.slice (some ⟨b, o, none⟩) L c, undef, .pointer (some ⟨w.heap.size, 0, none⟩), .pointer (some ⟨w.heap.size + 1, 0, none⟩), .pointer (some ⟨Z, 0, none⟩), .pointer (some ⟨Z + 1, 0, none⟩), chV b o L x, undef, undef, undef, undef, undef, .slice (some ⟨b, o, none⟩) L c, .int .i64 (L : Nat), .bool false, .bool false, .slice (some ⟨b, o, none⟩) L c, .int .i64 (L : Nat), .bool false, .bool false, .bool false, .slice (some ⟨b, o, none⟩) L c, .bool true, .bool false, .bool false, .slice (some ⟨b, o, none⟩) L c, .func (.func 55) #[] #[.pointer (some ⟨Z + 2, 0, none⟩), .pointer (some ⟨Z + 3, 0, none⟩)], chV b o L x, undef, undef, undef, undef, undef, undef, undef, undef, undef, undef, undef, undef, undef, undef, undef, undef, undef, undef, undef, undef, undef, undef, undef, undef, undef, undef, undef, undef, undef, undef, undef, undef, undef, undef, undef, undef, undef, undef], defers := [] }) ?assign ?body ?done ?stop
  case assign =>
    intro l1 x W K hK
    gi_wp2_with (rw [Oper.semAt_eq _ _ _ (fun c h => by cases h)]; go_simp; try go_bits)
    exact hK
  case body =>
    intro l1 pre x W hbi1 hlen
    have hpart := els_part (HE.out.kept hbi1.below) x
    obtain ⟨m, hm⟩ : ∃ m, m = min 8 (L - 8 * x) := ⟨_, rfl⟩
    have hmB : (Tb.bl l x).length = m := by rw [Tb.bl_len, hm, HL.out]
    have hm8 : m ≤ 8 := by omega
    have henc := kencode_any m hpart (by rw [hmB]; unfold maxLen; omega) (fun y hy => HOK.out y (Tb.bl_mem hy))
    rw [hmB] at henc
    have hbig := Tb.outP_len hbi1.isb
    have HIX := Lib.hid (Tb.ixP_len l pre)
    dsimp only [chV]
    rw [← hm]
    have HPART := Lib.hid hpart; have HMB := Lib.hid hmB; have HBI1 := Lib.hid hbi1
    have e5 : 5 - 1 - 1 = 3 := rfl
    rw [e5]
    clear hpart hm hbi1 hmB
    cases hB : Bk.isB (Tb.bl l x) with
    | true =>
      obtain ⟨y, hy⟩ : ∃ y, (Tb.bl l x).getLast? = some y := by
        have h1 := (Bk.isB_iff.1 hB).1
        have hne : Tb.bl l x ≠ [] := fun q => by rw [q] at h1; simp at h1
        exact ⟨_, List.getLast?_eq_some_getLast hne⟩
      rw [(Bk.enc_yes hB).1, (Bk.enc_yes hB).2] at henc
      have HENC := Lib.hid (callsIn_wide (n := 2).2 henc)
      have HEL := Lib.hid (Bk.enc_len hB)
      obtain ⟨E, hE⟩ : ∃ E, E = Bk.enc (Tb.bl l x) := ⟨_, rfl⟩
      rw [← hE] at HENC HEL
      have HEQ := Lib.hid hE; have HY := Lib.hid hy; have HBT := Lib.hid hB
      clear henc hB hy hE
      gi_wp2_with (rw [Oper.semAt_eq _ _ _ (fun c h => by cases h)]; go_simp; try go_bits)
      refine ⟨trivial, (CallsIn.inRound l1 HENC.out).mono ?_⟩
      rintro e w3 ⟨rfl, g3⟩
      obtain ⟨vB, vI, hbp⟩ : ∃ vB vI, BP w Z l pre vB vI w3.drew := by
        have h3 := HBI1.out.kept (kept_trans g3 (kept_drewN w3 1))
        obtain ⟨vB, hvB⟩ := h3.bld
        obtain ⟨vI, hbx, how⟩ := h3.idx
        exact ⟨vB, vI, hvB, how, hbx, blk_cell hbx 0, h3.below.size, h3⟩
      have cZ := hbp.2.2.2.1
      have HBIw3 := Lib.hid hbp
      have G3 := Lib.hid g3
      obtain ⟨P0, hP0⟩ : ∃ P0 : Tb.Pl, P0 = ⟨y.key, y.seq, (Tb.outP l pre).length, (bs E).size⟩ := ⟨_, rfl⟩
      have hez := fbs_size E
      have HPP := Lib.hid (show Tb.plP l (Tb.outP l pre).length x = P0 by unfold Tb.plP; rw [HY.out, hP0, hez, HEQ.out])
      have hpl := fun (W' : World) (g : Kept w3 W') => tplace_any m (HPART.out.kept (kept_trans g3 g)) HY.out (by rw [HMB.out]; omega) (Tb.outP l pre).length (bs E).size (by have := HEL.out; omega) (by have := HEL.out; omega)
      rw [HMB.out, ← hP0] at hpl
      unfold plV at hpl
      have HPL := Lib.hid hpl
      have hel := HEL.out
      obtain ⟨i0, hi0, hz0, hz1, hz2⟩ := info_parts placeInfo
      have HI0 := Lib.hid hi0; have HZ0 := Lib.hid hz0; have HZ1 := Lib.hid hz1; have HZ2 := Lib.hid hz2
      clear g3 hbp hpl hP0 hi0 hz0 hz1 hz2 hez
      gi_wp2_with (rw [Oper.semAt_eq _ _ _ (fun c h => by cases h)]; go_simp; try go_bits)
      refine region_inRound (S := fun _ => True) (by kernel_rfl) (by kernel_rfl) trivial (fun hHeld => ?_)
      -- REGION BEGIN
      refine wpAnyH_take (i := 1) (v := (.slice (some ⟨b, o + 8 * x * 4, none⟩) m m)) (List.getElem?_toArray.trans rfl) (by kernel_rfl) (by kernel_rfl) (by kernel_rfl) (fun _ _ _ h => h) (Or.inl ⟨by rfl, ?_⟩) (by assumption) ?_
      · intro W hSw
        first | rfl | (go_simp; done) | (go_simp; rfl)
      simp only [Act.put, List.setIfInBounds_toArray, List.set_cons_zero, List.set_cons_succ]
      refine wpAnyH_take (i := 3) (v := (.string (bs E))) (List.getElem?_toArray.trans rfl) (by kernel_rfl) (by kernel_rfl) (by kernel_rfl) (fun _ _ _ h => h) (Or.inl ⟨by rfl, ?_⟩) (by assumption) ?_
      · intro W hSw
        first | rfl | (go_simp; done) | (go_simp; rfl)
      simp only [Act.put, List.setIfInBounds_toArray, List.set_cons_zero, List.set_cons_succ]
      refine wpAnyH_take (i := 4) (v := (.int .i64 ((bs E).size : Nat))) (List.getElem?_toArray.trans rfl) (by kernel_rfl) (by kernel_rfl) (by kernel_rfl) (fun _ _ _ h => h) (Or.inl ⟨by rfl, ?_⟩) (by assumption) ?_
      · intro W hSw
        first | rfl | (go_simp; done) | (go_simp; rfl)
      simp only [Act.put, List.setIfInBounds_toArray, List.set_cons_zero, List.set_cons_succ]
      refine wpAnyH_ready (rs := [0, 2]) (by kernel_rfl) (by simp) ?_
      refine AllReadyH.cons (List.getElem?_toArray.trans rfl) (fun K hK => ?_) (AllReadyH.cons (List.getElem?_toArray.trans rfl) (fun K hK => ?_) AllReadyH.nil)
      · go_simp
        refine hK.out _ _ trivial (fun _ => ?_)
        clear hK K
        refine wpAnyH_ready (rs := [2]) (by kernel_rfl) (by simp) ?_
        refine AllReadyH.cons (List.getElem?_toArray.trans rfl) (fun K hK => ?_) AllReadyH.nil
        go_simp
        refine (kbld_len (HBIw3.out).1).mono ?_
        rintro e w4 ⟨rfl, rfl⟩
        go_wp2_with fail
        refine hK.out _ _ trivial (fun _ => ?_)
        clear hK K
        refine wpAnyH_ready (rs := [5]) (by kernel_rfl) (by simp) ?_
        refine AllReadyH.cons (List.getElem?_toArray.trans rfl) (fun K hK => ?_) AllReadyH.nil
        go_simp
        refine (HPL.out _ (kept_drewN w3 1)).mono ?_
        rintro e w5 ⟨rfl, g5⟩
        go_wp2_with fail
        have HBIw5 := Lib.hid (bi_parts HBIw3.out g5)
        have cZ := (HBIw5.out).2.2.2.1
        have HST3 := Lib.hid (stp_kept (kept_trans G3.out (kept_trans (kept_drewN w3 1) g5)))
        refine hK.out _ _ trivial (fun _ => ?_)
        clear hK K
        refine wpAnyH_ready (rs := [6]) (by kernel_rfl) (by simp) ?_
        refine AllReadyH.cons (List.getElem?_toArray.trans rfl) (fun K hK => ?_) AllReadyH.nil
        go_simp
        refine hK.out _ _ trivial (fun _ => ?_)
        clear hK K
        have cZ6 := bi_alloc HBIw5.out (o := .cells #[.string (bs P0.key), .int .u64 (P0.seq : Nat), .int .u64 (P0.beg : Nat), .int .u64 (P0.size : Nat)] 61)
        refine wpAnyH_ready (rs := [7]) (by kernel_rfl) (by simp) ?_
        refine AllReadyH.cons (List.getElem?_toArray.trans rfl) (fun K hK => ?_) AllReadyH.nil
        refine step_append_lies _ rfl _ _ 56 rfl w.heap.size 61 i0 zplV 4 40 Try.underlying56 HI0.out HZ0.out HZ1.out HZ2.out rfl (by decide) _ (Tb.ixP l pre).length (plc (Tb.ixP l pre)) rfl ((HBIw5.out).2.1.alloc _) ⟨w5.heap.size, 0, none⟩ 1 1 [.string (bs P0.key), .int .u64 (P0.seq : Nat), .int .u64 (P0.beg : Nat), .int .u64 (P0.size : Nat)] rfl rfl (mcells_new4 _ _ _ _ _ _ _ rfl) (by simp [Value.oneCell']) (by omega) (by have := HIX.out; unfold maxLen; omega) (by have := HIX.out; omega) (by have := (HBIw5.out).2.2.2.2.1; simp; omega) (w5.heap.size + 1) (by simp) ?_
        intro g1 cap1 w7 hown hgr hlie hlt1
        have HAF := Lib.hid (bi_after HBIw5.out hZ0 hown hgr HPP.out HEQ.out HBT.out (by omega) HEL.out)
        have cZ7 := (HAF.out).1
        have fZ7 := (HAF.out).2.1
        clear hown hgr hlie hlt1
        refine hK.out _ _ trivial (fun _ => ?_)
        clear hK K
        refine wpAnyH_ready (rs := [8]) (by kernel_rfl) (by simp) ?_
        refine AllReadyH.cons (List.getElem?_toArray.trans rfl) (fun K hK => ?_) AllReadyH.nil
        go_simp
        refine hK.out _ _ trivial (fun _ => ?_)
        clear hK K
        refine wpAnyH_done (by kernel_rfl) ?_ _
        simp only [noOut, Exit.then]
        go_at_K
        have HWR := Lib.hid (callsIn_wide (n := 2).2 ((HAF.out).2.2))
        gi_wp2_with (rw [Oper.semAt_eq _ _ _ (fun c h => by cases h)]; go_simp; try go_bits)
        refine ⟨trivial, (CallsIn.inRound l1 HWR.out).mono ?_⟩
        rintro e w8 ⟨rfl, hb8, hst8⟩
        gi_wp2_with (rw [Oper.semAt_eq _ _ _ (fun c h => by cases h)]; go_simp; try go_bits)
        exact ⟨(stp_trans HST3.out hst8).1, (stp_trans HST3.out hst8).2, hb8⟩
      · go_simp
        refine (kbld_len (HBIw3.out).1).mono ?_
        rintro e w4 ⟨rfl, rfl⟩
        go_wp2_with fail
        refine hK.out _ _ trivial (fun _ => ?_)
        clear hK K
        refine wpAnyH_ready (rs := [0, 5]) (by kernel_rfl) (by simp) ?_
        refine AllReadyH.cons (List.getElem?_toArray.trans rfl) (fun K hK => ?_) (AllReadyH.cons (List.getElem?_toArray.trans rfl) (fun K hK => ?_) AllReadyH.nil)
        · go_simp
          refine hK.out _ _ trivial (fun _ => ?_)
          clear hK K
          refine wpAnyH_ready (rs := [5]) (by kernel_rfl) (by simp) ?_
          refine AllReadyH.cons (List.getElem?_toArray.trans rfl) (fun K hK => ?_) AllReadyH.nil
          go_simp
          refine (HPL.out _ (kept_drewN w3 1)).mono ?_
          rintro e w5 ⟨rfl, g5⟩
          go_wp2_with fail
          have HBIw5 := Lib.hid (bi_parts HBIw3.out g5)
          have cZ := (HBIw5.out).2.2.2.1
          have HST3 := Lib.hid (stp_kept (kept_trans G3.out (kept_trans (kept_drewN w3 1) g5)))
          refine hK.out _ _ trivial (fun _ => ?_)
          clear hK K
          refine wpAnyH_ready (rs := [6]) (by kernel_rfl) (by simp) ?_
          refine AllReadyH.cons (List.getElem?_toArray.trans rfl) (fun K hK => ?_) AllReadyH.nil
          go_simp
          refine hK.out _ _ trivial (fun _ => ?_)
          clear hK K
          have cZ6 := bi_alloc HBIw5.out (o := .cells #[.string (bs P0.key), .int .u64 (P0.seq : Nat), .int .u64 (P0.beg : Nat), .int .u64 (P0.size : Nat)] 61)
          refine wpAnyH_ready (rs := [7]) (by kernel_rfl) (by simp) ?_
          refine AllReadyH.cons (List.getElem?_toArray.trans rfl) (fun K hK => ?_) AllReadyH.nil
          refine step_append_lies _ rfl _ _ 56 rfl w.heap.size 61 i0 zplV 4 40 Try.underlying56 HI0.out HZ0.out HZ1.out HZ2.out rfl (by decide) _ (Tb.ixP l pre).length (plc (Tb.ixP l pre)) rfl ((HBIw5.out).2.1.alloc _) ⟨w5.heap.size, 0, none⟩ 1 1 [.string (bs P0.key), .int .u64 (P0.seq : Nat), .int .u64 (P0.beg : Nat), .int .u64 (P0.size : Nat)] rfl rfl (mcells_new4 _ _ _ _ _ _ _ rfl) (by simp [Value.oneCell']) (by omega) (by have := HIX.out; unfold maxLen; omega) (by have := HIX.out; omega) (by have := (HBIw5.out).2.2.2.2.1; simp; omega) (w5.heap.size + 1) (by simp) ?_
          intro g1 cap1 w7 hown hgr hlie hlt1
          have HAF := Lib.hid (bi_after HBIw5.out hZ0 hown hgr HPP.out HEQ.out HBT.out (by omega) HEL.out)
          have cZ7 := (HAF.out).1
          have fZ7 := (HAF.out).2.1
          clear hown hgr hlie hlt1
          refine hK.out _ _ trivial (fun _ => ?_)
          clear hK K
          refine wpAnyH_ready (rs := [8]) (by kernel_rfl) (by simp) ?_
          refine AllReadyH.cons (List.getElem?_toArray.trans rfl) (fun K hK => ?_) AllReadyH.nil
          go_simp
          refine hK.out _ _ trivial (fun _ => ?_)
          clear hK K
          refine wpAnyH_done (by kernel_rfl) ?_ _
          simp only [noOut, Exit.then]
          go_at_K
          have HWR := Lib.hid (callsIn_wide (n := 2).2 ((HAF.out).2.2))
          gi_wp2_with (rw [Oper.semAt_eq _ _ _ (fun c h => by cases h)]; go_simp; try go_bits)
          refine ⟨trivial, (CallsIn.inRound l1 HWR.out).mono ?_⟩
          rintro e w8 ⟨rfl, hb8, hst8⟩
          gi_wp2_with (rw [Oper.semAt_eq _ _ _ (fun c h => by cases h)]; go_simp; try go_bits)
          exact ⟨(stp_trans HST3.out hst8).1, (stp_trans HST3.out hst8).2, hb8⟩
        · go_simp
          refine (HPL.out _ (kept_drewN w3 1)).mono ?_
          rintro e w5 ⟨rfl, g5⟩
          go_wp2_with fail
          have HBIw5 := Lib.hid (bi_parts HBIw3.out g5)
          have cZ := (HBIw5.out).2.2.2.1
          have HST3 := Lib.hid (stp_kept (kept_trans G3.out (kept_trans (kept_drewN w3 1) g5)))
          refine hK.out _ _ trivial (fun _ => ?_)
          clear hK K
          refine wpAnyH_ready (rs := [0, 6]) (by kernel_rfl) (by simp) ?_
          refine AllReadyH.cons (List.getElem?_toArray.trans rfl) (fun K hK => ?_) (AllReadyH.cons (List.getElem?_toArray.trans rfl) (fun K hK => ?_) AllReadyH.nil)
          · go_simp
            refine hK.out _ _ trivial (fun _ => ?_)
            clear hK K
            refine wpAnyH_ready (rs := [6]) (by kernel_rfl) (by simp) ?_
            refine AllReadyH.cons (List.getElem?_toArray.trans rfl) (fun K hK => ?_) AllReadyH.nil
            go_simp
            refine hK.out _ _ trivial (fun _ => ?_)
            clear hK K
            have cZ6 := bi_alloc HBIw5.out (o := .cells #[.string (bs P0.key), .int .u64 (P0.seq : Nat), .int .u64 (P0.beg : Nat), .int .u64 (P0.size : Nat)] 61)
            refine wpAnyH_ready (rs := [7]) (by kernel_rfl) (by simp) ?_
            refine AllReadyH.cons (List.getElem?_toArray.trans rfl) (fun K hK => ?_) AllReadyH.nil
            refine step_append_lies _ rfl _ _ 56 rfl w.heap.size 61 i0 zplV 4 40 Try.underlying56 HI0.out HZ0.out HZ1.out HZ2.out rfl (by decide) _ (Tb.ixP l pre).length (plc (Tb.ixP l pre)) rfl ((HBIw5.out).2.1.alloc _) ⟨w5.heap.size, 0, none⟩ 1 1 [.string (bs P0.key), .int .u64 (P0.seq : Nat), .int .u64 (P0.beg : Nat), .int .u64 (P0.size : Nat)] rfl rfl (mcells_new4 _ _ _ _ _ _ _ rfl) (by simp [Value.oneCell']) (by omega) (by have := HIX.out; unfold maxLen; omega) (by have := HIX.out; omega) (by have := (HBIw5.out).2.2.2.2.1; simp; omega) (w5.heap.size + 1) (by simp) ?_
            intro g1 cap1 w7 hown hgr hlie hlt1
            have HAF := Lib.hid (bi_after HBIw5.out hZ0 hown hgr HPP.out HEQ.out HBT.out (by omega) HEL.out)
            have cZ7 := (HAF.out).1
            have fZ7 := (HAF.out).2.1
            clear hown hgr hlie hlt1
            refine hK.out _ _ trivial (fun _ => ?_)
            clear hK K
            refine wpAnyH_ready (rs := [8]) (by kernel_rfl) (by simp) ?_
            refine AllReadyH.cons (List.getElem?_toArray.trans rfl) (fun K hK => ?_) AllReadyH.nil
            go_simp
            refine hK.out _ _ trivial (fun _ => ?_)
            clear hK K
            refine wpAnyH_done (by kernel_rfl) ?_ _
            simp only [noOut, Exit.then]
            go_at_K
            have HWR := Lib.hid (callsIn_wide (n := 2).2 ((HAF.out).2.2))
            gi_wp2_with (rw [Oper.semAt_eq _ _ _ (fun c h => by cases h)]; go_simp; try go_bits)
            refine ⟨trivial, (CallsIn.inRound l1 HWR.out).mono ?_⟩
            rintro e w8 ⟨rfl, hb8, hst8⟩
            gi_wp2_with (rw [Oper.semAt_eq _ _ _ (fun c h => by cases h)]; go_simp; try go_bits)
            exact ⟨(stp_trans HST3.out hst8).1, (stp_trans HST3.out hst8).2, hb8⟩
          · go_simp
            refine hK.out _ _ trivial (fun _ => ?_)
            clear hK K
            have cZ6 := bi_alloc HBIw5.out (o := .cells #[.string (bs P0.key), .int .u64 (P0.seq : Nat), .int .u64 (P0.beg : Nat), .int .u64 (P0.size : Nat)] 61)
            refine wpAnyH_ready (rs := [0]) (by kernel_rfl) (by simp) ?_
            refine AllReadyH.cons (List.getElem?_toArray.trans rfl) (fun K hK => ?_) AllReadyH.nil
            go_simp
            refine hK.out _ _ trivial (fun _ => ?_)
            clear hK K
            refine wpAnyH_ready (rs := [7]) (by kernel_rfl) (by simp) ?_
            refine AllReadyH.cons (List.getElem?_toArray.trans rfl) (fun K hK => ?_) AllReadyH.nil
            refine step_append_lies _ rfl _ _ 56 rfl w.heap.size 61 i0 zplV 4 40 Try.underlying56 HI0.out HZ0.out HZ1.out HZ2.out rfl (by decide) _ (Tb.ixP l pre).length (plc (Tb.ixP l pre)) rfl ((HBIw5.out).2.1.alloc _) ⟨w5.heap.size, 0, none⟩ 1 1 [.string (bs P0.key), .int .u64 (P0.seq : Nat), .int .u64 (P0.beg : Nat), .int .u64 (P0.size : Nat)] rfl rfl (mcells_new4 _ _ _ _ _ _ _ rfl) (by simp [Value.oneCell']) (by omega) (by have := HIX.out; unfold maxLen; omega) (by have := HIX.out; omega) (by have := (HBIw5.out).2.2.2.2.1; simp; omega) (w5.heap.size + 1) (by simp) ?_
            intro g1 cap1 w7 hown hgr hlie hlt1
            have HAF := Lib.hid (bi_after HBIw5.out hZ0 hown hgr HPP.out HEQ.out HBT.out (by omega) HEL.out)
            have cZ7 := (HAF.out).1
            have fZ7 := (HAF.out).2.1
            clear hown hgr hlie hlt1
            refine hK.out _ _ trivial (fun _ => ?_)
            clear hK K
            refine wpAnyH_ready (rs := [8]) (by kernel_rfl) (by simp) ?_
            refine AllReadyH.cons (List.getElem?_toArray.trans rfl) (fun K hK => ?_) AllReadyH.nil
            go_simp
            refine hK.out _ _ trivial (fun _ => ?_)
            clear hK K
            refine wpAnyH_done (by kernel_rfl) ?_ _
            simp only [noOut, Exit.then]
            go_at_K
            have HWR := Lib.hid (callsIn_wide (n := 2).2 ((HAF.out).2.2))
            gi_wp2_with (rw [Oper.semAt_eq _ _ _ (fun c h => by cases h)]; go_simp; try go_bits)
            refine ⟨trivial, (CallsIn.inRound l1 HWR.out).mono ?_⟩
            rintro e w8 ⟨rfl, hb8, hst8⟩
            gi_wp2_with (rw [Oper.semAt_eq _ _ _ (fun c h => by cases h)]; go_simp; try go_bits)
            exact ⟨(stp_trans HST3.out hst8).1, (stp_trans HST3.out hst8).2, hb8⟩
      -- REGION END
    | false =>
      rw [(Bk.enc_no hB).1, (Bk.enc_no hB).2] at henc
      have HENC := Lib.hid (callsIn_wide (n := 2).2 henc)
      have HBF := Lib.hid hB
      clear henc hB
      gi_wp2_with (rw [Oper.semAt_eq _ _ _ (fun c h => by cases h)]; go_simp; try go_bits)
      refine ⟨trivial, (CallsIn.inRound l1 HENC.out).mono ?_⟩
      rintro e w3 ⟨rfl, g3⟩
      have h3 := HBI1.out.kept g3
      have c2 := blk_cell h3.r2 0; have c3 := blk_cell h3.r3 0
      have f2 := blk_soft h3.r2 0; have f3 := blk_soft h3.r3 0
      simp only [List.getElem?_toArray, List.getElem?_cons_zero] at c2 c3
      have H3 := Lib.hid h3
      have G3 := Lib.hid g3
      clear h3 g3 HENC
      gi_wp2_with (rw [Oper.semAt_eq _ _ _ (fun c h => by cases h)]; go_simp; try go_bits)
      refine ⟨((stp_kept G3.out).1.trans (KeepsOthers.setCell _ _ _)).trans (KeepsOthers.setCell _ _ _), rfl, ⟨⟨pre, x, rfl, HBF.out⟩, ?_, ?_, ?_⟩⟩
      · exact mset_ne (mset H3.out.r2 0 (.string ⟨#[]⟩)) (by omega) 0 _
      · exact mset (mset_ne H3.out.r3 (by omega) 0 _) 0 (.int .i64 2)
      · exact Below.setCell (Below.setCell H3.out.below (p := ⟨w.heap.size, 0, none⟩) (Nat.le_refl _) _) (p := ⟨w.heap.size + 1, 0, none⟩) (Nat.le_succ _) _
  case done =>
    intro D xs W hD hS hI hK
    rw [HNB.out] at hS
    subst hS
    have hT : Tb.isT l = true := Tb.isT_all (by rw [← HL.out]; exact h1) (by rw [← HL.out]; exact h5) HR.out (fun i hi => hI.isb i (List.mem_range.2 hi))
    obtain ⟨⟨vB, hvB⟩, ⟨vI, hbx, how⟩, hr2, hr3, _, hbel⟩ := hI
    rw [Tb.outP_range] at hvB
    rw [Tb.ixP_range] at how
    obtain ⟨AI, cI, rfl, _, hpls⟩ := pls_own (l := (Tb.tv l).index) how
    have hnb := Tb.nb_le hT
    have hix := tindex_any cI hpls (by rw [Tb.tv_len]; exact hnb) (Tb.okP hT)
    rw [Tb.tixs_idx hT] at hix
    have cZ := blk_cell hbx 0
    simp only [List.getElem?_toArray, List.getElem?_cons_zero] at cZ
    have HIX := Lib.hid (callsIn_wide (n := 4).2 hix)
    have HKEY := Lib.hid (fun (W' : World) (g : Kept w W') => callsIn_wide (n := 4).2 (tkeys_any c (HE.out.kept g) (by rw [← HL.out]; exact h5)))
    rw [← HL.out] at HKEY
    have hkl := Tb.keys_len hT
    have HMS := Lib.hid (show Bm.makeS (Tb.keys l) = Tb.fl l by unfold Bm.makeS; rw [if_pos (by omega)]; rfl)
    have HMK := Lib.hid (fun (W' : World) (B : Option Addr) (cc : Nat) (hA : Txs W' B (Tb.keys l)) => callsIn_wide (n := 4).2 (bmake_any B cc (Tb.keys l) (by unfold maxLen; omega) (fun x hx => by
      obtain ⟨y, hy, e⟩ := Tb.keysU_only hx
      have := (Mm.may_iff.1 ((Tb.isT_iff.1 hT).2.2.1 y hy)).2.1
      rw [e] at this
      unfold maxLen; omega) W' hA))
    have hol := Tb.out_len hT (Tb.nb l) (Nat.le_refl _)
    have hil := Tb.idx_len hT
    have hfl := Tb.fl_len hT
    have hne : Tb.out l (Tb.nb l) ≠ [] := fun q => by
      have hp := Tb.nb_pos (Tb.isT_iff.1 hT).1
      obtain ⟨T1, e1⟩ := Tb.out_split l hp
      obtain ⟨cc, TT, hf, _⟩ := Bk.enc_front (Tb.bl_isB hT (i := 0) (by omega))
      rw [q, show (1 : Nat) = 0 + 1 from rfl, Tb.out_succ, hf] at e1
      simp at e1
    have z1 := fbs_size (Tb.idx l); have z2 := fbs_size (Tb.fl l); have z0 := fbs_size (Tb.out l (Tb.nb l))
    have hft := tfoot_any (bs (Tb.idx l)).size (bs (Tb.fl l)).size L (by omega) (by omega) (by omega)
    have hfe : Nm.long (bs (Tb.idx l)).size ++ (Nm.long (bs (Tb.fl l)).size ++ (Nm.long L ++ Tb.magic)) = Tb.foot l := by rw [z1, z2, HL.out]; rfl
    rw [hfe] at hft
    have HFT := Lib.hid (fun W' => callsIn_wide (n := 4).2 (hft W'))
    have zf : (bs (Tb.foot l)).size = 32 := by rw [fbs_size]; exact Tb.foot_len l
    have HENC := Lib.hid (show bs (Tb.out l (Tb.nb l)) ++ bs (Tb.idx l) ++ bs (Tb.fl l) ++ bs (Tb.foot l) = bs (Tb.enc l) from bs_of (by simp [Tb.enc, bs, ByteArray.data_append]))
    have HT := Lib.hid hT
    have HVB := Lib.hid hvB; have HR2 := Lib.hid hr2; have HR3 := Lib.hid hr3; have HBEL := Lib.hid hbel; have HD := Lib.hid hD; have HDK := Lib.hid hK; have HNE := Lib.hid hne
    rw [show (Tb.tv l).index.length = Tb.nb l from Tb.tv_len l] at HIX cZ
    generalize hX1 : bs (Tb.out l (Tb.nb l)) = X1 at *
    generalize hX2 : bs (Tb.idx l) = X2 at *
    generalize hX3 : bs (Tb.fl l) = X3 at *
    generalize hX4 : bs (Tb.foot l) = X4 at *
    have a1 : (X1 ++ X2).size ≤ 460000 := by rw [ByteArray.size_append]; omega
    have a2 : (X1 ++ X2 ++ X3).size ≤ 461000 := by rw [ByteArray.size_append]; omega
    have b0 : X1.size ≤ 441000 := by omega
    have b2 : X2.size ≤ 9000 := by omega
    have b3 : X3.size ≤ 501 := by omega
    have HX1 := Lib.hid hX1; have HX3 := Lib.hid hX3
    have hLi : (L : Int) = (L : Int) := rfl
    clear hX1 hX2 hX3 hX4 z0 z1 z2 hfe hft hol hil hfl hne hkl hix hvB how hpls hbx hr2 hr3 hbel hT hK
    gi_wp2
    refine ⟨trivial, HIX.out.mono ?_⟩
    rintro e w3 ⟨rfl, g3⟩
    have G3 := Lib.hid (kept_trans HBEL.out g3)
    have K3 := Lib.hid g3
    clear g3 HIX cZ
    gi_wp2
    refine ⟨trivial, (HKEY.out _ G3.out).mono ?_⟩
    rintro e w4 ⟨B4, c4, rfl, htx, g4⟩
    have HMK4 := Lib.hid (HMK.out w4 B4 c4 htx)
    rw [HMS.out, HX3.out] at HMK4
    have K4 := Lib.hid (kept_trans K3.out g4)
    clear htx g4 HMK HKEY
    gi_wp2
    refine ⟨trivial, HMK4.out.mono ?_⟩
    rintro e w5 ⟨rfl, g5⟩
    have K5 := Lib.hid (kept_trans K4.out g5)
    have HSTR := Lib.hid (callsIn_wide (n := 4).2 (kbld_string (HVB.out.kept K5.out) HNE.out))
    rw [HX1.out] at HSTR
    clear g5 HMK4
    gi_wp2
    refine ⟨trivial, HSTR.out.mono ?_⟩
    rintro e w6 ⟨rfl, hex⟩
    have hb5 := HVB.out.kept K5.out
    have r25 := mblk_kept HR2.out K5.out
    have r35 := mblk_kept HR3.out K5.out
    have r26 := (hex.block _ (mheap_lt r25) (own_not hb5.own r25 (by decide))).trans r25
    have r36 := (hex.block _ (mheap_lt r35) (own_not hb5.own r35 (by decide))).trans r35
    have hD5 : w5.heap[D]? = some (.deferred (some [])) := (Below.block K5.out D (Array.getElem?_eq_some_iff.1 HDK.out).1).trans HDK.out
    have hD6 : w6.heap[D]? = some (.deferred (some [])) := (hex.block D (Array.getElem?_eq_some_iff.1 hD5).1 (fun q => by
      obtain ⟨cc, zz, hc⟩ := own_type hb5.own q
      rw [hD5] at hc; cases hc)).trans hD5
    have bel5 : Below w.heap.size w w5 := kept_trans HBEL.out K5.out
    have bel6 : Below w.heap.size w w6 := bel5.trans (hex.below bel5.size (fun i hi => (hb5.own.lt i hi).1))
    have R26 := Lib.hid r26; have R36 := Lib.hid r36; have HD6 := Lib.hid hD6; have BEL6 := Lib.hid bel6
    clear hb5 r25 r35 r26 r36 hD5 hD6 bel5 bel6 hex HSTR
    gi_wp2
    refine ⟨trivial, (HFT.out _).mono ?_⟩
    rintro e w7 ⟨rfl, g7⟩
    have r27 := mblk_kept R26.out g7
    have r37 := mblk_kept R36.out g7
    have d7 : w7.heap[D]? = some (.deferred (some [])) := (Below.block g7 D (Array.getElem?_eq_some_iff.1 HD6.out).1).trans HD6.out
    have bel7 : Below w.heap.size w w7 := kept_trans BEL6.out g7
    have c2 := blk_cell r27 0; have c3 := blk_cell r37 0
    have f2 := blk_soft r27 0; have f3 := blk_soft r37 0
    simp only [List.getElem?_toArray, List.getElem?_cons_zero] at c2 c3
    have R27 := Lib.hid r27; have R37 := Lib.hid r37; have D7 := Lib.hid d7; have BEL7 := Lib.hid bel7
    clear r27 r37 d7 bel7 g7
    gi_wp2
    rw [HENC.out]
    have hKf : ((w7.setCell ⟨w.heap.size, 0, none⟩ (.string (bs (Tb.enc l)))).setCell ⟨w.heap.size + 1, 0, none⟩ (.int .i64 0)).heap[D]? = some (.deferred (some [])) := ((KeepsOthers.setCell w7 _ _).trans (KeepsOthers.setCell _ _ _)).same D _ D7.out rfl
    have h2f : ((w7.setCell ⟨w.heap.size, 0, none⟩ (.string (bs (Tb.enc l)))).setCell ⟨w.heap.size + 1, 0, none⟩ (.int .i64 0)).heap[w.heap.size]? = some (.cells #[.string (bs (Tb.enc l))] 9 (0, 0)) := mset_ne (mset R27.out 0 _) (by omega) 0 _
    have h3f : ((w7.setCell ⟨w.heap.size, 0, none⟩ (.string (bs (Tb.enc l)))).setCell ⟨w.heap.size + 1, 0, none⟩ (.int .i64 0)).heap[w.heap.size + 1]? = some (.cells #[.int .i64 0] 25 (0, 0)) := mset (mset_ne R37.out (by omega) 0 _) 0 _
    have belf : Below w.heap.size w ((w7.setCell ⟨w.heap.size, 0, none⟩ (.string (bs (Tb.enc l)))).setCell ⟨w.heap.size + 1, 0, none⟩ (.int .i64 0)) := Below.setCell (Below.setCell BEL7.out (p := ⟨w.heap.size, 0, none⟩) (Nat.le_refl _) _) (p := ⟨w.heap.size + 1, 0, none⟩) (Nat.le_succ _) _
    refine ⟨by simp, .inl ⟨_, _, rfl, run_takeDeferred hKf, ?_⟩⟩
    generalize ((w7.setCell ⟨w.heap.size, 0, none⟩ (.string (bs (Tb.enc l)))).setCell ⟨w.heap.size + 1, 0, none⟩ (.int .i64 0)) = wf at *
    have hD' := HD.out
    have hwW := HBEL.out.size
    have hdl : D ≠ w.heap.size ∧ D ≠ w.heap.size + 1 := by omega
    have h2' : (wf.putObj D (.deferred none)).heap[w.heap.size]? = _ := (World.putObj_heap_other (by omega)).trans h2f
    have h3' : (wf.putObj D (.deferred none)).heap[w.heap.size + 1]? = _ := (World.putObj_heap_other (by omega)).trans h3f
    have z0 := blk_cell h2' 0; have z1 := blk_cell h3' 0
    simp only [List.getElem?_toArray, List.getElem?_cons_zero] at z0 z1
    refine ⟨.tuple #[.string (bs (Tb.encS l)), .int .i64 (Tb.encC l)], ?_, rfl, ?_⟩
    · rw [(Tb.encS_yes HT.out).1, (Tb.encS_yes HT.out).2]
      simp [results, Try.results9, go_sem, z0, z1]
    · exact belf.trans (belowK_b (w := w) (Nat.le_refl _) wf D _ _ (by omega) hKf rfl rfl)
  case stop =>
    rintro D c pre W hD ⟨k, hk, rfl⟩ ⟨rfl, hx⟩ hK
    obtain ⟨⟨p, x, hpx, hno⟩, hr2, hr3, hbel⟩ := hx
    have hxk : x = k := by
      rw [List.range_succ] at hpx
      exact (List.append_inj_right' hpx rfl |> List.singleton_inj.1).symm
    subst hxk
    rw [HNB.out] at hk
    have hnT := Tb.isT_no_bl hk hno
    have HN := Lib.hid hnT
    clear hnT hno hpx hk
    gi_wp2
    refine ⟨by simp, .inl ⟨_, _, rfl, run_takeDeferred hK, ?_⟩⟩
    have h2' : (W.putObj D (.deferred none)).heap[w.heap.size]? = _ := (World.putObj_heap_other (by omega)).trans hr2
    have h3' : (W.putObj D (.deferred none)).heap[w.heap.size + 1]? = _ := (World.putObj_heap_other (by omega)).trans hr3
    have z0 := blk_cell h2' 0; have z1 := blk_cell h3' 0
    simp only [List.getElem?_toArray, List.getElem?_cons_zero] at z0 z1
    refine ⟨.tuple #[.string (bs (Tb.encS l)), .int .i64 (Tb.encC l)], ?_, rfl, ?_⟩
    · rw [(Tb.encS_no HN.out).1, (Tb.encS_no HN.out).2]
      simp [results, Try.results9, go_sem, z0, z1, bs]
    · exact hbel.trans (belowK_b (w := w) (Nat.le_refl _) W D _ _ (by omega) hK rfl rfl)
theorem tbuild_any {w : World} {A : Option Addr} {l : List Mm.Ent} (c : Nat) (h : Els w A l) (hl : l.length ≤ c) (hcm : c ≤ maxLen) (ho : OkEl l) :
    Calls Try.prog 9 #[.slice A l.length c] w fun e w' => e = .returned (.tuple #[.string (bs (Tb.encS l)), .int .i64 (Tb.encC l)]) ∧ Kept w w' := by
  have hcm' := hcm
  unfold maxLen at hcm'
  by_cases hb : l.length < 1 ∨ 500 < l.length
  · have hT : Tb.isT l = false := by
      cases ht : Tb.isT l with
      | false => rfl
      | true => obtain ⟨q1, q2, _⟩ := Tb.isT_iff.1 ht; omega
    rw [(Tb.encS_no hT).1, (Tb.encS_no hT).2]
    clear h ho hT
    generalize l.length = L at *
    by_cases h1 : L < 1
    · have d1 : decide ((L : Int) < 1) = true := decide_eq_true (by omega)
      go_enter Try.func9, Try.ntmps9
      go_wp2_with fail
      refine bodyPost_ret (v := .tuple #[.string (bs []), .int .i64 2]) (by simp [results, Try.results9, go_sem, bs]) rfl ⟨rfl, ?_⟩
      exact ((Kept.refl w).alloc _).alloc _
    · have d1 : decide ((L : Int) < 1) = false := decide_eq_false (by omega)
      have d2 : decide ((500 : Int) < (L : Int)) = true := decide_eq_true (by omega)
      go_enter Try.func9, Try.ntmps9
      go_wp2_with fail
      refine bodyPost_ret (v := .tuple #[.string (bs []), .int .i64 2]) (by simp [results, Try.results9, go_sem, bs]) rfl ⟨rfl, ?_⟩
      exact ((Kept.refl w).alloc _).alloc _
  · obtain ⟨b, o, rfl⟩ : ∃ b o, A = some ⟨b, o, none⟩ := by
      obtain ⟨b, o, e, _⟩ := h 0 _ (List.getElem?_eq_getElem (by omega))
      exact ⟨b, o, e⟩
    cases hr : Mg.row l with
    | true => exact tbuild_row c h (by omega) (by omega) hl hcm ho hr
    | false =>
      have hT : Tb.isT l = false := by
        cases ht : Tb.isT l with
        | false => rfl
        | true => obtain ⟨_, _, _, q⟩ := Tb.isT_iff.1 ht; rw [hr] at q; cases q
      rw [(Tb.encS_no hT).1, (Tb.encS_no hT).2]
      have HROW := Lib.hid (fun (W : World) (g : Kept w W) => (by have := grow_any (some ⟨b, o, none⟩) c l (by omega) W (h.kept g); rw [hr] at this; exact this : Calls Try.prog 24 #[.slice (some ⟨b, o, none⟩) l.length c] W fun e w' => e = .returned (.bool false) ∧ Kept W w'))
      have d1 : decide ((l.length : Int) < 1) = false := decide_eq_false (by omega)
      have d2 : decide ((500 : Int) < (l.length : Int)) = false := decide_eq_false (by omega)
      generalize l.length = L at *
      clear h ho hT hr
      go_enter Try.func9, Try.ntmps9
      go_wp2_with fail
      refine (HROW.out _ (((Kept.refl w).alloc _).alloc _)).mono ?_
      rintro e w1 ⟨rfl, g1⟩
      have r2 := mblk_kept ((malloc_old _ _ (by simp)).trans (malloc_new w (.cells #[.string ⟨#[]⟩] 9))) g1
      have r3 := mblk_kept (show ((w.alloc (.cells #[.string ⟨#[]⟩] 9)).alloc (.cells #[.int .i64 0] 25)).heap[w.heap.size + 1]? = some (.cells #[.int .i64 0] 25 (0, 0)) by have := malloc_new (w.alloc (.cells #[.string ⟨#[]⟩] 9)) (.cells #[.int .i64 0] 25); rwa [malloc_size] at this) g1
      have c2 := blk_cell r2 0; have c3 := blk_cell r3 0
      have f2 := blk_soft r2 0; have f3 := blk_soft r3 0
      simp only [List.getElem?_toArray, List.getElem?_cons_zero] at c2 c3
      have G1 := Lib.hid (kept_trans (((Kept.refl w).alloc _).alloc _) g1)
      clear r2 r3 g1
      go_wp2_with fail
      refine bodyPost_ret (v := .tuple #[.string (bs []), .int .i64 2]) (by simp [results, Try.results9, go_sem, bs, c2, c3]) rfl ⟨rfl, ?_⟩
      exact mkept_set (mkept_set G1.out (a := ⟨w.heap.size, 0, none⟩) (Nat.le_refl _) _) (a := ⟨w.heap.size + 1, 0, none⟩) (Nat.le_succ _) _
end Go.Proofs.Ytecjnebfhbdnaaa
