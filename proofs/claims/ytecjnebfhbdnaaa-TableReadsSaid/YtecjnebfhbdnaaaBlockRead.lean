/-
  The reader of package block: a number, so many bytes, a text, a mark; an entry.
-/
import Derived.Test.YtecjnebfhbdnaaaBlockFns
import Derived.Test.YtecjnebfhbdnaaaBlockBuilder
import Derived.Deep.RegionHeld3
namespace Go.Proofs.Ytecjnebfhbdnaaa
open Go.ChangeShapes Go.WideShapes Go.ChangeAt Go.RowKit
set_option linter.unusedVariables false
set_option maxRecDepth 100000
set_option maxHeartbeats 2000000

/-- all blocks but b are as they were; there may be new ones -/
structure KBut (b : Nat) (w w' : World) : Prop where
  os : w'.os = w.os
  tape : w'.tape = w.tape
  output : w'.output = w.output
  size : w.heap.size ≤ w'.heap.size
  block : ∀ k, k < w.heap.size → k ≠ b → w'.heap[k]? = w.heap[k]?
theorem KBut.kept {b : Nat} {w w' : World} (h : Kept w w') : KBut b w w' := ⟨h.os, h.tape, h.output, h.size, fun k hk _ => h.block k hk⟩
theorem KBut.trans {b : Nat} {w w1 w2 : World} (h : KBut b w w1) (k : KBut b w1 w2) : KBut b w w2 :=
  ⟨k.os.trans h.os, k.tape.trans h.tape, k.output.trans h.output, Nat.le_trans h.size k.size, fun i hi hn => (k.block i (Nat.lt_of_lt_of_le hi h.size) hn).trans (h.block i hi hn)⟩
theorem KBut.set (b j : Nat) (w : World) (x : Value) : KBut b w (w.setCell ⟨b, j, none⟩ x) :=
  ⟨rfl, rfl, rfl, by simp [World.setCell], fun k _ hn => Below.heap_setCell _ _ _ _ (fun e => hn e)⟩
theorem KBut.below {B b : Nat} {w w' : World} (h : KBut b w w') (hb : B ≤ b) (hw : B ≤ w.heap.size) : Below B w w' :=
  ⟨h.os, h.tape, h.output, h.size, fun k hk => h.block k (by omega) (by omega)⟩
theorem KBut.at {b : Nat} {w w' : World} (h : KBut b w w') {k : Nat} {c : Array Value} {t : TypeId} {z : Nat × Nat} (hk : w.heap[k]? = some (.cells c t z)) (hn : k ≠ b) : w'.heap[k]? = some (.cells c t z) :=
  (h.block k (Array.getElem?_eq_some_iff.1 hk).1 hn).trans hk
theorem KBut.own {b : Nat} {W w : World} (h : KBut b W w) {q : Nat} (hq : W.heap.size ≤ q) (j : Nat) (x : Value) : KBut b W (w.setCell ⟨q, j, none⟩ x) :=
  ⟨h.os, h.tape, h.output, Nat.le_trans h.size (by simp [World.setCell]), fun k hk hn => (Below.heap_setCell _ _ _ _ (fun (e : k = q) => by omega)).trans (h.block k hk hn)⟩
theorem takeR_le (R : List UInt8) : (Nm.takeR R).length ≤ R.length := by
  unfold Nm.takeR
  cases h : Nm.take R with
  | none => simp
  | some x =>
    obtain ⟨n, r⟩ := x
    have := congrArg List.length (Nm.take_back _ _ _ h).1
    rw [List.length_append] at this
    simp; omega
theorem takeN_lt (R : List UInt8) : Nm.takeN R < 18446744073709551616 := by
  unfold Nm.takeN
  cases h : Nm.take R with
  | none => simp
  | some x =>
    obtain ⟨n, r⟩ := x
    exact (Nm.take_back _ _ _ h).2
theorem pc_le (n : Nat) (R : List UInt8) : (Bk.pc n R).2.length ≤ R.length ∧ (Bk.pc n R).1.length ≤ 100 := by
  unfold Bk.pc
  split
  · rename_i h
    simp; omega
  · simp
theorem tx_le (R : List UInt8) : (Bk.tx R).2.length ≤ R.length ∧ (Bk.tx R).1.length ≤ 100 := by
  unfold Bk.tx
  have h1 := takeR_le R
  have h2 := pc_le (Nm.takeN R) (Nm.takeR R)
  omega
/-- the block p is a reader: what is left, and the key ahead -/
def Rdr (w : World) (p : Nat) (R A : List UInt8) : Prop := w.heap[p]? = some (.cells #[.string (bs R), .string (bs A)] 130 (0, 0))
theorem Rdr.kept {w w' : World} {p : Nat} {R A : List UInt8} (h : Rdr w p R A) (k : Kept w w') : Rdr w' p R A := (Below.block k p (Array.getElem?_eq_some_iff.1 h).1).trans h
theorem Rdr.set {w : World} {p : Nat} {R A : List UInt8} (h : Rdr w p R A) (r : List UInt8) : Rdr (w.setCell ⟨p, 0, none⟩ (.string (bs r))) p r A := by
  unfold Rdr at *
  simp [World.setCell, Array.getElem?_modify, h]
theorem Rdr.set1 {w : World} {p : Nat} {R A : List UInt8} (h : Rdr w p R A) (r : List UInt8) : Rdr (w.setCell ⟨p, 1, none⟩ (.string (bs r))) p R r := by
  unfold Rdr at *
  simp [World.setCell, Array.getElem?_modify, h]
theorem Rdr.lt {w : World} {p : Nat} {R A : List UInt8} (h : Rdr w p R A) : p < w.heap.size := (Array.getElem?_eq_some_iff.1 h).1
theorem knum_any {p : Nat} {R A : List UInt8} (hl : R.length ≤ 16777216) (W : World) (hR : Rdr W p R A) :
    Calls Try.prog 97 #[.pointer (some ⟨p, 0, none⟩)] W fun e w' => e = .returned (.int .u64 (Nm.takeN R : Nat)) ∧ Rdr w' p (Nm.takeR R) A ∧ KBut p W w' := by
  have c0 := blk_cell hR 0
  simp only [List.getElem?_toArray, List.getElem?_cons_zero] at c0
  have hc := take_any (bs R) (by rw [fbs_size]; unfold maxLen; omega)
  rw [bs_data] at hc
  have HR := Lib.hid hR
  have HC := Lib.hid hc
  clear hR hc
  go_enter Try.func97, Try.ntmps97
  go_wp2_with fail
  refine (HC.out _).mono ?_
  rintro e w1 ⟨rfl, g1⟩
  have hR1 := HR.out.kept g1
  have f1 := blk_soft hR1 0
  have d1 := blk_cell hR1 0
  simp only [List.getElem?_toArray, List.getElem?_cons_zero] at d1
  have HR1 := Lib.hid hR1
  clear hR1
  go_wp2_with fail
  go_ret
  exact ⟨rfl, HR1.out.set _, (KBut.kept g1).trans (KBut.set p 0 w1 _)⟩
theorem kpiece_any {p n : Nat} {R A : List UInt8} (hn : n ≤ 18446744073709551615) (hl : R.length ≤ 16777216) (W : World) (hR : Rdr W p R A) :
    Calls Try.prog 100 #[.pointer (some ⟨p, 0, none⟩), .int .u64 n] W fun e w' => e = .returned (.string (bs (Bk.pc n R).1)) ∧ Rdr w' p (Bk.pc n R).2 A ∧ KBut p W w' := by
  have c0 := blk_cell hR 0
  have f0 := blk_soft hR 0
  simp only [List.getElem?_toArray, List.getElem?_cons_zero] at c0
  have hz := fbs_size R
  have hz1 : (bs R).size ≤ 16777216 := by omega
  have hw : IntKind.u64.wrap ((bs R).size : Int) = ((bs R).size : Int) := by rw [IntKind.wrap_u64]; omega
  by_cases h1 : 100 < n
  · have d1 : decide ((100 : Int) < (n : Int)) = true := decide_eq_true (by omega)
    have hp : Bk.pc n R = ([], []) := by unfold Bk.pc; rw [if_neg (by omega)]
    rw [hp]
    have HR := Lib.hid hR
    clear hR hz hp hw
    go_enter Try.func100, Try.ntmps100
    go_wp2_with fail
    go_ret
    exact ⟨rfl, HR.out.set [], KBut.set p 0 W _⟩
  · have d1 : decide ((100 : Int) < (n : Int)) = false := decide_eq_false (by omega)
    by_cases h2 : R.length < n
    · have d2 : decide (((bs R).size : Int) < (n : Int)) = true := decide_eq_true (by omega)
      have hp : Bk.pc n R = ([], []) := by unfold Bk.pc; rw [if_neg (by omega)]
      rw [hp]
      have HR := Lib.hid hR
      clear hR hz hp hw
      go_enter Try.func100, Try.ntmps100
      go_wp2_with fail
      go_ret
      exact ⟨rfl, HR.out.set [], KBut.set p 0 W _⟩
    · have d2 : decide (((bs R).size : Int) < (n : Int)) = false := decide_eq_false (by omega)
      have hp : Bk.pc n R = (R.take n, R.drop n) := by unfold Bk.pc; rw [if_pos (by omega)]
      rw [hp]
      have hz2 : n ≤ (bs R).size := by omega
      have hx : (bs R).extract 0 n = bs (R.take n) := extract_take R n
      have hy : (bs R).extract n (bs R).size = bs (R.drop n) := extract_drop R n
      have HR := Lib.hid hR; have HX := Lib.hid hx; have HY := Lib.hid hy
      clear hR hx hy hz hp hw
      go_enter Try.func100, Try.ntmps100
      go_wp2_with fail
      go_ret
      rw [HY.out]
      exact ⟨by rw [← HX.out]; rfl, HR.out.set _, KBut.set p 0 W _⟩
theorem ktext_any {p : Nat} {R A : List UInt8} (hl : R.length ≤ 16777216) (W : World) (hR : Rdr W p R A) :
    Calls Try.prog 98 #[.pointer (some ⟨p, 0, none⟩)] W fun e w' => e = .returned (.string (bs (Bk.tx R).1)) ∧ Rdr w' p (Bk.tx R).2 A ∧ KBut p W w' := by
  have h1 := takeR_le R
  have h2 := takeN_lt R
  have HR := Lib.hid hR
  unfold Bk.tx
  clear hR
  go_enter Try.func98, Try.ntmps98
  go_wp2_with fail
  refine (knum_any hl _ HR.out).mono ?_
  rintro e w1 ⟨rfl, r1, g1⟩
  go_wp2_with fail
  refine (kpiece_any (by omega) (by omega) _ r1).mono ?_
  rintro e w2 ⟨rfl, r2, g2⟩
  go_wp2_with fail
  go_ret
  exact ⟨rfl, r2, g1.trans g2⟩
theorem kmark_eq (l : List UInt8) : ((bs l).toList == [1]) = decide (l = [1]) := by
  rw [Lib.toList_data, bs_data]
  rw [Bool.eq_iff_iff]; simp
theorem kmarked_any {p : Nat} {R A : List UInt8} (hl : R.length ≤ 16777216) (W : World) (hR : Rdr W p R A) :
    Calls Try.prog 99 #[.pointer (some ⟨p, 0, none⟩)] W fun e w' => e = .returned (.bool (decide ((Bk.pc 1 R).1 = [1]))) ∧ Rdr w' p (Bk.pc 1 R).2 A ∧ KBut p W w' := by
  have hp := kpiece_any (n := 1) (by omega) hl W hR
  have hm := kmark_eq (Bk.pc 1 R).1
  generalize Bk.pc 1 R = q at *
  have HP := Lib.hid hp
  clear hp hR
  go_enter Try.func99, Try.ntmps99
  go_wp2_with fail
  refine HP.out.mono ?_
  rintro e w1 ⟨rfl, r1, g1⟩
  go_wp2_with fail
  go_ret
  exact ⟨rfl, r1, g1⟩
/-- what stays while an entry is read: the reader, the result's block, and the entry's own one behind it -/
structure RS (W0 : World) (p : Nat) (R A : List UInt8) (ky : List UInt8) (sq : Nat) (d : Bool) (vl : List UInt8) (W : World) : Prop where
  rd : Rdr W p R A
  res : W.heap[W0.heap.size]? = some (.cells #[.string ⟨#[]⟩, .int .u64 0, .bool false, .string ⟨#[]⟩] 37 (0, 0))
  ent : W.heap[W0.heap.size + 1]? = some (.cells #[.string (bs ky), .int .u64 (sq : Nat), .bool d, .string (bs vl)] 37 (0, 0))
  but : KBut p W0 W
  lt : p < W0.heap.size
section
variable {W0 W W' : World} {p : Nat} {R A R' A' ky vl : List UInt8} {sq : Nat} {d : Bool}
theorem RS.next (h : RS W0 p R A ky sq d vl W) (h1 : Rdr W' p R' A') (h2 : KBut p W W') : RS W0 p R' A' ky sq d vl W' :=
  ⟨h1, h2.at h.res (by have := h.lt; omega), h2.at h.ent (by have := h.lt; omega), h.but.trans h2, h.lt⟩
theorem RS.drew (h : RS W0 p R A ky sq d vl W) (n : Nat) : RS W0 p R A ky sq d vl (W.drewN n) := h.next (h.rd.kept (kept_drewN _ _)) (KBut.kept (kept_drewN _ _))
theorem RS.c1 (h : RS W0 p R A ky sq d vl W) : W.cell? ⟨p, 1, none⟩ = some (.string (bs A)) := blk_cell h.rd 1
theorem RS.cells (h : RS W0 p R A ky sq d vl W) : W.cell? ⟨W0.heap.size + 1, 0, none⟩ = some (.string (bs ky)) ∧ W.cell? ⟨W0.heap.size + 1, 1, none⟩ = some (.int .u64 (sq : Nat)) ∧ W.cell? ⟨W0.heap.size + 1, 2, none⟩ = some (.bool d) ∧ W.cell? ⟨W0.heap.size + 1, 3, none⟩ = some (.string (bs vl)) :=
  ⟨blk_cell h.ent 0, blk_cell h.ent 1, blk_cell h.ent 2, blk_cell h.ent 3⟩
theorem RS.soft (h : RS W0 p R A ky sq d vl W) : (∀ j, W.frozen? ⟨W0.heap.size + 1, j, none⟩ = false) ∧ (∀ j, W.frozen? ⟨W0.heap.size, j, none⟩ = false) ∧ ∀ j, W.frozen? ⟨p, j, none⟩ = false :=
  ⟨fun j => blk_soft h.ent j, fun j => blk_soft h.res j, fun j => blk_soft h.rd j⟩
theorem RS.setK (h : RS W0 p R A ky sq d vl W) (k : List UInt8) : RS W0 p R A k sq d vl (W.setCell ⟨W0.heap.size + 1, 0, none⟩ (.string (bs k))) := by
  have hl := h.lt
  refine ⟨(Below.heap_setCell _ _ _ _ (fun (e : p = W0.heap.size + 1) => by omega)).trans h.rd, (Below.heap_setCell _ _ _ _ (fun (e : W0.heap.size = W0.heap.size + 1) => by omega)).trans h.res, ?_, h.but.own (by omega) _ _, hl⟩
  have := h.ent
  simp [World.setCell, Array.getElem?_modify, this]
theorem RS.setS (h : RS W0 p R A ky sq d vl W) (k : Nat) : RS W0 p R A ky k d vl (W.setCell ⟨W0.heap.size + 1, 1, none⟩ (.int .u64 (k : Nat))) := by
  have hl := h.lt
  refine ⟨(Below.heap_setCell _ _ _ _ (fun (e : p = W0.heap.size + 1) => by omega)).trans h.rd, (Below.heap_setCell _ _ _ _ (fun (e : W0.heap.size = W0.heap.size + 1) => by omega)).trans h.res, ?_, h.but.own (by omega) _ _, hl⟩
  have := h.ent
  simp [World.setCell, Array.getElem?_modify, this]
theorem RS.setD (h : RS W0 p R A ky sq d vl W) (k : Bool) : RS W0 p R A ky sq k vl (W.setCell ⟨W0.heap.size + 1, 2, none⟩ (.bool k)) := by
  have hl := h.lt
  refine ⟨(Below.heap_setCell _ _ _ _ (fun (e : p = W0.heap.size + 1) => by omega)).trans h.rd, (Below.heap_setCell _ _ _ _ (fun (e : W0.heap.size = W0.heap.size + 1) => by omega)).trans h.res, ?_, h.but.own (by omega) _ _, hl⟩
  have := h.ent
  simp [World.setCell, Array.getElem?_modify, this]
theorem RS.setV (h : RS W0 p R A ky sq d vl W) (k : List UInt8) : RS W0 p R A ky sq d k (W.setCell ⟨W0.heap.size + 1, 3, none⟩ (.string (bs k))) := by
  have hl := h.lt
  refine ⟨(Below.heap_setCell _ _ _ _ (fun (e : p = W0.heap.size + 1) => by omega)).trans h.rd, (Below.heap_setCell _ _ _ _ (fun (e : W0.heap.size = W0.heap.size + 1) => by omega)).trans h.res, ?_, h.but.own (by omega) _ _, hl⟩
  have := h.ent
  simp [World.setCell, Array.getElem?_modify, this]
theorem RS.setA (h : RS W0 p R A ky sq d vl W) (k : List UInt8) : RS W0 p R k ky sq d vl (W.setCell ⟨p, 1, none⟩ (.string (bs k))) :=
  h.next (h.rd.set1 k) (KBut.set p 1 W _)
end
theorem rs_new {W : World} {p : Nat} {R A : List UInt8} (h : Rdr W p R A) : RS W p R A [] 0 false [] ((W.alloc (.cells #[.string ⟨#[]⟩, .int .u64 0, .bool false, .string ⟨#[]⟩] 37)).alloc (.cells #[.string ⟨#[]⟩, .int .u64 0, .bool false, .string ⟨#[]⟩] 37)) := by
  have k : Kept W ((W.alloc (.cells #[.string ⟨#[]⟩, .int .u64 0, .bool false, .string ⟨#[]⟩] 37)).alloc (.cells #[.string ⟨#[]⟩, .int .u64 0, .bool false, .string ⟨#[]⟩] 37)) := ((Kept.refl W).alloc _).alloc _
  refine ⟨h.kept k, ?_, ?_, KBut.kept k, h.lt⟩
  · refine (Below.block ((Kept.refl _).alloc _) _ (by simp)).trans ?_
    show (W.heap.push _)[W.heap.size]? = _
    exact Array.getElem?_push_size
  · have : (W.alloc (.cells #[.string ⟨#[]⟩, .int .u64 0, .bool false, .string ⟨#[]⟩] 37)).heap.size = W.heap.size + 1 := by simp
    rw [← this]
    show ((W.alloc _).heap.push _)[(W.alloc _).heap.size]? = _
    exact Array.getElem?_push_size
theorem Rdr.other {w : World} {p : Nat} {R A : List UInt8} (h : Rdr w p R A) {q : Nat} (hq : q ≠ p) (j : Nat) (x : Value) : Rdr (w.setCell ⟨q, j, none⟩ x) p R A :=
  (Below.heap_setCell _ _ _ _ (fun (e : p = q) => hq e.symm)).trans h
theorem RS.fin {W0 W : World} {p : Nat} {R A ky vl : List UInt8} {sq : Nat} {d : Bool} (h : RS W0 p R A ky sq d vl W) (x y z u : Value) :
    Rdr ((((W.setCell ⟨W0.heap.size, 0, none⟩ x).setCell ⟨W0.heap.size, 1, none⟩ y).setCell ⟨W0.heap.size, 2, none⟩ z).setCell ⟨W0.heap.size, 3, none⟩ u) p R A ∧ KBut p W0 ((((W.setCell ⟨W0.heap.size, 0, none⟩ x).setCell ⟨W0.heap.size, 1, none⟩ y).setCell ⟨W0.heap.size, 2, none⟩ z).setCell ⟨W0.heap.size, 3, none⟩ u) := by
  have hl := h.lt
  exact ⟨(((h.rd.other (by omega) _ _).other (by omega) _ _).other (by omega) _ _).other (by omega) _ _, (((h.but.own (Nat.le_refl _) _ _).own (Nat.le_refl _) _ _).own (Nat.le_refl _) _ _).own (Nat.le_refl _) _ _⟩
theorem rs_num {W0 : World} {p : Nat} {R A ky vl : List UInt8} {sq : Nat} {d : Bool} (hl : R.length ≤ 16777216) (W : World) (h : RS W0 p R A ky sq d vl W) :
    Calls Try.prog 97 #[.pointer (some ⟨p, 0, none⟩)] W fun e w' => e = .returned (.int .u64 (Nm.takeN R : Nat)) ∧ RS W0 p (Nm.takeR R) A ky sq d vl w' :=
  (knum_any hl W h.rd).mono fun e w' ⟨h1, h2, h3⟩ => ⟨h1, h.next h2 h3⟩
theorem rs_text {W0 : World} {p : Nat} {R A ky vl : List UInt8} {sq : Nat} {d : Bool} (hl : R.length ≤ 16777216) (W : World) (h : RS W0 p R A ky sq d vl W) :
    Calls Try.prog 98 #[.pointer (some ⟨p, 0, none⟩)] W fun e w' => e = .returned (.string (bs (Bk.tx R).1)) ∧ RS W0 p (Bk.tx R).2 A ky sq d vl w' :=
  (ktext_any hl W h.rd).mono fun e w' ⟨h1, h2, h3⟩ => ⟨h1, h.next h2 h3⟩
theorem rs_mark {W0 : World} {p : Nat} {R A ky vl : List UInt8} {sq : Nat} {d : Bool} (hl : R.length ≤ 16777216) (W : World) (h : RS W0 p R A ky sq d vl W) :
    Calls Try.prog 99 #[.pointer (some ⟨p, 0, none⟩)] W fun e w' => e = .returned (.bool (decide ((Bk.pc 1 R).1 = [1]))) ∧ RS W0 p (Bk.pc 1 R).2 A ky sq d vl w' :=
  (kmarked_any hl W h.rd).mono fun e w' ⟨h1, h2, h3⟩ => ⟨h1, h.next h2 h3⟩
theorem kentry_any {p : Nat} {R A : List UInt8} (hl : R.length ≤ 16777216) (ha : A.length ≤ 16777216) (W : World) (hR : Rdr W p R A) :
    Calls Try.prog 94 #[.pointer (some ⟨p, 0, none⟩)] W fun e w' => e = .returned (entV (Bk.rdE A R).1) ∧ Rdr w' p (Bk.rdE A R).2 (Bk.rdE A R).1.key ∧ KBut p W w' := by
  have HI := Lib.hid (rs_new hR)
  have hN := takeN_lt R
  have hRl := takeR_le R
  have hAz := fbs_size A
  have hAz1 : (bs A).size ≤ 16777216 := by omega
  obtain ⟨M, hM⟩ : ∃ M : Nat, M = min (Nm.takeN R) A.length := ⟨_, rfl⟩
  have hmn : min (Nm.takeN R : Int) ((bs A).size : Int) = (M : Int) := by rw [hAz]; omega
  have hMA : M ≤ (bs A).size := by omega
  have hw : IntKind.u64.wrap ((bs A).size : Int) = ((bs A).size : Int) := by rw [IntKind.wrap_u64]; omega
  have h2 := tx_le (Nm.takeR R)
  have h3 := takeR_le (Bk.tx (Nm.takeR R)).2
  have h4 := pc_le 1 (Nm.takeR (Bk.tx (Nm.takeR R)).2)
  have h5 := tx_le (Bk.pc 1 (Nm.takeR (Bk.tx (Nm.takeR R)).2)).2
  have hN2 := takeN_lt (Bk.tx (Nm.takeR R)).2
  have HE := Lib.hid (show Bk.rdE A R = (⟨A.take M ++ (Bk.tx (Nm.takeR R)).1, Nm.takeN (Bk.tx (Nm.takeR R)).2, decide ((Bk.pc 1 (Nm.takeR (Bk.tx (Nm.takeR R)).2)).1 = [1]), (Bk.tx (Bk.pc 1 (Nm.takeR (Bk.tx (Nm.takeR R)).2)).2).1⟩, (Bk.tx (Bk.pc 1 (Nm.takeR (Bk.tx (Nm.takeR R)).2)).2).2) by rw [hM]; rfl)
  have HNUM := Lib.hid (fun W2 h => rs_num (W0 := W) (p := p) (R := R) (A := A) (ky := []) (sq := 0) (d := false) (vl := []) hl W2 h)
  have HTX := Lib.hid (fun W2 h => rs_text (W0 := W) (p := p) (R := Nm.takeR R) (A := A) (ky := []) (sq := 0) (d := false) (vl := []) (by omega) W2 h)
  generalize Nm.takeN R = N1 at *
  generalize Nm.takeR R = R1 at *
  generalize Bk.tx R1 = T1 at *
  obtain ⟨t1, R2⟩ := T1
  simp only at *
  have HNUM2 := Lib.hid (fun W2 h => rs_num (W0 := W) (p := p) (R := R2) (A := A) (ky := A.take M ++ t1) (sq := 0) (d := false) (vl := []) (by omega) W2 h)
  generalize Nm.takeN R2 = N2 at *
  generalize Nm.takeR R2 = R3 at *
  have HMK := Lib.hid (fun W2 h => rs_mark (W0 := W) (p := p) (R := R3) (A := A) (ky := A.take M ++ t1) (sq := N2) (d := false) (vl := []) (by omega) W2 h)
  generalize Bk.pc 1 R3 = P4 at *
  obtain ⟨m4, R4⟩ := P4
  simp only at *
  generalize decide (m4 = [1]) = D at *
  have HTX2 := Lib.hid (fun W2 h => rs_text (W0 := W) (p := p) (R := R4) (A := A) (ky := A.take M ++ t1) (sq := N2) (d := D) (vl := []) (by omega) W2 h)
  generalize Bk.tx R4 = T5 at *
  obtain ⟨t5, R5⟩ := T5
  simp only at *
  have hx : (bs A).extract 0 M = bs (A.take M) := extract_take A M
  have z1 : (bs (A.take M)).size ≤ 16777216 := by rw [fbs_size, List.length_take]; omega
  have z2 : (bs t1).size ≤ 100 := by rw [fbs_size]; omega
  have hs1 : ∀ W, (Op.stringOp .add (bs (A.take M)) (bs t1)).run Try.prog W = .ok (.string (bs (A.take M ++ t1))) W := fun W => by
    have := run_string_add_sum (P := Try.prog) W (bs (A.take M)) (bs t1) (by omega)
    rw [fbs_app] at this
    exact this
  generalize A.take M ++ t1 = K1 at *
  have hlen2 := HI.out.lt
  have I0 := Lib.hid (HI.out.drew 1)
  have c1 := HI.out.c1
  rw [HE.out]
  clear hR hM hAz
  go_enter Try.func94, Try.ntmps94
  go_wp2_with fail
  go_region_held3 (fun w' => w'.cell? ⟨p, 1, none⟩ = some (.string (bs A))) (first | exact RS.c1 (by assumption) | exact RS.c1 I0.out)
    ((go_at_call 97; refine (HNUM.out _ (by first | assumption | exact I0.out)).mono ?_; rintro e w6 ⟨rfl, i6⟩))
  have I1 := Lib.hid (i6.drew 1)
  have c1 := i6.c1
  have f1 := i6.soft.1 0
  clear HI HNUM I0 i6 hmn hw hAz1
  go_wp2_with fail
  go_region_with ((go_at_call 98; refine (HTX.out _ (by first | assumption | exact I1.out)).mono ?_; rintro e w7 ⟨rfl, i7⟩; have c7 := i7.c1; have f7 := i7.soft.1 0; have e7 := i7.cells.1))
  all_goals
    have I8 := Lib.hid (i7.setK K1)
    clear c1 f1 c7 f7 e7 i7 I1 hs1 hx HTX
    go_wp2_with fail
    refine (HNUM2.out _ I8.out).mono ?_
    rintro e w9 ⟨rfl, i9⟩
    have f9 := i9.soft.1 1
    have e9 := i9.cells.2.1
    have I9 := Lib.hid (i9.setS N2)
    clear i9 I8 HNUM2
    go_wp2_with fail
    refine (HMK.out _ I9.out).mono ?_
    rintro e wA ⟨rfl, iA⟩
    have fA := iA.soft.1 2
    have eA := iA.cells.2.2.1
    have IA := Lib.hid (iA.setD D)
    clear iA I9 HMK f9 e9
    go_wp2_with fail
    refine (HTX2.out _ IA.out).mono ?_
    rintro e wB ⟨rfl, iB⟩
    have fB := iB.soft.1 3
    have eB := iB.cells.2.2.2
    have iC := iB.setV t5
    have c0 := iC.cells.1
    have c1 := iC.c1
    have f1 := iC.soft.2.2 1
    have iD := iC.setA K1
    obtain ⟨d0, d1, d2, d3⟩ := iD.cells
    have r := iD.res
    have r0 := blk_cell r 0; have r1 := blk_cell r 1; have r2 := blk_cell r 2; have r3 := blk_cell r 3
    have s0 := iD.soft.2.1 0; have s1 := iD.soft.2.1 1; have s2 := iD.soft.2.1 2; have s3 := iD.soft.2.1 3
    have ID := Lib.hid iD
    clear iB iC iD IA HTX2 fA eA
    go_wp2_with fail
    simp only [List.getElem?_toArray, List.getElem?_cons_zero, List.getElem?_cons_succ] at r0 r1 r2 r3
    refine bodyPost_ret (v := entV ⟨K1, N2, D, t5⟩) (by simp [results, Try.results94, entV, go_sem, r0, r1, r2, r3]) rfl ⟨rfl, ?_⟩
    exact ID.out.fin _ _ _ _
end Go.Proofs.Ytecjnebfhbdnaaa
