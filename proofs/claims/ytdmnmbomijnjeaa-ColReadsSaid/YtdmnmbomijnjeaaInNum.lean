/-
  The document's own reader of numbers (In.Num).
-/
import Derived.Test.YtdmnmbomijnjeaaNumRefTake
import Derived.Test.YtdmnmbomijnjeaaBytes
import Derived.Lib.Hide
namespace Go.Proofs.Ytdmnmbomijnjeaa
open Go.ChangeShapes Go.WideShapes Go.ChangeAt Go.RowKit
set_option linter.unusedVariables false
set_option maxRecDepth 100000
set_option maxHeartbeats 4000000
/-- all blocks but b are as they were; there may be new ones -/
structure IBut (b : Nat) (w w' : World) : Prop where
  os : w'.os = w.os
  tape : w'.tape = w.tape
  output : w'.output = w.output
  size : w.heap.size ≤ w'.heap.size
  block : ∀ k, k < w.heap.size → k ≠ b → w'.heap[k]? = w.heap[k]?
theorem IBut.kept {b : Nat} {w w' : World} (h : Kept w w') : IBut b w w' := ⟨h.os, h.tape, h.output, h.size, fun k hk _ => h.block k hk⟩
theorem IBut.trans {b : Nat} {w w1 w2 : World} (h : IBut b w w1) (k : IBut b w1 w2) : IBut b w w2 :=
  ⟨k.os.trans h.os, k.tape.trans h.tape, k.output.trans h.output, Nat.le_trans h.size k.size, fun i hi hn => (k.block i (Nat.lt_of_lt_of_le hi h.size) hn).trans (h.block i hi hn)⟩
theorem IBut.set (b j : Nat) (w : World) (x : Value) : IBut b w (w.setCell ⟨b, j, none⟩ x) :=
  ⟨rfl, rfl, rfl, by simp [World.setCell], fun k _ hn => Below.heap_setCell _ _ _ _ (fun e => hn e)⟩
theorem IBut.at {b : Nat} {w w' : World} (h : IBut b w w') {k : Nat} {o : Obj} (hk : w.heap[k]? = some o) (hn : k ≠ b) : w'.heap[k]? = some o :=
  (h.block k (Array.getElem?_eq_some_iff.1 hk).1 hn).trans hk
theorem IBut.own {b : Nat} {w w' : World} (h : IBut b w w') {B e size n : Nat} {v : Value} {xs : List Value} (ho : w.ownsRow B e size v n xs) (hb : v.ownBlock ≠ some b) : w'.ownsRow B e size v n xs :=
  ho.kept (row := some b) ⟨h.os, h.tape, h.output, h.size, fun k hk hn => h.block k hk (fun e => hn (by rw [e]))⟩ (.inr hb)
theorem IBut.new {b : Nat} {w0 w w' : World} (h : IBut b w w') (k : Kept w0 w) (hb : w0.heap.size ≤ b) : Kept w0 w' :=
  ⟨h.os.trans k.os, h.tape.trans k.tape, h.output.trans k.output, Nat.le_trans k.size h.size, fun i hi => (h.block i (Nat.lt_of_lt_of_le hi k.size) (by omega)).trans (k.block i hi)⟩
def inOk (R : List UInt8) (b : Bool) : Bool := !b && Nm.takeB R
def inN (R : List UInt8) (b : Bool) : Nat := if inOk R b then Nm.takeN R else 0
def inR (R : List UInt8) (b : Bool) : List UInt8 := if inOk R b then Nm.takeR R else R
def inB (R : List UInt8) (b : Bool) : Bool := !inOk R b
/-- the block p is a reader: what is left, and is something wrong? -/
def IRd (w : World) (p : Nat) (R : List UInt8) (b : Bool) : Prop := w.heap[p]? = some (.cells #[.string (bs R), .bool b] 76 (0, 0))
theorem IRd.kept {w w' : World} {p : Nat} {R : List UInt8} {b : Bool} (h : IRd w p R b) (k : Kept w w') : IRd w' p R b := (Below.block k p (Array.getElem?_eq_some_iff.1 h).1).trans h
theorem irset {w : World} {b : Nat} {c : Array Value} {t : TypeId} {z : Nat × Nat} (h : w.heap[b]? = some (.cells c t z)) (j : Nat) (x : Value) : (w.setCell ⟨b, j, none⟩ x).heap[b]? = some (.cells (c.setIfInBounds j x) t z) := by
  simp [World.setCell, Array.getElem?_modify, h]
theorem ircell {w : World} {b : Nat} {c : Array Value} {t : TypeId} {z : Nat × Nat} (h : w.heap[b]? = some (.cells c t z)) (j : Nat) {v : Value} (hv : c[j]? = some v) : w.cell? ⟨b, j, none⟩ = some v := by simp [World.cell?, h, hv]
theorem irsoft {w : World} {b : Nat} {c : Array Value} {t : TypeId} (h : w.heap[b]? = some (.cells c t (0, 0))) (j : Nat) : w.frozen? ⟨b, j, none⟩ = false := by
  simp [World.frozen?, h]
theorem irsize (l : List UInt8) : (bs l).size = l.length := by simp [bs, ByteArray.size]
theorem irnum_any {p : Nat} {R : List UInt8} {b : Bool} (hl : R.length ≤ 16777216) (W : World) (hR : IRd W p R b) :
    Calls Try.prog 38 #[.pointer (some ⟨p, 0, none⟩)] W fun e w' => e = .returned (.int .u64 (inN R b : Nat)) ∧ IRd w' p (inR R b) (inB R b) ∧ IBut p W w' := by
  have c0 := ircell hR 0 (v := .string (bs R)) (by rfl)
  have hc := rtake_any (bs R) (by rw [irsize]; unfold maxLen; omega)
  rw [bs_data] at hc
  have HR := Lib.hid hR
  have HC := Lib.hid hc
  unfold inN inR inB inOk
  have hnn : Nm.takeB R = false → bs (Nm.takeR R) = bs [] ∧ Nm.takeN R = 0 := fun h => by
    unfold Nm.takeB at h
    unfold Nm.takeR Nm.takeN
    cases hx : Nm.take R with
    | none => exact ⟨rfl, rfl⟩
    | some x => rw [hx] at h; cases h
  clear hR hc hnn
  generalize Nm.takeN R = n at *
  generalize Nm.takeR R = R1 at *
  generalize Nm.takeB R = B at *
  cases B with
  | false =>
    have e1 : (!b && false) = false := by simp
    rw [e1]
    go_enter Try.func38, Try.ntmps38
    go_wp2_with fail
    refine (HC.out _).mono ?_
    rintro e w1 ⟨rfl, g1⟩
    have hR1 := HR.out.kept g1
    have f1 := irsoft hR1 1
    have d1 := ircell hR1 1 (v := .bool b) (by rfl)
    have HR1 := Lib.hid hR1
    clear hR1
    go_wp2_with fail
    go_ret
    exact ⟨rfl, irset HR1.out 1 (.bool true), (IBut.kept g1).trans (IBut.set p 1 w1 _)⟩
  | true =>
    cases b with
    | true =>
      have e1 : (!true && true) = false := rfl
      rw [e1]
      go_enter Try.func38, Try.ntmps38
      go_wp2_with fail
      refine (HC.out _).mono ?_
      rintro e w1 ⟨rfl, g1⟩
      have hR1 := HR.out.kept g1
      have f1 := irsoft hR1 1
      have d1 := ircell hR1 1 (v := .bool true) (by rfl)
      have HR1 := Lib.hid hR1
      clear hR1
      go_wp2_with fail
      go_ret
      exact ⟨rfl, irset HR1.out 1 (.bool true), (IBut.kept g1).trans (IBut.set p 1 w1 _)⟩
    | false =>
      have e1 : (!false && true) = true := rfl
      rw [e1]
      go_enter Try.func38, Try.ntmps38
      go_wp2_with fail
      refine (HC.out _).mono ?_
      rintro e w1 ⟨rfl, g1⟩
      have hR1 := HR.out.kept g1
      have f1 := irsoft hR1 1
      have d1 := ircell hR1 1 (v := .bool false) (by rfl)
      have f0 := irsoft hR1 0
      have d0 := ircell hR1 0 (v := .string (bs R)) (by rfl)
      have HR1 := Lib.hid hR1
      clear hR1
      go_wp2_with fail
      go_ret
      exact ⟨rfl, irset HR1.out 0 (.string (bs R1)), (IBut.kept g1).trans (IBut.set p 0 w1 _)⟩
theorem inR_le (R : List UInt8) (b : Bool) : (inR R b).length ≤ R.length := by
  unfold inR
  split
  · unfold Nm.takeR
    cases h : Nm.take R with
    | none => simp
    | some x =>
      obtain ⟨n, r⟩ := x
      have := congrArg List.length (Nm.take_back _ _ _ h).1
      rw [List.length_append] at this
      simp; omega
  · exact Nat.le_refl _
theorem inN_lt (R : List UInt8) (b : Bool) : inN R b < 18446744073709551616 := by
  unfold inN
  split
  · unfold Nm.takeN
    cases h : Nm.take R with
    | none => simp
    | some x => obtain ⟨n, r⟩ := x; exact (Nm.take_back _ _ _ h).2
  · omega
theorem in_good {R : List UInt8} {b : Bool} (h : inB R b = false) : b = false ∧ Nm.takeB R = true ∧ inN R b = Nm.takeN R ∧ inR R b = Nm.takeR R := by
  unfold inB at h
  have ho : inOk R b = true := by simpa using h
  unfold inN inR
  rw [if_pos ho, if_pos ho]
  unfold inOk at ho
  simp at ho
  exact ⟨ho.1, ho.2, rfl, rfl⟩
theorem in_yes {R : List UInt8} (h : Nm.takeB R = true) : inB R false = false ∧ inN R false = Nm.takeN R ∧ inR R false = Nm.takeR R := by
  have ho : inOk R false = true := by unfold inOk; rw [h]; rfl
  unfold inB inN inR
  rw [ho]
  exact ⟨rfl, rfl, rfl⟩
end Go.Proofs.Ytdmnmbomijnjeaa
