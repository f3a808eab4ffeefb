/-
  Leases in memory: a lease as a value, a list of leases, one that is owned; the document's leases likewise.
-/
import Derived.Test.YtdmnmbomijnjeaaColMath
import Derived.Test.YtdmnmbomijnjeaaNumLeaf
import Derived.Test.YtdmnmbomijnjeaaBytes
namespace Go.Proofs.Ytdmnmbomijnjeaa
open Go.ChangeShapes Go.WideShapes Go.ChangeAt Go.RowKit
set_option linter.unusedVariables false
set_option maxRecDepth 100000
set_option maxHeartbeats 1000000
open Co
theorem clbs_size (l : List UInt8) : (bs l).size = l.length := by simp [bs, ByteArray.size]
theorem clbs_self (s : ByteArray) : bs s.data.toList = s := (bs_of rfl).symm
theorem clbs_list (l : List UInt8) : (bs l).toList = l := by rw [Lib.toList_data]; rfl
theorem clcell {w : World} {b : Nat} {c : Array Value} {t : TypeId} {z : Nat × Nat} (h : w.heap[b]? = some (.cells c t z)) (j : Nat) {v : Value} (hv : c[j]? = some v) : w.cell? ⟨b, j, none⟩ = some v := by simp [World.cell?, h, hv]
theorem clsoft {w : World} {b : Nat} {c : Array Value} {t : TypeId} (h : w.heap[b]? = some (.cells c t (0, 0))) (j : Nat) : w.frozen? ⟨b, j, none⟩ = false := by
  simp [World.frozen?, h]
theorem cllt {w : World} {b : Nat} {o : Obj} (h : w.heap[b]? = some o) : b < w.heap.size := (Array.getElem?_eq_some_iff.1 h).1
theorem clhp {w w' : World} {b : Nat} {o : Obj} (h : w.heap[b]? = some o) (k : Kept w w') : w'.heap[b]? = some o := (Below.block k b (cllt h)).trans h
theorem clnew (w : World) (o : Obj) : (w.alloc o).heap[w.heap.size]? = some o := heap_alloc_new w o
def lsc (x : Ls) : List Value := [.int .u64 (x.i : Nat), .int .u64 (x.t : Nat), .int .u64 (x.u : Nat)]
def lsv (x : Ls) : Value := .agg #[.int .u64 (x.i : Nat), .int .u64 (x.t : Nat), .int .u64 (x.u : Nat)]
def lsl : List Ls → List Value
  | [] => []
  | x :: l => lsc x ++ lsl l
theorem lsl_len : ∀ (l : List Ls), (lsl l).length = l.length * 3
  | [] => rfl
  | x :: l => by simp only [lsl, List.length_append, lsl_len l, lsc, List.length_cons, List.length_nil]; omega
theorem lsl_app : ∀ (l m : List Ls), lsl (l ++ m) = lsl l ++ lsl m
  | [], m => rfl
  | x :: l, m => by simp only [List.cons_append, lsl, lsl_app l m, List.append_assoc]
theorem lsl_one (x : Ls) : lsl [x] = lsc x := by simp [lsl]
theorem lsl_get : ∀ {l : List Ls} {j : Nat} {x : Ls}, l[j]? = some x → ∀ i u, (lsc x)[i]? = some u → (lsl l)[j * 3 + i]? = some u
  | [], j, x, h, _, _, _ => by simp at h
  | y :: l, 0, x, h, i, u, hu => by
    simp at h; subst h
    have hi := (List.getElem?_eq_some_iff.1 hu).1
    rw [Nat.zero_mul, Nat.zero_add, lsl, List.getElem?_append_left (by exact hi)]
    exact hu
  | y :: l, j + 1, x, h, i, u, hu => by
    have := lsl_get (l := l) (j := j) (x := x) (by simpa using h) i u hu
    rw [lsl, List.getElem?_append_right (by simp [lsc]; omega)]
    simp only [lsc, List.length_cons, List.length_nil]
    rw [show (j + 1) * 3 + i - (0 + 1 + 1 + 1) = j * 3 + i by omega]
    exact this
/-- a lease at a place -/
def LsAt (w : World) (b o : Nat) (x : Ls) : Prop := w.cell? ⟨b, o, none⟩ = some (.int .u64 (x.i : Nat)) ∧ w.cell? ⟨b, o + 1, none⟩ = some (.int .u64 (x.t : Nat)) ∧ w.cell? ⟨b, o + 2, none⟩ = some (.int .u64 (x.u : Nat))
theorem LsAt.kept {w w' : World} {b o : Nat} {x : Ls} (h : LsAt w b o x) (k : Kept w w') (hb : b < w.heap.size) : LsAt w' b o x := by
  obtain ⟨h0, h1, h2⟩ := h
  exact ⟨by rw [kept_cell k hb]; exact h0, by rw [kept_cell k hb]; exact h1, by rw [kept_cell k hb]; exact h2⟩
/-- a list of leases in memory -/
def Lss (w : World) (A : Option Addr) (l : List Ls) : Prop := ∀ (j : Nat) (x : Ls), l[j]? = some x → ∃ b o, A = some ⟨b, o, none⟩ ∧ b < w.heap.size ∧ LsAt w b (o + j * 3) x
theorem Lss.kept {w w' : World} {A : Option Addr} {l : List Ls} (h : Lss w A l) (k : Kept w w') : Lss w' A l := fun j x hx => by
  obtain ⟨b, o, e, hb, h0⟩ := h j x hx
  exact ⟨b, o, e, Nat.lt_of_lt_of_le hb (Below.size k), h0.kept k hb⟩
theorem Lss.nil (w : World) (A : Option Addr) : Lss w A [] := fun j x hx => by simp at hx
theorem Lss.head {w : World} {A : Option Addr} {l : List Ls} (h : Lss w A l) (k : Nat) : Lss w A (l.take k) := fun j x hx => by
  have : l[j]? = some x := by
    rw [List.getElem?_take] at hx
    split at hx
    · exact hx
    · cases hx
  exact h j x this
/-- a list of leases in new memory -/
structure Lsr (n : Nat) (w : World) (A : Option Addr) (c : Nat) (l : List Ls) : Prop where
  lss : Lss w A l
  cap : l.length ≤ c
  most : c ≤ maxLen
theorem Lsr.kept {n c : Nat} {w w' : World} {A : Option Addr} {l : List Ls} (h : Lsr n w A c l) (k : Kept w w') : Lsr n w' A c l := ⟨h.lss.kept k, h.cap, h.most⟩
theorem lss_own {w : World} {base n : Nat} {e : TypeId} {v : Value} {l : List Ls} (h : w.ownsRow base e 3 v n (lsl l)) : ∃ A c, v = .slice A l.length c ∧ n = l.length ∧ Lsr base w A c l := by
  have hl : l.length = n := by have := h.1; rw [lsl_len] at this; omega
  rcases h.2 with ⟨e, e0⟩ | ⟨r, cap, cur, e, hbs, hb, hnc, _, _, htk⟩
  · have : l = [] := List.eq_nil_of_length_eq_zero (by omega)
    subst this
    exact ⟨none, 0, e, by omega, ⟨fun j x hx => by simp at hx, by simp, by simp⟩⟩
  · refine ⟨some ⟨r, 0, none⟩, cap, by rw [hl]; exact e, hl.symm, ⟨fun j x hx => ?_, by omega, by omega⟩⟩
    have hj := (List.getElem?_eq_some_iff.1 hx).1
    have hcell : ∀ i u, i < n * 3 → (lsl l)[i]? = some u → w.cell? ⟨r, i, none⟩ = some u := fun i u hi hu => by
      rw [← htk, List.getElem?_take, if_pos hi] at hu
      exact clcell hb i (by simpa using hu)
    have hg := lsl_get hx
    refine ⟨r, 0, rfl, cllt hb, ?_, ?_, ?_⟩
    · rw [Nat.zero_add]; exact hcell _ _ (by omega) (hg 0 _ rfl)
    · rw [Nat.zero_add]; exact hcell _ _ (by omega) (hg 1 _ rfl)
    · rw [Nat.zero_add]; exact hcell _ _ (by omega) (hg 2 _ rfl)
def zlsV : Value := .agg #[.int .u64 0, .int .u64 0, .int .u64 0]
theorem lsInfo : (Try.prog.info? 51).map (fun i => (i.zero, i.size, i.bytes)) = some (some zlsV, 3, 24) := by kernel_rfl
theorem rlsInfo : (Try.prog.info? 68).map (fun i => (i.zero, i.size, i.bytes)) = some (some zlsV, 3, 24) := by kernel_rfl
def OkLs (l : List Ls) : Prop := ∀ x ∈ l, x.i ≤ 18446744073709551615 ∧ x.t ≤ 18446744073709551615 ∧ x.u ≤ 18446744073709551615
theorem cladd_at (b o i : Nat) : (⟨b, o, none⟩ : Addr).add i = ⟨b, o + i, none⟩ := by
  unfold Addr.add; split <;> simp_all
theorem cladd_zero (a : Addr) : a.add 0 = a := by unfold Addr.add; simp
theorem claddr_at {w : World} {a : Addr} {v : Value} (h : w.cell? a = some v) : ∃ b o, a = ⟨b, o, none⟩ ∧ b < w.heap.size := by
  have hlt := World.block_lt_of_cell? w _ h
  obtain ⟨b, o, s⟩ := a
  cases s with
  | none => exact ⟨b, o, rfl, hlt⟩
  | some q =>
    unfold World.cell? at h
    split at h
    · simp at h
    · cases h
end Go.Proofs.Ytdmnmbomijnjeaa
