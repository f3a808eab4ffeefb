/-
  Several small texts as one.
-/
import Derived.Test.YtecjnebfhbdnaaaPackMath
import Derived.Test.YtecjnebfhbdnaaaBuilder
import Derived.WalkMore
import Derived.Deep.Strs
/-
  What the functions of package frame compute, each for every input: the seal, Make, Take, All, Join.
-/
namespace Go.Proofs.Ytecjnebfhbdnaaa
open Go.ChangeShapes Go.WideShapes Go.ChangeAt Go.RowKit
set_option linter.unusedVariables false
set_option maxRecDepth 100000
set_option maxHeartbeats 400000

theorem b_xor8 (a b : UInt8) : bits BinOp.xor IntKind.u8 ((a.toNat : Nat) : Int) ((b.toNat : Nat) : Int) = (((a ^^^ b).toNat : Nat) : Int) := by
  rw [u8_xor_nat _ _ a.toNat_lt b.toNat_lt, UInt8.toNat_xor]
theorem seal_step (s : ByteArray) (k : Nat) (h : k < s.size) : Fr.sealOf (s.data.toList.take (k + 1)) = Fr.sealOf (s.data.toList.take k) ^^^ s[k] := by
  rw [Nm.take_snoc' _ k (by simpa using h), Fr.sealOf_snoc, getD_of s k h]
theorem fbs_app (a b : List UInt8) : bs a ++ bs b = bs (a ++ b) := bs_of (by simp [bs, ByteArray.data_append])
theorem fbs_size (l : List UInt8) : (bs l).size = l.length := by simp [bs, ByteArray.size]
theorem fbs_self (s : ByteArray) : bs s.data.toList = s := (bs_of rfl).symm
/-- Take, where the bytes begin with a number -/
theorem takeT_ok {s t r : List UInt8} (h : Fr.take s = some (t, r)) : Fr.takeT s = t ∧ Fr.takeR s = r ∧ Fr.takeE s = 0 := by
  have hn : s ≠ [] := by rintro rfl; cases h
  unfold Fr.takeT Fr.takeR Fr.takeE
  rw [h, if_neg hn]; exact ⟨rfl, rfl, rfl⟩
theorem takeT_no {s : List UInt8} (hn : s ≠ []) (h : Fr.take s = none) : Fr.takeT s = [] ∧ Fr.takeR s = [] ∧ Fr.takeE s = 2 := by
  unfold Fr.takeT Fr.takeR Fr.takeE
  rw [h, if_neg hn]; exact ⟨rfl, rfl, rfl⟩
theorem take_of_num {s : List UInt8} {n : Nat} {b : List UInt8} (h : Nm.take s = some (n, b)) : Fr.take s = if n ≤ 8000 ∧ n < b.length ∧ b.getD n 0 = Fr.sealOf (b.take n) then some (b.take n, b.drop (n + 1)) else none := by
  unfold Fr.take; rw [h]
theorem extract_take (b : List UInt8) (n : Nat) : (bs b).extract 0 n = bs (b.take n) := bs_of (by simp [bs])
theorem extract_drop (b : List UInt8) (n : Nat) : (bs b).extract n (bs b).size = bs (b.drop n) := by rw [extract_end]; rfl
theorem fquiet_l {P : Program} {f : FuncId} {args : Array Value} {w : World} {n : Nat} {v : Value} (h : Calls P f args (w.drewN n) fun e w' => e = .returned v ∧ w.drewN n = w') :
    Calls P f args (w.drewN n) fun e w'' => e = .returned v ∧ ∃ m, w'' = w.drewN m := h.mono fun _ _ k => ⟨k.1, n, k.2.symm⟩
theorem ntake_some {s : ByteArray} (hs : s.size ≤ maxLen) {n : Nat} {b : List UInt8} (h : Nm.take s.data.toList = some (n, b)) (w : World) :
    Calls Try.prog 89 #[.string s] w fun e w' => e = .returned (.tuple #[.int .u64 n, .string (bs b), .bool true]) ∧ Kept w w' := by
  have := take_any s hs w
  unfold Nm.takeN Nm.takeR Nm.takeB at this
  rw [h] at this
  exact this
theorem ntake_none {s : ByteArray} (hs : s.size ≤ maxLen) (h : Nm.take s.data.toList = none) (w : World) :
    Calls Try.prog 89 #[.string s] w fun e w' => e = .returned (.tuple #[.int .u64 0, .string (bs []), .bool false]) ∧ Kept w w' := by
  have := take_any s hs w
  unfold Nm.takeN Nm.takeR Nm.takeB at this
  rw [h] at this
  exact this
end Go.Proofs.Ytecjnebfhbdnaaa

/-
  What All and Join of package frame compute, each for every input up to 16777216 bytes; lists of texts in memory.
-/
namespace Go.Proofs.Ytecjnebfhbdnaaa
open Go.ChangeShapes Go.WideShapes Go.ChangeAt Go.RowKit
set_option linter.unusedVariables false
set_option maxRecDepth 100000
set_option maxHeartbeats 400000

/-- a list of texts that lies in memory -/
def Txs (w : World) (A : Option Addr) (l : List (List UInt8)) : Prop := ∀ (j : Nat) (x : List UInt8), l[j]? = some x → ∃ b o, A = some ⟨b, o, none⟩ ∧ b < w.heap.size ∧ w.cell? ⟨b, o + j, none⟩ = some (.string (bs x))
theorem Txs.kept {w w' : World} {A : Option Addr} {l : List (List UInt8)} (h : Txs w A l) (k : Kept w w') : Txs w' A l := fun j x hx => by
  obtain ⟨b, o, e, hb, hc⟩ := h j x hx
  exact ⟨b, o, e, Nat.lt_of_lt_of_le hb (Below.size k), by rw [kept_cell k hb]; exact hc⟩
theorem Txs.take {w : World} {A : Option Addr} {l : List (List UInt8)} (h : Txs w A l) (n : Nat) : Txs w A (l.take n) := fun j x hx => h j x (by
  rw [List.getElem?_take] at hx
  split at hx
  · exact hx
  · cases hx)
def txc (l : List (List UInt8)) : List Value := l.map fun x => Value.string (bs x)
theorem txc_len (l : List (List UInt8)) : (txc l).length = l.length := by simp [txc]
theorem txs_own {w : World} {base n : Nat} {v : Value} {l : List (List UInt8)} (h : w.ownsRow base 9 1 v n (txc l)) : ∃ A c, v = .slice A l.length c ∧ n = l.length ∧ Txs w A l := by
  have hl : l.length = n := by have := h.1; simpa [txc_len] using this
  rcases h.2 with ⟨e, e0⟩ | ⟨r, cap, cur, e, hbs, hb, hnc, _, _, htk⟩
  · have : l = [] := List.eq_nil_of_length_eq_zero (by omega)
    subst this
    exact ⟨none, 0, e, by omega, fun j x hx => by simp at hx⟩
  · refine ⟨some ⟨r, 0, none⟩, cap, by rw [hl]; exact e, hl.symm, fun j x hx => ?_⟩
    have hj := (List.getElem?_eq_some_iff.1 hx).1
    refine ⟨r, 0, rfl, (Array.getElem?_eq_some_iff.1 hb).1, ?_⟩
    rw [Nat.zero_add, blk_cell hb]
    have e1 : (cur.toList.take (n * 1))[j]? = some (.string (bs x)) := by rw [htk]; unfold txc; rw [List.getElem?_map, hx]; rfl
    rw [List.getElem?_take] at e1
    split at e1
    · simpa using e1
    · cases e1
theorem ftInfo : (Try.prog.info? 9).map (fun i => (i.zero, i.size, i.bytes)) = some (some (.string ByteArray.empty), 1, 16) := by kernel_rfl
theorem cell_new1 (w : World) (x : Value) (t : TypeId) : ∀ j u, [x][j]? = some u → (w.alloc (.cells #[x] t)).cell? ((⟨w.heap.size, 0, none⟩ : Addr).add j) = some u := by
  intro j u hj
  cases j with
  | zero => simp at hj; subst hj; rw [addr_add]; simp
  | succ j => simp at hj
def strLen : Value → Nat
  | .string s => s.size
  | _ => 0
theorem takeE_none {r : List UInt8} (h : Fr.take r = none) : (Fr.takeE r == 0) = false := by
  unfold Fr.takeE
  rw [h]
  split <;> rfl
theorem fall_len {s : List UInt8} {l : List (List UInt8)} {r : List UInt8} (h : Fr.Reads s l r) (k : Nat) : (Fr.join (l.drop k) ++ r).length ≤ s.length := by
  have e : Fr.join l = Fr.join (l.take k) ++ Fr.join (l.drop k) := by rw [← Fr.join_app, List.take_append_drop]
  rw [h.eq, e]
  simp only [List.length_append]; omega
theorem joinS_yes {l : List (List UInt8)} (h : Fr.Fit l) : Fr.joinS l = Fr.join l ∧ Fr.joinE l = 0 := by
  have : l.all (fun t => decide (t.length ≤ 8000)) = true := List.all_eq_true.2 fun t ht => by simpa using h t ht
  unfold Fr.joinS Fr.joinE
  rw [this]; exact ⟨rfl, rfl⟩
theorem joinS_no {l : List (List UInt8)} {t : List UInt8} (ht : t ∈ l) (h : ¬ t.length ≤ 8000) : Fr.joinS l = [] ∧ Fr.joinE l = 5 := by
  have : l.all (fun t => decide (t.length ≤ 8000)) = false := by
    rw [List.all_eq_false]
    exact ⟨t, ht, by simpa using h⟩
  unfold Fr.joinS Fr.joinE
  rw [this]; exact ⟨rfl, rfl⟩
theorem joined_len {l : List (List UInt8)} (k : Nat) (hl : l.length ≤ 2000) (h : Fr.Fit (l.take k)) : (Fr.join (l.take k)).length ≤ 16006000 := by
  have h1 := Fr.join_most _ h
  have h3 : (l.take k).length ≤ l.length := by rw [List.length_take]; omega
  omega
end Go.Proofs.Ytecjnebfhbdnaaa

/-
  What the helpers of the statements of layer 4 tell: awake, large, texts.
-/
namespace Go.Proofs.Ytecjnebfhbdnaaa
open Go.ChangeShapes Go.WideShapes Go.ChangeAt Go.RowKit
set_option linter.unusedVariables false
set_option maxRecDepth 100000
set_option maxHeartbeats 400000

def zeros8 : List UInt8 := List.replicate 8001 0
theorem zeros8_len : zeros8.length = 8001 := List.length_replicate
theorem zeros_cells (n : Nat) : madeCells (Value.int .u8 0).cells (n * 1) = (cellsOf (List.replicate n 0)).toArray := by
  apply Array.ext
  · rw [size_madeCells]; simp [cellsOf]
  · intro i h1 h2
    simp [madeCells, Value.cells, Nat.mod_one, cellsOf]
theorem zeros8_cells : madeCells (Value.int .u8 0).cells (8001 * 1) = (cellsOf zeros8).toArray := zeros_cells 8001
theorem zeros8_make (wx : World) : (Instr.makeSlice 52 (.int .i64 8001) (.int .i64 8001)).run Try.prog wx = .ok (.slice (some ⟨wx.heap.size, 0, none⟩) 8001 8001) (wx.alloc (.cells (cellsOf zeros8).toArray 5)) := by
  obtain ⟨i0, hi, hz0, hz1, hz2⟩ := info_parts info5
  have := run_make (P := Try.prog) wx 52 5 i0 (.int .u8 0) Try.underlying52 hi hz0 .i64 .i64 8001 8001 (by omega) (by omega) (by rw [hz2]; omega) (by omega)
  rw [show (8001 : Int).toNat = 8001 from rfl, hz1, zeros8_cells] at this
  exact this
end Go.Proofs.Ytecjnebfhbdnaaa

/-
  FrameTakes and FrameOne of the statements of layer 4 return true, whatever strings.
-/
namespace Go.Proofs.Ytecjnebfhbdnaaa
open Go.ChangeShapes Go.WideShapes Go.ChangeAt Go.RowKit
set_option linter.unusedVariables false
set_option maxRecDepth 100000
set_option maxHeartbeats 1000000

theorem nil_beq (r : List UInt8) : ((bs r).toList == []) = decide (r = []) := by
  rw [Lib.toList_data, bs_data]
  cases r with
  | nil => rfl
  | cons x r => simp
/-- two frames, as far as the shorter one goes -/
theorem one_min (a b : List UInt8) (ha : a.length ≤ 8000) (hb : b.length ≤ 8000) : (((bs (Fr.mk a)).extract 0 (min (bs (Fr.mk a)).size (bs (Fr.mk b)).size)).toList == ((bs (Fr.mk b)).extract 0 (min (bs (Fr.mk a)).size (bs (Fr.mk b)).size)).toList) = decide (a = b) := by
  rw [fbs_size, fbs_size, extract_take, extract_take, Lib.toList_data, Lib.toList_data, bs_data, bs_data]
  have := Fr.one ha hb
  rw [Bool.eq_iff_iff, beq_iff_eq, decide_eq_true_iff]
  exact this
theorem str_beq (a b : ByteArray) : (a.toList == b.toList) = decide (a.data.toList = b.data.toList) := by
  rw [Lib.toList_data, Lib.toList_data]
  rw [Bool.eq_iff_iff, beq_iff_eq, decide_eq_true_iff]
theorem fmk_yes {s : ByteArray} (h : s.size ≤ 8000) : Fr.makeS s.data.toList = Fr.mk s.data.toList ∧ Fr.makeE s.data.toList = 0 := by
  unfold Fr.makeS Fr.makeE
  rw [if_pos (by rw [toList_size]; exact h), if_pos (by rw [toList_size]; exact h)]; exact ⟨rfl, rfl⟩
theorem fmk_no {s : ByteArray} (h : ¬ s.size ≤ 8000) : Fr.makeS s.data.toList = [] ∧ Fr.makeE s.data.toList = 5 := by
  unfold Fr.makeS Fr.makeE
  rw [if_neg (by rw [toList_size]; exact h), if_neg (by rw [toList_size]; exact h)]; exact ⟨rfl, rfl⟩
end Go.Proofs.Ytecjnebfhbdnaaa

/-
  FrameBack of the statements of layer 4 returns true, whatever texts and bytes.
-/
namespace Go.Proofs.Ytecjnebfhbdnaaa
open Go.ChangeShapes Go.WideShapes Go.ChangeAt Go.RowKit
set_option linter.unusedVariables false
set_option maxRecDepth 100000
set_option maxHeartbeats 1000000

theorem fadd_at (b o i : Nat) : (⟨b, o, none⟩ : Addr).add i = ⟨b, o + i, none⟩ := by
  unfold Addr.add; split <;> simp_all
theorem faddr_at {w : World} {a : Addr} {v : Value} (h : w.cell? a = some v) : ∃ b o, a = ⟨b, o, none⟩ ∧ b < w.heap.size := by
  have hlt := World.block_lt_of_cell? w _ h
  obtain ⟨b, o, s⟩ := a
  cases s with
  | none => exact ⟨b, o, rfl, hlt⟩
  | some q =>
    unfold World.cell? at h
    split at h
    · simp at h
    · cases h
theorem fcellsStr : Try.prog.cellsOf 9 = 1 := by kernel_rfl
/-- a list of texts that comes in -/
theorem open_texts {H : Type} {enc : TypeId × Value → H} {w : World} {fuel : Nat} {cs : List Value} {x : DataW H × List MemPlace} (h : DataW.trod enc Try.prog w 0 (fun _ => true) true fuel 69 cs = some x) :
    ∃ (A : Option Addr) (cap : Nat) (l : List (List UInt8)), cs = [.slice A l.length cap] ∧ Txs w A l ∧ l.length ≤ maxLen ∧ (∀ x ∈ l, x.length ≤ maxLen) ∧ l.length ≤ cap ∧ cap ≤ maxLen := by
  rcases Deep.open_strs Try.underlying69 Try.underlying9 fcellsStr h with ⟨rfl, _⟩ | ⟨a, len, cap, m, S, rfl, _, hl, hm, hmm, _, hi⟩
  · exact ⟨none, 0, [], rfl, fun j x hx => by simp at hx, by simp, fun x hx => by simp at hx, by simp, by simp⟩
  · rw [if_pos rfl] at hmm
    have hlen : ((List.range len).map fun i => (S i).data.toList).length = len := by simp
    refine ⟨some a, cap, (List.range len).map fun i => (S i).data.toList, by rw [hlen], fun j x hx => ?_, by rw [hlen]; omega, fun x hx => ?_, by rw [hlen]; exact hl, hm⟩
    · have hj := (List.getElem?_eq_some_iff.1 hx).1
      rw [hlen] at hj
      have hc := (hi j (by omega)).1
      have h0 := (hi 0 (by omega)).1
      obtain ⟨b, o, rfl, hb⟩ := faddr_at (a := a) (by rw [show a.add 0 = a from by unfold Addr.add; simp] at h0; exact h0)
      rw [fadd_at] at hc
      refine ⟨b, o, rfl, hb, ?_⟩
      rw [hc]
      have : x = (S j).data.toList := by
        rw [List.getElem?_map, List.getElem?_range hj] at hx
        simpa using hx.symm
      rw [this, fbs_self]
    · rw [List.mem_map] at hx
      obtain ⟨i, hi', rfl⟩ := hx
      rw [toList_size]
      exact (hi i (by have := List.mem_range.1 hi'; omega)).2
end Go.Proofs.Ytecjnebfhbdnaaa

