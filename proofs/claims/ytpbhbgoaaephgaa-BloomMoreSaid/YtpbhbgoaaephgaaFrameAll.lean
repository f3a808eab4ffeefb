/-
  What All and Join of package frame compute, each for every input up to 16777216 bytes; lists of texts in memory.
-/
import Derived.Test.YtpbhbgoaaephgaaFrameFns
import Derived.WalkMore
namespace Go.Proofs.Ytpbhbgoaaephgaa
open Go.ChangeShapes Go.WideShapes Go.ChangeAt Go.RowKit
set_option linter.unusedVariables false
set_option maxRecDepth 100000
set_option maxHeartbeats 400000

/-- a list of texts that lies in memory -/
def Txs (w : World) (A : Option Addr) (l : List (List UInt8)) : Prop := ∀ (j : Nat) (x : List UInt8), l[j]? = some x → ∃ b o, A = some ⟨b, o, none⟩ ∧ b < w.heap.size ∧ w.cell? ⟨b, o + j, none⟩ = some (.string (bs x))
theorem Txs.kept {w w' : World} {A : Option Addr} {l : List (List UInt8)} (h : Txs w A l) (k : Kept w w') : Txs w' A l := fun j x hx => by
  obtain ⟨b, o, e, hb, hc⟩ := h j x hx
  exact ⟨b, o, e, Nat.lt_of_lt_of_le hb (Below.size k), by rw [kept_cell k hb]; exact hc⟩
theorem Txs.take {w : World} {A : Option Addr} {l : List (List UInt8)} (h : Txs w A l) (n : Nat) : Txs w A (l.take n) := fun j x hx => h j x (by
  rw [List.getElem?_take] at hx
  split at hx
  · exact hx
  · cases hx)
def txc (l : List (List UInt8)) : List Value := l.map fun x => Value.string (bs x)
theorem txc_len (l : List (List UInt8)) : (txc l).length = l.length := by simp [txc]
theorem txs_own {w : World} {base n : Nat} {v : Value} {l : List (List UInt8)} (h : w.ownsRow base 9 1 v n (txc l)) : ∃ A c, v = .slice A l.length c ∧ n = l.length ∧ Txs w A l := by
  have hl : l.length = n := by have := h.1; simpa [txc_len] using this
  rcases h.2 with ⟨e, e0⟩ | ⟨r, cap, cur, e, hbs, hb, hnc, _, _, htk⟩
  · have : l = [] := List.eq_nil_of_length_eq_zero (by omega)
    subst this
    exact ⟨none, 0, e, by omega, fun j x hx => by simp at hx⟩
  · refine ⟨some ⟨r, 0, none⟩, cap, by rw [hl]; exact e, hl.symm, fun j x hx => ?_⟩
    have hj := (List.getElem?_eq_some_iff.1 hx).1
    refine ⟨r, 0, rfl, (Array.getElem?_eq_some_iff.1 hb).1, ?_⟩
    rw [Nat.zero_add, blk_cell hb]
    have e1 : (cur.toList.take (n * 1))[j]? = some (.string (bs x)) := by rw [htk]; unfold txc; rw [List.getElem?_map, hx]; rfl
    rw [List.getElem?_take] at e1
    split at e1
    · simpa using e1
    · cases e1
theorem ftInfo : (Try.prog.info? 9).map (fun i => (i.zero, i.size, i.bytes)) = some (some (.string ByteArray.empty), 1, 16) := by kernel_rfl
theorem cell_new1 (w : World) (x : Value) (t : TypeId) : ∀ j u, [x][j]? = some u → (w.alloc (.cells #[x] t)).cell? ((⟨w.heap.size, 0, none⟩ : Addr).add j) = some u := by
  intro j u hj
  cases j with
  | zero => simp at hj; subst hj; rw [addr_add]; simp
  | succ j => simp at hj
def strLen : Value → Nat
  | .string s => s.size
  | _ => 0
theorem takeE_none {r : List UInt8} (h : Fr.take r = none) : (Fr.takeE r == 0) = false := by
  unfold Fr.takeE
  rw [h]
  split <;> rfl
theorem fall_len {s : List UInt8} {l : List (List UInt8)} {r : List UInt8} (h : Fr.Reads s l r) (k : Nat) : (Fr.join (l.drop k) ++ r).length ≤ s.length := by
  have e : Fr.join l = Fr.join (l.take k) ++ Fr.join (l.drop k) := by rw [← Fr.join_app, List.take_append_drop]
  rw [h.eq, e]
  simp only [List.length_append]; omega
theorem joinS_yes {l : List (List UInt8)} (h : Fr.Fit l) : Fr.joinS l = Fr.join l ∧ Fr.joinE l = 0 := by
  have : l.all (fun t => decide (t.length ≤ 8000)) = true := List.all_eq_true.2 fun t ht => by simpa using h t ht
  unfold Fr.joinS Fr.joinE
  rw [this]; exact ⟨rfl, rfl⟩
theorem joinS_no {l : List (List UInt8)} {t : List UInt8} (ht : t ∈ l) (h : ¬ t.length ≤ 8000) : Fr.joinS l = [] ∧ Fr.joinE l = 5 := by
  have : l.all (fun t => decide (t.length ≤ 8000)) = false := by
    rw [List.all_eq_false]
    exact ⟨t, ht, by simpa using h⟩
  unfold Fr.joinS Fr.joinE
  rw [this]; exact ⟨rfl, rfl⟩
theorem joined_len {l : List (List UInt8)} (k : Nat) (hl : l.length ≤ 2000) (h : Fr.Fit (l.take k)) : (Fr.join (l.take k)).length ≤ 16006000 := by
  have h1 := Fr.join_most _ h
  have h3 : (l.take k).length ≤ l.length := by rw [List.length_take]; omega
  omega
end Go.Proofs.Ytpbhbgoaaephgaa
