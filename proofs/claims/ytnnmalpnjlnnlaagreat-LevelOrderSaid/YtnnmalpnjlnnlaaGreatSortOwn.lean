/-
  The library's sort at a row of numbers of 64 bits that the call owns.
-/
import Derived.Test.YtnnmalpnjlnnlaaGreatSortPdq
import Derived.Test.YtnnmalpnjlnnlaaGreatPackMem
import Derived.Sort.OwnSorted
namespace Go.Proofs.YtnnmalpnjlnnlaaGreat
open Go.ChangeShapes Go.WideShapes Go.ChangeAt Go.RowKit
open Go.Sort
open Su
set_option linter.unusedVariables false
set_option maxRecDepth 100000
set_option maxHeartbeats 2000000
/-- numbers as cells -/
def nsc (l : List Nat) : List Value := l.map fun x => Value.int .u64 (x : Nat)
def srt (l : List Nat) : List Nat := l.mergeSort (fun x y => decide (x ≤ y))
theorem srt_len (l : List Nat) : (srt l).length = l.length := by simp [srt, List.length_mergeSort]
theorem srt_perm (l : List Nat) : (srt l).Perm l := List.mergeSort_perm _ _
theorem srt_sorted (l : List Nat) : (srt l).Pairwise (fun x y => x ≤ y) := by
  have := List.pairwise_mergeSort (le := fun x y : Nat => decide (x ≤ y)) (fun a b c h1 h2 => by simp at *; omega) (fun a b => by simp; omega) l
  exact this.imp (fun h => by simpa using h)
theorem nsc_len (l : List Nat) : (nsc l).length = l.length := by simp [nsc]
theorem nsc_app (l m : List Nat) : nsc (l ++ m) = nsc l ++ nsc m := by simp [nsc]
theorem uInfo : (Tryz.prog.info? 32).map (fun i => (i.zero, i.size, i.bytes)) = some (some (.int .u64 0), 1, 8) := by kernel_rfl
theorem srt_ints (l : List Nat) : (l.map fun x : Nat => (x : Int)).mergeSort (fun x y => !ltInt y x) = (srt l).map fun x : Nat => (x : Int) := by
  unfold srt
  refine (List.map_mergeSort (f := fun x : Nat => (x : Int)) (r := fun x y => decide (x ≤ y)) (s := fun x y => !ltInt y x) (fun a _ b _ => ?_)).symm
  unfold ltInt
  rw [Bool.eq_iff_iff]; simp
theorem holds_row {w : World} {g : Nat} {cur : Array Value} {e : TypeId} {l : List Nat} (hb : w.heap[g]? = some (.cells cur e (0, 0))) (ht : cur.toList.take l.length = nsc l) : Holds eU w g 0 (l.map fun x : Nat => (x : Int)).toArray := by
  intro j hj
  have hj' : j < l.length := by simpa using hj
  refine ⟨?_, by simp [World.frozen?, hb]⟩
  have h1 : (cur.toList.take l.length)[j]? = (nsc l)[j]? := by rw [ht]
  rw [List.getElem?_take_of_lt hj'] at h1
  rw [Nat.zero_add, mcell hb j (v := .int .u64 (l[j] : Nat)) (by rw [← Array.getElem?_toList, h1]; simp [nsc, hj'])]
  simp [hj']
theorem sort_own {w : World} {base : Nat} {v : Value} {l : List Nat} (h : w.ownsRow base 32 1 v l.length (nsc l)) (hl : l.length < 4611686018427387904) :
    Calls Tryz.prog 80 #[v] w fun e w' => e = .returned (.tuple #[]) ∧ w'.ownsRow base 32 1 v l.length (nsc (srt l)) ∧ w.grownBy w' v.ownBlock := by
  rcases h.2 with ⟨rfl, e0⟩ | ⟨g, cap, cur, rfl, hg, hb, hnc, hcm, hcs, htk⟩
  · have hl0 : l = [] := List.eq_nil_of_length_eq_zero e0
    subst hl0
    refine (ssort_nil w 0).mono ?_
    rintro e w' ⟨rfl, rfl⟩
    exact ⟨rfl, (by rw [show srt [] = [] from List.eq_nil_of_length_eq_zero (srt_len [])]; exact h), ⟨rfl, rfl, rfl, Nat.le_refl _, fun _ _ _ => rfl⟩⟩
  · rw [Nat.mul_one] at htk
    obtain ⟨B, S⟩ := Base.start (n := l.length) (holds_row hb htk) (by simp) (mheap_lt hb) hl
    refine (ssort_any B S cap).mono ?_
    rintro e w' ⟨rfl, d', hd, hS⟩
    have hsz := hS.size
    obtain ⟨q, os, rfl⟩ := hS.form
    rw [srt_ints] at hd
    have hcur : (grow (putRow eU (Sort.ahead w q) g 0 d') os).heap[g]? = some (.cells (putCells eU 0 d' cur) 32 (0, 0)) := by
      rw [heap_grow_old _ _ (by simpa using mheap_lt hb)]
      simp [putRow, mapBlock, Sort.ahead, Array.getElem?_modify, hb, onCells]
    have hlen : (srt l).length = l.length := srt_len l
    refine ⟨rfl, ⟨by simp [nsc, hlen], .inr ⟨g, cap, _, rfl, hg, hcur, hnc, hcm, by simp [putCells, hcs], ?_⟩⟩, ?_⟩
    · rw [Nat.mul_one]
      apply List.ext_getElem?
      intro j
      have hcl : cur.size = cap := by omega
      by_cases hj : j < l.length
      · have hj2 : j < d'.size := by omega
        have hdj : d'[j]! = (((srt l)[j]'(by omega) : Nat) : Int) := by
          have : d'.toList[j]? = ((srt l).map fun x : Nat => (x : Int))[j]? := by rw [hd]
          rw [Array.getElem?_toList] at this
          rw [getElem!_def, this]
          simp [hlen, hj]
        rw [List.getElem?_take_of_lt hj, Array.getElem?_toList]
        have hdk : d'[j] = (((srt l)[j]'(by omega) : Nat) : Int) := by rw [← hdj]; simp [hj2]
        simp [putCells, show j < cur.size by omega, hj2, nsc, hlen, hj, hdk]
      · rw [List.getElem?_take_eq_none (by omega), List.getElem?_eq_none (by simp [nsc, hlen]; omega)]
    · refine ⟨rfl, rfl, rfl, by simp [sortWorld], fun k hk hne => ?_⟩
      have hk2 : g ≠ k := fun e => hne (by rw [e]; rfl)
      show (grow (putRow eU (Sort.ahead w q) g 0 d') os).heap[k]? = _
      rw [heap_grow_old _ _ (by simpa using hk)]
      simp [putRow, mapBlock, Sort.ahead, Array.getElem?_modify, hk2]
end Go.Proofs.YtnnmalpnjlnnlaaGreat
