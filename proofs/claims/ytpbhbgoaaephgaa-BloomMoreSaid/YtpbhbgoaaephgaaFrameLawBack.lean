/-
  FrameBack of the statements of layer 4 returns true, whatever texts and bytes.
-/
import Derived.Test.YtpbhbgoaaephgaaFrameLawTakes
import Derived.Deep.Strs
namespace Go.Proofs.Ytpbhbgoaaephgaa
open Go.ChangeShapes Go.WideShapes Go.ChangeAt Go.RowKit
set_option linter.unusedVariables false
set_option maxRecDepth 100000
set_option maxHeartbeats 1000000

theorem fadd_at (b o i : Nat) : (⟨b, o, none⟩ : Addr).add i = ⟨b, o + i, none⟩ := by
  unfold Addr.add; split <;> simp_all
theorem faddr_at {w : World} {a : Addr} {v : Value} (h : w.cell? a = some v) : ∃ b o, a = ⟨b, o, none⟩ ∧ b < w.heap.size := by
  have hlt := World.block_lt_of_cell? w _ h
  obtain ⟨b, o, s⟩ := a
  cases s with
  | none => exact ⟨b, o, rfl, hlt⟩
  | some q =>
    unfold World.cell? at h
    split at h
    · simp at h
    · cases h
theorem fcellsStr : Try.prog.cellsOf 9 = 1 := by kernel_rfl
/-- a list of texts that comes in -/
theorem open_texts {H : Type} {enc : TypeId × Value → H} {w : World} {fuel : Nat} {cs : List Value} {x : DataW H × List MemPlace} (h : DataW.trod enc Try.prog w 0 (fun _ => true) true fuel 22 cs = some x) :
    ∃ (A : Option Addr) (cap : Nat) (l : List (List UInt8)), cs = [.slice A l.length cap] ∧ Txs w A l ∧ l.length ≤ maxLen ∧ (∀ x ∈ l, x.length ≤ maxLen) ∧ l.length ≤ cap ∧ cap ≤ maxLen := by
  rcases Deep.open_strs Try.underlying22 Try.underlying9 fcellsStr h with ⟨rfl, _⟩ | ⟨a, len, cap, m, S, rfl, _, hl, hm, hmm, _, hi⟩
  · exact ⟨none, 0, [], rfl, fun j x hx => by simp at hx, by simp, fun x hx => by simp at hx, by simp, by simp⟩
  · rw [if_pos rfl] at hmm
    have hlen : ((List.range len).map fun i => (S i).data.toList).length = len := by simp
    refine ⟨some a, cap, (List.range len).map fun i => (S i).data.toList, by rw [hlen], fun j x hx => ?_, by rw [hlen]; omega, fun x hx => ?_, by rw [hlen]; exact hl, hm⟩
    · have hj := (List.getElem?_eq_some_iff.1 hx).1
      rw [hlen] at hj
      have hc := (hi j (by omega)).1
      have h0 := (hi 0 (by omega)).1
      obtain ⟨b, o, rfl, hb⟩ := faddr_at (a := a) (by rw [show a.add 0 = a from by unfold Addr.add; simp] at h0; exact h0)
      rw [fadd_at] at hc
      refine ⟨b, o, rfl, hb, ?_⟩
      rw [hc]
      have : x = (S j).data.toList := by
        rw [List.getElem?_map, List.getElem?_range hj] at hx
        simpa using hx.symm
      rw [this, fbs_self]
    · rw [List.mem_map] at hx
      obtain ⟨i, hi', rfl⟩ := hx
      rw [toList_size]
      exact (hi i (by have := List.mem_range.1 hi'; omega)).2
end Go.Proofs.Ytpbhbgoaaephgaa
