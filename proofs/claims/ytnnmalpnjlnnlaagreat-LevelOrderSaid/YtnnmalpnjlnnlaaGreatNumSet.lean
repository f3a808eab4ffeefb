/-
  A set of numbers that a law has made (a map from numbers to bools).
-/
import Derived.Test.YtnnmalpnjlnnlaaGreatLevelKit
import Derived.Maps.OwnSet
import Derived.Maps.Views
namespace Go.Proofs.YtnnmalpnjlnnlaaGreat
open Go.ChangeShapes Go.WideShapes Go.ChangeAt Go.RowKit Go.Maps
set_option linter.unusedVariables false
set_option maxRecDepth 100000
set_option maxHeartbeats 1000000

theorem nskeyed : Keyed Tryz.prog 32 := int_keyed Tryz.underlying32
theorem nswf {n : Nat} (h : n ≤ 18446744073709551615) : (Lit.int .u64 (n : Int)).wf = true := by
  show (decide (IntKind.u64.min ≤ (n : Int)) && decide ((n : Int) ≤ IntKind.u64.max)) = true
  rw [show IntKind.u64.min = 0 from rfl, show IntKind.u64.max = 18446744073709551615 from rfl, Bool.and_eq_true, decide_eq_true_iff, decide_eq_true_iff]
  omega
theorem nskey {n : Nat} (h : n ≤ 18446744073709551615) : keyOf Tryz.prog 32 (.int .u64 (n : Int)) = some (.int .u64 (n : Int)) := keyOf_int_mk Tryz.underlying32 (nswf h)
theorem nsval_inv {v : Value} {B : Bool} {ps : List MemPlace} (h : plainElem Tryz.prog 4 v = some ((.lit (.bool B) : DataW Unit), ps)) : v = .bool B := by
  unfold plainElem at h
  rw [Tryz.underlying4] at h
  split at h
  all_goals first | (simp at h; done) | skip
  all_goals (first | (simp at h; obtain ⟨rfl, _⟩ := h; rfl) | (simp at h; simp [h]; done))
/-- a set of numbers in memory -/
structure NsIs (w : World) (b : Nat) (L : List Nat) : Prop where
  ex : ∃ n, ∃ D : DataW Unit, n ≤ L.length ∧ w.ownsMap Tryz.prog 32 (plainElem Tryz.prog 4) b n D ∧ ∀ x : Nat, D.atKey (.int .u64 (x : Int)) (.lit (.bool false)) = .lit (.bool (decide (x ∈ L)))
theorem NsIs.same {w w' : World} {b : Nat} {L : List Nat} (h : NsIs w b L) (k : w'.heap[b]? = w.heap[b]?) : NsIs w' b L := by
  obtain ⟨n, D, hn, ⟨es, cl, hb, r⟩, h2⟩ := h.ex
  exact ⟨n, D, hn, ⟨es, cl, k.trans hb, r⟩, h2⟩
theorem NsIs.lt {w : World} {b : Nat} {L : List Nat} (h : NsIs w b L) : b < w.heap.size := by
  obtain ⟨n, D, _, h1, _⟩ := h.ex; exact h1.lt
theorem NsIs.kept {w w' : World} {b : Nat} {L : List Nat} (h : NsIs w b L) (k : Kept w w') : NsIs w' b L := h.same (Below.block k b h.lt)
theorem nsIs_new (w : World) : NsIs (w.alloc (.map #[] 0)) w.heap.size [] :=
  ⟨0, .map [], Nat.le_refl _, World.ownsMap_made w Tryz.prog 32 _, fun x => by simp; rfl⟩
theorem NsIs.store {w : World} {b : Nat} {L : List Nat} (h : NsIs w b L) (hf : L.length ≤ 10000000) (x : Nat) (hs : x ≤ 18446744073709551615) :
    ∃ w', (Instr.mapUpdate 65 (.map (some b)) (.int .u64 (x : Int)) (.bool true)).run Tryz.prog w = .ok () w' ∧ NsIs w' b (L ++ [x]) ∧ w.grownBy w' (some b) ∧ w'.heap.size = w.heap.size := by
  obtain ⟨n, D, hn, h1, h3⟩ := h.ex
  have htidy := h1.tidy nskeyed
  have hkl := nskeyed.key (nskey hs)
  obtain ⟨w', hrun, ho, hturn⟩ := h1.store nskeyed Tryz.underlying65 (by unfold maxLen; omega) (nskey hs) (plainElem_bool (H := Unit) Tryz.underlying4 true)
  refine ⟨w', hrun, ⟨⟨_, D.put (.int .u64 (x : Int)) (.lit (.bool true)), ?_, ho, fun y => ?_⟩⟩, hturn.grown, ?_⟩
  · rw [List.length_append]
    have : [x].length = 1 := rfl
    omega
  · by_cases e : y = x
    · subst e
      rw [Maps.atKey_put_same htidy.isMap hkl _ _]
      simp
    · rw [Maps.atKey_put_other (fun q => e (by injection q with _ q; exact Int.ofNat.inj q)), h3 y]
      simp [e]
  · obtain ⟨es, clock, es', clock', _, rfl⟩ := hturn
    simp [ChangeMaps.setBlock]
theorem NsIs.look {w : World} {b : Nat} {L : List Nat} (h : NsIs w b L) {x : Nat} (hk : x ≤ 18446744073709551615) :
    (Instr.lookup 65 (.map (some b)) (.int .u64 (x : Int)) false).run Tryz.prog w = .ok (.bool (decide (x ∈ L))) w := by
  obtain ⟨n, D, hn, h1, h3⟩ := h.ex
  obtain ⟨v, ps, hr, hv⟩ := h1.lookup nskeyed Tryz.underlying65 (z := .bool false) (by kernel_rfl) (zd := .lit (.bool false)) (zp := []) (plainElem_bool (H := Unit) Tryz.underlying4 false) (nskey hk)
  rw [h3] at hv
  rw [hr, nsval_inv hv]
end Go.Proofs.YtnnmalpnjlnnlaaGreat
