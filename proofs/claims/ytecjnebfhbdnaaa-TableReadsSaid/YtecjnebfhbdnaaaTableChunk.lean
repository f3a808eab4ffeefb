/-
  slices.Chunk of entries, by eight: what a range over it is handed.
-/
import Derived.Test.YtecjnebfhbdnaaaTableGet
import Derived.RangeFuncFrom
import Derived.RangeFuncBox
import Derived.RangeFuncBound
import Derived.RangeFuncCalls
import Derived.RangeFuncLeaves
import Derived.WalkKit
import Derived.OwnWalkIn
import Derived.TacticsInMore
import Derived.LoopNIn
import Derived.LoopIn
namespace Go.Proofs.Ytecjnebfhbdnaaa
open Go.ChangeShapes Go.WideShapes Go.ChangeAt Go.RowKit
set_option linter.unusedVariables false
set_option maxRecDepth 100000
set_option maxHeartbeats 2000000

/-- boxes of ints and of lists of entries are as they were -/
structure ChK (W W' : World) : Prop where
  size : W.heap.size ≤ W'.heap.size
  same : ∀ (b : Nat) (c : Array Value) (t : TypeId) (z : Nat × Nat), W.heap[b]? = some (.cells c t z) → (t = 3 ∨ t = 22) → W'.heap[b]? = some (.cells c t z)
theorem ChK.trans {A B C : World} (h : ChK A B) (k : ChK B C) : ChK A C := ⟨Nat.le_trans h.size k.size, fun b c t z e h1 => k.same b c t z (h.same b c t z e h1) h1⟩
theorem ChK.kept {A B : World} (h : Kept A B) : ChK A B := ⟨Below.size h, fun b c t z e _ => mblk_kept e h⟩
theorem ChK.put (W : World) (l : Nat) (o o' : Obj) (hl : W.heap[l]? = some o) (ho : o.isCells = false) : ChK W (W.putObj l o') :=
  ⟨by simp [World.putObj], fun b c t z e _ => (World.putObj_heap_other (fun h => by subst h; rw [hl] at e; cases e; cases ho)).trans e⟩
/-- the i-th part -/
def chV (b o L i : Nat) : Value := .slice (some ⟨b, o + 8 * i * 4, none⟩) (min 8 (L - 8 * i)) (min 8 (L - 8 * i))
theorem tchunk_any (A : Option Addr) (n c : Nat) (w : World) :
    Calls Try.prog 25 #[.slice A n c, .int .i64 8] w fun e w' => e = .returned (.func (.func 55) #[] #[.pointer (some ⟨w.heap.size, 0, none⟩), .pointer (some ⟨w.heap.size + 1, 0, none⟩)]) ∧ w' = (w.alloc (.cells #[.slice A n c] 22)).alloc (.cells #[.int .i64 8] 3) := by
  go_enter Try.func25, Try.ntmps25
  go_wp2_with fail
  go_ret
  exact ⟨by simp, rfl⟩
theorem tchunk_stops {w : World} {b o L c p0 p1 : Nat} (n : Nat) (hn : 1 ≤ n) (h0 : w.heap[p0]? = some (.cells #[.slice (some ⟨b, o, none⟩) L c] 22 (0, 0))) (h1 : w.heap[p1]? = some (.cells #[.int .i64 8] 3 (0, 0))) (hL : L ≤ 500) (hc : L ≤ c) (hcm : c ≤ maxLen) :
    SeqStopsK Fence.wide n Try.prog 55 #[.pointer (some ⟨p0, 0, none⟩), .pointer (some ⟨p1, 0, none⟩)] (fun i : Nat => #[chV b o L i]) ChK (fun xs => xs = List.range ((L + 7) / 8)) (fun pre => ∃ k, k < (L + 7) / 8 ∧ pre = List.range (k + 1)) ((L + 7) / 8) w := by
  intro l J Jx W hW hJ hJx hY hJ0
  have b0 : W.heap[p0]? = _ := (Below.block hW p0 (mheap_lt h0)).trans h0
  have b1 : W.heap[p1]? = _ := (Below.block hW p1 (mheap_lt h1)).trans h1
  unfold maxLen at hcm
  have HY := Lib.hid hY
  have HJD := Lib.hid (fun (k : Nat) (W' : World) (h : J (List.range k) W') => hJ (List.range k) W' W'.drew none h ⟨rfl, rfl, rfl, Nat.le_refl _, fun _ _ _ => rfl⟩ (fun r e => by cases e))
  clear h0 h1 hJ hJx hY hW
  refine callsIn_of_wp Try.func55 rfl trivial ?_ rfl
  simp only [Try.ntmps55, List.size_toArray, List.length_cons, List.length_nil, Nat.reduceAdd, Nat.reduceSub, Array.replicate_succ, Array.replicate_zero, List.push_toArray, List.append_toArray, List.nil_append, List.cons_append]
  gi_wp2
  gi_loopw [4] (fun t wr => ∃ k : Nat, k ≤ (L + 7) / 8 ∧ t = .int .i64 ((8 * k : Nat) : Int) ∧ J (List.range k) wr ∧ Hid (wr.heap[p0]? = some (.cells #[.slice (some ⟨b, o, none⟩) L c] 22 (0, 0))) ∧ Hid (wr.heap[p1]? = some (.cells #[.int .i64 8] 3 (0, 0)))) (fun t _ => 600 - (intOf t).toNat)
  case atStart => exact ⟨0, Nat.zero_le _, rfl, hJ0, Lib.hid b0, Lib.hid b1⟩
  case round =>
    obtain ⟨k, hk, rfl, hJk, B0, B1⟩ := hrel
    have c0 := blk_cell B0.out 0; have c1 := blk_cell B1.out 0
    simp only [List.getElem?_toArray, List.getElem?_cons_zero] at c0 c1
    obtain ⟨i, hi⟩ : ∃ i, i = 8 * k := ⟨_, rfl⟩
    rw [← hi]
    by_cases hlt : i < L
    · obtain ⟨fn, tmps, assign, body, hy, hR⟩ := HY.out (List.range k) k wr.drew (HJD.out k wr hJk) (by rw [List.length_range]; omega)
      dsimp only [chV] at hy
      rw [← hi] at hy
      obtain ⟨m, hm⟩ : ∃ m, m = min 8 (L - i) := ⟨_, rfl⟩
      rw [← hm] at hy
      have hm2 : min (8 : Int) ((L : Int) - (i : Int)) = (m : Int) := by omega
      have hm3 : min (8 : Int) ((L - i : Nat) : Int) = (m : Int) := by omega
      have e1 : IntKind.i64.wrap ((i : Int) + (m : Int)) = ((i + m : Nat) : Int) := by rw [IntKind.wrap_i64]; omega
      have hle : i + m ≤ L := by omega
      have HM := Lib.hid hm; have HI := Lib.hid hi
      clear hm hi b0 b1
      gi_wp2
      gi_region
      gi_wp2
      refine hR.mono ?_
      rintro e W3 (⟨rfl, hJ3, hk3⟩ | ⟨rfl, hJx3⟩)
      · have B30 := Lib.hid (hk3.same _ _ _ _ (show wr.drew.heap[p0]? = _ from B0.out) (.inr rfl))
        have B31 := Lib.hid (hk3.same _ _ _ _ (show wr.drew.heap[p1]? = _ from B1.out) (.inl rfl))
        have c30 := blk_cell B30.out 0; have c31 := blk_cell B31.out 0
        simp only [List.getElem?_toArray, List.getElem?_cons_zero] at c30 c31
        rw [← List.range_succ] at hJ3
        have e2 : IntKind.i64.wrap ((i : Int) + 8) = ((8 * (k + 1) : Nat) : Int) := by have := HI.out; rw [IntKind.wrap_i64]; omega
        clear hk3 hR hy hm2 hm3 e1 c0 c1
        gi_wp2
        go_roundw
        case rel => exact ⟨k + 1, by have := HI.out; omega, rfl, hJ3, B30, B31⟩
        case measure => have := HI.out; simp [intOf]; omega
      · clear hR hy hm2 hm3 e1
        gi_wp2
        refine bodyPost_ret (results_none rfl _ _ _) rfl ?_
        exact ⟨⟨_, rfl⟩, .inr ⟨_, ⟨k, by have := HI.out; omega, List.range_succ.symm⟩, hJx3⟩⟩
    · have hkk : k = (L + 7) / 8 := by omega
      rw [hkk] at hJk
      clear hi
      gi_wp2
      go_end0
      exact ⟨⟨_, rfl⟩, .inl ⟨_, rfl, hJk⟩⟩
end Go.Proofs.Ytecjnebfhbdnaaa
