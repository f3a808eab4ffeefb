/-
  Lists of numbers and lists of acts that come in: what their cells hold.
-/
import Derived.Test.YtomgbanpldecfaaFsLawPlay
import Derived.Deep.Slices
import Derived.Deep.Fields
import Derived.ChangeSame
import Derived.OpenShut
namespace Go.Proofs.Ytomgbanpldecfaa
open Go.ChangeShapes Go.WideShapes Go.ChangeAt Go.RowKit Go.Maps Go.Deep
set_option linter.unusedVariables false
set_option maxHeartbeats 400000

theorem addr_at {w : World} {a : Addr} {v : Value} (h : w.cell? a = some v) : ∃ b o, a = ⟨b, o, none⟩ ∧ b < w.heap.size := by
  have hlt := World.block_lt_of_cell? w _ h
  obtain ⟨b, o, s⟩ := a
  cases s with
  | none => exact ⟨b, o, rfl, hlt⟩
  | some q =>
    unfold World.cell? at h
    split at h
    · simp at h
    · cases h
theorem add_at (b o i : Nat) : (⟨b, o, none⟩ : Addr).add i = ⟨b, o + i, none⟩ := by
  unfold Addr.add; split <;> simp_all
theorem add_zero' (a : Addr) : a.add 0 = a := by unfold Addr.add; simp
section
variable {H : Type} {enc : TypeId × Value → H} {w : World}
theorem cellsInt : Try.prog.cellsOf 3 = 1 := by kernel_rfl
theorem open_nums {fuel : Nat} {cs : List Value} {x : DataW H × List MemPlace} (h : DataW.trod enc Try.prog w 0 (fun _ => true) true fuel 23 cs = some x) :
    ∃ (A : Option Addr) (cap : Nat) (l : List Int), cs = [.slice A l.length cap] ∧ IntsAt (fun i => i < w.heap.size) w (.slice A l.length cap) l ∧ l.length ≤ maxLen := by
  rcases open_ints Try.underlying23 Try.underlying3 cellsInt h with ⟨rfl, _⟩ | ⟨a, len, cap, zs, rfl, _, hl, hm, hz, _, hc, _⟩
  · exact ⟨none, 0, [], rfl, ⟨none, 0, rfl, fun hne => absurd rfl hne⟩, by simp⟩
  · rw [if_pos rfl] at hz
    have hlen : (zs.take len).length = len := by rw [List.length_take]; omega
    refine ⟨some a, cap, zs.take len, by rw [hlen], ⟨some a, cap, rfl, fun hne => ?_⟩, by omega⟩
    have h0 : 0 < len := by
      rcases Nat.eq_zero_or_pos len with e | e
      · rw [e] at hne; simp at hne
      · exact e
    have hc0 := hc 0 (by omega)
    rw [add_zero'] at hc0
    obtain ⟨b, o, rfl, hbl⟩ := addr_at hc0
    refine ⟨b, o, rfl, hbl, fun j hj => ?_⟩
    rw [hlen] at hj
    have hcj := hc j (by omega)
    rw [add_at] at hcj
    rw [hcj]
    simp [List.getElem_take, List.getElem?_eq_getElem (show j < zs.length by omega)]
theorem cellsAct : Try.prog.cellsOf 29 = 5 := by kernel_rfl
theorem cellsStr : Try.prog.cellsOf 9 = 1 := by kernel_rfl
theorem cellsNums : Try.prog.cellsOf 23 = 1 := by kernel_rfl
theorem wf_hi {n : Int} (h : (Lit.int .i64 n).wf = true) : n ≤ 9223372036854775807 := by
  exact (bounds_i64 h).2
theorem open_act {n : Nat} {b o : Nat} {cs : List Value} {y : DataW H × List MemPlace} (hbl : b < w.heap.size) (hcl : cs.length = 5) (hat : ∀ j, j < 5 → w.cell? ⟨b, o + j, none⟩ = cs[j]?) (ht : DataW.trod enc Try.prog w 0 (fun _ => true) true n 29 cs = some y) :
    ∃ x, ActIn w.heap.size w b o x := by
  obtain ⟨ys, n', _, _, _, hyl, hf⟩ := DataW.trod_struct Try.underlying29 ht
  match cs, hcl with
  | [v0, v1, v2, v3, v4], _ =>
    have f0 := hf 0 _ rfl
    have f1 := hf 1 _ rfl
    have f2 := hf 2 _ rfl
    have f3 := hf 3 _ rfl
    have f4 := hf 4 _ rfl
    change DataW.trod enc Try.prog w 0 (fun _ => true) true n' 3 (List.take (Try.prog.cellsOf 3) [v0, v1, v2, v3, v4]) = _ at f0
    change DataW.trod enc Try.prog w 0 (fun _ => true) true n' 3 (List.take (Try.prog.cellsOf 3) [v1, v2, v3, v4]) = _ at f1
    change DataW.trod enc Try.prog w 0 (fun _ => true) true n' 9 (List.take (Try.prog.cellsOf 9) [v2, v3, v4]) = _ at f2
    change DataW.trod enc Try.prog w 0 (fun _ => true) true n' 9 (List.take (Try.prog.cellsOf 9) [v3, v4]) = _ at f3
    change DataW.trod enc Try.prog w 0 (fun _ => true) true n' 23 (List.take (Try.prog.cellsOf 23) [v4]) = _ at f4
    rw [cellsInt] at f0 f1
    rw [cellsStr] at f2 f3
    rw [cellsNums] at f4
    simp only [List.take_succ_cons, List.take_zero] at f0 f1 f2 f3 f4
    have hyl5 : ys.length = 5 := hyl
    rw [List.getElem?_eq_getElem (show 0 < ys.length by omega)] at f0
    rw [List.getElem?_eq_getElem (show 1 < ys.length by omega)] at f1
    rw [List.getElem?_eq_getElem (show 2 < ys.length by omega)] at f2
    rw [List.getElem?_eq_getElem (show 3 < ys.length by omega)] at f3
    rw [List.getElem?_eq_getElem (show 4 < ys.length by omega)] at f4
    obtain ⟨kind, e0, _, _⟩ := DataW.trod_int Try.underlying3 f0
    obtain ⟨nn, e1, _, hnn⟩ := DataW.trod_int Try.underlying3 f1
    obtain ⟨sa, e2, _, hsa⟩ := DataW.trod_string Try.underlying9 f2
    obtain ⟨sb, e3, _, hsb⟩ := DataW.trod_string Try.underlying9 f3
    obtain ⟨ka, kc, ks, e4, hki, hkl⟩ := open_nums f4
    injection e0 with e0; injection e1 with e1; injection e2 with e2; injection e3 with e3; injection e4 with e4
    subst e0 e1 e2 e3 e4
    exact ⟨⟨kind, nn, sa, sb, ks⟩, hbl, hat 0 (by omega), hat 1 (by omega), hat 2 (by omega), hat 3 (by omega), ⟨ka, kc, hat 4 (by omega), hki⟩, wf_hi hnn, hsa, hsb, hkl⟩
theorem open_acts {fuel : Nat} {cs : List Value} {x : DataW H × List MemPlace} (h : DataW.trod enc Try.prog w 0 (fun _ => true) true fuel 22 cs = some x) :
    ∃ (A : Option Addr) (cap : Nat) (l : List FsAct), cs = [.slice A l.length cap] ∧ ActsIn w.heap.size w A l ∧ l.length ≤ maxLen := by
  rcases open_slice Try.underlying22 h with ⟨rfl, _⟩ | ⟨a, len, cap, m, n, D, Pl, rfl, _, hl, hm, hmm, _, hi⟩
  · exact ⟨none, 0, [], rfl, fun i x hx => by simp at hx, by simp⟩
  · rw [if_pos rfl] at hmm
    rw [cellsAct] at hi
    have key : ∀ i, i < len → ∃ x b o, a = ⟨b, o, none⟩ ∧ ActIn w.heap.size w b (o + i * 5) x := fun i hil => by
      obtain ⟨cs0, hc0, _⟩ := hi 0 (by omega)
      obtain ⟨_, hcl0, hat0⟩ := World.cells?_some hc0
      have h00 := hat0 0 (by omega)
      rw [Nat.zero_mul, add_zero', add_zero', List.getElem?_eq_getElem (show 0 < cs0.length by omega)] at h00
      obtain ⟨b, o, rfl, hbl⟩ := addr_at h00
      obtain ⟨cs', hc, ht⟩ := hi i (by omega)
      obtain ⟨_, hcl, hat⟩ := World.cells?_some hc
      obtain ⟨x, hx⟩ := open_act (o := o + i * 5) hbl hcl (fun j hj => by rw [← hat j hj, add_at, add_at]) ht
      exact ⟨x, b, o, rfl, hx⟩
    have hch : ∀ i, ∃ x : FsAct, i < len → ∃ b o, a = ⟨b, o, none⟩ ∧ ActIn w.heap.size w b (o + i * 5) x := fun i => by
      by_cases hil : i < len
      · obtain ⟨x, r⟩ := key i hil
        exact ⟨x, fun _ => r⟩
      · exact ⟨⟨0, 0, ByteArray.empty, ByteArray.empty, []⟩, fun hh => absurd hh hil⟩
    obtain ⟨f, hf⟩ := Classical.axiomOfChoice hch
    have hlen : ((List.range len).map f).length = len := by simp
    refine ⟨some a, cap, (List.range len).map f, by rw [hlen], fun i x hx => ?_, by rw [hlen]; omega⟩
    have hil : i < len := by
      have := (List.getElem?_eq_some_iff.1 hx).1
      rw [hlen] at this; exact this
    have hfx : f i = x := by simpa [hil] using hx
    obtain ⟨b, o, e, hact⟩ := hf i hil
    rw [hfx] at hact
    exact ⟨b, o, by rw [e], hact⟩
end
end Go.Proofs.Ytomgbanpldecfaa
