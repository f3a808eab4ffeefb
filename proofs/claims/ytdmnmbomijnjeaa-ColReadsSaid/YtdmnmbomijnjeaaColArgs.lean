/-
  The statements of layer 15: arguments as they come in: locks, writes, lists of leases; a list's beginning, and what is behind it.
-/
import Derived.Test.YtdmnmbomijnjeaaColAwake
import Derived.Test.YtdmnmbomijnjeaaNumPost
import Derived.Deep.Slices
import Derived.Deep.Fields
import Derived.ChangeSame
import Derived.OpenShut
namespace Go.Proofs.Ytdmnmbomijnjeaa
open Go.ChangeShapes Go.WideShapes Go.ChangeAt Go.RowKit
set_option linter.unusedVariables false
set_option maxRecDepth 100000
set_option maxHeartbeats 1000000
open Co
theorem nat_u64 {a : Int} (h : (Lit.int .u64 a).wf = true) : ∃ n : Nat, a = (n : Int) ∧ n ≤ 18446744073709551615 := by
  obtain ⟨h1, h2⟩ := bounds_u64 h
  exact ⟨a.toNat, by omega, by omega⟩
theorem list_of {s : ByteArray} (h : s.size ≤ maxLen) : ∃ l : List UInt8, s = bs l ∧ l.length ≤ maxLen := ⟨s.data.toList, (clbs_self s).symm, by simpa using h⟩
def OkK (l : Lk) : Prop := l.p.length ≤ maxLen ∧ l.s ≤ 18446744073709551615 ∧ l.a ≤ 18446744073709551615
def OkW (l : Wr) : Prop := l.s ≤ 18446744073709551615
theorem clcellsLs : Try.prog.cellsOf 51 = 3 := by kernel_rfl
theorem clcellsU : Try.prog.cellsOf 22 = 1 := by kernel_rfl
section
variable {H : Type} {enc : TypeId × Value → H} {w : World}
theorem open_lease {n : Nat} {b o : Nat} {cs : List Value} {y : DataW H × List MemPlace} (hcl : cs.length = 3) (hat : ∀ j, j < 3 → w.cell? ⟨b, o + j, none⟩ = cs[j]?) (ht : DataW.trod enc Try.prog w 0 (fun _ => true) true n 51 cs = some y) :
    ∃ x : Ls, LsAt w b o x ∧ x.i ≤ 18446744073709551615 ∧ x.t ≤ 18446744073709551615 ∧ x.u ≤ 18446744073709551615 := by
  match cs, hcl with
  | [v0, v1, v2], _ =>
    obtain ⟨ys, n', _, _, _, hyl, hf⟩ := DataW.trod_struct Try.underlying51 ht
    have f0 := hf 0 _ rfl
    have f1 := hf 1 _ rfl
    have f2 := hf 2 _ rfl
    change DataW.trod enc Try.prog w 0 (fun _ => true) true n' 22 (List.take (Try.prog.cellsOf 22) [v0, v1, v2]) = _ at f0
    change DataW.trod enc Try.prog w 0 (fun _ => true) true n' 22 (List.take (Try.prog.cellsOf 22) [v1, v2]) = _ at f1
    change DataW.trod enc Try.prog w 0 (fun _ => true) true n' 22 (List.take (Try.prog.cellsOf 22) [v2]) = _ at f2
    rw [clcellsU] at f0 f1 f2
    simp only [List.take_succ_cons, List.take_zero] at f0 f1 f2
    have hyl5 : ys.length = 3 := hyl
    rw [List.getElem?_eq_getElem (show 0 < ys.length by omega)] at f0
    rw [List.getElem?_eq_getElem (show 1 < ys.length by omega)] at f1
    rw [List.getElem?_eq_getElem (show 2 < ys.length by omega)] at f2
    obtain ⟨a0, e0, _, h0⟩ := DataW.trod_int Try.underlying22 f0
    obtain ⟨a1, e1, _, h1⟩ := DataW.trod_int Try.underlying22 f1
    obtain ⟨a2, e2, _, h2⟩ := DataW.trod_int Try.underlying22 f2
    obtain ⟨n0, rfl, k0⟩ := nat_u64 h0
    obtain ⟨n1, rfl, k1⟩ := nat_u64 h1
    obtain ⟨n2, rfl, k2⟩ := nat_u64 h2
    obtain rfl : v0 = _ := by injection e0
    obtain rfl : v1 = _ := by injection e1
    obtain rfl : v2 = _ := by injection e2
    exact ⟨⟨n0, n1, n2⟩, ⟨hat 0 (by omega), hat 1 (by omega), hat 2 (by omega)⟩, k0, k1, k2⟩
/-- a list of leases that comes in -/
theorem open_lss {fuel : Nat} {cs : List Value} {x : DataW H × List MemPlace} (h : DataW.trod enc Try.prog w 0 (fun _ => true) true fuel 27 cs = some x) :
    ∃ (A : Option Addr) (cap : Nat) (l : List Ls), cs = [.slice A l.length cap] ∧ Lss w A l ∧ l.length ≤ cap ∧ cap ≤ maxLen ∧ OkLs l ∧ (A = none → cap = 0) ∧ (∀ a, A = some a → a.spot = none ∨ l = []) := by
  rcases Deep.open_slice Try.underlying27 h with ⟨rfl, _⟩ | ⟨a, len, cap, m, n, D, Pl, rfl, _, hl, hm, hmm, _, hi⟩
  · exact ⟨none, 0, [], rfl, fun j x hx => by simp at hx, by simp, by simp, (fun x hx => by simp at hx), fun _ => rfl, fun a h => by cases h⟩
  · rw [if_pos rfl] at hmm
    rw [clcellsLs] at hi
    have key : ∀ i, i < len → ∃ (x : Ls) (b o : Nat), a = ⟨b, o, none⟩ ∧ b < w.heap.size ∧ LsAt w b (o + i * 3) x ∧ x.i ≤ 18446744073709551615 ∧ x.t ≤ 18446744073709551615 ∧ x.u ≤ 18446744073709551615 := fun i hil => by
      obtain ⟨cs0, hc0, _⟩ := hi 0 (by omega)
      obtain ⟨_, hcl0, hat0⟩ := World.cells?_some hc0
      have h00 := hat0 0 (by omega)
      rw [Nat.zero_mul, cladd_zero, cladd_zero, List.getElem?_eq_getElem (show 0 < cs0.length by omega)] at h00
      obtain ⟨b, o, rfl, hbl⟩ := claddr_at h00
      obtain ⟨cs', hc, ht⟩ := hi i (by omega)
      obtain ⟨_, hcl, hat⟩ := World.cells?_some hc
      obtain ⟨x, hx⟩ := open_lease (o := o + i * 3) hcl (fun j hj => by rw [← hat j hj, cladd_at, cladd_at]) ht
      exact ⟨x, b, o, rfl, hbl, hx⟩
    have hch : ∀ i, ∃ x : Ls, i < len → ∃ b o, a = ⟨b, o, none⟩ ∧ b < w.heap.size ∧ LsAt w b (o + i * 3) x ∧ x.i ≤ 18446744073709551615 ∧ x.t ≤ 18446744073709551615 ∧ x.u ≤ 18446744073709551615 := fun i => by
      by_cases hil : i < len
      · obtain ⟨x, r⟩ := key i hil
        exact ⟨x, fun _ => r⟩
      · exact ⟨⟨0, 0, 0⟩, fun hh => absurd hh hil⟩
    obtain ⟨f, hf⟩ := Classical.axiomOfChoice hch
    have hlen : ((List.range len).map f).length = len := by simp
    have hat : ∀ i x, ((List.range len).map f)[i]? = some x → i < len ∧ f i = x := fun i x hx => by
      have hil : i < len := by
        have := (List.getElem?_eq_some_iff.1 hx).1
        rw [hlen] at this; exact this
      exact ⟨hil, by simpa [hil] using hx⟩
    refine ⟨some a, cap, (List.range len).map f, by rw [hlen], fun i x hx => ?_, by rw [hlen]; exact hl, hm, fun x hx => ?_, (fun e => by cases e), fun a' ea => ?_⟩
    · obtain ⟨hil, hfx⟩ := hat i x hx
      obtain ⟨b, o, e, hb, hc, _⟩ := hf i hil
      rw [hfx] at hc
      exact ⟨b, o, by rw [e], hb, hc⟩
    · obtain ⟨i, hi'⟩ := List.getElem?_of_mem hx
      obtain ⟨hil, hfx⟩ := hat i x hi'
      obtain ⟨b, o, e, hb, _, hc⟩ := hf i hil
      rw [hfx] at hc
      exact hc
    · cases ea
      by_cases h0 : 0 < len
      · obtain ⟨b, o, e, _⟩ := hf 0 h0
        exact .inl (by rw [e])
      · exact .inr (List.eq_nil_of_length_eq_zero (by rw [hlen]; omega))
end
end Go.Proofs.Ytdmnmbomijnjeaa
