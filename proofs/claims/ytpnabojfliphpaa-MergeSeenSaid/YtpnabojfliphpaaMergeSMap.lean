/-
  A map that a law has made, from keys to numbers: what is stored, what is looked up.
-/
import Derived.Test.YtpnabojfliphpaaMergeLawNewest
import Derived.Maps.OwnSet
import Derived.Maps.Views
namespace Go.Proofs.Ytpnabojfliphpaa
open Go.ChangeShapes Go.WideShapes Go.ChangeAt Go.RowKit Go.Maps
set_option linter.unusedVariables false
set_option maxRecDepth 100000
set_option maxHeartbeats 1000000

theorem gkeyedS : Keyed Try.prog 9 := string_keyed Try.underlying9
theorem gwf_u64 {n : Nat} (h : n ≤ 18446744073709551615) : (Lit.int .u64 (n : Int)).wf = true := by
  show (decide (IntKind.u64.min ≤ (n : Int)) && decide ((n : Int) ≤ IntKind.u64.max)) = true
  rw [show IntKind.u64.min = 0 from rfl, show IntKind.u64.max = 18446744073709551615 from rfl, Bool.and_eq_true, decide_eq_true_iff, decide_eq_true_iff]
  omega
theorem gkey {k : List UInt8} (h : k.length ≤ maxLen) : keyOf Try.prog 9 (.string (bs k)) = some (.string k) := by
  have := WideMaps.keyOf_string_mk (P := Try.prog) Try.underlying9 (s := bs k) (by rw [mbs_size]; exact h)
  rw [show (bs k).data.toList = k by simp [bs]] at this
  exact this
theorem gkey_inj {a b : List UInt8} (h : (Lit.string a) = Lit.string b) : a = b := by injection h
theorem gval_inv {v : Value} {n : Nat} {ps : List MemPlace} (h : plainElem Try.prog 31 v = some ((.lit (.int .u64 (n : Int)) : DataW Unit), ps)) : v = .int .u64 (n : Int) := by
  unfold plainElem at h
  rw [Try.underlying31] at h
  split at h
  all_goals first | (simp at h; done) | skip
  · rename_i q q' a e1
    cases e1
    split at h
    · rename_i hq
      simp at h
      obtain ⟨rfl, _⟩ := hq
      rw [h.1]
    · cases h
/-- the numbers of a list's keys -/
structure SqIs (w : World) (b : Nat) (L : List Mm.Ent) : Prop where
  ex : ∃ D : DataW Unit, w.ownsMap Try.prog 9 (plainElem Try.prog 31) b L.length D ∧ (∀ x ∈ L, ∀ z, D.atKey (.string x.key) z = .lit (.int .u64 (x.seq : Int))) ∧ (∀ k, (∀ x ∈ L, x.key ≠ k) → Maps.has D (.string k) = false)
theorem SqIs.same {w w' : World} {b : Nat} {L : List Mm.Ent} (h : SqIs w b L) (k : w'.heap[b]? = w.heap[b]?) : SqIs w' b L := by
  obtain ⟨D, ⟨es, cl, hb, r⟩, h2⟩ := h.ex
  exact ⟨D, ⟨es, cl, k.trans hb, r⟩, h2⟩
theorem SqIs.lt {w : World} {b : Nat} {L : List Mm.Ent} (h : SqIs w b L) : b < w.heap.size := by
  obtain ⟨D, h1, _⟩ := h.ex; exact h1.lt
theorem SqIs.kept {w w' : World} {b : Nat} {L : List Mm.Ent} (h : SqIs w b L) (k : Kept w w') : SqIs w' b L := h.same (Below.block k b h.lt)
theorem sqIs_new (w : World) : SqIs (w.alloc (.map #[] 0)) w.heap.size [] :=
  ⟨.map [], World.ownsMap_made w Try.prog 9 _, by simp, fun y _ => rfl⟩
theorem SqIs.store {w : World} {b : Nat} {L : List Mm.Ent} (h : SqIs w b L) (hf : L.length ≤ 1000) (x : Mm.Ent) (hk : x.key.length ≤ maxLen) (hs : x.seq ≤ 18446744073709551615) (hn : ∀ y ∈ L, y.key ≠ x.key) :
    ∃ w', (Instr.mapUpdate 74 (.map (some b)) (.string (bs x.key)) (.int .u64 (x.seq : Nat))).run Try.prog w = .ok () w' ∧ SqIs w' b (L ++ [x]) ∧ w.grownBy w' (some b) ∧ w'.heap.size = w.heap.size := by
  obtain ⟨D, h1, h3, h4⟩ := h.ex
  have htidy := h1.tidy gkeyedS
  have hkl := gkeyedS.key (gkey hk)
  obtain ⟨w', hrun, ho, hturn⟩ := h1.store gkeyedS Try.underlying74 (by unfold maxLen; omega) (gkey hk) (plainElem_int (H := Unit) Try.underlying31 (gwf_u64 hs))
  refine ⟨w', hrun, ⟨⟨D.put (.string x.key) (.lit (.int .u64 (x.seq : Int))), ?_, fun y hy z => ?_, fun k hk2 => ?_⟩⟩, hturn.grown, ?_⟩
  · rw [List.length_append]; exact ho
  · rcases List.mem_append.1 hy with hy | hy
    · rw [Maps.atKey_put_other (fun q => hn y hy (gkey_inj q))]
      exact h3 y hy z
    · rw [List.mem_singleton] at hy; subst hy
      exact Maps.atKey_put_same htidy.isMap hkl _ _
  · have hx : k ≠ x.key := fun q => hk2 x (List.mem_append.2 (.inr (List.mem_singleton.2 rfl))) q.symm
    rw [Maps.has_put_other (fun q => hx (gkey_inj q))]
    exact h4 k (fun y hy => hk2 y (List.mem_append.2 (.inl hy)))
  · obtain ⟨es, clock, es', clock', _, rfl⟩ := hturn
    simp [ChangeMaps.setBlock]
theorem SqIs.look {w : World} {b : Nat} {L : List Mm.Ent} (h : SqIs w b L) {k : List UInt8} (hk : k.length ≤ maxLen) :
    ∃ v B, (Instr.lookup 74 (.map (some b)) (.string (bs k)) true).run Try.prog w = .ok (.tuple #[v, .bool B]) w ∧ (∀ x ∈ L, x.key = k → v = .int .u64 (x.seq : Nat)) ∧ ((∀ x ∈ L, x.key ≠ k) → B = false) := by
  obtain ⟨D, h1, h3, h4⟩ := h.ex
  obtain ⟨v, ps, hr, hv⟩ := h1.look_ok gkeyedS Try.underlying74 (z := .int .u64 0) (by kernel_rfl) (zd := .lit (.int .u64 0)) (zp := []) (plainElem_int (H := Unit) Try.underlying31 (gwf_u64 (n := 0) (by omega))) (gkey hk)
  refine ⟨v, _, hr, fun x hx e => ?_, fun hn => h4 k hn⟩
  rw [← e, h3 x hx] at hv
  exact gval_inv hv
end Go.Proofs.Ytpnabojfliphpaa
