/-
  A map that a law has made, keyed by entries: what is stored, what is looked up, how many there are.
-/
import Derived.Test.YtpnabojfliphpaaMemAwake
import Derived.Maps.OwnSet
import Derived.Maps.Views
import Derived.DeepKeys4
namespace Go.Proofs.Ytpnabojfliphpaa
open Go.ChangeShapes Go.WideShapes Go.ChangeAt Go.RowKit Go.Maps
set_option linter.unusedVariables false
set_option maxRecDepth 100000
set_option maxHeartbeats 1000000

theorem mlaid : laidOutB Try.prog = true := by kernel_rfl
theorem keyedE : Keyed Try.prog 35 := Keyed.of_law (deep_law_laid mlaid (m := 3) (by omega) (of_decide_eq_true (by kernel_rfl)) (by kernel_rfl) (by kernel_rfl))
/-- an entry that Go can have -/
def OkE (e : Mm.Ent) : Prop := e.key.length ≤ maxLen ∧ e.val.length ≤ maxLen ∧ e.seq ≤ 18446744073709551615
theorem may_ok {e : Mm.Ent} (h : Mm.may e = true) : OkE e := by
  obtain ⟨h1, h2, h3, h4, h5, h6⟩ := Mm.may_iff.1 h
  unfold OkE maxLen; omega
theorem keyE_ty : Try.prog.keyType 35 = true := by kernel_rfl
theorem keyE_fuel : Try.prog.types.size + 1 = (Try.prog.types.size - 1) + 2 := by kernel_rfl
theorem wf_u64 {n : Nat} (h : n ≤ 18446744073709551615) : (Lit.int .u64 (n : Int)).wf = true := by
  show (decide (IntKind.u64.min ≤ (n : Int)) && decide ((n : Int) ≤ IntKind.u64.max)) = true
  rw [show IntKind.u64.min = 0 from rfl, show IntKind.u64.max = 18446744073709551615 from rfl, Bool.and_eq_true, decide_eq_true_iff, decide_eq_true_iff]
  omega
theorem keyS (d : Nat) {s : ByteArray} (h : s.size ≤ maxLen) : Try.prog.keyLits (d + 1) 9 [.string s] = some [.string s.data.toList] := by
  unfold Program.keyLits
  rw [Try.underlying9]
  exact if_pos h
theorem keyU (d : Nat) {n : Nat} (h : n ≤ 18446744073709551615) : Try.prog.keyLits (d + 1) 31 [.int .u64 (n : Int)] = some [.int .u64 (n : Int)] := by
  unfold Program.keyLits
  rw [Try.underlying31]
  exact if_pos ⟨rfl, wf_u64 h⟩
theorem keyB (d : Nat) (x : Bool) : Try.prog.keyLits (d + 1) 4 [.bool x] = some [.bool x] := by
  unfold Program.keyLits
  rw [Try.underlying4]
theorem key_ent {e : Mm.Ent} (h : OkE e) : ∃ kl, keyOf Try.prog 35 (entV e) = some kl := by
  obtain ⟨h1, h2, h3⟩ := h
  have s1 : (bs e.key).size ≤ maxLen := by rw [mbs_size]; exact h1
  have s2 : (bs e.val).size ≤ maxLen := by rw [mbs_size]; exact h2
  have w1 := wf_u64 h3
  unfold keyOf entV
  rw [Try.underlying35]
  simp only [keyE_ty, Bool.true_and]
  have hf : Value.formed Try.prog 35 (.agg #[.string (bs e.key), .int .u64 (e.seq : Nat), .bool e.del, .string (bs e.val)]) = true := by
    unfold Value.formed
    rw [Try.underlying35]
    simp [mcellsEnt]
  rw [if_pos hf, keyE_fuel]
  generalize Try.prog.types.size - 1 = d
  unfold Program.keyLits
  rw [Try.underlying35]
  simp only
  rw [if_pos ⟨by rw [mcellsEnt]; rfl, by kernel_rfl⟩]
  simp only [List.mapM_cons, List.mapM_nil, mcellsStr, mcellsU64, mcellsBool, Value.cells]
  simp only [List.drop_zero, List.drop_succ_cons, List.take_succ_cons, List.take_zero]
  rw [keyS d s1, keyU d h3, keyB d, keyS d s2]
  exact ⟨_, rfl⟩
/-- what an entry reads as, as a key -/
noncomputable def klE (e : Mm.Ent) : Lit := (keyOf Try.prog 35 (entV e)).getD (.bool false)
theorem klE_key {e : Mm.Ent} (h : OkE e) : keyOf Try.prog 35 (entV e) = some (klE e) := by
  obtain ⟨kl, hk⟩ := key_ent h
  unfold klE
  rw [hk]; rfl
theorem entV_inj {a b : Mm.Ent} (h : entV a = entV b) : a = b := by
  unfold entV at h
  simp only [Value.agg.injEq, Array.mk.injEq, List.cons.injEq, Value.string.injEq, Value.int.injEq, Value.bool.injEq, and_true, true_and] at h
  obtain ⟨h1, h2, h3, h4⟩ := h
  refine (Mm.ent_eq a b).1 ⟨?_, by omega, h3, ?_⟩
  · have := congrArg (fun s => s.data.toList) h1; simpa [bs] using this
  · have := congrArg (fun s => s.data.toList) h4; simpa [bs] using this
theorem klE_inj {a b : Mm.Ent} (ha : OkE a) (hb : OkE b) (h : klE a = klE b) : a = b := entV_inj (keyedE.inj (klE_key ha) (h ▸ klE_key hb))
/-- a map that has a table's entries, each with what its height is told by -/
structure MapIs (w : World) (e : TypeId) (b : Nat) (T : List Mm.Tv) (val : Nat → DataW Unit) : Prop where
  ex : ∃ D, w.ownsMap Try.prog 35 (plainElem Try.prog e) b T.length D ∧ Maps.size D = T.length ∧ (∀ x ∈ T, ∀ z, D.atKey (klE x.1) z = val x.2) ∧ (∀ y, OkE y → (∀ x ∈ T, x.1 ≠ y) → Maps.has D (klE y) = false)
theorem MapIs.same {w w' : World} {e : TypeId} {b : Nat} {T : List Mm.Tv} {val : Nat → DataW Unit} (h : MapIs w e b T val) (k : w'.heap[b]? = w.heap[b]?) : MapIs w' e b T val := by
  obtain ⟨D, ⟨es, cl, hb, r⟩, h2⟩ := h.ex
  exact ⟨D, ⟨es, cl, k.trans hb, r⟩, h2⟩
theorem MapIs.lt {w : World} {e : TypeId} {b : Nat} {T : List Mm.Tv} {val : Nat → DataW Unit} (h : MapIs w e b T val) : b < w.heap.size := by
  obtain ⟨D, h1, _⟩ := h.ex; exact h1.lt
theorem MapIs.kept {w w' : World} {e : TypeId} {b : Nat} {T : List Mm.Tv} {val : Nat → DataW Unit} (h : MapIs w e b T val) (k : Kept w w') : MapIs w' e b T val := h.same (Below.block k b h.lt)
theorem mapIs_new (w : World) (e : TypeId) (val : Nat → DataW Unit) : MapIs (w.alloc (.map #[] 0)) e w.heap.size [] val :=
  ⟨.map [], World.ownsMap_made w Try.prog 35 _, rfl, by simp, fun y _ _ => rfl⟩
theorem not_there {T : List Mm.Tv} (g : Mm.Good T) {e : Mm.Ent} (h : Mm.has T e.key e.seq = false) : ∀ x ∈ T, x.1 ≠ e := fun x hx q => by
  have : Mm.has T e.key e.seq = true := (Mm.has_iff g).2 ⟨x, hx, by rw [q], by rw [q]⟩
  rw [h] at this; cases this
theorem MapIs.store {w : World} {t e : TypeId} {b : Nat} {T : List Mm.Tv} {val : Nat → DataW Unit} (h : MapIs w e b T val) (g : Mm.Good T) (hf : T.length < 1000) (ht : Try.prog.underlying t = some (.map 35 e)) {x : Mm.Ent} {n : Int} (hc : Mm.code T x n = 0) {v : Value} (hv : plainElem Try.prog e v = some (val n.toNat, [])) :
    ∃ w', (Instr.mapUpdate t (.map (some b)) (entV x) v).run Try.prog w = .ok () w' ∧ MapIs w' e b (Mm.put T x n) val ∧ w.grownBy w' (some b) ∧ w'.heap.size = w.heap.size := by
  obtain ⟨D, h1, h2, h3, h4⟩ := h.ex
  obtain ⟨hm, _, _, hhas⟩ := Mm.code_zero.1 hc
  have hok := may_ok hm
  have hnt := not_there g hhas
  have hhf := h4 x hok hnt
  have htidy := h1.tidy keyedE
  have hkl := keyedE.key (klE_key hok)
  obtain ⟨w', hrun, ho, hturn⟩ := h1.store keyedE ht (by unfold maxLen; omega) (klE_key hok) hv
  refine ⟨w', hrun, ⟨⟨D.put (klE x) (val n.toNat), ?_, ?_, ?_, ?_⟩⟩, hturn.grown, ?_⟩
  · rw [Mm.put_len hc]; exact ho
  · rw [Maps.size_put htidy, hhf, Mm.put_len hc, h2]; rfl
  · intro y hy z
    rw [Mm.put_mem hc] at hy
    rcases hy with rfl | hy
    · exact Maps.atKey_put_same htidy.isMap hkl _ _
    · rw [Maps.atKey_put_other (fun q => hnt y hy (klE_inj (may_ok (g.may y hy)) hok q))]
      exact h3 y hy z
  · intro y hy hne
    have hyx : y ≠ x := fun q => hne (x, n.toNat) ((Mm.put_mem hc).2 (.inl rfl)) q.symm
    rw [Maps.has_put_other (fun q => hyx (klE_inj hy hok q))]
    exact h4 y hy (fun z hz => hne z ((Mm.put_mem hc).2 (.inr hz)))
  · obtain ⟨es, clock, es', clock', _, rfl⟩ := hturn
    simp [ChangeMaps.setBlock]
theorem MapIs.len {w : World} {t e : TypeId} {b : Nat} {T : List Mm.Tv} {val : Nat → DataW Unit} (h : MapIs w e b T val) (ht : Try.prog.underlying t = some (.map 35 e)) (ty : TypeId) : (Builtin.len_ #[t] ty #[.map (some b)]).run Try.prog w = .ok (.int .i64 (T.length : Nat)) w := by
  obtain ⟨D, h1, h2, _⟩ := h.ex
  have := h1.len ht ty
  rw [h2] at this
  exact this
theorem MapIs.look {w : World} {t e : TypeId} {b : Nat} {T : List Mm.Tv} {val : Nat → DataW Unit} (h : MapIs w e b T val) (g : Mm.Good T) (ht : Try.prog.underlying t = some (.map 35 e)) {z : Value} (hz : (zeroValue e).run Try.prog w = .ok z w) {zd : DataW Unit} (hzd : plainElem Try.prog e z = some (zd, [])) {x : Mm.Tv} (hx : x ∈ T) :
    ∃ v ps, (Instr.lookup t (.map (some b)) (entV x.1) false).run Try.prog w = .ok v w ∧ plainElem Try.prog e v = some (val x.2, ps) := by
  obtain ⟨D, h1, h2, h3, h4⟩ := h.ex
  obtain ⟨v, ps, hr, hv⟩ := h1.lookup keyedE ht hz hzd (klE_key (may_ok (g.may x hx)))
  rw [h3 x hx] at hv
  exact ⟨v, ps, hr, hv⟩
end Go.Proofs.Ytpnabojfliphpaa
