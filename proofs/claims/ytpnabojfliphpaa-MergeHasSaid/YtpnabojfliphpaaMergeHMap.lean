/-
  A map that a law has made, from keys and numbers to entries: what is stored, what is looked up, how many there are; and, in plain mathematics, the first entries of each key and number.
-/
import Derived.Test.YtpnabojfliphpaaMergeLawNewest
import Derived.Test.YtpnabojfliphpaaMemMap
namespace Go.Proofs.Ytpnabojfliphpaa
open Go.ChangeShapes Go.WideShapes Go.ChangeAt Go.RowKit Go.Maps
set_option linter.unusedVariables false
set_option maxRecDepth 100000
set_option maxHeartbeats 1000000

namespace Mg
open Mm
/-- one more entry: kept, if its key and number aren't there -/
def fstep (D : List Ent) (x : Ent) : List Ent := if (look D x.key x.seq).isSome then D else D ++ [x]
def firsts (F : List Ent) : List Ent := F.foldl fstep []
theorem firsts_snoc (F : List Ent) (x : Ent) : firsts (F ++ [x]) = fstep (firsts F) x := by unfold firsts; rw [List.foldl_append]; rfl
def Dist (D : List Ent) : Prop := D.Pairwise (fun x y => ¬ (x.key = y.key ∧ x.seq = y.seq))
theorem fstep_look (D : List Ent) (x : Ent) (k : List UInt8) (s : Nat) : look (fstep D x) k s = (look D k s).or (look [x] k s) := by
  unfold fstep
  by_cases h : (look D x.key x.seq).isSome = true
  · rw [if_pos h]
    by_cases e : x.key = k ∧ x.seq = s
    · obtain ⟨rfl, rfl⟩ := e
      cases hl : look D x.key x.seq with
      | none => rw [hl] at h; cases h
      | some y => rfl
    · rw [look_other e, Option.or_none]
  · rw [if_neg h, look_app]
theorem fold_look : ∀ (F D : List Ent) (k : List UInt8) (s : Nat), look (F.foldl fstep D) k s = (look D k s).or (look F k s)
  | [], D, k, s => by simp [look]
  | x :: F, D, k, s => by
    rw [List.foldl_cons, fold_look F, fstep_look, Option.or_assoc, ← look_app]
    rfl
theorem firsts_look (F : List Ent) (k : List UInt8) (s : Nat) : look (firsts F) k s = look F k s := by
  unfold firsts; rw [fold_look]; simp [look]
theorem fstep_dist {D : List Ent} (h : Dist D) (x : Ent) : Dist (fstep D x) := by
  unfold fstep
  split
  · exact h
  · rename_i hn
    unfold Dist at *
    rw [List.pairwise_append]
    refine ⟨h, by simp, fun a ha b hb hab => ?_⟩
    rw [List.mem_singleton] at hb
    subst hb
    cases hl : look D b.key b.seq with
    | none => exact look_none hl ha hab.1 hab.2
    | some y => rw [hl] at hn; exact hn rfl
theorem fold_dist : ∀ (F : List Ent) {D : List Ent}, Dist D → Dist (F.foldl fstep D)
  | [], D, h => h
  | x :: F, D, h => fold_dist F (fstep_dist h x)
theorem firsts_dist (F : List Ent) : Dist (firsts F) := fold_dist F (by simp [Dist])
theorem Rw.dist {l : List Ent} (h : Rw l) : Dist l := List.Pairwise.imp (fun {a b} hab hs => by rw [ab_same hs.1 hs.2] at hab; cases hab) h
theorem dist_len : ∀ {l m : List Ent}, Dist l → Dist m → (∀ k s, look l k s = look m k s) → l.length = m.length
  | [], [], _, _, _ => rfl
  | [], y :: m, _, _, h => by have := h y.key y.seq; rw [look_cons] at this; cases this
  | x :: l, m, hl, hm, h => by
    have hx : look m x.key x.seq = some x := (h x.key x.seq).symm.trans (look_cons x l)
    obtain ⟨u, v, e⟩ := List.append_of_mem (look_some hx).1
    subst e
    have hd := List.pairwise_cons.1 hl
    have hm2 := List.pairwise_append.1 hm
    have hm3 := List.pairwise_cons.1 hm2.2.1
    have hd2 : Dist (u ++ v) := List.pairwise_append.2 ⟨hm2.1, hm3.2, fun a ha b hb => hm2.2.2 a ha b (List.mem_cons_of_mem _ hb)⟩
    have hlk : ∀ k s, look l k s = look (u ++ v) k s := fun k s => by
      by_cases e : x.key = k ∧ x.seq = s
      · obtain ⟨rfl, rfl⟩ := e
        rw [look_not fun z hz e1 e2 => hd.1 z hz ⟨e1.symm, e2.symm⟩, look_not fun z hz e1 e2 => ?_]
        rcases List.mem_append.1 hz with hz | hz
        · exact hm2.2.2 z hz x List.mem_cons_self ⟨e1, e2⟩
        · exact hm3.1 z hz ⟨e1.symm, e2.symm⟩
      · have := h k s
        rw [show x :: l = [x] ++ l from rfl, show u ++ x :: v = u ++ ([x] ++ v) from rfl, look_app, look_app, look_app, look_other e] at this
        rw [look_app]
        simpa using this
    have := dist_len hd.2 hd2 hlk
    simp only [List.length_cons, List.length_append] at this ⊢
    omega
theorem firsts_tog (rows : List (List Ent)) : (firsts rows.flatten).length = (tog rows).length := dist_len (firsts_dist _) (tog_row rows).dist fun k s => by rw [firsts_look, tog_look]
end Mg
theorem gidT : Try.prog.keyType 72 = true := by kernel_rfl
theorem keyedI : Keyed Try.prog 72 := Keyed.of_law (deep_law_laid mlaid (m := 3) (by omega) (of_decide_eq_true (by kernel_rfl)) (by kernel_rfl) (by kernel_rfl))
def idV (k : List UInt8) (s : Nat) : Value := .agg #[.string (bs k), .int .u64 (s : Nat)]
theorem mcellsId : Try.prog.cellsOf 72 = 2 := by kernel_rfl
theorem key_id {k : List UInt8} {s : Nat} (h1 : k.length ≤ maxLen) (h2 : s ≤ 18446744073709551615) : ∃ kl, keyOf Try.prog 72 (idV k s) = some kl := by
  have s1 : (bs k).size ≤ maxLen := by rw [mbs_size]; exact h1
  unfold keyOf idV
  rw [Try.underlying72]
  simp only [gidT, Bool.true_and]
  have hf : Value.formed Try.prog 72 (.agg #[.string (bs k), .int .u64 (s : Nat)]) = true := by
    unfold Value.formed
    rw [Try.underlying72]
    simp [mcellsId]
  rw [if_pos hf, keyE_fuel]
  generalize Try.prog.types.size - 1 = d
  unfold Program.keyLits
  rw [Try.underlying72]
  simp only
  rw [if_pos ⟨by rw [mcellsId]; rfl, by kernel_rfl⟩]
  simp only [List.mapM_cons, List.mapM_nil, mcellsStr, mcellsU64, Value.cells]
  simp only [List.drop_zero, List.drop_succ_cons, List.take_succ_cons, List.take_zero]
  rw [keyS d s1, keyU d h2]
  exact ⟨_, rfl⟩
noncomputable def klI (k : List UInt8) (s : Nat) : Lit := (keyOf Try.prog 72 (idV k s)).getD (.bool false)
def OkI (k : List UInt8) (s : Nat) : Prop := k.length ≤ maxLen ∧ s ≤ 18446744073709551615
theorem klI_key {k : List UInt8} {s : Nat} (h : OkI k s) : keyOf Try.prog 72 (idV k s) = some (klI k s) := by
  obtain ⟨kl, hk⟩ := key_id h.1 h.2
  unfold klI
  rw [hk]; rfl
theorem idV_inj {k k' : List UInt8} {s s' : Nat} (h : idV k s = idV k' s') : k = k' ∧ s = s' := by
  unfold idV at h
  simp only [Value.agg.injEq, Array.mk.injEq, List.cons.injEq, Value.string.injEq, Value.int.injEq, and_true, true_and] at h
  obtain ⟨h1, h2⟩ := h
  refine ⟨?_, by omega⟩
  have := congrArg (fun s => s.data.toList) h1; simpa [bs] using this
theorem klI_inj {k k' : List UInt8} {s s' : Nat} (ha : OkI k s) (hb : OkI k' s') (h : klI k s = klI k' s') : k = k' ∧ s = s' := idV_inj (keyedI.inj (klI_key ha) (h ▸ klI_key hb))
/-- an entry as a map's value: told by what it reads as, as a key -/
noncomputable def entElem (v : Value) : Option (DataW Unit × List MemPlace) := (keyOf Try.prog 35 v).map fun k => (.lit k, [])
theorem entElem_of {e : Mm.Ent} (h : OkE e) : entElem (entV e) = some (.lit (klE e), []) := by unfold entElem; rw [klE_key h]; rfl
theorem entElem_inv {v : Value} {e : Mm.Ent} {ps : List MemPlace} (h : OkE e) (k : entElem v = some (.lit (klE e), ps)) : v = entV e := by
  unfold entElem at k
  cases hv : keyOf Try.prog 35 v with
  | none => rw [hv] at k; cases k
  | some kl =>
    rw [hv] at k
    simp at k
    exact keyedE.inj hv (by rw [k.1]; exact klE_key h)
/-- the first entries of each key and number -/
structure HIs (w : World) (b : Nat) (L : List Mm.Ent) : Prop where
  ex : ∃ D : DataW Unit, w.ownsMap Try.prog 72 entElem b L.length D ∧ Maps.size D = L.length ∧ (∀ x ∈ L, ∀ z, D.atKey (klI x.key x.seq) z = .lit (klE x)) ∧ (∀ k s, OkI k s → Mg.look L k s = none → Maps.has D (klI k s) = false) ∧ (∀ x ∈ L, Maps.has D (klI x.key x.seq) = true)
theorem HIs.same {w w' : World} {b : Nat} {L : List Mm.Ent} (h : HIs w b L) (k : w'.heap[b]? = w.heap[b]?) : HIs w' b L := by
  obtain ⟨D, ⟨es, cl, hb, r⟩, h2⟩ := h.ex
  exact ⟨D, ⟨es, cl, k.trans hb, r⟩, h2⟩
theorem HIs.lt {w : World} {b : Nat} {L : List Mm.Ent} (h : HIs w b L) : b < w.heap.size := by
  obtain ⟨D, h1, _⟩ := h.ex; exact h1.lt
theorem HIs.kept {w w' : World} {b : Nat} {L : List Mm.Ent} (h : HIs w b L) (k : Kept w w') : HIs w' b L := h.same (Below.block k b h.lt)
theorem hIs_new (w : World) : HIs (w.alloc (.map #[] 0)) w.heap.size [] :=
  ⟨.map [], World.ownsMap_made w Try.prog 72 _, rfl, by simp, fun k s _ _ => rfl, by simp⟩
theorem HIs.store {w : World} {b : Nat} {L : List Mm.Ent} (h : HIs w b L) (hf : L.length ≤ 1000) (hL : ∀ y ∈ L, OkE y) (x : Mm.Ent) (hx : OkE x) (hn : Mg.look L x.key x.seq = none) :
    ∃ w', (Instr.mapUpdate 70 (.map (some b)) (idV x.key x.seq) (entV x)).run Try.prog w = .ok () w' ∧ HIs w' b (L ++ [x]) ∧ w.grownBy w' (some b) ∧ w'.heap.size = w.heap.size := by
  obtain ⟨D, h1, h2, h3, h4, h5⟩ := h.ex
  have hxi : OkI x.key x.seq := ⟨hx.1, hx.2.2⟩
  have hhf := h4 _ _ hxi hn
  have htidy := h1.tidy keyedI
  have hkl := keyedI.key (klI_key hxi)
  obtain ⟨w', hrun, ho, hturn⟩ := h1.store keyedI Try.underlying70 (by unfold maxLen; omega) (klI_key hxi) (entElem_of hx)
  refine ⟨w', hrun, ⟨⟨D.put (klI x.key x.seq) (.lit (klE x)), ?_, ?_, fun y hy z => ?_, fun k s hk hl => ?_, fun y hy => ?_⟩⟩, hturn.grown, ?_⟩
  · rw [List.length_append]; exact ho
  · rw [Maps.size_put htidy, hhf, List.length_append, h2]; rfl
  · rcases List.mem_append.1 hy with hy | hy
    · rw [Maps.atKey_put_other (fun q => by
        obtain ⟨e1, e2⟩ := klI_inj ⟨(hL y hy).1, (hL y hy).2.2⟩ hxi q
        exact Mg.look_none hn hy e1 e2)]
      exact h3 y hy z
    · rw [List.mem_singleton] at hy; subst hy
      exact Maps.atKey_put_same htidy.isMap hkl _ _
  · rw [Mg.look_app] at hl
    rw [Maps.has_put_other (fun q => by
      obtain ⟨rfl, rfl⟩ := klI_inj hk hxi q
      rw [Mg.look_one] at hl
      cases hq : Mg.look L x.key x.seq <;> rw [hq] at hl <;> cases hl)]
    exact h4 k s hk (by cases hq : Mg.look L k s with
      | none => rfl
      | some y => rw [hq] at hl; cases hl)
  · rcases List.mem_append.1 hy with hy | hy
    · rw [Maps.has_put_other (fun q => by
        obtain ⟨e1, e2⟩ := klI_inj ⟨(hL y hy).1, (hL y hy).2.2⟩ hxi q
        exact Mg.look_none hn hy e1 e2)]
      exact h5 y hy
    · rw [List.mem_singleton] at hy; subst hy
      exact Maps.has_put_same htidy.isMap hkl _
  · obtain ⟨es, clock, es', clock', _, rfl⟩ := hturn
    simp [ChangeMaps.setBlock]
theorem HIs.len {w : World} {b : Nat} {L : List Mm.Ent} (h : HIs w b L) (ty : TypeId) : (Builtin.len_ #[70] ty #[.map (some b)]).run Try.prog w = .ok (.int .i64 (L.length : Nat)) w := by
  obtain ⟨D, h1, h2, _⟩ := h.ex
  have := h1.len Try.underlying70 ty
  rw [h2] at this
  exact this
/-- what is looked up by a key and a number: the entry, or the zero one and that there is none -/
theorem HIs.look {w : World} {b : Nat} {L : List Mm.Ent} (h : HIs w b L) (hL : ∀ y ∈ L, OkE y) {x : Mm.Ent} (hx : Mg.look L x.key x.seq = some x) :
    (Instr.lookup 70 (.map (some b)) (idV x.key x.seq) false).run Try.prog w = .ok (entV x) w := by
  obtain ⟨D, h1, h2, h3, h4, h5⟩ := h.ex
  have hm := (Mg.look_some hx).1
  have hok := hL x hm
  obtain ⟨v, ps, hr, hv⟩ := h1.lookup keyedI Try.underlying70 (z := entV Mm.zent) (by kernel_rfl) (entElem_of (by unfold OkE maxLen Mm.zent; simp)) (klI_key ⟨hok.1, hok.2.2⟩)
  rw [h3 x hm] at hv
  rw [entElem_inv hok hv] at hr
  exact hr
theorem HIs.look_ok {w : World} {b : Nat} {L : List Mm.Ent} (h : HIs w b L) (hL : ∀ y ∈ L, OkE y) {k : List UInt8} {s : Nat} (hk : OkI k s) :
    (Instr.lookup 70 (.map (some b)) (idV k s) true).run Try.prog w = .ok (.tuple #[entV ((Mg.look L k s).getD Mm.zent), .bool (Mg.look L k s).isSome]) w := by
  obtain ⟨D, h1, h2, h3, h4, h5⟩ := h.ex
  have hz : OkE Mm.zent := by unfold OkE maxLen Mm.zent; simp
  obtain ⟨v, ps, hr, hv⟩ := h1.look_ok keyedI Try.underlying70 (z := entV Mm.zent) (by kernel_rfl) (entElem_of hz) (klI_key hk)
  cases hl : Mg.look L k s with
  | none =>
    have hb := h4 k s hk hl
    rw [Maps.atKey_of_not_has hb] at hv
    rw [entElem_inv hz hv, hb] at hr
    exact hr
  | some x =>
    obtain ⟨hm, rfl, rfl⟩ := Mg.look_some hl
    rw [h3 x hm] at hv
    rw [entElem_inv (hL x hm) hv, h5 x hm] at hr
    exact hr
end Go.Proofs.Ytpnabojfliphpaa
