/-
  Package level over memory: an edit in memory; Apply.
-/
import Derived.Test.YtnnmalpnjlnnlaaGreatLevelAll
import Derived.Test.YtnnmalpnjlnnlaaGreatLevelApart
import Derived.Test.YtnnmalpnjlnnlaaGreatLevelTwice
import Derived.Test.YtnnmalpnjlnnlaaGreatPackLvD
import Derived.Test.YtnnmalpnjlnnlaaGreatLevelTog
import Derived.Test.YtnnmalpnjlnnlaaGreatPackLvP
import Derived.Test.YtnnmalpnjlnnlaaGreatLevelEnc
import Derived.Test.YtnnmalpnjlnnlaaGreatStoreAll
import Derived.RegionTactic
import Derived.Deep.RegionHeld3
import Derived.Deep.CutRange
namespace Go.Proofs.YtnnmalpnjlnnlaaGreat
open Go.ChangeShapes Go.WideShapes Go.ChangeAt Go.RowKit
set_option linter.unusedVariables false
set_option maxRecDepth 100000
set_option maxHeartbeats 8000000
open Lv
/-- an edit in memory: the numbers that go, four lists, three numbers -/
structure Ed where
  A : Option Addr
  c : Nat
  gone : List Nat
  T : Nat → Lvl
  nx : Nat
  lg : Nat
  sq : Nat
def Ed.v (e : Ed) : Value := edv (.slice e.A e.gone.length e.c) (fun l => (e.T l).v) e.nx e.lg e.sq
def Ed.edt (e : Ed) : Edt := ⟨e.gone, fun l => (e.T l).l, e.nx, e.lg, e.sq⟩
structure Ed.In (w : World) (e : Ed) : Prop where
  gone : Nus w e.A e.gone
  tab : Tin w e.T
  gl : e.gone.length ≤ 1000
  tl : ∀ l, l < 4 → (e.T l).l.length ≤ 1000
  nx : e.nx ≤ 18446744073709551615
  lg : e.lg ≤ 18446744073709551615
  sq : e.sq ≤ 18446744073709551615
theorem Ed.In.kept {w w' : World} {e : Ed} (h : e.In w) (k : Kept w w') : e.In w' := ⟨h.gone.kept k, h.tab.kept k, h.gl, h.tl, h.nx, h.lg, h.sq⟩
/-- a version as what it is -/
def verV (T : Nat → Lvl) (nx lg sq : Nat) : Ver := ⟨fun l => (T l).l, nx, lg, sq⟩
def apV (V : Ver) (E : Edt) : Ver := ⟨res V E, chg V.nx E.nx, chg V.lg E.lg, chg V.sq E.sq⟩
/-- what Apply tells -/
def ApyRet (V : Ver) (E : Edt) (w : World) (e : Ending) (w' : World) : Prop :=
  (code V E = 0 → ∃ p U, e = .returned (.tuple #[.pointer (some ⟨p, 0, none⟩), .int .i64 0]) ∧ IsV w' p U (chg V.nx E.nx) (chg V.lg E.lg) (chg V.sq E.sq) ∧ (∀ l, l < 4 → (U l).l = res V E l) ∧ w.heap.size ≤ p) ∧
  (code V E ≠ 0 → e = .returned (.tuple #[.pointer none, .int .i64 (code V E : Nat)])) ∧ Kept w w'
theorem adj_of {l : List Meta} (h : Apart l) : adjL l := fun i a b ha hb => by
  obtain ⟨h1, e1⟩ := List.getElem?_eq_some_iff.1 ha
  obtain ⟨h2, e2⟩ := List.getElem?_eq_some_iff.1 hb
  have := List.pairwise_iff_getElem.1 h i (i + 1) h1 h2 (by omega)
  rw [e1, e2] at this
  exact this
theorem apply_lists {V : Ver} {E : Edt} {L : Nat → List Meta} (g : Lv.Good V) (h1 : all4 may E.new = true) (h3 : (fl (stay V.t E.gone) ++ fl E.new).Nodup)
    (hp : ∀ l, l < 4 → (L l).Perm (stay V.t E.gone l ++ E.new l) ∧ Srt (l == 0) (L l)) {B : Bool} (hB : B = true ↔ ∀ l, 1 ≤ l → l < 4 → adjL (L l)) :
    B = apart3 (res V E) ∧ (B = true → ∀ l, l < 4 → L l = res V E l) := by
  have hm : ∀ l, l < 4 → ∀ a ∈ L l, le a.first a.last = true := fun l hl a ha => by
    have := (hp l hl).1.mem_iff.1 ha
    rw [List.mem_append, stay_mem] at this
    rcases this with h | h
    · exact may_le (g.may l hl a h.1)
    · exact may_le (all4_iff.1 h1 l hl a h)
  have hone : B = true → ∀ l, l < 4 → L l = res V E l := fun hb l hl => by
    refine res_one g h1 h3 hl (hp l hl).1 (hp l hl).2 (fun h => ?_)
    have hs := (hp l hl).2
    rw [show (l == 0) = false by simp; omega] at hs
    exact apart_adj (hm l hl) hs (hB.1 hb l h hl)
  refine ⟨?_, hone⟩
  cases hb : B
  · cases ha : apart3 (res V E)
    · rfl
    · exfalso
      rw [apart3_iff] at ha
      have : B = true := hB.2 fun l h hl => adj_of ((apart_perm ((hp l hl).1.trans (res_perm V E l).symm)).2 (ha l hl h))
      rw [hb] at this; cases this
  · symm
    rw [apart3_iff]
    intro l hl h
    rw [← hone hb l hl]
    have hs := (hp l hl).2
    rw [show (l == 0) = false by simp; omega] at hs
    exact apart_adj (hm l hl) hs (hB.1 hb l h hl)
theorem apy_no {V : Ver} {E : Edt} {w w' : World} {n : Nat} {z : Int} (hc : code V E = n) (hn : n ≠ 0) (hz : z = (n : Int)) (k : Kept w w') : ApyRet V E w (.returned (.tuple #[.pointer none, .int .i64 z])) w' := by
  refine ⟨fun h => absurd (hc.symm.trans h) hn, fun _ => ?_, k⟩
  rw [hc, hz]
theorem alloc_kv {w W : World} (h : KV w W) (o : Obj) : ∃ w' b1, w' = W.alloc o ∧ b1 = W.heap.size ∧ KV w w' ∧ Hid (w'.heap[b1]? = some o) ∧ Kept W w' ∧ w.heap.size ≤ b1 :=
  ⟨_, _, rfl, rfl, ⟨h.k.alloc _⟩, Lib.hid (malloc_new W o), (Kept.refl _).alloc _, h.k.size⟩
theorem ones_four {f : Nat → Value} (h : ∀ i, i < 4 → (f i).oneCell' = true) : ∀ v ∈ (#[f 0, f 1, f 2, f 3] : Array Value).toList, v.oneCell' = true := by
  intro v hv
  simp only [List.mem_cons, List.not_mem_nil, or_false] at hv
  rcases hv with rfl | rfl | rfl | rfl
  · exact h 0 (by omega)
  · exact h 1 (by omega)
  · exact h 2 (by omega)
  · exact h 3 (by omega)
/-- what without tells, in one form -/
theorem wo_one {T : Nat → Lvl} {G : List Nat} {w : World} {e : Ending} {w' : World} (h : WoRet T G w e w') : ∃ f, e = .returned (.tuple #[.agg #[f 0, f 1, f 2, f 3], .bool (takes (fls T 4) G)]) ∧ (takes (fls T 4) G = true → Four w.heap.size w' f (stay (fun l => (T l).l) G) 4) ∧ (∀ i, i < 4 → (f i).oneCell' = true) ∧ Kept w w' := by
  obtain ⟨h1, h2, k⟩ := h
  cases hb : takes (fls T 4) G
  · exact ⟨fun _ => .slice none 0 0, h2 hb, (fun (hh : false = true) => by cases hh), fun _ _ => rfl, k⟩
  · obtain ⟨f, e1, hF⟩ := h1 hb
    exact ⟨f, e1, fun _ => hF, fun i hi => slice_one (hF.own i hi), k⟩
theorem four_inj {f : Nat → Value} {U : Nat → Lvl} (h : four f = tbv U) : f 0 = (U 0).v ∧ f 1 = (U 1).v ∧ f 2 = (U 2).v ∧ f 3 = (U 3).v := by
  unfold four tbv at h
  injection h with h
  simp at h
  exact h
theorem fls_lists {U : Nat → Lvl} {L : Nat → List Meta} (h : ∀ l, l < 4 → (U l).l = L l) : fls U 4 = fl L := by
  show fl (fun l => (U l).l) = fl L
  rw [fl_four, fl_four, h 0 (by omega), h 1 (by omega), h 2 (by omega), h 3 (by omega)]
theorem seven_blk {w : World} {b : Nat} {x0 x1 x2 x3 x4 x5 x6 : Value} {t : TypeId} {z : Nat × Nat} (h : w.heap[b]? = some (.cells #[x0, x1, x2, x3, x4, x5, x6] t z)) :
    w.cell? ⟨b, 0, none⟩ = some x0 ∧ w.cell? ⟨b, 1, none⟩ = some x1 ∧ w.cell? ⟨b, 2, none⟩ = some x2 ∧ w.cell? ⟨b, 3, none⟩ = some x3 ∧ w.cell? ⟨b, 4, none⟩ = some x4 ∧ w.cell? ⟨b, 5, none⟩ = some x5 ∧ w.cell? ⟨b, 6, none⟩ = some x6 :=
  ⟨mcell h 0 (by rfl), mcell h 1 (by rfl), mcell h 2 (by rfl), mcell h 3 (by rfl), mcell h 4 (by rfl), mcell h 5 (by rfl), mcell h 6 (by rfl)⟩
theorem ver_set {W : World} {pv : Nat} {z0 z1 z2 z3 z4 z5 z6 : Value} (h : W.heap[pv]? = some (.cells #[z0, z1, z2, z3, z4, z5, z6] 73 (0, 0))) (v0 v1 v2 v3 : Value) :
    ((((W.setCell ⟨pv, 0, none⟩ v0).setCell ⟨pv, 1, none⟩ v1).setCell ⟨pv, 2, none⟩ v2).setCell ⟨pv, 3, none⟩ v3).heap[pv]? = some (.cells #[v0, v1, v2, v3, z4, z5, z6] 73 (0, 0)) :=
  lvset (lvset (lvset (lvset h 0 v0) 1 v1) 2 v2) 3 v3
theorem kept_set4 {w W : World} (k : Kept w W) {pv : Nat} (hp : w.heap.size ≤ pv) (v0 v1 v2 v3 : Value) : Kept w ((((W.setCell ⟨pv, 0, none⟩ v0).setCell ⟨pv, 1, none⟩ v1).setCell ⟨pv, 2, none⟩ v2).setCell ⟨pv, 3, none⟩ v3) :=
  Below.setCell (Below.setCell (Below.setCell (Below.setCell k (p := ⟨pv, 0, none⟩) hp _) (p := ⟨pv, 1, none⟩) hp _) (p := ⟨pv, 2, none⟩) hp _) (p := ⟨pv, 3, none⟩) hp _
theorem lvapply_any {w : World} {p nx lg sq : Nat} {T : Nat → Lvl} (h : IsV w p T nx lg sq) (g : Lv.Good (verV T nx lg sq)) {e : Ed} (he : e.In w) :
    Calls Tryz.prog 16 #[.pointer (some ⟨p, 0, none⟩), e.v] w (ApyRet (verV T nx lg sq) e.edt w) := by
  have hT3 : ∀ l, l < 4 → (T l).l.length ≤ 30 := g.len
  have HV := Lib.hid (fun W (hW : Kept w W) => h.kept hW); have HE := Lib.hid (fun W (hW : Kept w W) => he.kept hW)
  have HG := Lib.hid g
  have HALL := Lib.hid (fun W (hW : Kept w W) => lvall_may (he.tab.kept hW) (fun l hl => Nat.le_trans (he.tl l hl) (by omega)))
  have HWO := Lib.hid (fun W (hW : Kept w W) => (lvwo_any (c := e.c) (h.tab.kept hW) h.flat (fun l hl => Nat.le_trans (hT3 l hl) (by omega)) (he.gone.kept hW) (Nat.le_trans he.gl (by omega)) g.once).mono fun _ _ hh => wo_one hh)
  have HSN := Lib.hid (fun l (hl : l < 4) x (hx : x ∈ stay (fun l => (T l).l) e.gone l) => h.tab.sane l hl x (stay_mem.1 hx).1)
  have HSL := Lib.hid (fun l (hl : l < 4) => show (stay (fun l => (T l).l) e.gone l).length ≤ 30 from Nat.le_trans (List.length_filter_le _ _) (hT3 l hl))
  obtain ⟨GA, gc, gone, eT, enx, elg, esq⟩ := e
  have hnx := he.nx; have hlg := he.lg; have hsq := he.sq
  have HP7 := Lib.hid (fun W (hW : Kept w W) => seven_cells (h.kept hW))
  unfold Ed.v edv
  unfold Ed.edt
  simp only at HALL HWO HSN HSL hnx hlg hsq ⊢
  unfold tbv at HALL HWO
  have HCC := Lib.hid (show ∀ n, code (verV T nx lg sq) ⟨gone, fun l => (eT l).l, enx, elg, esq⟩ = n ↔ code (verV T nx lg sq) ⟨gone, fun l => (eT l).l, enx, elg, esq⟩ = n from fun _ => Iff.rfl)
  have HA1 := Lib.hid (show all4 may (fun l => (eT l).l) = all4 may (fun l => (eT l).l) from rfl)
  obtain ⟨A1, hA1⟩ : ∃ A1, A1 = all4 may (fun l => (eT l).l) := ⟨_, rfl⟩
  obtain ⟨TK, hTK⟩ : ∃ TK, TK = takes (fls T 4) gone := ⟨_, rfl⟩
  rw [← hA1] at HALL
  rw [← hTK] at HWO
  obtain ⟨V, hVd⟩ : ∃ V, V = verV T nx lg sq := ⟨_, rfl⟩
  obtain ⟨E, hEd⟩ : ∃ E : Edt, E = ⟨gone, fun l => (eT l).l, enx, elg, esq⟩ := ⟨_, rfl⟩
  have HA := Lib.hid (show A1 = all4 may E.new from by rw [hEd]; exact hA1)
  have HTK := Lib.hid (show TK = takes (fl V.t) E.gone from by rw [hEd, hVd]; exact hTK)
  rw [← hVd, ← hEd]
  have HVD := Lib.hid hVd; have HED := Lib.hid hEd
  clear hVd hEd hA1 hTK HA1 HCC h g he hT3
  obtain ⟨a0, n0, c0, h0⟩ : ∃ a n c, (eT 0).v = .slice a n c := ⟨_, _, _, rfl⟩
  obtain ⟨a1, n1, c1, h1⟩ : ∃ a n c, (eT 1).v = .slice a n c := ⟨_, _, _, rfl⟩
  obtain ⟨a2, n2, c2, h2⟩ : ∃ a n c, (eT 2).v = .slice a n c := ⟨_, _, _, rfl⟩
  obtain ⟨a3, n3, c3, h3⟩ : ∃ a n c, (eT 3).v = .slice a n c := ⟨_, _, _, rfl⟩
  have HY := Lib.hid (show (eT 0).v = .slice a0 n0 c0 ∧ (eT 1).v = .slice a1 n1 c1 ∧ (eT 2).v = .slice a2 n2 c2 ∧ (eT 3).v = .slice a3 n3 c3 from ⟨h0, h1, h2, h3⟩)
  simp only [h0, h1, h2, h3] at HALL ⊢
  clear h0 h1 h2 h3
  obtain ⟨x0, h0⟩ : ∃ y, y = (T 0).v := ⟨_, rfl⟩
  obtain ⟨x1, h1⟩ : ∃ y, y = (T 1).v := ⟨_, rfl⟩
  obtain ⟨x2, h2⟩ : ∃ y, y = (T 2).v := ⟨_, rfl⟩
  obtain ⟨x3, h3⟩ : ∃ y, y = (T 3).v := ⟨_, rfl⟩
  simp only [← h0, ← h1, ← h2, ← h3] at HWO HP7
  clear h0 h1 h2 h3
  obtain ⟨W1, hW1⟩ : ∃ W1, W1 = (w.alloc (.cells #[.slice GA gone.length gc, .slice a0 n0 c0, .slice a1 n1 c1, .slice a2 n2 c2, .slice a3 n3 c3, .int .u64 (enx : Nat), .int .u64 (elg : Nat), .int .u64 (esq : Nat)] 34)).alloc (.cells #[.slice a0 n0 c0, .slice a1 n1 c1, .slice a2 n2 c2, .slice a3 n3 c3] 71) := ⟨_, rfl⟩
  have G1 := Lib.hid (show Kept w W1 by rw [hW1]; exact ((Kept.refl _).alloc _).alloc _)
  have BE := Lib.hid (show W1.heap[w.heap.size]? = some (.cells #[.slice GA gone.length gc, .slice a0 n0 c0, .slice a1 n1 c1, .slice a2 n2 c2, .slice a3 n3 c3, .int .u64 (enx : Nat), .int .u64 (elg : Nat), .int .u64 (esq : Nat)] 34 (0, 0)) by rw [hW1]; exact (malloc_old _ _ (by simp)).trans (malloc_new w _))
  have BC := Lib.hid (show W1.heap[w.heap.size + 1]? = some (.cells #[.slice a0 n0 c0, .slice a1 n1 c1, .slice a2 n2 c2, .slice a3 n3 c3] 71 (0, 0)) by
    rw [hW1, show w.heap.size + 1 = (w.alloc (.cells #[.slice GA gone.length gc, .slice a0 n0 c0, .slice a1 n1 c1, .slice a2 n2 c2, .slice a3 n3 c3, .int .u64 (enx : Nat), .int .u64 (elg : Nat), .int .u64 (esq : Nat)] 34)).heap.size from by simp]; exact malloc_new _ _)
  go_enter Tryz.func16, Tryz.ntmps16
  go_upto_region 2 with fail
  rw [← hW1]
  clear hW1
  obtain ⟨k0, k1, k2, k3⟩ := four_cells BC.out
  go_wp2_with fail
  refine (HALL.out _ G1.out).mono ?_
  rintro e w2 ⟨rfl, g2⟩
  have BE2 := Lib.hid (hp_kept BE.out g2); have BC2 := Lib.hid (hp_kept BC.out g2)
  have G2 := Lib.hid (kept_trans G1.out g2)
  clear k0 k1 k2 k3 g2 HALL BE BC G1
  cases A1 with
  | false =>
    go_wp2_with fail
    go_ret2
    exact apy_no (n := 2) (by unfold code; rw [← HA.out]; rfl) (by omega) rfl G2.out
  | true =>
  have HCL := Lib.hid (fun W (hW : Kept w2 W) => eight_cells (hp_kept BE2.out hW))
  have HCM := Lib.hid (fun W (hW : Kept w2 W) => four_cells (hp_kept BC2.out hW))
  go_upto_region 4 with fail
  go_cut [7, 8] from 10 (fun q b wc => ∃ b7 f, q = .pointer (some ⟨b7, 0, none⟩) ∧ b = .bool TK ∧ Hid (wc.heap[b7]? = some (.cells #[f 0, f 1, f 2, f 3] 71 (0, 0))) ∧ w2.heap.size ≤ b7 ∧ Kept w2 wc ∧ Hid (TK = true → Four w2.heap.size wc f (stay (fun l => (T l).l) gone) 4))
  case first =>
    -- REGION Apply4 BEGIN
    refine wp_region_held_drew (S := fun W => KV w2 W) (by kernel_rfl) ⟨kept_drewN _ 1⟩ (fun hHeld => ?_)
    generalize w2.drew = v1 at hHeld ⊢
    refine wpAnyH_take (i := 0) (v := (.pointer (some ⟨p, 0, none⟩))) (List.getElem?_toArray.trans rfl) (by kernel_rfl) (by kernel_rfl) (by kernel_rfl) (fun _ _ _ h => h) (Or.inl ⟨by rfl, ?_⟩) (by assumption) ?_
    · intro W hSw
      first | rfl | (go_simp; done) | (go_simp; rfl)
    simp only [Act.put, List.setIfInBounds_toArray, List.set_cons_zero, List.set_cons_succ]
    refine wpAnyH_take (i := 1) (v := (.pointer (some ⟨p, 0, none⟩))) (List.getElem?_toArray.trans rfl) (by kernel_rfl) (by kernel_rfl) (by kernel_rfl) (fun _ _ _ h => h) (Or.inl ⟨by rfl, ?_⟩) (by assumption) ?_
    · intro W hSw
      first | rfl | (go_simp; done) | (go_simp; rfl)
    simp only [Act.put, List.setIfInBounds_toArray, List.set_cons_zero, List.set_cons_succ]
    refine wpAnyH_take (i := 2) (v := (.pointer (some ⟨p, 0, none⟩))) (List.getElem?_toArray.trans rfl) (by kernel_rfl) (by kernel_rfl) (by kernel_rfl) (fun _ _ _ h => h) (Or.inl ⟨by rfl, ?_⟩) (by assumption) ?_
    · intro W hSw
      first | rfl | (go_simp; done) | (go_simp; rfl)
    simp only [Act.put, List.setIfInBounds_toArray, List.set_cons_zero, List.set_cons_succ]
    refine wpAnyH_take (i := 3) (v := (.agg #[x0, x1, x2, x3])) (List.getElem?_toArray.trans rfl) (by kernel_rfl) (by kernel_rfl) (by kernel_rfl) (fun _ _ _ h => h) (Or.inl ⟨by rfl, ?_⟩) (by assumption) ?_
    · intro W hSw
      obtain ⟨q0, q1, q2, q3, q4, q5, q6⟩ := HP7.out W (kept_trans G2.out hSw.k)
      first | (go_simp; done) | (go_simp; rfl)
    simp only [Act.put, List.setIfInBounds_toArray, List.set_cons_zero, List.set_cons_succ]
    refine wpAnyH_take (i := 4) (v := (.pointer (some ⟨w.heap.size, 0, none⟩))) (List.getElem?_toArray.trans rfl) (by kernel_rfl) (by kernel_rfl) (by kernel_rfl) (fun _ _ _ h => h) (Or.inl ⟨by rfl, ?_⟩) (by assumption) ?_
    · intro W hSw
      first | rfl | (go_simp; done) | (go_simp; rfl)
    simp only [Act.put, List.setIfInBounds_toArray, List.set_cons_zero, List.set_cons_succ]
    refine wpAnyH_take (i := 5) (v := (.slice GA gone.length gc)) (List.getElem?_toArray.trans rfl) (by kernel_rfl) (by kernel_rfl) (by kernel_rfl) (fun _ _ _ h => h) (Or.inl ⟨by rfl, ?_⟩) (by assumption) ?_
    · intro W hSw
      obtain ⟨q0, q1, q2, q3, q4, q5, q6, q7⟩ := HCL.out W hSw.k
      first | (go_simp; done) | (go_simp; rfl)
    simp only [Act.put, List.setIfInBounds_toArray, List.set_cons_zero, List.set_cons_succ]
    refine wpAnyH_ready (rs := [6, 10]) (by kernel_rfl) (by simp) ?_
    refine (AllReadyH.cons (List.getElem?_toArray.trans rfl) (fun K hK => ?_) (AllReadyH.cons (List.getElem?_toArray.trans rfl) (fun K hK => ?_) AllReadyH.nil))
    · go_simp
      have HB := Lib.hid hHeld
      refine (HWO.out _ (kept_trans G2.out hHeld.k)).mono ?_
      rintro e wa ⟨f, rfl, hF, h1, ga⟩
      have HF := Lib.hid (fun hh => (hF hh).mono HB.out.k.size); have H1 := Lib.hid h1
      have HS := Lib.hid (show KV w2 wa from ⟨kept_trans HB.out.k ga⟩)
      clear hF h1 ga HB
      go_wp2_with fail
      refine hK.out _ _ HS.out (fun hHeld => ?_)
      clear hK K
      refine wpAnyH_take (i := 7) (v := (.tuple #[.agg #[f 0, f 1, f 2, f 3], .bool TK])) (List.getElem?_toArray.trans rfl) (by kernel_rfl) (by kernel_rfl) (by kernel_rfl) (fun _ _ _ h => h) (Or.inl ⟨by rfl, ?_⟩) (by assumption) ?_
      · intro W hSw
        first | rfl | (go_simp; done) | (go_simp; rfl)
      simp only [Act.put, List.setIfInBounds_toArray, List.set_cons_zero, List.set_cons_succ]
      refine wpAnyH_take (i := 8) (v := (.agg #[f 0, f 1, f 2, f 3])) (List.getElem?_toArray.trans rfl) (by kernel_rfl) (by kernel_rfl) (by kernel_rfl) (fun _ _ _ h => h) (Or.inl ⟨by rfl, ?_⟩) (by assumption) ?_
      · intro W hSw
        first | rfl | (go_simp; done) | (go_simp; rfl)
      simp only [Act.put, List.setIfInBounds_toArray, List.set_cons_zero, List.set_cons_succ]
      refine wpAnyH_take (i := 9) (v := (.bool TK)) (List.getElem?_toArray.trans rfl) (by kernel_rfl) (by kernel_rfl) (by kernel_rfl) (fun _ _ _ h => h) (Or.inl ⟨by rfl, ?_⟩) (by assumption) ?_
      · intro W hSw
        first | rfl | (go_simp; done) | (go_simp; rfl)
      simp only [Act.put, List.setIfInBounds_toArray, List.set_cons_zero, List.set_cons_succ]
      refine wpAnyH_ready (rs := [10]) (by kernel_rfl) (by simp) ?_
      refine (AllReadyH.cons (List.getElem?_toArray.trans rfl) (fun K hK => ?_) AllReadyH.nil)
      go_simp
      obtain ⟨wd, b7, hwd, hb7, hkv, h10, kd, hle⟩ := alloc_kv hHeld (.cells #[.slice none 0 0, .slice none 0 0, .slice none 0 0, .slice none 0 0] 71)
      rw [← hwd, ← hb7]
      have H10 := h10
      have HS := Lib.hid hkv
      have HN := Lib.hid (fun hh i (hi : i < 4) => own_ne_new ((HF.out hh).own i hi) (Nat.le_of_eq hb7.symm))
      have HF := Lib.hid (fun hh => (HF.out hh).kept kd)
      clear hwd hb7 hkv h10 kd
      go_wp2_with fail
      refine hK.out _ _ HS.out (fun hHeld => ?_)
      clear hK K
      refine wpAnyH_ready (rs := [11]) (by kernel_rfl) (by simp) ?_
      refine (AllReadyH.cons (List.getElem?_toArray.trans rfl) (fun K hK => ?_) AllReadyH.nil)
      refine ite_wp (by rfl) (wp_store_all (new := #[f 0, f 1, f 2, f 3]) rfl rfl rfl (by kernel_rfl) (store_all H10.out rfl (ones_four H1.out)) ?_)
      refine hK.out _ _ ⟨kept_row HS.out.k hle _⟩ (fun hHeld => ?_)
      clear hK K
      dsimp only [Act.put]
      refine wpAnyH_take (i := 12) (v := (.bool TK)) (List.getElem?_toArray.trans rfl) (by kernel_rfl) (by kernel_rfl) (by kernel_rfl) (fun _ _ _ h => h) (Or.inl ⟨by rfl, ?_⟩) (by assumption) ?_
      · intro W hSw
        first | rfl | (go_simp; done) | (go_simp; rfl)
      simp only [Act.put, List.setIfInBounds_toArray, List.set_cons_zero, List.set_cons_succ]
      refine wpAnyH_done (by kernel_rfl) ?_ _
      go_wp2_with fail
      go_meet
      exact ⟨b7, f, rfl, rfl, Lib.hid (row_set H10.out), hle, hHeld.k, Lib.hid (fun hh => ⟨fun i hi => own_row ((HF.out hh).own i hi) (HN.out hh i hi) _, (HF.out hh).apart⟩)⟩
    · go_simp
      obtain ⟨wd, b7, hwd, hb7, hkv, h10, kd, hle⟩ := alloc_kv hHeld (.cells #[.slice none 0 0, .slice none 0 0, .slice none 0 0, .slice none 0 0] 71)
      rw [← hwd, ← hb7]
      have H10 := h10
      have HS := Lib.hid hkv
      clear hwd hb7 hkv h10 kd
      go_wp2_with fail
      refine hK.out _ _ HS.out (fun hHeld => ?_)
      clear hK K
      refine wpAnyH_ready (rs := [6]) (by kernel_rfl) (by simp) ?_
      refine (AllReadyH.cons (List.getElem?_toArray.trans rfl) (fun K hK => ?_) AllReadyH.nil)
      go_simp
      have HB := Lib.hid hHeld
      refine (HWO.out _ (kept_trans G2.out hHeld.k)).mono ?_
      rintro e wa ⟨f, rfl, hF, h1, ga⟩
      have HF := Lib.hid (fun hh => (hF hh).mono HB.out.k.size); have H1 := Lib.hid h1
      have HS := Lib.hid (show KV w2 wa from ⟨kept_trans HB.out.k ga⟩)
      have HN := Lib.hid (fun hh i (hi : i < 4) => own_ne_old ((hF hh).own i hi) (mheap_lt H10.out))
      have H10 := Lib.hid (hp_kept H10.out ga)
      clear hF h1 ga HB
      go_wp2_with fail
      refine hK.out _ _ HS.out (fun hHeld => ?_)
      clear hK K
      refine wpAnyH_take (i := 7) (v := (.tuple #[.agg #[f 0, f 1, f 2, f 3], .bool TK])) (List.getElem?_toArray.trans rfl) (by kernel_rfl) (by kernel_rfl) (by kernel_rfl) (fun _ _ _ h => h) (Or.inl ⟨by rfl, ?_⟩) (by assumption) ?_
      · intro W hSw
        first | rfl | (go_simp; done) | (go_simp; rfl)
      simp only [Act.put, List.setIfInBounds_toArray, List.set_cons_zero, List.set_cons_succ]
      refine wpAnyH_take (i := 8) (v := (.agg #[f 0, f 1, f 2, f 3])) (List.getElem?_toArray.trans rfl) (by kernel_rfl) (by kernel_rfl) (by kernel_rfl) (fun _ _ _ h => h) (Or.inl ⟨by rfl, ?_⟩) (by assumption) ?_
      · intro W hSw
        first | rfl | (go_simp; done) | (go_simp; rfl)
      simp only [Act.put, List.setIfInBounds_toArray, List.set_cons_zero, List.set_cons_succ]
      refine wpAnyH_take (i := 9) (v := (.bool TK)) (List.getElem?_toArray.trans rfl) (by kernel_rfl) (by kernel_rfl) (by kernel_rfl) (fun _ _ _ h => h) (Or.inl ⟨by rfl, ?_⟩) (by assumption) ?_
      · intro W hSw
        first | rfl | (go_simp; done) | (go_simp; rfl)
      simp only [Act.put, List.setIfInBounds_toArray, List.set_cons_zero, List.set_cons_succ]
      refine wpAnyH_ready (rs := [11]) (by kernel_rfl) (by simp) ?_
      refine (AllReadyH.cons (List.getElem?_toArray.trans rfl) (fun K hK => ?_) AllReadyH.nil)
      refine ite_wp (by rfl) (wp_store_all (new := #[f 0, f 1, f 2, f 3]) rfl rfl rfl (by kernel_rfl) (store_all H10.out rfl (ones_four H1.out)) ?_)
      refine hK.out _ _ ⟨kept_row HS.out.k hle _⟩ (fun hHeld => ?_)
      clear hK K
      dsimp only [Act.put]
      refine wpAnyH_take (i := 12) (v := (.bool TK)) (List.getElem?_toArray.trans rfl) (by kernel_rfl) (by kernel_rfl) (by kernel_rfl) (fun _ _ _ h => h) (Or.inl ⟨by rfl, ?_⟩) (by assumption) ?_
      · intro W hSw
        first | rfl | (go_simp; done) | (go_simp; rfl)
      simp only [Act.put, List.setIfInBounds_toArray, List.set_cons_zero, List.set_cons_succ]
      refine wpAnyH_done (by kernel_rfl) ?_ _
      go_wp2_with fail
      go_meet
      exact ⟨b7, f, rfl, rfl, Lib.hid (row_set H10.out), hle, hHeld.k, Lib.hid (fun hh => ⟨fun i hi => own_row ((HF.out hh).own i hi) (HN.out hh i hi) _, (HF.out hh).apart⟩)⟩
    -- REGION Apply4 END
  case rest =>
    obtain ⟨b7, f, rfl, rfl, HB7, hb7, hk7, HF7⟩ := hcut
    clear HWO
    cases TK with
    | false =>
      have HK7 := Lib.hid (kept_trans G2.out hk7)
      clear hk7
      go_wp2_with fail
      go_ret2
      exact apy_no (n := 10) (by unfold code; rw [← HA.out, ← HTK.out]; rfl) (by omega) rfl HK7.out
    | true =>
    obtain ⟨U, hU, hUl, hUt, hUf, hUb⟩ := (HF7.out rfl).tin HSN.out
    obtain ⟨f0, f1, f2, f3⟩ := four_inj hU
    have hb := HB7.out
    rw [f0, f1, f2, f3] at hb
    have HUL := Lib.hid hUl
    have HUT := Lib.hid (fun W (hW : Kept wc W) => hUt.kept hW)
    have HUF := Lib.hid hUf
    have HTW := Lib.hid (fun W (hW : Kept wc W) => lvtwice_any (hUt.kept hW) ((HE.out W (kept_trans (kept_trans G2.out hk7) hW)).tab) (fun l hl => by rw [hUl l hl]; exact Nat.le_trans (HSL.out l hl) (by omega)) (fun l hl => Nat.le_trans ((HE.out W (kept_trans (kept_trans G2.out hk7) hW)).tl l hl) (by simp)))
    rw [fls_lists hUl] at HTW
    have hdd : fl (stay (fun l => (T l).l) gone) ++ fls eT 4 = fl (stay V.t E.gone) ++ fl E.new := by rw [HVD.out, HED.out]; rfl
    rw [hdd] at HTW
    obtain ⟨TW, hTW⟩ : ∃ TW, TW = decide (¬ (fl (stay V.t E.gone) ++ fl E.new).Nodup) := ⟨_, rfl⟩
    rw [← hTW] at HTW
    have HTD := Lib.hid hTW
    have HMN := Lib.hid (fun W => lvmany_any U eT W (fun l hl => by rw [hUl l hl]; exact Nat.le_trans (HSL.out l hl) (by omega)) (fun l hl => Nat.le_trans ((HE.out wc (kept_trans G2.out hk7)).tl l hl) (by simp)))
    have HTG := Lib.hid (fun W (hW : Kept wc W) => lvtog_any (hUt.kept hW) ((HE.out W (kept_trans (kept_trans G2.out hk7) hW)).tab) hUf (fun l hl => by rw [hUl l hl]; exact Nat.le_trans (HSL.out l hl) (by omega)) (fun l hl => Nat.le_trans ((HE.out W (kept_trans (kept_trans G2.out hk7) hW)).tl l hl) (by simp)))
    have HGV := Lib.hid (fun W (hW : Kept wc W) pv n1 l1 s1 T0 (hv : IsV W pv T0 n1 l1 s1) => lvall_gave hv ((HE.out W (kept_trans (kept_trans G2.out hk7) hW)).tab) (fun l hl => Nat.le_trans ((HE.out W (kept_trans (kept_trans G2.out hk7) hW)).tl l hl) (by simp)))
    obtain ⟨Mn, hMn⟩ : ∃ Mn, Mn = many U eT := ⟨_, rfl⟩
    rw [← hMn] at HMN
    have HMD := Lib.hid (show Mn = manyL (stay V.t E.gone) E.new from by
      rw [hMn, HVD.out, HED.out]; exact manyL_same (s := fun l => (eT l).l) hUl)
    unfold tbv at HTW HMN HTG HGV
    obtain ⟨u0, m0, d0, e0⟩ : ∃ a n c, (U 0).v = .slice a n c := ⟨_, _, _, rfl⟩
    obtain ⟨u1, m1, d1, e1⟩ : ∃ a n c, (U 1).v = .slice a n c := ⟨_, _, _, rfl⟩
    obtain ⟨u2, m2, d2, e2⟩ : ∃ a n c, (U 2).v = .slice a n c := ⟨_, _, _, rfl⟩
    obtain ⟨u3, m3, d3, e3⟩ : ∃ a n c, (U 3).v = .slice a n c := ⟨_, _, _, rfl⟩
    obtain ⟨g0, g1, g2, g3⟩ := HY.out
    simp only [e0, e1, e2, e3, g0, g1, g2, g3] at HTW HMN HTG HGV hb
    have HB7' := Lib.hid (fun W (hW : Kept wc W) => four_cells (hp_kept hb hW))
    have HK7 := Lib.hid hk7
    have HCL3 := Lib.hid (fun W (hW : Kept wc W) => HCL.out W (kept_trans HK7.out hW))
    have HCM3 := Lib.hid (fun W (hW : Kept wc W) => HCM.out W (kept_trans HK7.out hW))
    have G3 := Lib.hid (kept_trans G2.out hk7)
    have HP73 := Lib.hid (fun W (hW : Kept wc W) => HP7.out W (kept_trans G3.out hW))
    have HW3 := Lib.hid (show b7 < wc.heap.size ∧ w.heap.size + 1 < wc.heap.size from ⟨mheap_lt HB7.out, mheap_lt (hp_kept BC2.out hk7)⟩)
    clear f0 f1 f2 f3 e0 e1 e2 e3 g0 g1 g2 g3 hU hUl hUt hUf hUb hdd hTW hMn hb hk7 hb7 HB7 HF7 HCL HCM HP7 HY BE2 BC2 HK7 G2
    obtain ⟨k0, k1, k2, k3⟩ := HB7'.out wc (Kept.refl _)
    obtain ⟨l0, l1, l2, l3⟩ := HCM3.out wc (Kept.refl _)
    go_wp2_with fail
    refine (HTW.out _ (Kept.refl _)).mono ?_
    rintro e w4 ⟨rfl, g4⟩
    have G4 := Lib.hid g4
    clear k0 k1 k2 k3 l0 l1 l2 l3 g4 HTW
    cases TW with
    | true =>
      go_wp2_with fail
      go_ret2
      exact apy_no (n := 11) (by unfold code; rw [← HA.out, ← HTK.out, if_neg (by decide), if_neg (by decide), if_pos (of_decide_eq_true HTD.out.symm)]) (by omega) rfl (kept_trans G3.out G4.out)
    | false =>
    have HC1 := Lib.hid (fun W => show Calls Tryz.prog 40 #[.int .u64 (nx : Nat), .int .u64 (enx : Nat)] W fun e w' => e = .returned (.int .u64 ((chg nx enx : Nat) : Int)) ∧ w' = W from lvchg_any nx enx hnx W)
    have HC2 := Lib.hid (fun W => show Calls Tryz.prog 40 #[.int .u64 (lg : Nat), .int .u64 (elg : Nat)] W fun e w' => e = .returned (.int .u64 ((chg lg elg : Nat) : Int)) ∧ w' = W from lvchg_any lg elg hlg W)
    have HC3 := Lib.hid (fun W => show Calls Tryz.prog 40 #[.int .u64 (sq : Nat), .int .u64 (esq : Nat)] W fun e w' => e = .returned (.int .u64 ((chg sq esq : Nat) : Int)) ∧ w' = W from lvchg_any sq esq hsq W)
    obtain ⟨N1, hN1⟩ : ∃ N1, N1 = chg nx enx := ⟨_, rfl⟩
    obtain ⟨L1, hL1⟩ : ∃ N1, N1 = chg lg elg := ⟨_, rfl⟩
    obtain ⟨S1, hS1⟩ : ∃ N1, N1 = chg sq esq := ⟨_, rfl⟩
    rw [← hN1] at HC1
    rw [← hL1] at HC2
    rw [← hS1] at HC3
    have HNL := Lib.hid (show N1 = chg V.nx E.nx ∧ L1 = chg V.lg E.lg ∧ S1 = chg V.sq E.sq from by rw [HVD.out, HED.out]; exact ⟨hN1, hL1, hS1⟩)
    have HOK := Lib.hid (show okR V E = ((inN N1 nx && inN L1 lg && inN S1 sq) && all4 (gvP N1 S1) (fun l => (eT l).l)) from by rw [HVD.out, HED.out, hN1, hL1, hS1]; rfl)
    clear hN1 hL1 hS1 hnx hlg hsq
    go_upto_region 9 with fail
    go_cut [9] from 10 (fun q wd => ∃ pv, q = .pointer (some ⟨pv, 0, none⟩) ∧ Hid (wd.heap[pv]? = some (.cells #[.slice none 0 0, .slice none 0 0, .slice none 0 0, .slice none 0 0, .int .u64 (N1 : Nat), .int .u64 (L1 : Nat), .int .u64 (S1 : Nat)] 73 (0, 0))) ∧ w4.heap.size ≤ pv ∧ Kept w4 wd)
    case first =>
      -- REGION Apply9 BEGIN
      refine wp_region_held_drew (S := fun W => KV w4 W) (by kernel_rfl) ⟨kept_drewN _ 1⟩ (fun hHeld => ?_)
      generalize w4.drew = v1 at hHeld ⊢
      refine wpAnyH_take (i := 0) (v := (.pointer (some ⟨p, 0, none⟩))) (List.getElem?_toArray.trans rfl) (by kernel_rfl) (by kernel_rfl) (by kernel_rfl) (fun _ _ _ h => h) (Or.inl ⟨by rfl, ?_⟩) (by assumption) ?_
      · intro W hSw
        first | rfl | (go_simp; done) | (go_simp; rfl)
      simp only [Act.put, List.setIfInBounds_toArray, List.set_cons_zero, List.set_cons_succ]
      refine wpAnyH_take (i := 1) (v := (.pointer (some ⟨p, 0, none⟩))) (List.getElem?_toArray.trans rfl) (by kernel_rfl) (by kernel_rfl) (by kernel_rfl) (fun _ _ _ h => h) (Or.inl ⟨by rfl, ?_⟩) (by assumption) ?_
      · intro W hSw
        first | rfl | (go_simp; done) | (go_simp; rfl)
      simp only [Act.put, List.setIfInBounds_toArray, List.set_cons_zero, List.set_cons_succ]
      refine wpAnyH_take (i := 2) (v := (.pointer (some ⟨p, 4, none⟩))) (List.getElem?_toArray.trans rfl) (by kernel_rfl) (by kernel_rfl) (by kernel_rfl) (fun _ _ _ h => h) (Or.inl ⟨by rfl, ?_⟩) (by assumption) ?_
      · intro W hSw
        first | rfl | (go_simp; done) | (go_simp; rfl)
      simp only [Act.put, List.setIfInBounds_toArray, List.set_cons_zero, List.set_cons_succ]
      refine wpAnyH_take (i := 3) (v := (.int .u64 (nx : Nat))) (List.getElem?_toArray.trans rfl) (by kernel_rfl) (by kernel_rfl) (by kernel_rfl) (fun _ _ _ h => h) (Or.inl ⟨by rfl, ?_⟩) (by assumption) ?_
      · intro W hSw
        obtain ⟨q0, q1, q2, q3, q4, q5, q6⟩ := HP73.out W (kept_trans G4.out hSw.k)
        first | (go_simp; done) | (go_simp; rfl)
      simp only [Act.put, List.setIfInBounds_toArray, List.set_cons_zero, List.set_cons_succ]
      refine wpAnyH_take (i := 4) (v := (.pointer (some ⟨w.heap.size, 5, none⟩))) (List.getElem?_toArray.trans rfl) (by kernel_rfl) (by kernel_rfl) (by kernel_rfl) (fun _ _ _ h => h) (Or.inl ⟨by rfl, ?_⟩) (by assumption) ?_
      · intro W hSw
        first | rfl | (go_simp; done) | (go_simp; rfl)
      simp only [Act.put, List.setIfInBounds_toArray, List.set_cons_zero, List.set_cons_succ]
      refine wpAnyH_take (i := 5) (v := (.int .u64 (enx : Nat))) (List.getElem?_toArray.trans rfl) (by kernel_rfl) (by kernel_rfl) (by kernel_rfl) (fun _ _ _ h => h) (Or.inl ⟨by rfl, ?_⟩) (by assumption) ?_
      · intro W hSw
        obtain ⟨q0, q1, q2, q3, q4, q5, q6, q7⟩ := HCL3.out W (kept_trans G4.out hSw.k)
        first | (go_simp; done) | (go_simp; rfl)
      simp only [Act.put, List.setIfInBounds_toArray, List.set_cons_zero, List.set_cons_succ]
      refine wpAnyH_take (i := 7) (v := (.pointer (some ⟨p, 0, none⟩))) (List.getElem?_toArray.trans rfl) (by kernel_rfl) (by kernel_rfl) (by kernel_rfl) (fun _ _ _ h => h) (Or.inl ⟨by rfl, ?_⟩) (by assumption) ?_
      · intro W hSw
        first | rfl | (go_simp; done) | (go_simp; rfl)
      simp only [Act.put, List.setIfInBounds_toArray, List.set_cons_zero, List.set_cons_succ]
      refine wpAnyH_take (i := 8) (v := (.pointer (some ⟨p, 0, none⟩))) (List.getElem?_toArray.trans rfl) (by kernel_rfl) (by kernel_rfl) (by kernel_rfl) (fun _ _ _ h => h) (Or.inl ⟨by rfl, ?_⟩) (by assumption) ?_
      · intro W hSw
        first | rfl | (go_simp; done) | (go_simp; rfl)
      simp only [Act.put, List.setIfInBounds_toArray, List.set_cons_zero, List.set_cons_succ]
      refine wpAnyH_take (i := 9) (v := (.pointer (some ⟨p, 5, none⟩))) (List.getElem?_toArray.trans rfl) (by kernel_rfl) (by kernel_rfl) (by kernel_rfl) (fun _ _ _ h => h) (Or.inl ⟨by rfl, ?_⟩) (by assumption) ?_
      · intro W hSw
        first | rfl | (go_simp; done) | (go_simp; rfl)
      simp only [Act.put, List.setIfInBounds_toArray, List.set_cons_zero, List.set_cons_succ]
      refine wpAnyH_take (i := 10) (v := (.int .u64 (lg : Nat))) (List.getElem?_toArray.trans rfl) (by kernel_rfl) (by kernel_rfl) (by kernel_rfl) (fun _ _ _ h => h) (Or.inl ⟨by rfl, ?_⟩) (by assumption) ?_
      · intro W hSw
        obtain ⟨q0, q1, q2, q3, q4, q5, q6⟩ := HP73.out W (kept_trans G4.out hSw.k)
        first | (go_simp; done) | (go_simp; rfl)
      simp only [Act.put, List.setIfInBounds_toArray, List.set_cons_zero, List.set_cons_succ]
      refine wpAnyH_take (i := 11) (v := (.pointer (some ⟨w.heap.size, 6, none⟩))) (List.getElem?_toArray.trans rfl) (by kernel_rfl) (by kernel_rfl) (by kernel_rfl) (fun _ _ _ h => h) (Or.inl ⟨by rfl, ?_⟩) (by assumption) ?_
      · intro W hSw
        first | rfl | (go_simp; done) | (go_simp; rfl)
      simp only [Act.put, List.setIfInBounds_toArray, List.set_cons_zero, List.set_cons_succ]
      refine wpAnyH_take (i := 12) (v := (.int .u64 (elg : Nat))) (List.getElem?_toArray.trans rfl) (by kernel_rfl) (by kernel_rfl) (by kernel_rfl) (fun _ _ _ h => h) (Or.inl ⟨by rfl, ?_⟩) (by assumption) ?_
      · intro W hSw
        obtain ⟨q0, q1, q2, q3, q4, q5, q6, q7⟩ := HCL3.out W (kept_trans G4.out hSw.k)
        first | (go_simp; done) | (go_simp; rfl)
      simp only [Act.put, List.setIfInBounds_toArray, List.set_cons_zero, List.set_cons_succ]
      refine wpAnyH_take (i := 14) (v := (.pointer (some ⟨p, 0, none⟩))) (List.getElem?_toArray.trans rfl) (by kernel_rfl) (by kernel_rfl) (by kernel_rfl) (fun _ _ _ h => h) (Or.inl ⟨by rfl, ?_⟩) (by assumption) ?_
      · intro W hSw
        first | rfl | (go_simp; done) | (go_simp; rfl)
      simp only [Act.put, List.setIfInBounds_toArray, List.set_cons_zero, List.set_cons_succ]
      refine wpAnyH_take (i := 15) (v := (.pointer (some ⟨p, 0, none⟩))) (List.getElem?_toArray.trans rfl) (by kernel_rfl) (by kernel_rfl) (by kernel_rfl) (fun _ _ _ h => h) (Or.inl ⟨by rfl, ?_⟩) (by assumption) ?_
      · intro W hSw
        first | rfl | (go_simp; done) | (go_simp; rfl)
      simp only [Act.put, List.setIfInBounds_toArray, List.set_cons_zero, List.set_cons_succ]
      refine wpAnyH_take (i := 16) (v := (.pointer (some ⟨p, 6, none⟩))) (List.getElem?_toArray.trans rfl) (by kernel_rfl) (by kernel_rfl) (by kernel_rfl) (fun _ _ _ h => h) (Or.inl ⟨by rfl, ?_⟩) (by assumption) ?_
      · intro W hSw
        first | rfl | (go_simp; done) | (go_simp; rfl)
      simp only [Act.put, List.setIfInBounds_toArray, List.set_cons_zero, List.set_cons_succ]
      refine wpAnyH_take (i := 17) (v := (.int .u64 (sq : Nat))) (List.getElem?_toArray.trans rfl) (by kernel_rfl) (by kernel_rfl) (by kernel_rfl) (fun _ _ _ h => h) (Or.inl ⟨by rfl, ?_⟩) (by assumption) ?_
      · intro W hSw
        obtain ⟨q0, q1, q2, q3, q4, q5, q6⟩ := HP73.out W (kept_trans G4.out hSw.k)
        first | (go_simp; done) | (go_simp; rfl)
      simp only [Act.put, List.setIfInBounds_toArray, List.set_cons_zero, List.set_cons_succ]
      refine wpAnyH_take (i := 18) (v := (.pointer (some ⟨w.heap.size, 7, none⟩))) (List.getElem?_toArray.trans rfl) (by kernel_rfl) (by kernel_rfl) (by kernel_rfl) (fun _ _ _ h => h) (Or.inl ⟨by rfl, ?_⟩) (by assumption) ?_
      · intro W hSw
        first | rfl | (go_simp; done) | (go_simp; rfl)
      simp only [Act.put, List.setIfInBounds_toArray, List.set_cons_zero, List.set_cons_succ]
      refine wpAnyH_take (i := 19) (v := (.int .u64 (esq : Nat))) (List.getElem?_toArray.trans rfl) (by kernel_rfl) (by kernel_rfl) (by kernel_rfl) (fun _ _ _ h => h) (Or.inl ⟨by rfl, ?_⟩) (by assumption) ?_
      · intro W hSw
        obtain ⟨q0, q1, q2, q3, q4, q5, q6, q7⟩ := HCL3.out W (kept_trans G4.out hSw.k)
        first | (go_simp; done) | (go_simp; rfl)
      simp only [Act.put, List.setIfInBounds_toArray, List.set_cons_zero, List.set_cons_succ]
      refine wpAnyH_ready (rs := [6]) (by kernel_rfl) (by simp) ?_
      refine (AllReadyH.cons (List.getElem?_toArray.trans rfl) (fun K hK => ?_) AllReadyH.nil)
      go_simp
      refine (HC1.out _).mono ?_
      rintro e wa ⟨rfl, rfl⟩
      go_wp2_with fail
      refine hK.out _ _ hHeld (fun hHeld => ?_)
      clear hK K
      refine wpAnyH_ready (rs := [13]) (by kernel_rfl) (by simp) ?_
      refine (AllReadyH.cons (List.getElem?_toArray.trans rfl) (fun K hK => ?_) AllReadyH.nil)
      go_simp
      refine (HC2.out _).mono ?_
      rintro e wa ⟨rfl, rfl⟩
      go_wp2_with fail
      refine hK.out _ _ hHeld (fun hHeld => ?_)
      clear hK K
      refine wpAnyH_ready (rs := [20]) (by kernel_rfl) (by simp) ?_
      refine (AllReadyH.cons (List.getElem?_toArray.trans rfl) (fun K hK => ?_) AllReadyH.nil)
      go_simp
      refine (HC3.out _).mono ?_
      rintro e wa ⟨rfl, rfl⟩
      go_wp2_with fail
      refine hK.out _ _ hHeld (fun hHeld => ?_)
      clear hK K
      refine wpAnyH_take (i := 21) (v := (.agg #[.slice none 0 0, .slice none 0 0, .slice none 0 0, .slice none 0 0, .int .u64 (N1 : Nat), .int .u64 (L1 : Nat), .int .u64 (S1 : Nat)])) (List.getElem?_toArray.trans rfl) (by kernel_rfl) (by kernel_rfl) (by kernel_rfl) (fun _ _ _ h => h) (Or.inl ⟨by rfl, ?_⟩) (by assumption) ?_
      · intro W hSw
        first | rfl | (go_simp; done) | (go_simp; rfl)
      simp only [Act.put, List.setIfInBounds_toArray, List.set_cons_zero, List.set_cons_succ]
      refine wpAnyH_ready (rs := [22]) (by kernel_rfl) (by simp) ?_
      refine (AllReadyH.cons (List.getElem?_toArray.trans rfl) (fun K hK => ?_) AllReadyH.nil)
      go_simp
      obtain ⟨wd, pv, hwd, hpv, hkv, h10, kd, hle⟩ := alloc_kv hHeld (.cells #[.slice none 0 0, .slice none 0 0, .slice none 0 0, .slice none 0 0, .int .u64 (N1 : Nat), .int .u64 (L1 : Nat), .int .u64 (S1 : Nat)] 73)
      rw [← hwd, ← hpv]
      have HS := Lib.hid hkv
      go_wp2_with fail
      refine hK.out _ _ HS.out (fun hHeld => ?_)
      clear hK K
      refine wpAnyH_take (i := 23) (v := (.pointer (some ⟨pv, 0, none⟩))) (List.getElem?_toArray.trans rfl) (by kernel_rfl) (by kernel_rfl) (by kernel_rfl) (fun _ _ _ h => h) (Or.inl ⟨by rfl, ?_⟩) (by assumption) ?_
      · intro W hSw
        first | rfl | (go_simp; done) | (go_simp; rfl)
      simp only [Act.put, List.setIfInBounds_toArray, List.set_cons_zero, List.set_cons_succ]
      refine wpAnyH_done (by kernel_rfl) ?_ _
      go_wp2_with fail
      go_meet
      exact ⟨pv, rfl, h10, hle, hHeld.k⟩
      -- REGION Apply9 END
    case rest =>
      obtain ⟨pv, rfl, HPV, hpv, hk9⟩ := hcut
      have HK := Lib.hid (kept_trans G4.out hk9)
      have hp3 := HW3.out
      have hlt := Nat.lt_of_lt_of_le hp3.1 (Nat.le_trans G4.out.size hpv)
      have HPW := Lib.hid (show w.heap.size ≤ pv from Nat.le_trans (Nat.le_trans G3.out.size G4.out.size) hpv)
      have hv0 : IsV wc pv vT0 N1 L1 S1 := ⟨HPV.out, tin_none _, fun l _ ad e => by cases e⟩
      have HV0 := Lib.hid hv0
      have HGO := Lib.hid (lvgoes_any hv0 (HV.out wc (kept_trans G3.out HK.out)))
      obtain ⟨GO, hGO⟩ : ∃ GO, GO = (inN N1 nx && inN L1 lg && inN S1 sq) := ⟨_, rfl⟩
      rw [← hGO] at HGO HOK
      have HG5 := Lib.hid (fun W (hW : Kept wc W) => HGV.out W (kept_trans HK.out hW) pv N1 L1 S1 vT0 (hv0.kept hW))
      obtain ⟨GV, hGV⟩ : ∃ GV, GV = all4 (gvP N1 S1) (fun l => (eT l).l) := ⟨_, rfl⟩
      rw [← hGV] at HG5 HOK
      have HCM5 := Lib.hid (fun W (hW : Kept wc W) => HCM3.out W (kept_trans HK.out hW))
      have HB75 := Lib.hid (fun W (hW : Kept wc W) => HB7'.out W (kept_trans HK.out hW))
      have HTG5 := Lib.hid (fun W (hW : Kept wc W) => HTG.out W (kept_trans HK.out hW))
      have HKW := Lib.hid (kept_trans G3.out HK.out)
      have HSE := Lib.hid (fun l (hl : l < 4) => (HE.out wc HKW.out).tab.sane l hl)
      have HTL := Lib.hid (fun l (hl : l < 4) => (HE.out wc HKW.out).tl l hl)
      have hdup : ¬ ¬ (fl (stay V.t E.gone) ++ fl E.new).Nodup := of_decide_eq_false HTD.out.symm
      have HDU := Lib.hid hdup
      clear hv0 hGO hGV hk9 hp3 hdup HPV HW3 HK HTG HB7' HCM3 HCL3 HP73 HGV G4 HUT HV HE HC1 HC2 HC3 G3 HTD
      go_wp2_with fail
      refine HGO.out.mono ?_
      rintro e w6 ⟨rfl, q6, rfl⟩
      have k6 := Lib.hid (kept_drewN wc q6)
      clear HGO
      cases GO with
      | false =>
        go_wp2_with fail
        go_ret2
        exact apy_no (n := 3) (by unfold code; rw [← HA.out, ← HTK.out, if_neg (by decide), if_neg (by decide), if_neg HDU.out, HOK.out]; rfl) (by omega) rfl (kept_trans HKW.out k6.out)
      | true =>
      obtain ⟨l0, l1, l2, l3⟩ := HCM5.out _ k6.out
      go_wp2_with fail
      refine (HG5.out _ k6.out).mono ?_
      rintro e w7 ⟨rfl, g7⟩
      have K7 := Lib.hid (kept_trans k6.out g7)
      clear l0 l1 l2 l3 g7 k6 HG5
      cases GV with
      | false =>
        go_wp2_with fail
        go_ret2
        exact apy_no (n := 3) (by unfold code; rw [← HA.out, ← HTK.out, if_neg (by decide), if_neg (by decide), if_neg HDU.out, HOK.out]; rfl) (by omega) rfl (kept_trans HKW.out K7.out)
      | true =>
      obtain ⟨l0, l1, l2, l3⟩ := HCM5.out _ K7.out
      obtain ⟨k0, k1, k2, k3⟩ := HB75.out _ K7.out
      go_wp2_with fail
      refine (HMN.out _).mono ?_
      rintro e w8 ⟨rfl, g8⟩
      have K8 := Lib.hid (kept_trans K7.out g8)
      clear l0 l1 l2 l3 k0 k1 k2 k3 g8 HMN
      cases Mn with
      | true =>
        go_wp2_with fail
        go_ret2
        exact apy_no (n := 4) (by unfold code; rw [← HA.out, ← HTK.out, if_neg (by decide), if_neg (by decide), if_neg HDU.out, HOK.out, if_neg (by decide), if_pos HMD.out.symm]) (by omega) rfl (kept_trans HKW.out K8.out)
      | false =>
      obtain ⟨l0, l1, l2, l3⟩ := HCM5.out _ K8.out
      obtain ⟨k0, k1, k2, k3⟩ := HB75.out _ K8.out
      go_wp2_with fail
      refine (HTG5.out _ K8.out).mono ?_
      rintro e w9 ⟨f', L, rfl, hF, hL, g9⟩
      have K9 := Lib.hid (kept_trans K8.out g9)
      have HF9 := Lib.hid (fun i (hi : i < 4) => own_ne_old (hF.own i hi) (Nat.lt_of_lt_of_le (mheap_lt HV0.out.cells) K8.out.size))
      have hLS : ∀ l, l < 4 → ∀ x ∈ L l, Sane x := fun l hl x hx => by
        have := (hL l hl).1.mem_iff.1 hx
        rw [List.mem_append, HUL.out l hl] at this
        rcases this with h | h
        · exact HSN.out l hl x h
        · exact HSE.out l hl x h
      have hpv8 : pv < w8.heap.size := Nat.lt_of_lt_of_le (mheap_lt HV0.out.cells) K8.out.size
      have hb9 := hp_kept HV0.out.cells K9.out
      have HKW9 := Lib.hid (kept_trans HKW.out K9.out)
      obtain ⟨v0, r0, e0⟩ := own_slice (hF.own 0 (by omega))
      obtain ⟨v1, r1, e1⟩ := own_slice (hF.own 1 (by omega))
      obtain ⟨v2, r2, e2⟩ := own_slice (hF.own 2 (by omega))
      obtain ⟨v3, r3, e3⟩ := own_slice (hF.own 3 (by omega))
      have HF := Lib.hid hF; have HL := Lib.hid hL; have HLS := Lib.hid hLS; have HB9 := Lib.hid hb9
      unfold four
      rw [e0, e1, e2, e3]
      have E0 := Lib.hid e0; have E1 := Lib.hid e1; have E2 := Lib.hid e2; have E3 := Lib.hid e3
      clear l0 l1 l2 l3 k0 k1 k2 k3 e0 e1 e2 e3 hF hL g9 hLS HTG5 HCM5 HB75 hlt
      generalize (L 0).length = o0 at *
      generalize (L 1).length = o1 at *
      generalize (L 2).length = o2 at *
      generalize (L 3).length = o3 at *
      obtain ⟨z0, z1, z2, z3, z4, z5, z6⟩ := seven_blk hb9
      have s0 := mfrozen hb9 0; have s1 := mfrozen hb9 1; have s2 := mfrozen hb9 2; have s3 := mfrozen hb9 3
      clear hb9
      go_upto_region 15 with fail
      have B10 := Lib.hid (ver_set HB9.out (.slice v0 o0 r0) (.slice v1 o1 r1) (.slice v2 o2 r2) (.slice v3 o3 r3))
      have K10 := Lib.hid (kept_set4 HKW9.out HPW.out (.slice v0 o0 r0) (.slice v1 o1 r1) (.slice v2 o2 r2) (.slice v3 o3 r3))
      have F10 := (((HF.out.set hpv8 0 (.slice v0 o0 r0)).set hpv8 1 (.slice v1 o1 r1)).set hpv8 2 (.slice v2 o2 r2)).set hpv8 3 (.slice v3 o3 r3)
      clear z0 z1 z2 z3 z4 z5 z6 s0 s1 s2 s3
      generalize (((w9.setCell ⟨pv, 0, none⟩ (.slice v0 o0 r0)).setCell ⟨pv, 1, none⟩ (.slice v1 o1 r1)).setCell ⟨pv, 2, none⟩ (.slice v2 o2 r2)).setCell ⟨pv, 3, none⟩ (.slice v3 o3 r3) = w10 at *
      obtain ⟨U2, hU2, hU2l, hU2t, hU2f, hU2b⟩ := F10.tin HLS.out
      obtain ⟨f0, f1, f2, f3⟩ := four_inj hU2
      rw [E0.out] at f0; rw [E1.out] at f1; rw [E2.out] at f2; rw [E3.out] at f3
      have HAP := Lib.hid (lvapart_any hU2t (fun l hl => by
        rw [hU2l l hl, (HL.out l hl).1.length_eq, List.length_append, HUL.out l hl]
        have h1 := HSL.out l hl
        have h2 := HTL.out l hl
        have h3 := h2
        omega))
      have HIV := Lib.hid (show IsV w10 pv U2 N1 L1 S1 from ⟨by rw [← f0, ← f1, ← f2, ← f3]; exact B10.out, hU2t, hU2f⟩)
      have HU2 := Lib.hid hU2l
      unfold tbv at HAP
      rw [← f0, ← f1, ← f2, ← f3] at HAP
      obtain ⟨z0, z1, z2, z3, _, _, _⟩ := seven_blk B10.out
      clear hU2 hU2l hU2t hU2f hU2b f0 f1 f2 f3 F10 E0 E1 E2 E3 HF
      go_wp2_with fail
      refine HAP.out.mono ?_
      rintro e w11 ⟨B, rfl, hB, g11⟩
      have HB := Lib.hid (apply_lists (V := V) (E := E) (L := L) (B := B) (HVD.out ▸ HG.out) HA.out.symm (Decidable.not_not.1 HDU.out) (fun l hl => ⟨by have := (HL.out l hl).1; rw [HUL.out l hl] at this; rw [HVD.out, HED.out]; exact this, (HL.out l hl).2⟩) (hB.trans ⟨fun h l h1 h2 => by have := h l h1 h2; rw [HU2.out l h2] at this; exact this, fun h l h1 h2 => by rw [HU2.out l h2]; exact h l h1 h2⟩))
      have K11 := Lib.hid (kept_trans K10.out g11)
      have HIV2 := Lib.hid (HIV.out.kept g11)
      clear z0 z1 z2 z3 hB g11 HAP
      cases B with
      | false =>
        go_wp2_with fail
        go_ret2
        exact apy_no (n := 1) (by unfold code; rw [← HA.out, ← HTK.out, if_neg (by decide), if_neg (by decide), if_neg HDU.out, HOK.out, if_neg (by decide), if_neg (by rw [← HMD.out]; decide), if_pos HB.out.1.symm]) (by omega) rfl K11.out
      | true =>
        go_wp2_with fail
        go_ret2
        have hc : code V E = 0 := by unfold code; rw [← HA.out, ← HTK.out, if_neg (by decide), if_neg (by decide), if_neg HDU.out, HOK.out, if_neg (by decide), if_neg (by rw [← HMD.out]; decide), if_neg (by rw [← HB.out.1]; decide)]
        obtain ⟨h1, h2, h3⟩ := HNL.out
        refine ⟨fun _ => ⟨pv, U2, rfl, by rw [← h1, ← h2, ← h3]; exact HIV2.out, fun l hl => by rw [HU2.out l hl]; exact HB.out.2 (by trivial) l hl, HPW.out⟩, fun h => absurd hc h, K11.out⟩
end Go.Proofs.YtnnmalpnjlnnlaaGreat
