/-
  Package level over memory: the same tables in lists of their own.
-/
import Derived.Test.YtnnmalpnjlnnlaaGreatLevelLink
namespace Go.Proofs.YtnnmalpnjlnnlaaGreat
open Go.ChangeShapes Go.WideShapes Go.ChangeAt Go.RowKit
set_option linter.unusedVariables false
set_option maxRecDepth 100000
set_option maxHeartbeats 6000000
open Lv
def four (f : Nat → Value) : Value := .agg #[f 0, f 1, f 2, f 3]
def vset {α : Type} (f : Nat → α) (j : Nat) (v : α) : Nat → α := fun i => if i = j then v else f i
theorem vset_at {α : Type} (f : Nat → α) (j : Nat) (v : α) : vset f j v j = v := by simp [vset]
theorem vset_ne {α : Type} (f : Nat → α) {i j : Nat} (v : α) (h : i ≠ j) : vset f j v i = f i := by simp [vset, h]
theorem four_set (f : Nat → Value) (j : Nat) (v : Value) (hj : j < 4) : (#[f 0, f 1, f 2, f 3] : Array Value).setIfInBounds j v = #[vset f j v 0, vset f j v 1, vset f j v 2, vset f j v 3] := by
  have h4 : j = 0 ∨ j = 1 ∨ j = 2 ∨ j = 3 := by omega
  rcases h4 with rfl | rfl | rfl | rfl <;> rfl
theorem four_get (f : Nat → Value) (k : Nat) (hk : k < 4) : (#[f 0, f 1, f 2, f 3] : Array Value)[k]? = some (f k) := by
  have h4 : k = 0 ∨ k = 1 ∨ k = 2 ∨ k = 3 := by omega
  rcases h4 with rfl | rfl | rfl | rfl <;> rfl
/-- the first k of four lists are rows of the call's own, apart from each other -/
structure Four (B : Nat) (w : World) (f : Nat → Value) (L : Nat → List Meta) (k : Nat) : Prop where
  own : ∀ i, i < k → w.ownsRow B 43 5 (f i) (L i).length (mtl (L i))
  apart : ∀ i j, i < k → j < k → i ≠ j → ∀ b, (f i).ownBlock = some b → (f j).ownBlock ≠ some b
theorem Four.kept {B k : Nat} {w w' : World} {f : Nat → Value} {L : Nat → List Meta} (h : Four B w f L k) (g : Kept w w') : Four B w' f L k := ⟨fun i hi => own_kept (h.own i hi) g, h.apart⟩
theorem Four.set {B k : Nat} {w : World} {f : Nat → Value} {L : Nat → List Meta} (h : Four B w f L k) {b : Nat} (hb : b < B) (j : Nat) (x : Value) : Four B (w.setCell ⟨b, j, none⟩ x) f L k :=
  ⟨fun i hi => own_set' (h.own i hi) (fun e => by have := (own_new (h.own i hi) e).1; omega) j x, h.apart⟩
/-- one list more, made since -/
theorem Four.more {B k : Nat} {w w' : World} {f : Nat → Value} {L : Nat → List Meta} {v : Value} (h : Four B w f L k) (g : Kept w w') (ho : w'.ownsRow w.heap.size 43 5 v (L k).length (mtl (L k))) (hB : B ≤ w.heap.size) : Four B w' (vset f k v) L (k + 1) := by
  have h' := h.kept g
  refine ⟨fun i hi => ?_, fun i j hi hj hne b hb => ?_⟩
  · by_cases e : i = k
    · subst e; rw [vset_at]; exact own_base ho hB
    · rw [vset_ne _ _ e]; exact h'.own i (by omega)
  · by_cases e : i = k
    · subst e
      rw [vset_at] at hb
      rw [vset_ne _ _ (Ne.symm hne)]
      intro hc
      have h1 := (own_new ho hb).1
      have h2 := (own_new (h.own j (by omega)) hc).2
      omega
    · rw [vset_ne _ _ e] at hb
      by_cases e2 : j = k
      · subst e2
        rw [vset_at]
        intro hc
        have h1 := (own_new ho hc).1
        have h2 := (own_new (h.own i (by omega)) hb).2
        omega
      · rw [vset_ne _ _ e2]; exact h.apart i j (by omega) (by omega) hne b hb
/-- four rows of the call's own as lists that are read -/
theorem Four.tin {B : Nat} {w : World} {f : Nat → Value} {L : Nat → List Meta} (h : Four B w f L 4) (hs : ∀ l, l < 4 → ∀ x ∈ L l, Sane x) :
    ∃ U : Nat → Lvl, four f = tbv U ∧ (∀ l, l < 4 → (U l).l = L l) ∧ Tin w U ∧ (∀ l, l < 4 → ∀ ad, (U l).A = some ad → ∃ b o, ad = ⟨b, o, none⟩) ∧ ∀ l, l < 4 → ∀ b o, (U l).A = some ⟨b, o, none⟩ → B ≤ b := by
  have hx : ∀ i, ∃ u : Lvl, i < 4 → f i = u.v ∧ u.l = L i ∧ Mr B w u.A u.c u.l ∧ ∀ ad, u.A = some ad → ∃ b o, ad = ⟨b, o, none⟩ := fun i => by
    by_cases hi : i < 4
    · obtain ⟨A, c, e, hn, hm⟩ := mts_own (h.own i hi)
      refine ⟨⟨A, c, L i⟩, fun _ => ⟨e, rfl, hm, fun ad (ha : A = some ad) => ?_⟩⟩
      rcases (h.own i hi).2 with ⟨e0, _⟩ | ⟨g, cap, cur, e0, _⟩
      · have e' : Value.slice A (L i).length c = .slice none 0 0 := e.symm.trans e0
        injection e' with e1
        rw [ha] at e1; cases e1
      · have e' : Value.slice A (L i).length c = .slice (some ⟨g, 0, none⟩) _ cap := e.symm.trans e0
        injection e' with e1
        rw [ha] at e1; cases e1
        exact ⟨_, _, rfl⟩
    · exact ⟨⟨none, 0, []⟩, fun hc => absurd hc hi⟩
  refine ⟨fun i => Classical.choose (hx i), ?_, fun l hl => (Classical.choose_spec (hx l) hl).2.1, ⟨fun l hl => (Classical.choose_spec (hx l) hl).2.2.1.mts, fun l hl => (Classical.choose_spec (hx l) hl).2.2.1.cap, fun l hl => (Classical.choose_spec (hx l) hl).2.2.1.most, fun l hl x hx' => ?_⟩, fun l hl => (Classical.choose_spec (hx l) hl).2.2.2, fun l hl => (Classical.choose_spec (hx l) hl).2.2.1.new⟩
  · have e : ∀ l, l < 4 → f l = (Classical.choose (hx l)).v := fun l hl => (Classical.choose_spec (hx l) hl).1
    unfold four tbv
    rw [e 0 (by omega), e 1 (by omega), e 2 (by omega), e 3 (by omega)]
  · rw [(Classical.choose_spec (hx l) hl).2.1] at hx'
    exact hs l hl x hx'
theorem lvcopied_any {T : Nat → Lvl} {w : World} (h : Tin w T) (hf : ∀ l, l < 4 → ∀ ad, (T l).A = some ad → ∃ b o, ad = ⟨b, o, none⟩) (hl : ∀ l, l < 4 → (T l).l.length ≤ 100000) :
    Calls Tryz.prog 71 #[tbv T] w fun e w' => ∃ f, e = .returned (four f) ∧ Four w.heap.size w' f (fun l => (T l).l) 4 ∧ Kept w w' := by
  have HC := Lib.hid (fun W (hW : Kept w W) k (hk : k < 4) => lvclone_any (w := W) (Mts.kept (h.mts k hk) hW) (hf k hk) (hl k hk) (T k).c)
  clear h hf hl
  obtain ⟨f0, hf0⟩ : ∃ f0 : Nat → Value, f0 = fun k => (T k).v := ⟨_, rfl⟩
  have HF := Lib.hid hf0
  unfold tbv
  rw [show (T 0).v = f0 0 by rw [hf0], show (T 1).v = f0 1 by rw [hf0], show (T 2).v = f0 2 by rw [hf0], show (T 3).v = f0 3 by rw [hf0]]
  clear hf0
  go_enter Tryz.func71, Tryz.ntmps71
  go_wp2_with fail
  go_loopw [4] (fun x wr => ∃ (k : Nat) (f : Nat → Value), k ≤ 4 ∧ x = .int .i64 k ∧ Hid (∀ i, k ≤ i → f i = f0 i) ∧ Hid (Four (w.heap.size + 2) wr f (fun l => (T l).l) k) ∧ Hid (wr.heap[w.heap.size]? = some (.cells #[f 0, f 1, f 2, f 3] 71 (0, 0))) ∧ Hid (wr.heap[w.heap.size + 1]? = some (.cells #[.slice none 0 0, .slice none 0 0, .slice none 0 0, .slice none 0 0] 71 (0, 0))) ∧ Hid (Kept w wr)) (fun x _ => 4 - (intOf x).toNat)
  case atStart =>
    refine ⟨0, f0, by omega, rfl, Lib.hid (fun i _ => rfl), ⟨fun i hi => by omega, fun i j hi => by omega⟩, ?_, ?_, ((Kept.refl _).alloc _).alloc _⟩
    · exact (malloc_old _ _ (by simp)).trans (malloc_new w _)
    · have := malloc_new (w.alloc (.cells #[f0 0, f0 1, f0 2, f0 3] 71)) (.cells #[.slice none 0 0, .slice none 0 0, .slice none 0 0, .slice none 0 0] 71)
      rw [show (w.alloc (.cells #[f0 0, f0 1, f0 2, f0 3] 71)).heap.size = w.heap.size + 1 from by simp] at this
      exact this
  case round =>
    obtain ⟨k, f, hk, rfl, HE, HFO, HB, HZ, HK⟩ := hrel
    by_cases hk4 : k < 4
    · have hfk : f k = .slice (T k).A (T k).l.length (T k).c := by rw [HE.out k (Nat.le_refl _), HF.out]; rfl
      have hb := mcell HB.out k (v := f k) (by
        have h4 : k = 0 ∨ k = 1 ∨ k = 2 ∨ k = 3 := by omega
        rcases h4 with rfl | rfl | rfl | rfl <;> rfl)
      rw [hfk] at hb
      have hHC := HC.out wr HK.out k hk4
      have HL := Lib.hid (show (T k).l = (fun l => (T l).l) k from rfl)
      have hlt := mheap_lt HZ.out
      clear hfk
      generalize (T k).A = A at *
      generalize (T k).l = l at *
      generalize (T k).c = c at *
      have HHC := Lib.hid hHC
      clear hHC
      go_wp2_with fail
      refine HHC.out.mono ?_
      rintro e w1 ⟨v, rfl, hown, g1⟩
      obtain ⟨VA, vc, rfl⟩ := own_slice hown
      have HB1 := Lib.hid (hp_kept HB.out g1)
      have HZ1 := Lib.hid (hp_kept HZ.out g1)
      have HN := Lib.hid (HFO.out.more (v := .slice VA l.length vc) g1 (by have h := hown; rw [show l = (T k).l from HL.out] at h ⊢; exact h) (by omega))
      have fz := mfrozen HB1.out k
      have cz := mcell HB1.out k (v := f k) (by
        have h4 : k = 0 ∨ k = 1 ∨ k = 2 ∨ k = 3 := by omega
        rcases h4 with rfl | rfl | rfl | rfl <;> rfl)
      have G1 := Lib.hid g1
      clear hown g1 hb
      go_wp2_with fail
      go_roundw
      case rel =>
        refine ⟨k + 1, vset f k (.slice VA l.length vc), by omega, by go_num, Lib.hid (fun i hi => by rw [vset_ne _ _ (by omega)]; exact HE.out i (by omega)), HN.out.set (by omega) _ _, ?_, ?_, ?_⟩
        · have := lvset HB1.out k (.slice VA l.length vc)
          rw [four_set f k _ hk4] at this
          exact this
        · exact lvset_ne HZ1.out (by omega) k _
        · exact Below.setCell (kept_trans HK.out G1.out) (Nat.le_refl _) _
      case measure => simp [intOf]; omega
    · obtain rfl : k = 4 := by omega
      obtain ⟨A0, c0, e0⟩ := own_slice (HFO.out.own 0 (by omega))
      obtain ⟨A1, c1, e1⟩ := own_slice (HFO.out.own 1 (by omega))
      obtain ⟨A2, c2, e2⟩ := own_slice (HFO.out.own 2 (by omega))
      obtain ⟨A3, c3, e3⟩ := own_slice (HFO.out.own 3 (by omega))
      generalize hL0 : ((fun l => (T l).l) 0).length = n0 at e0
      generalize hL1 : ((fun l => (T l).l) 1).length = n1 at e1
      generalize hL2 : ((fun l => (T l).l) 2).length = n2 at e2
      generalize hL3 : ((fun l => (T l).l) 3).length = n3 at e3
      have HR := Lib.hid (show four f = .agg #[.slice A0 n0 c0, .slice A1 n1 c1, .slice A2 n2 c2, .slice A3 n3 c3] by unfold four; rw [e0, e1, e2, e3])
      rw [e0, e1, e2, e3] at HB
      clear hL0 hL1 hL2 hL3 e0 e1 e2 e3
      obtain ⟨b0, b1, b2, b3⟩ := four_cells HB.out
      obtain ⟨z0, z1, z2, z3⟩ := four_cells HZ.out
      have y0 := mfrozen HZ.out 0
      have y1 := mfrozen HZ.out 1
      have y2 := mfrozen HZ.out 2
      have y3 := mfrozen HZ.out 3
      go_wp2_with fail
      have n2' := lvset (lvset (lvset (lvset HZ.out 0 (.slice A0 n0 c0)) 1 (.slice A1 n1 c1)) 2 (.slice A2 n2 c2)) 3 (.slice A3 n3 c3)
      have HFZ := Lib.hid ((((HFO.out.set (b := w.heap.size + 1) (by omega) 0 (.slice A0 n0 c0)).set (b := w.heap.size + 1) (by omega) 1 (.slice A1 n1 c1)).set (b := w.heap.size + 1) (by omega) 2 (.slice A2 n2 c2)).set (b := w.heap.size + 1) (by omega) 3 (.slice A3 n3 c3))
      have gz : Kept w ((((wr.setCell ⟨w.heap.size + 1, 0, none⟩ (.slice A0 n0 c0)).setCell ⟨w.heap.size + 1, 1, none⟩ (.slice A1 n1 c1)).setCell ⟨w.heap.size + 1, 2, none⟩ (.slice A2 n2 c2)).setCell ⟨w.heap.size + 1, 3, none⟩ (.slice A3 n3 c3)) := Below.setCell (Below.setCell (Below.setCell (Below.setCell HK.out (Nat.le_succ _) _) (Nat.le_succ _) _) (Nat.le_succ _) _) (Nat.le_succ _) _
      generalize (((wr.setCell ⟨w.heap.size + 1, 0, none⟩ (.slice A0 n0 c0)).setCell ⟨w.heap.size + 1, 1, none⟩ (.slice A1 n1 c1)).setCell ⟨w.heap.size + 1, 2, none⟩ (.slice A2 n2 c2)).setCell ⟨w.heap.size + 1, 3, none⟩ (.slice A3 n3 c3) = wz at *
      obtain ⟨k0, k1, k2, k3⟩ := four_cells n2'
      refine bodyPost_ret (v := .agg #[.slice A0 n0 c0, .slice A1 n1 c1, .slice A2 n2 c2, .slice A3 n3 c3]) (by simp [results, Tryz.results71, go_sem, k0, k1, k2, k3]) rfl ⟨f, by rw [HR.out], ⟨fun i hi => own_base (HFZ.out.own i hi) (by omega), HFZ.out.apart⟩, gz⟩
end Go.Proofs.YtnnmalpnjlnnlaaGreat
