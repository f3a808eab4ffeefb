/-
  Several small texts as one.
-/
import Derived.Test.YtnnmalpnjlnnlaaGreatLevelCopy
import Derived.Test.YtnnmalpnjlnnlaaGreatLevelAsk
import Derived.Test.YtnnmalpnjlnnlaaGreatStoreAll
import Derived.Test.YtnnmalpnjlnnlaaGreatLevelLink
import Derived.RegionTactic
import Derived.Deep.RegionHeld3
import Derived.Deep.CutRange
import Derived.Test.YtnnmalpnjlnnlaaGreatLevelTab
/-
  Package level over memory: a version's edit; an edit as a value.
-/
namespace Go.Proofs.YtnnmalpnjlnnlaaGreat
open Go.ChangeShapes Go.WideShapes Go.ChangeAt Go.RowKit
set_option linter.unusedVariables false
set_option maxRecDepth 100000
set_option maxHeartbeats 8000000
open Lv
theorem seven_cells {w : World} {p nx lg sq : Nat} {T : Nat → Lvl} (h : IsV w p T nx lg sq) : w.cell? ⟨p, 0, none⟩ = some (T 0).v ∧ w.cell? ⟨p, 1, none⟩ = some (T 1).v ∧ w.cell? ⟨p, 2, none⟩ = some (T 2).v ∧ w.cell? ⟨p, 3, none⟩ = some (T 3).v ∧ w.cell? ⟨p, 4, none⟩ = some (.int .u64 (nx : Nat)) ∧ w.cell? ⟨p, 5, none⟩ = some (.int .u64 (lg : Nat)) ∧ w.cell? ⟨p, 6, none⟩ = some (.int .u64 (sq : Nat)) :=
  ⟨mcell h.cells 0 (by rfl), mcell h.cells 1 (by rfl), mcell h.cells 2 (by rfl), mcell h.cells 3 (by rfl), mcell h.cells 4 (by rfl), mcell h.cells 5 (by rfl), mcell h.cells 6 (by rfl)⟩
/-- an edit as a value -/
def edv (g : Value) (f : Nat → Value) (nx lg sq : Nat) : Value := .agg #[g, f 0, f 1, f 2, f 3, .int .u64 (nx : Nat), .int .u64 (lg : Nat), .int .u64 (sq : Nat)]
theorem eight_cells {w : World} {b : Nat} {x0 x1 x2 x3 x4 x5 x6 x7 : Value} {t : TypeId} {z : Nat × Nat} (h : w.heap[b]? = some (.cells #[x0, x1, x2, x3, x4, x5, x6, x7] t z)) :
    w.cell? ⟨b, 0, none⟩ = some x0 ∧ w.cell? ⟨b, 1, none⟩ = some x1 ∧ w.cell? ⟨b, 2, none⟩ = some x2 ∧ w.cell? ⟨b, 3, none⟩ = some x3 ∧ w.cell? ⟨b, 4, none⟩ = some x4 ∧ w.cell? ⟨b, 5, none⟩ = some x5 ∧ w.cell? ⟨b, 6, none⟩ = some x6 ∧ w.cell? ⟨b, 7, none⟩ = some x7 :=
  ⟨mcell h 0 (by rfl), mcell h 1 (by rfl), mcell h 2 (by rfl), mcell h 3 (by rfl), mcell h 4 (by rfl), mcell h 5 (by rfl), mcell h 6 (by rfl), mcell h 7 (by rfl)⟩
theorem Four.mono {B B' k : Nat} {w : World} {f : Nat → Value} {L : Nat → List Meta} (h : Four B w f L k) (hb : B' ≤ B) : Four B' w f L k := ⟨fun i hi => own_base (h.own i hi) hb, h.apart⟩
theorem Four.set8 {B : Nat} {w : World} {f : Nat → Value} {L : Nat → List Meta} (h : Four (B + 1) w f L 4) (new : Array Value) : Four B (w.setRow B new) f L 4 :=
  ⟨fun i hi => own_base (own_row (h.own i hi) (fun e => by have := (own_new (h.own i hi) e).1; omega) new) (by omega), h.apart⟩
theorem Four.ones8 {B : Nat} {w : World} {f : Nat → Value} {L : Nat → List Meta} (h : Four B w f L 4) (nx lg sq : Nat) : ∀ v ∈ (#[.slice none 0 0, f 0, f 1, f 2, f 3, .int .u64 (nx : Nat), .int .u64 (lg : Nat), .int .u64 (sq : Nat)] : Array Value).toList, v.oneCell' = true := by
  intro v hv
  simp only [List.mem_cons, List.not_mem_nil, or_false] at hv
  rcases hv with rfl | rfl | rfl | rfl | rfl | rfl | rfl | rfl
  · rfl
  · exact slice_one (h.own 0 (by omega))
  · exact slice_one (h.own 1 (by omega))
  · exact slice_one (h.own 2 (by omega))
  · exact slice_one (h.own 3 (by omega))
  · rfl
  · rfl
  · rfl
theorem lvedit_raw {w : World} {p nx lg sq : Nat} {T : Nat → Lvl} (h : IsV w p T nx lg sq) (hl : ∀ l, l < 4 → (T l).l.length ≤ 100000) :
    Calls Tryz.prog 31 #[.pointer (some ⟨p, 0, none⟩)] w fun e w' => ∃ f, e = .returned (edv (.slice none 0 0) f nx lg sq) ∧ Four w.heap.size w' f (fun l => (T l).l) 4 ∧ Kept w w' := by
  have HC := Lib.hid (fun W (hW : Kept w W) => lvcopied_any (h.tab.kept hW) h.flat hl)
  unfold tbv at HC
  have HK := Lib.hid (fun W (hW : Kept w W) => seven_cells (h.kept hW))
  clear h hl
  generalize (T 0).v = x0 at *
  generalize (T 1).v = x1 at *
  generalize (T 2).v = x2 at *
  generalize (T 3).v = x3 at *
  generalize (fun l => (T l).l) = L at *
  go_enter Tryz.func31, Tryz.ntmps31
  have I0 := Lib.hid (show KB w w.heap.size 34 8 (w.alloc (.cells #[.slice none 0 0, .slice none 0 0, .slice none 0 0, .slice none 0 0, .slice none 0 0, .int .u64 0, .int .u64 0, .int .u64 0] 34)) from ⟨(Kept.refl _).alloc _, _, rfl, malloc_new w _⟩)
  go_upto_region 1 with fail
  -- REGION Edit BEGIN
  refine wp_region_held_drew (S := fun W => KB w w.heap.size 34 8 W) (by kernel_rfl) (I0.out.step (kept_drewN _ 1)) (fun hHeld => ?_)
  refine wpAnyH_take (i := 0) (v := (.pointer (some ⟨p, 0, none⟩))) (List.getElem?_toArray.trans rfl) (by kernel_rfl) (by kernel_rfl) (by kernel_rfl) (fun _ _ _ h => h) (Or.inl ⟨by rfl, ?_⟩) (by assumption) ?_
  · intro W hSw
    first | rfl | (go_simp; done) | (go_simp; rfl)
  simp only [Act.put, List.setIfInBounds_toArray, List.set_cons_zero, List.set_cons_succ]
  refine wpAnyH_take (i := 1) (v := (.pointer (some ⟨p, 0, none⟩))) (List.getElem?_toArray.trans rfl) (by kernel_rfl) (by kernel_rfl) (by kernel_rfl) (fun _ _ _ h => h) (Or.inl ⟨by rfl, ?_⟩) (by assumption) ?_
  · intro W hSw
    first | rfl | (go_simp; done) | (go_simp; rfl)
  simp only [Act.put, List.setIfInBounds_toArray, List.set_cons_zero, List.set_cons_succ]
  refine wpAnyH_take (i := 2) (v := (.pointer (some ⟨p, 0, none⟩))) (List.getElem?_toArray.trans rfl) (by kernel_rfl) (by kernel_rfl) (by kernel_rfl) (fun _ _ _ h => h) (Or.inl ⟨by rfl, ?_⟩) (by assumption) ?_
  · intro W hSw
    first | rfl | (go_simp; done) | (go_simp; rfl)
  simp only [Act.put, List.setIfInBounds_toArray, List.set_cons_zero, List.set_cons_succ]
  refine wpAnyH_take (i := 3) (v := (.agg #[x0, x1, x2, x3])) (List.getElem?_toArray.trans rfl) (by kernel_rfl) (by kernel_rfl) (by kernel_rfl) (fun _ _ _ h => h) (Or.inl ⟨by rfl, ?_⟩) (by assumption) ?_
  · intro W hSw
    obtain ⟨q0, q1, q2, q3, q4, q5, q6⟩ := HK.out W hSw.k
    first | (go_simp; done) | (go_simp; rfl)
  simp only [Act.put, List.setIfInBounds_toArray, List.set_cons_zero, List.set_cons_succ]
  refine wpAnyH_take (i := 5) (v := (.pointer (some ⟨p, 0, none⟩))) (List.getElem?_toArray.trans rfl) (by kernel_rfl) (by kernel_rfl) (by kernel_rfl) (fun _ _ _ h => h) (Or.inl ⟨by rfl, ?_⟩) (by assumption) ?_
  · intro W hSw
    first | rfl | (go_simp; done) | (go_simp; rfl)
  simp only [Act.put, List.setIfInBounds_toArray, List.set_cons_zero, List.set_cons_succ]
  refine wpAnyH_take (i := 6) (v := (.pointer (some ⟨p, 0, none⟩))) (List.getElem?_toArray.trans rfl) (by kernel_rfl) (by kernel_rfl) (by kernel_rfl) (fun _ _ _ h => h) (Or.inl ⟨by rfl, ?_⟩) (by assumption) ?_
  · intro W hSw
    first | rfl | (go_simp; done) | (go_simp; rfl)
  simp only [Act.put, List.setIfInBounds_toArray, List.set_cons_zero, List.set_cons_succ]
  refine wpAnyH_take (i := 7) (v := (.pointer (some ⟨p, 4, none⟩))) (List.getElem?_toArray.trans rfl) (by kernel_rfl) (by kernel_rfl) (by kernel_rfl) (fun _ _ _ h => h) (Or.inl ⟨by rfl, ?_⟩) (by assumption) ?_
  · intro W hSw
    first | rfl | (go_simp; done) | (go_simp; rfl)
  simp only [Act.put, List.setIfInBounds_toArray, List.set_cons_zero, List.set_cons_succ]
  refine wpAnyH_take (i := 8) (v := (.int .u64 (nx : Nat))) (List.getElem?_toArray.trans rfl) (by kernel_rfl) (by kernel_rfl) (by kernel_rfl) (fun _ _ _ h => h) (Or.inl ⟨by rfl, ?_⟩) (by assumption) ?_
  · intro W hSw
    obtain ⟨q0, q1, q2, q3, q4, q5, q6⟩ := HK.out W hSw.k
    first | (go_simp; done) | (go_simp; rfl)
  simp only [Act.put, List.setIfInBounds_toArray, List.set_cons_zero, List.set_cons_succ]
  refine wpAnyH_take (i := 9) (v := (.pointer (some ⟨p, 0, none⟩))) (List.getElem?_toArray.trans rfl) (by kernel_rfl) (by kernel_rfl) (by kernel_rfl) (fun _ _ _ h => h) (Or.inl ⟨by rfl, ?_⟩) (by assumption) ?_
  · intro W hSw
    first | rfl | (go_simp; done) | (go_simp; rfl)
  simp only [Act.put, List.setIfInBounds_toArray, List.set_cons_zero, List.set_cons_succ]
  refine wpAnyH_take (i := 10) (v := (.pointer (some ⟨p, 0, none⟩))) (List.getElem?_toArray.trans rfl) (by kernel_rfl) (by kernel_rfl) (by kernel_rfl) (fun _ _ _ h => h) (Or.inl ⟨by rfl, ?_⟩) (by assumption) ?_
  · intro W hSw
    first | rfl | (go_simp; done) | (go_simp; rfl)
  simp only [Act.put, List.setIfInBounds_toArray, List.set_cons_zero, List.set_cons_succ]
  refine wpAnyH_take (i := 11) (v := (.pointer (some ⟨p, 5, none⟩))) (List.getElem?_toArray.trans rfl) (by kernel_rfl) (by kernel_rfl) (by kernel_rfl) (fun _ _ _ h => h) (Or.inl ⟨by rfl, ?_⟩) (by assumption) ?_
  · intro W hSw
    first | rfl | (go_simp; done) | (go_simp; rfl)
  simp only [Act.put, List.setIfInBounds_toArray, List.set_cons_zero, List.set_cons_succ]
  refine wpAnyH_take (i := 12) (v := (.int .u64 (lg : Nat))) (List.getElem?_toArray.trans rfl) (by kernel_rfl) (by kernel_rfl) (by kernel_rfl) (fun _ _ _ h => h) (Or.inl ⟨by rfl, ?_⟩) (by assumption) ?_
  · intro W hSw
    obtain ⟨q0, q1, q2, q3, q4, q5, q6⟩ := HK.out W hSw.k
    first | (go_simp; done) | (go_simp; rfl)
  simp only [Act.put, List.setIfInBounds_toArray, List.set_cons_zero, List.set_cons_succ]
  refine wpAnyH_take (i := 13) (v := (.pointer (some ⟨p, 0, none⟩))) (List.getElem?_toArray.trans rfl) (by kernel_rfl) (by kernel_rfl) (by kernel_rfl) (fun _ _ _ h => h) (Or.inl ⟨by rfl, ?_⟩) (by assumption) ?_
  · intro W hSw
    first | rfl | (go_simp; done) | (go_simp; rfl)
  simp only [Act.put, List.setIfInBounds_toArray, List.set_cons_zero, List.set_cons_succ]
  refine wpAnyH_take (i := 14) (v := (.pointer (some ⟨p, 0, none⟩))) (List.getElem?_toArray.trans rfl) (by kernel_rfl) (by kernel_rfl) (by kernel_rfl) (fun _ _ _ h => h) (Or.inl ⟨by rfl, ?_⟩) (by assumption) ?_
  · intro W hSw
    first | rfl | (go_simp; done) | (go_simp; rfl)
  simp only [Act.put, List.setIfInBounds_toArray, List.set_cons_zero, List.set_cons_succ]
  refine wpAnyH_take (i := 15) (v := (.pointer (some ⟨p, 6, none⟩))) (List.getElem?_toArray.trans rfl) (by kernel_rfl) (by kernel_rfl) (by kernel_rfl) (fun _ _ _ h => h) (Or.inl ⟨by rfl, ?_⟩) (by assumption) ?_
  · intro W hSw
    first | rfl | (go_simp; done) | (go_simp; rfl)
  simp only [Act.put, List.setIfInBounds_toArray, List.set_cons_zero, List.set_cons_succ]
  refine wpAnyH_take (i := 16) (v := (.int .u64 (sq : Nat))) (List.getElem?_toArray.trans rfl) (by kernel_rfl) (by kernel_rfl) (by kernel_rfl) (fun _ _ _ h => h) (Or.inl ⟨by rfl, ?_⟩) (by assumption) ?_
  · intro W hSw
    obtain ⟨q0, q1, q2, q3, q4, q5, q6⟩ := HK.out W hSw.k
    first | (go_simp; done) | (go_simp; rfl)
  simp only [Act.put, List.setIfInBounds_toArray, List.set_cons_zero, List.set_cons_succ]
  refine wpAnyH_ready (rs := [4]) (by kernel_rfl) (by simp) ?_
  refine (AllReadyH.cons (List.getElem?_toArray.trans rfl) (fun K hK => ?_) AllReadyH.nil)
  go_simp
  have HB := Lib.hid hHeld
  refine (HC.out _ hHeld.k).mono ?_
  rintro e wc ⟨f, rfl, hF, gF⟩
  have HF := Lib.hid (hF.mono hHeld.lt)
  have HS := Lib.hid (HB.out.step gF)
  clear hF gF HB
  unfold four
  go_wp2_with fail
  refine hK.out _ _ HS.out (fun hHeld => ?_)
  clear hK K
  refine wpAnyH_take (i := 17) (v := (.agg #[.slice none 0 0, f 0, f 1, f 2, f 3, .int .u64 (nx : Nat), .int .u64 (lg : Nat), .int .u64 (sq : Nat)])) (List.getElem?_toArray.trans rfl) (by kernel_rfl) (by kernel_rfl) (by kernel_rfl) (fun _ _ _ h => h) (Or.inl ⟨by rfl, ?_⟩) (by assumption) ?_
  · intro W hSw
    first | rfl | (go_simp; done) | (go_simp; rfl)
  simp only [Act.put, List.setIfInBounds_toArray, List.set_cons_zero, List.set_cons_succ]
  refine wpAnyH_ready (rs := [18]) (by kernel_rfl) (by simp) ?_
  refine (AllReadyH.cons (List.getElem?_toArray.trans rfl) (fun K hK => ?_) AllReadyH.nil)
  refine ite_wp (by rfl) (wp_store_all rfl rfl rfl (by kernel_rfl) (HS.out.store #[.slice none 0 0, f 0, f 1, f 2, f 3, .int .u64 (nx : Nat), .int .u64 (lg : Nat), .int .u64 (sq : Nat)] rfl (HF.out.ones8 nx lg sq)) ?_)
  refine hK.out _ _ (KB.set HS.out (Nat.le_refl _) #[.slice none 0 0, f 0, f 1, f 2, f 3, .int .u64 (nx : Nat), .int .u64 (lg : Nat), .int .u64 (sq : Nat)] rfl) (fun hHeld => ?_)
  clear hK K
  dsimp only [Act.put]
  refine wpAnyH_done (by kernel_rfl) ?_ _
  have HN := Lib.hid (HF.out.set8 #[.slice none 0 0, f 0, f 1, f 2, f 3, .int .u64 (nx : Nat), .int .u64 (lg : Nat), .int .u64 (sq : Nat)])
  have HK9 := Lib.hid (kept_row HS.out.k (Nat.le_refl _) #[.slice none 0 0, f 0, f 1, f 2, f 3, .int .u64 (nx : Nat), .int .u64 (lg : Nat), .int .u64 (sq : Nat)])
  obtain ⟨z0, z1, z2, z3, z4, z5, z6, z7⟩ := eight_cells (HS.out.after #[.slice none 0 0, f 0, f 1, f 2, f 3, .int .u64 (nx : Nat), .int .u64 (lg : Nat), .int .u64 (sq : Nat)])
  go_wp2_with fail
  refine bodyPost_ret (v := .agg #[.slice none 0 0, f 0, f 1, f 2, f 3, .int .u64 (nx : Nat), .int .u64 (lg : Nat), .int .u64 (sq : Nat)]) (by simp [results, Tryz.results31, go_sem, z0, z1, z2, z3, z4, z5, z6, z7]) rfl ⟨f, rfl, HN.out, HK9.out⟩
  -- REGION Edit END
end Go.Proofs.YtnnmalpnjlnnlaaGreat

/-
  Package level over memory: a version's files.
-/
namespace Go.Proofs.YtnnmalpnjlnnlaaGreat
open Go.ChangeShapes Go.WideShapes Go.ChangeAt Go.RowKit
set_option linter.unusedVariables false
set_option maxRecDepth 100000
set_option maxHeartbeats 8000000
open Lv
theorem lvfilesV_any {w : World} {p nx lg sq : Nat} {T : Nat → Lvl} (h : IsV w p T nx lg sq) (hl : ∀ l, l < 4 → (T l).l.length ≤ 100000) :
    Calls Tryz.prog 34 #[.pointer (some ⟨p, 0, none⟩)] w fun e w' => ∃ v, e = .returned v ∧ w'.ownsRow w.heap.size 32 1 v (fls T 4).length (nsc (srt (fls T 4))) ∧ Kept w w' := by
  obtain ⟨k0, k1, k2, k3, _⟩ := seven_cells h
  have HF := Lib.hid (lvfiles_any h.tab hl)
  unfold tbv at HF
  clear h hl
  generalize (T 0).v = x0 at *
  generalize (T 1).v = x1 at *
  generalize (T 2).v = x2 at *
  generalize (T 3).v = x3 at *
  go_enter Tryz.func34, Tryz.ntmps34
  go_wp2_with fail
  refine HF.out.mono ?_
  rintro e w1 ⟨v, rfl, hown, g⟩
  go_wp2_with fail
  go_ret
  exact ⟨v, rfl, hown, g⟩
end Go.Proofs.YtnnmalpnjlnnlaaGreat

/-
  Package level over memory: Pick.
-/
namespace Go.Proofs.YtnnmalpnjlnnlaaGreat
open Go.ChangeShapes Go.WideShapes Go.ChangeAt Go.RowKit
set_option linter.unusedVariables false
set_option maxRecDepth 100000
set_option maxHeartbeats 8000000
open Lv
def pkv (l : Nat) (f i : Value) (b : Bool) : Value := .agg #[.int .i64 (l : Nat), f, i, .bool b]
def pk0 : Value := .agg #[.int .i64 0, .slice none 0 0, .slice none 0 0, .bool false]
theorem own_ne_old {w : World} {B e size n : Nat} {v : Value} {xs : List Value} (h : w.ownsRow B e size v n xs) {b : Nat} (hb : b < B) : v.ownBlock ≠ some b := fun hc => by
  have := (own_new h hc).1; omega
theorem own_ne_new {w : World} {B e size n : Nat} {v : Value} {xs : List Value} (h : w.ownsRow B e size v n xs) {b : Nat} (hb : w.heap.size ≤ b) : v.ownBlock ≠ some b := fun hc => by
  have := (own_new h hc).2; omega
/-- the result's variable, and the range's -/
structure PkS (w : World) (b0 b1 : Nat) (t : List UInt8 × List UInt8) (W : World) : Prop where
  kb : KB w b0 46 4 W
  sp : W.heap[b1]? = some (.cells #[.string (bs t.1), .string (bs t.2)] 88 (0, 0))
theorem PkS.step {w : World} {b0 b1 : Nat} {t : List UInt8 × List UInt8} {W W' : World} (h : PkS w b0 b1 t W) (g : Kept W W') : PkS w b0 b1 t W' := ⟨h.kb.step g, hp_kept h.sp g⟩
theorem PkS.load {w : World} {b0 b1 : Nat} {t : List UInt8 × List UInt8} {W : World} (h : PkS w b0 b1 t W) : W.cell? ⟨b1, 0, none⟩ = some (.string (bs t.1)) ∧ W.cell? ⟨b1, 1, none⟩ = some (.string (bs t.2)) := ⟨mcell h.sp 0 (by rfl), mcell h.sp 1 (by rfl)⟩
theorem PkS.set {w : World} {b0 b1 : Nat} {t : List UInt8 × List UInt8} {W : World} (h : PkS w b0 b1 t W) (hb : w.heap.size ≤ b0) (hne : b0 ≠ b1) (new : Array Value) (hn : new.size = 4) : PkS w b0 b1 t (W.setRow b0 new) :=
  ⟨h.kb.set hb new hn, by
    show (W.heap.modify b0 _)[b1]? = _
    rw [Array.getElem?_modify, if_neg hne]; exact h.sp⟩
theorem alloc_kb {w W : World} {b t n : Nat} (h : KB w b t n W) (o : Obj) : ∃ w' b1, w' = W.alloc o ∧ b1 = W.heap.size ∧ KB w b t n w' ∧ Hid (w'.heap[b1]? = some o) ∧ Kept W w' ∧ b < b1 := by
  refine ⟨_, _, rfl, rfl, h.step ((Kept.refl _).alloc _), Lib.hid (malloc_new W o), (Kept.refl _).alloc _, h.lt⟩
/-- and the two lists -/
structure PkR (w : World) (b0 b1 : Nat) (t : List UInt8 × List UInt8) (v : Value) (m : List Meta) (W : World) : Prop where
  ps : PkS w b0 b1 t W
  r1 : W.ownsRow w.heap.size 43 5 v m.length (mtl m)
structure PkRR (w : World) (b0 b1 : Nat) (t : List UInt8 × List UInt8) (v : Value) (m : List Meta) (v2 : Value) (n : List Meta) (W : World) : Prop where
  ps : PkS w b0 b1 t W
  r1 : W.ownsRow w.heap.size 43 5 v m.length (mtl m)
  r2 : W.ownsRow w.heap.size 43 5 v2 n.length (mtl n)
theorem own_kp {w w' : World} (k : Kept w w') {B e size n : Nat} {v : Value} {xs : List Value} (h : w.ownsRow B e size v n xs) : w'.ownsRow B e size v n xs := h.kept (row := none) ⟨k.os, k.tape, k.output, k.size, fun b hb _ => k.block b hb⟩ (by cases v.ownBlock with | none => exact .inl rfl | some b => exact .inr (by simp))
theorem PkR.step {w : World} {b0 b1 : Nat} {t : List UInt8 × List UInt8} {v : Value} {m : List Meta} {W W' : World} (h : PkR w b0 b1 t v m W) (g : Kept W W') : PkR w b0 b1 t v m W' := ⟨h.ps.step g, own_kp g h.r1⟩
theorem PkR.two {w : World} {b0 b1 : Nat} {t : List UInt8 × List UInt8} {v v2 : Value} {m n : List Meta} {W W' : World} (h : PkR w b0 b1 t v m W) (g : Kept W W') (r : W'.ownsRow W.heap.size 43 5 v2 n.length (mtl n)) : PkRR w b0 b1 t v m v2 n W' := ⟨h.ps.step g, own_kp g h.r1, own_base r h.ps.kb.k.size⟩
theorem PkRR.step {w : World} {b0 b1 : Nat} {t : List UInt8 × List UInt8} {v v2 : Value} {m n : List Meta} {W W' : World} (h : PkRR w b0 b1 t v m v2 n W) (g : Kept W W') : PkRR w b0 b1 t v m v2 n W' := ⟨h.ps.step g, own_kp g h.r1, own_kp g h.r2⟩
theorem PkRR.set {w : World} {b0 b1 : Nat} {t : List UInt8 × List UInt8} {v v2 : Value} {m n : List Meta} {W : World} (h : PkRR w b0 b1 t v m v2 n W) (hb : w.heap.size ≤ b0) (hne : b0 ≠ b1) (h1 : v.ownBlock ≠ some b0) (h2 : v2.ownBlock ≠ some b0) (new : Array Value) (hn : new.size = 4) : PkRR w b0 b1 t v m v2 n (W.setRow b0 new) :=
  ⟨h.ps.set hb hne new hn, own_row h.r1 h1 new, own_row h.r2 h2 new⟩
theorem own_mts {W : World} {B n c : Nat} {A : Option Addr} {l : List Meta} (h : W.ownsRow B 43 5 (.slice A n c) n (mtl l)) : Mts W A l := by
  obtain ⟨A', c', e, _, hm⟩ := mts_own h
  cases e; exact hm.mts
theorem PkRR.one {w : World} {b0 b1 : Nat} {t : List UInt8 × List UInt8} {v v2 : Value} {m n : List Meta} {W : World} (h : PkRR w b0 b1 t v m v2 n W) : PkR w b0 b1 t v m W := ⟨h.ps, h.r1⟩
theorem ones4 {v z : Value} {n m : Nat} {A : Option Addr} {i : Int} {b : Bool} (hv : v.oneCell' = true) (hz : z = .bool b) : ∀ u ∈ (#[.int .i64 i, v, .slice A n m, z] : Array Value).toList, u.oneCell' = true := by
  intro u hu
  simp only [List.mem_cons, List.not_mem_nil, or_false] at hu
  rcases hu with rfl | rfl | rfl | rfl
  · rfl
  · exact hv
  · rfl
  · rw [hz]; rfl
theorem mt_at {W : World} {b o : Nat} {q : Nat} {x : Meta} (h : ∃ b' o', (some ⟨b, o, none⟩ : Option Addr) = some ⟨b', o', none⟩ ∧ b' < W.heap.size ∧ Mt W b' (o' + q) x) : Mt W b (o + q) x := by
  obtain ⟨b', o', e, _, h⟩ := h
  cases e; exact h
theorem kb_other {w W : World} {b t n : Nat} (h : KB w b t n W) {b1 : Nat} (hw : w.heap.size ≤ b1) (hlt : b < b1) (new : Array Value) : KB w b t n (W.setRow b1 new) := by
  obtain ⟨c, hc, hb⟩ := h.blk
  refine ⟨kept_row h.k hw new, c, hc, ?_⟩
  show (W.heap.modify b1 _)[b]? = _
  rw [Array.getElem?_modify, if_neg (by omega)]; exact hb
theorem lvpick_bad {w : World} (p : Nat) (z k : Int) (hz : ¬ (0 ≤ z ∧ z ≤ 2 ∧ 0 ≤ k)) :
    Calls Tryz.prog 19 #[.pointer (some ⟨p, 0, none⟩), .int .i64 z, .int .i64 k] w fun e w' => e = .returned (.tuple #[pk0, .int .i64 1]) ∧ Kept w w' := by
  unfold pk0
  by_cases h1 : 0 ≤ z
  · have d1 : decide (z < 0) = false := decide_eq_false (by omega)
    by_cases h2 : z ≤ 2
    · have d2 : decide (2 < z) = false := decide_eq_false (by omega)
      have d3 : decide (k < 0) = true := decide_eq_true (by omega)
      clear hz h1 h2
      go_enter Tryz.func19, Tryz.ntmps19
      go_wp2_with fail
      refine bodyPost_ret (v := .tuple #[.agg #[.int .i64 0, .slice none 0 0, .slice none 0 0, .bool false], .int .i64 1]) (by simp [results, Tryz.results19, go_sem]) rfl ⟨rfl, (Kept.refl _).alloc _⟩
    · have d2 : decide (2 < z) = true := decide_eq_true (by omega)
      clear hz h1 h2
      go_enter Tryz.func19, Tryz.ntmps19
      go_wp2_with fail
      refine bodyPost_ret (v := .tuple #[.agg #[.int .i64 0, .slice none 0 0, .slice none 0 0, .bool false], .int .i64 1]) (by simp [results, Tryz.results19, go_sem]) rfl ⟨rfl, (Kept.refl _).alloc _⟩
  · have d1 : decide (z < 0) = true := decide_eq_true (by omega)
    clear hz h1
    go_enter Tryz.func19, Tryz.ntmps19
    go_wp2_with fail
    refine bodyPost_ret (v := .tuple #[.agg #[.int .i64 0, .slice none 0 0, .slice none 0 0, .bool false], .int .i64 1]) (by simp [results, Tryz.results19, go_sem]) rfl ⟨rfl, (Kept.refl _).alloc _⟩
theorem ver_cell {w : World} {p nx lg sq : Nat} {T : Nat → Lvl} (h : IsV w p T nx lg sq) (l : Nat) (hl : l < 4) : w.cell? ⟨p, l, none⟩ = some (.slice (T l).A (T l).l.length (T l).c) := by
  have hk4 : l = 0 ∨ l = 1 ∨ l = 2 ∨ l = 3 := by omega
  rcases hk4 with rfl | rfl | rfl | rfl <;> exact mcell h.cells _ (by rfl)
theorem lvpick_none {w : World} {p nx lg sq : Nat} {T : Nat → Lvl} (h : IsV w p T nx lg sq) (l k : Nat) (hl : l ≤ 2) (h0 : (T l).l = []) :
    Calls Tryz.prog 19 #[.pointer (some ⟨p, 0, none⟩), .int .i64 (l : Nat), .int .i64 (k : Nat)] w fun e w' => e = .returned (.tuple #[pk0, .int .i64 10]) ∧ Kept w w' := by
  unfold pk0
  have hc := ver_cell h l (by omega)
  have hp := mheap_lt h.cells
  rw [h0] at hc
  simp only [List.length_nil] at hc
  have d1 : decide ((l : Int) < 0) = false := decide_eq_false (by omega)
  have d2 : decide ((2 : Int) < (l : Int)) = false := decide_eq_false (by omega)
  have d3 : decide ((k : Int) < 0) = false := decide_eq_false (by omega)
  have hk := (kept_cell ((Kept.refl w).alloc (.cells #[.int .i64 0, .slice none 0 0, .slice none 0 0, .bool false] 46)) (p := ⟨p, l, none⟩) hp).trans hc
  clear h h0 hc
  go_enter Tryz.func19, Tryz.ntmps19
  go_wp2_with fail
  refine bodyPost_ret (v := .tuple #[.agg #[.int .i64 0, .slice none 0 0, .slice none 0 0, .bool false], .int .i64 10]) (by simp [results, Tryz.results19, go_sem]) rfl ⟨rfl, (Kept.refl _).alloc _⟩
theorem ver_four {w : World} {p nx lg sq : Nat} {T : Nat → Lvl} (h : IsV w p T nx lg sq) : w.cell? ⟨p, 0, none⟩ = some (T 0).v ∧ w.cell? ⟨p, 1, none⟩ = some (T 1).v ∧ w.cell? ⟨p, 2, none⟩ = some (T 2).v ∧ w.cell? ⟨p, 3, none⟩ = some (T 3).v :=
  ⟨mcell h.cells 0 (by rfl), mcell h.cells 1 (by rfl), mcell h.cells 2 (by rfl), mcell h.cells 3 (by rfl)⟩
/-- what Pick tells -/
def PkRet (T : Nat → Lvl) (l : Nat) (x : Meta) (w : World) (e : Ending) (w' : World) : Prop :=
  ∃ f i t, e = .returned (.tuple #[pkv l f i (!belw (fun j => (T j).l) (l + 1) (over t (meet (T (l + 1)).l t.1 t.2)).1 (over t (meet (T (l + 1)).l t.1 t.2)).2), .int .i64 0]) ∧ Rch (T l).l (x.first, x.last) t ∧ lstep (T l).l t = t ∧
    w'.ownsRow w.heap.size 43 5 f (meet (T l).l t.1 t.2).length (mtl (meet (T l).l t.1 t.2)) ∧ w'.ownsRow w.heap.size 43 5 i (meet (T (l + 1)).l t.1 t.2).length (mtl (meet (T (l + 1)).l t.1 t.2)) ∧ Kept w w'
theorem lvpick_some {w : World} {p nx lg sq : Nat} {T : Nat → Lvl} (h : IsV w p T nx lg sq) (hlen : ∀ l, l < 4 → (T l).l.length ≤ 100000) (l k : Nat) (hl : l ≤ 2) (hk : k ≤ 9223372036854775807) {x : Meta} (hx : (T l).l[k % (T l).l.length]? = some x) :
    Calls Tryz.prog 19 #[.pointer (some ⟨p, 0, none⟩), .int .i64 (l : Nat), .int .i64 (k : Nat)] w (PkRet T l x w) := by
  obtain ⟨Q, hQ⟩ : ∃ Q, Q = PkRet T l x w := ⟨_, rfl⟩
  rw [← hQ]
  have HQ := Lib.hid hQ
  clear hQ
  have hn := (List.getElem?_eq_some_iff.1 hx).1
  have hln := hlen l (by omega)
  have hc := ver_cell h l (by omega)
  have hp := mheap_lt h.cells
  have HT := Lib.hid (fun W (hW : Kept w W) => h.tab.kept hW)
  have HCC := Lib.hid (fun W (hW : Kept w W) => (kept_cell hW (p := ⟨p, l, none⟩) hp).trans hc)
  have HX := Lib.hid (fun W (hW : Kept w W) => (h.tab.mts l (by omega)).kept hW _ _ hx)
  have HK := Lib.hid (fun W (hW : Kept w W) => ver_four (h.kept hW))
  have HLK := Lib.hid (fun W (hW : Kept w W) => lvlinked_any (h.tab.kept hW) l (by omega) hln (x.first, x.last))
  have HMT := Lib.hid (fun W (hW : Kept w W) (t : List UInt8 × List UInt8) => lvmeeting_any (h.tab.kept hW) (l + 1) (by omega) (hlen (l + 1) (by omega)) t.1 t.2)
  have HBL := Lib.hid (fun W (hW : Kept w W) (t : List UInt8 × List UInt8) => lvbelow_any (h.tab.kept hW) hlen (l + 1) (by omega) t.1 t.2)
  have HO := Lib.hid (fun W A (m : List Meta) (hA : Mts W A m) (h1 : m.length ≤ 100000) c (t : List UInt8 × List UInt8) => lvover_any (w := W) hA h1 c t)
  have HSP := Lib.hid (fun W => lvspan_any x W)
  have hml := fun (t : List UInt8 × List UInt8) => Nat.le_trans (meet_le (T (l + 1)).l t.1 t.2) (hlen (l + 1) (by omega))
  have HML := Lib.hid hml
  obtain ⟨x0, h0⟩ : ∃ y, y = (T 0).v := ⟨_, rfl⟩
  obtain ⟨x1, h1⟩ : ∃ y, y = (T 1).v := ⟨_, rfl⟩
  obtain ⟨x2, h2⟩ : ∃ y, y = (T 2).v := ⟨_, rfl⟩
  obtain ⟨x3, h3⟩ : ∃ y, y = (T 3).v := ⟨_, rfl⟩
  unfold tbv at HLK HMT HBL
  simp only [← h0, ← h1, ← h2, ← h3] at HK HLK HMT HBL
  unfold spv at HLK HMT HBL HO HSP
  unfold mtv at HSP
  obtain ⟨B, hB⟩ : ∃ B : List UInt8 × List UInt8 → Bool, B = fun t => belw (fun j => (T j).l) (l + 1) t.1 t.2 := ⟨_, rfl⟩
  have HBD := Lib.hid hB
  have HBL2 := Lib.hid (fun W (hW : Kept w W) (t : List UInt8 × List UInt8) => show Calls Tryz.prog 55 #[.agg #[x0, x1, x2, x3], .int .i64 ((l + 1 : Nat) : Int), .agg #[.string (bs t.1), .string (bs t.2)]] W fun e w' => e = .returned (.bool (B t)) ∧ Kept W w' from by rw [hB]; exact HBL.out W hW t)
  have d1 : decide ((l : Int) < 0) = false := decide_eq_false (by omega)
  have d2 : decide ((2 : Int) < (l : Int)) = false := decide_eq_false (by omega)
  have d3 : decide ((k : Int) < 0) = false := decide_eq_false (by omega)
  have d4 : ((((T l).l.length : Nat) : Int) == 0) = false := by simp; intro e; rw [e] at hn; simp at hn
  obtain ⟨j, hj⟩ : ∃ j, j = k % (T l).l.length := ⟨_, rfl⟩
  have d5 : Int.tmod (k : Int) (((T l).l.length : Nat) : Int) = (j : Int) := by rw [hj]; exact (Int.ofNat_tmod k _).symm
  have hjM : j < (T l).l.length := by rw [hj]; exact hn
  have d6 : IntKind.i64.wrap (j : Int) = (j : Int) := by rw [IntKind.wrap_i64]; omega
  have d7 : IntKind.i64.wrap ((l : Int) + 1) = ((l + 1 : Nat) : Int) := by rw [IntKind.wrap_i64]; omega
  clear hn
  have hn := hjM
  clear hjM
  have dM : ¬ (T l).l = [] := by intro e; rw [e] at hn; simp at hn
  rw [← hj] at HX
  generalize hM : (T l).l = M at *
  generalize (T l).A = A at *
  generalize (T l).c = c at *
  generalize hN : (T (l + 1)).l = N at *
  have HMM := Lib.hid hM; have HNN := Lib.hid hN
  have I0 := Lib.hid (show KB w w.heap.size 46 4 (w.alloc (.cells #[.int .i64 0, .slice none 0 0, .slice none 0 0, .bool false] 46)) from ⟨(Kept.refl _).alloc _, _, rfl, malloc_new w _⟩)
  have hk0 := HCC.out _ I0.out.k
  clear hM hN h hc hB h0 h1 h2 h3 hx hj hlen hml HBL HCC
  go_enter Tryz.func19, Tryz.ntmps19
  go_upto_region 6 with fail
  clear d1 d2 d3 hk0
  generalize w.alloc (.cells #[.int .i64 0, .slice none 0 0, .slice none 0 0, .bool false] 46) = w0 at I0 ⊢
  go_cut [9, 10] from 11 (fun v q wc => ∃ t b1, q = .pointer (some ⟨b1, 0, none⟩) ∧ Hid (Rch M (x.first, x.last) t) ∧ Hid (lstep M t = t) ∧ Hid (wc.ownsRow w.heap.size 43 5 v (meet M t.1 t.2).length (mtl (meet M t.1 t.2))) ∧ Hid (v.ownBlock ≠ some w.heap.size) ∧ w.heap.size < b1 ∧ PkS w w.heap.size b1 t wc)
  case first =>
    -- REGION Pick6 BEGIN
    obtain ⟨bb, bo, rfl, hbb, hmt⟩ := HX.out w (Kept.refl _)
    clear hmt
    replace HX := Lib.hid (fun W (hW : Kept w W) => mt_at (HX.out W hW))
    refine wp_region_held_drew (S := fun W => KB w w.heap.size 46 4 W) (by kernel_rfl) (I0.out.step (kept_drewN _ 1)) (fun hHeld => ?_)
    generalize w0.drew = v1 at hHeld ⊢
    refine wpAnyH_take (i := 0) (v := (.pointer (some ⟨p, 0, none⟩))) (List.getElem?_toArray.trans rfl) (by kernel_rfl) (by kernel_rfl) (by kernel_rfl) (fun _ _ _ h => h) (Or.inl ⟨by rfl, ?_⟩) (by assumption) ?_
    · intro W hSw
      first | rfl | (go_simp; done) | (go_simp; rfl)
    simp only [Act.put, List.setIfInBounds_toArray, List.set_cons_zero, List.set_cons_succ]
    refine wpAnyH_take (i := 1) (v := (.pointer (some ⟨p, 0, none⟩))) (List.getElem?_toArray.trans rfl) (by kernel_rfl) (by kernel_rfl) (by kernel_rfl) (fun _ _ _ h => h) (Or.inl ⟨by rfl, ?_⟩) (by assumption) ?_
    · intro W hSw
      first | rfl | (go_simp; done) | (go_simp; rfl)
    simp only [Act.put, List.setIfInBounds_toArray, List.set_cons_zero, List.set_cons_succ]
    refine wpAnyH_take (i := 2) (v := (.pointer (some ⟨p, 0, none⟩))) (List.getElem?_toArray.trans rfl) (by kernel_rfl) (by kernel_rfl) (by kernel_rfl) (fun _ _ _ h => h) (Or.inl ⟨by rfl, ?_⟩) (by assumption) ?_
    · intro W hSw
      first | rfl | (go_simp; done) | (go_simp; rfl)
    simp only [Act.put, List.setIfInBounds_toArray, List.set_cons_zero, List.set_cons_succ]
    refine wpAnyH_take (i := 3) (v := (.agg #[x0, x1, x2, x3])) (List.getElem?_toArray.trans rfl) (by kernel_rfl) (by kernel_rfl) (by kernel_rfl) (fun _ _ _ h => h) (Or.inl ⟨by rfl, ?_⟩) (by assumption) ?_
    · intro W hSw
      obtain ⟨q0, q1, q2, q3⟩ := HK.out W hSw.k
      first | (go_simp; done) | (go_simp; rfl)
    simp only [Act.put, List.setIfInBounds_toArray, List.set_cons_zero, List.set_cons_succ]
    refine wpAnyH_take (i := 4) (v := (.int .i64 (l : Nat))) (List.getElem?_toArray.trans rfl) (by kernel_rfl) (by kernel_rfl) (by kernel_rfl) (fun _ _ _ h => h) (Or.inl ⟨by rfl, ?_⟩) (by assumption) ?_
    · intro W hSw
      first | rfl | (go_simp; done) | (go_simp; rfl)
    simp only [Act.put, List.setIfInBounds_toArray, List.set_cons_zero, List.set_cons_succ]
    refine wpAnyH_take (i := 5) (v := (.slice (some ⟨bb, bo, none⟩) M.length c)) (List.getElem?_toArray.trans rfl) (by kernel_rfl) (by kernel_rfl) (by kernel_rfl) (fun _ _ _ h => h) (Or.inl ⟨by rfl, ?_⟩) (by assumption) ?_
    · intro W hSw
      first | rfl | (go_simp; done) | (go_simp; rfl)
    simp only [Act.put, List.setIfInBounds_toArray, List.set_cons_zero, List.set_cons_succ]
    refine wpAnyH_take (i := 6) (v := (.int .i64 (k : Nat))) (List.getElem?_toArray.trans rfl) (by kernel_rfl) (by kernel_rfl) (by kernel_rfl) (fun _ _ _ h => h) (Or.inl ⟨by rfl, ?_⟩) (by assumption) ?_
    · intro W hSw
      first | rfl | (go_simp; done) | (go_simp; rfl)
    simp only [Act.put, List.setIfInBounds_toArray, List.set_cons_zero, List.set_cons_succ]
    refine wpAnyH_take (i := 7) (v := (.slice (some ⟨bb, bo, none⟩) M.length c)) (List.getElem?_toArray.trans rfl) (by kernel_rfl) (by kernel_rfl) (by kernel_rfl) (fun _ _ _ h => h) (Or.inl ⟨by rfl, ?_⟩) (by assumption) ?_
    · intro W hSw
      first | rfl | (go_simp; done) | (go_simp; rfl)
    simp only [Act.put, List.setIfInBounds_toArray, List.set_cons_zero, List.set_cons_succ]
    refine wpAnyH_take (i := 8) (v := (.int .i64 (M.length : Nat))) (List.getElem?_toArray.trans rfl) (by kernel_rfl) (by kernel_rfl) (by kernel_rfl) (fun _ _ _ h => h) (Or.inl ⟨by rfl, ?_⟩) (by assumption) ?_
    · intro W hSw
      first | rfl | (go_simp; done) | (go_simp; rfl)
    simp only [Act.put, List.setIfInBounds_toArray, List.set_cons_zero, List.set_cons_succ]
    refine wpAnyH_take (i := 9) (v := (.int .i64 (j : Nat))) (List.getElem?_toArray.trans rfl) (by kernel_rfl) (by kernel_rfl) (by kernel_rfl) (fun _ _ _ h => h) (Or.inl ⟨by rfl, ?_⟩) (by assumption) ?_
    · intro W hSw
      first | rfl | (go_simp; done) | (go_simp; rfl)
    simp only [Act.put, List.setIfInBounds_toArray, List.set_cons_zero, List.set_cons_succ]
    refine wpAnyH_take (i := 10) (v := (.pointer (some ⟨bb, bo + j * 5, none⟩))) (List.getElem?_toArray.trans rfl) (by kernel_rfl) (by kernel_rfl) (by kernel_rfl) (fun _ _ _ h => h) (Or.inl ⟨by rfl, ?_⟩) (by assumption) ?_
    · intro W hSw
      first | rfl | (go_simp; done) | (go_simp; rfl)
    simp only [Act.put, List.setIfInBounds_toArray, List.set_cons_zero, List.set_cons_succ]
    refine wpAnyH_take (i := 11) (v := (.agg #[.int .u64 (x.file : Nat), .int .i64 x.size, .string (bs x.first), .string (bs x.last), .int .u64 (x.seq : Nat)])) (List.getElem?_toArray.trans rfl) (by kernel_rfl) (by kernel_rfl) (by kernel_rfl) (fun _ _ _ h => h) (Or.inl ⟨by rfl, ?_⟩) (by assumption) ?_
    · intro W hSw
      obtain ⟨q0, q1, q2, q3, q4⟩ := HX.out W hSw.k
      first | (go_simp; done) | (go_simp; rfl)
    simp only [Act.put, List.setIfInBounds_toArray, List.set_cons_zero, List.set_cons_succ]
    refine wpAnyH_ready (rs := [12, 17]) (by kernel_rfl) (by simp) ?_
    refine (AllReadyH.cons (List.getElem?_toArray.trans rfl) (fun K hK => ?_) (AllReadyH.cons (List.getElem?_toArray.trans rfl) (fun K hK => ?_) AllReadyH.nil))
    · go_simp
      have HB := Lib.hid hHeld
      refine (HSP.out _).mono ?_
      rintro e wa ⟨rfl, ga⟩
      have HS := Lib.hid (HB.out.step ga)
      clear ga HB
      go_wp2_with fail
      refine hK.out _ _ HS.out (fun hHeld => ?_)
      clear hK K
      refine wpAnyH_ready (rs := [13, 17]) (by kernel_rfl) (by simp) ?_
      refine (AllReadyH.cons (List.getElem?_toArray.trans rfl) (fun K hK => ?_) (AllReadyH.cons (List.getElem?_toArray.trans rfl) (fun K hK => ?_) AllReadyH.nil))
      · go_simp
        have HB := Lib.hid hHeld
        refine (HLK.out _ hHeld.k).mono ?_
        rintro e wb ⟨v, t, rfl, hr, ht, hv, gb⟩
        have HR := Lib.hid hr; have HT1 := Lib.hid ht; have HV := Lib.hid (own_base hv hHeld.k.size); have HVN := Lib.hid (own_ne_old hv HB.out.lt)
        have HS := Lib.hid (HB.out.step gb)
        clear hr ht hv gb HB
        go_wp2_with fail
        refine hK.out _ _ HS.out (fun hHeld => ?_)
        clear hK K
        refine wpAnyH_take (i := 14) (v := (.tuple #[v, .agg #[.string (bs t.1), .string (bs t.2)]])) (List.getElem?_toArray.trans rfl) (by kernel_rfl) (by kernel_rfl) (by kernel_rfl) (fun _ _ _ h => h) (Or.inl ⟨by rfl, ?_⟩) (by assumption) ?_
        · intro W hSw
          first | rfl | (go_simp; done) | (go_simp; rfl)
        simp only [Act.put, List.setIfInBounds_toArray, List.set_cons_zero, List.set_cons_succ]
        refine wpAnyH_take (i := 15) (v := v) (List.getElem?_toArray.trans rfl) (by kernel_rfl) (by kernel_rfl) (by kernel_rfl) (fun _ _ _ h => h) (Or.inl ⟨by rfl, ?_⟩) (by assumption) ?_
        · intro W hSw
          first | rfl | (go_simp; done) | (go_simp; rfl)
        simp only [Act.put, List.setIfInBounds_toArray, List.set_cons_zero, List.set_cons_succ]
        refine wpAnyH_take (i := 16) (v := (.agg #[.string (bs t.1), .string (bs t.2)])) (List.getElem?_toArray.trans rfl) (by kernel_rfl) (by kernel_rfl) (by kernel_rfl) (fun _ _ _ h => h) (Or.inl ⟨by rfl, ?_⟩) (by assumption) ?_
        · intro W hSw
          first | rfl | (go_simp; done) | (go_simp; rfl)
        simp only [Act.put, List.setIfInBounds_toArray, List.set_cons_zero, List.set_cons_succ]
        refine wpAnyH_ready (rs := [17]) (by kernel_rfl) (by simp) ?_
        refine (AllReadyH.cons (List.getElem?_toArray.trans rfl) (fun K hK => ?_) AllReadyH.nil)
        go_simp
        obtain ⟨wd, b1, hwd, hb1, hkb, h17, kd, hlt⟩ := alloc_kb hHeld (.cells #[.string ⟨#[]⟩, .string ⟨#[]⟩] 88)
        try simp only [World.heap_drew] at hb1
        rw [← hwd, ← hb1]
        have H17 := h17
        have HS := Lib.hid hkb
        have HV1 := Lib.hid (own_ne_new HV.out (Nat.le_of_eq hb1.symm))
        have HV := Lib.hid (own_kp kd HV.out)
        clear hwd hb1 hkb h17 kd
        go_wp2_with fail
        refine hK.out _ _ HS.out (fun hHeld => ?_)
        clear hK K
        refine wpAnyH_take (i := 18) (v := v) (List.getElem?_toArray.trans rfl) (by kernel_rfl) (by kernel_rfl) (by kernel_rfl) (fun _ _ _ h => h) (Or.inl ⟨by rfl, ?_⟩) (by assumption) ?_
        · intro W hSw
          first | rfl | (go_simp; done) | (go_simp; rfl)
        simp only [Act.put, List.setIfInBounds_toArray, List.set_cons_zero, List.set_cons_succ]
        refine wpAnyH_ready (rs := [19]) (by kernel_rfl) (by simp) ?_
        refine (AllReadyH.cons (List.getElem?_toArray.trans rfl) (fun K hK => ?_) AllReadyH.nil)
        refine ite_wp (by rfl) (wp_store_all (new := #[.string (bs t.1), .string (bs t.2)]) rfl rfl rfl (by kernel_rfl) (store_all H17.out rfl (by simp [Value.oneCell'])) ?_)
        refine hK.out _ _ (kb_other HS.out (by omega) hlt _) (fun hHeld => ?_)
        clear hK K
        dsimp only [Act.put]
        refine wpAnyH_done (by kernel_rfl) ?_ _
        go_wp2_with fail
        go_meet
        exact ⟨t, b1, rfl, HR, HT1, Lib.hid (own_row HV.out HV1.out _), HVN, hlt, hHeld, row_set H17.out⟩
      · go_simp
        obtain ⟨wd, b1, hwd, hb1, hkb, h17, kd, hlt⟩ := alloc_kb hHeld (.cells #[.string ⟨#[]⟩, .string ⟨#[]⟩] 88)
        try simp only [World.heap_drew] at hb1
        rw [← hwd, ← hb1]
        have H17 := h17
        have HS := Lib.hid hkb
        clear hwd hb1 hkb h17 kd
        go_wp2_with fail
        refine hK.out _ _ HS.out (fun hHeld => ?_)
        clear hK K
        refine wpAnyH_ready (rs := [13]) (by kernel_rfl) (by simp) ?_
        refine (AllReadyH.cons (List.getElem?_toArray.trans rfl) (fun K hK => ?_) AllReadyH.nil)
        go_simp
        have HB := Lib.hid hHeld
        refine (HLK.out _ hHeld.k).mono ?_
        rintro e wb ⟨v, t, rfl, hr, ht, hv, gb⟩
        have HR := Lib.hid hr; have HT1 := Lib.hid ht; have HV := Lib.hid (own_base hv hHeld.k.size); have HVN := Lib.hid (own_ne_old hv HB.out.lt)
        have HS := Lib.hid (HB.out.step gb)
        have HV1 := Lib.hid (own_ne_old hv (mheap_lt H17.out))
        have H17 := Lib.hid (hp_kept H17.out gb)
        clear hr ht hv gb HB
        go_wp2_with fail
        refine hK.out _ _ HS.out (fun hHeld => ?_)
        clear hK K
        refine wpAnyH_take (i := 14) (v := (.tuple #[v, .agg #[.string (bs t.1), .string (bs t.2)]])) (List.getElem?_toArray.trans rfl) (by kernel_rfl) (by kernel_rfl) (by kernel_rfl) (fun _ _ _ h => h) (Or.inl ⟨by rfl, ?_⟩) (by assumption) ?_
        · intro W hSw
          first | rfl | (go_simp; done) | (go_simp; rfl)
        simp only [Act.put, List.setIfInBounds_toArray, List.set_cons_zero, List.set_cons_succ]
        refine wpAnyH_take (i := 15) (v := v) (List.getElem?_toArray.trans rfl) (by kernel_rfl) (by kernel_rfl) (by kernel_rfl) (fun _ _ _ h => h) (Or.inl ⟨by rfl, ?_⟩) (by assumption) ?_
        · intro W hSw
          first | rfl | (go_simp; done) | (go_simp; rfl)
        simp only [Act.put, List.setIfInBounds_toArray, List.set_cons_zero, List.set_cons_succ]
        refine wpAnyH_take (i := 16) (v := (.agg #[.string (bs t.1), .string (bs t.2)])) (List.getElem?_toArray.trans rfl) (by kernel_rfl) (by kernel_rfl) (by kernel_rfl) (fun _ _ _ h => h) (Or.inl ⟨by rfl, ?_⟩) (by assumption) ?_
        · intro W hSw
          first | rfl | (go_simp; done) | (go_simp; rfl)
        simp only [Act.put, List.setIfInBounds_toArray, List.set_cons_zero, List.set_cons_succ]
        refine wpAnyH_take (i := 18) (v := v) (List.getElem?_toArray.trans rfl) (by kernel_rfl) (by kernel_rfl) (by kernel_rfl) (fun _ _ _ h => h) (Or.inl ⟨by rfl, ?_⟩) (by assumption) ?_
        · intro W hSw
          first | rfl | (go_simp; done) | (go_simp; rfl)
        simp only [Act.put, List.setIfInBounds_toArray, List.set_cons_zero, List.set_cons_succ]
        refine wpAnyH_ready (rs := [19]) (by kernel_rfl) (by simp) ?_
        refine (AllReadyH.cons (List.getElem?_toArray.trans rfl) (fun K hK => ?_) AllReadyH.nil)
        refine ite_wp (by rfl) (wp_store_all (new := #[.string (bs t.1), .string (bs t.2)]) rfl rfl rfl (by kernel_rfl) (store_all H17.out rfl (by simp [Value.oneCell'])) ?_)
        refine hK.out _ _ (kb_other HS.out (by omega) hlt _) (fun hHeld => ?_)
        clear hK K
        dsimp only [Act.put]
        refine wpAnyH_done (by kernel_rfl) ?_ _
        go_wp2_with fail
        go_meet
        exact ⟨t, b1, rfl, HR, HT1, Lib.hid (own_row HV.out HV1.out _), HVN, hlt, hHeld, row_set H17.out⟩
    · go_simp
      obtain ⟨wd, b1, hwd, hb1, hkb, h17, kd, hlt⟩ := alloc_kb hHeld (.cells #[.string ⟨#[]⟩, .string ⟨#[]⟩] 88)
      try simp only [World.heap_drew] at hb1
      rw [← hwd, ← hb1]
      have H17 := h17
      have HS := Lib.hid hkb
      clear hwd hb1 hkb h17 kd
      go_wp2_with fail
      refine hK.out _ _ HS.out (fun hHeld => ?_)
      clear hK K
      refine wpAnyH_ready (rs := [12]) (by kernel_rfl) (by simp) ?_
      refine (AllReadyH.cons (List.getElem?_toArray.trans rfl) (fun K hK => ?_) AllReadyH.nil)
      go_simp
      have HB := Lib.hid hHeld
      refine (HSP.out _).mono ?_
      rintro e wa ⟨rfl, ga⟩
      have HS := Lib.hid (HB.out.step ga)
      have H17 := Lib.hid (hp_kept H17.out ga)
      clear ga HB
      go_wp2_with fail
      refine hK.out _ _ HS.out (fun hHeld => ?_)
      clear hK K
      refine wpAnyH_ready (rs := [13]) (by kernel_rfl) (by simp) ?_
      refine (AllReadyH.cons (List.getElem?_toArray.trans rfl) (fun K hK => ?_) AllReadyH.nil)
      go_simp
      have HB := Lib.hid hHeld
      refine (HLK.out _ hHeld.k).mono ?_
      rintro e wb ⟨v, t, rfl, hr, ht, hv, gb⟩
      have HR := Lib.hid hr; have HT1 := Lib.hid ht; have HV := Lib.hid (own_base hv hHeld.k.size); have HVN := Lib.hid (own_ne_old hv HB.out.lt)
      have HS := Lib.hid (HB.out.step gb)
      have HV1 := Lib.hid (own_ne_old hv (mheap_lt H17.out))
      have H17 := Lib.hid (hp_kept H17.out gb)
      clear hr ht hv gb HB
      go_wp2_with fail
      refine hK.out _ _ HS.out (fun hHeld => ?_)
      clear hK K
      refine wpAnyH_take (i := 14) (v := (.tuple #[v, .agg #[.string (bs t.1), .string (bs t.2)]])) (List.getElem?_toArray.trans rfl) (by kernel_rfl) (by kernel_rfl) (by kernel_rfl) (fun _ _ _ h => h) (Or.inl ⟨by rfl, ?_⟩) (by assumption) ?_
      · intro W hSw
        first | rfl | (go_simp; done) | (go_simp; rfl)
      simp only [Act.put, List.setIfInBounds_toArray, List.set_cons_zero, List.set_cons_succ]
      refine wpAnyH_take (i := 15) (v := v) (List.getElem?_toArray.trans rfl) (by kernel_rfl) (by kernel_rfl) (by kernel_rfl) (fun _ _ _ h => h) (Or.inl ⟨by rfl, ?_⟩) (by assumption) ?_
      · intro W hSw
        first | rfl | (go_simp; done) | (go_simp; rfl)
      simp only [Act.put, List.setIfInBounds_toArray, List.set_cons_zero, List.set_cons_succ]
      refine wpAnyH_take (i := 16) (v := (.agg #[.string (bs t.1), .string (bs t.2)])) (List.getElem?_toArray.trans rfl) (by kernel_rfl) (by kernel_rfl) (by kernel_rfl) (fun _ _ _ h => h) (Or.inl ⟨by rfl, ?_⟩) (by assumption) ?_
      · intro W hSw
        first | rfl | (go_simp; done) | (go_simp; rfl)
      simp only [Act.put, List.setIfInBounds_toArray, List.set_cons_zero, List.set_cons_succ]
      refine wpAnyH_take (i := 18) (v := v) (List.getElem?_toArray.trans rfl) (by kernel_rfl) (by kernel_rfl) (by kernel_rfl) (fun _ _ _ h => h) (Or.inl ⟨by rfl, ?_⟩) (by assumption) ?_
      · intro W hSw
        first | rfl | (go_simp; done) | (go_simp; rfl)
      simp only [Act.put, List.setIfInBounds_toArray, List.set_cons_zero, List.set_cons_succ]
      refine wpAnyH_ready (rs := [19]) (by kernel_rfl) (by simp) ?_
      refine (AllReadyH.cons (List.getElem?_toArray.trans rfl) (fun K hK => ?_) AllReadyH.nil)
      refine ite_wp (by rfl) (wp_store_all (new := #[.string (bs t.1), .string (bs t.2)]) rfl rfl rfl (by kernel_rfl) (store_all H17.out rfl (by simp [Value.oneCell'])) ?_)
      refine hK.out _ _ (kb_other HS.out (by omega) hlt _) (fun hHeld => ?_)
      clear hK K
      dsimp only [Act.put]
      refine wpAnyH_done (by kernel_rfl) ?_ _
      go_wp2_with fail
      go_meet
      exact ⟨t, b1, rfl, HR, HT1, Lib.hid (own_row HV.out HV1.out _), HVN, hlt, hHeld, row_set H17.out⟩
    -- REGION Pick6 END
  case rest =>
    generalize u9 = v at *
    obtain ⟨t, b1, rfl, HR, HT1, HV, HVN, hlt, hps⟩ := hcut
    have P0 := Lib.hid (show PkR w w.heap.size b1 t v (meet M t.1 t.2) wc from ⟨hps, HV.out⟩)
    clear HV hps HX HSP HLK HT hn hln d4 d5 d6 dM I0
    have hM7 := HMT.out
    go_upto_region 7 with fail
    go_cut [11] from 12 (fun v2 wd => Hid (v2.ownBlock ≠ some w.heap.size) ∧ PkRR w w.heap.size b1 t v (meet M t.1 t.2) v2 (meet N t.1 t.2) wd)
    case first =>
      clear hM7
      -- REGION Pick7 BEGIN
      refine wp_region_held_drew (S := fun W => PkR w w.heap.size b1 t v (meet M t.1 t.2) W) (by kernel_rfl) (P0.out.step (kept_drewN _ 1)) (fun hHeld => ?_)
      generalize wc.drew = v1 at hHeld ⊢
      refine wpAnyH_take (i := 0) (v := (.pointer (some ⟨p, 0, none⟩))) (List.getElem?_toArray.trans rfl) (by kernel_rfl) (by kernel_rfl) (by kernel_rfl) (fun _ _ _ h => h) (Or.inl ⟨by rfl, ?_⟩) (by assumption) ?_
      · intro W hSw
        first | rfl | (go_simp; done) | (go_simp; rfl)
      simp only [Act.put, List.setIfInBounds_toArray, List.set_cons_zero, List.set_cons_succ]
      refine wpAnyH_take (i := 1) (v := (.pointer (some ⟨p, 0, none⟩))) (List.getElem?_toArray.trans rfl) (by kernel_rfl) (by kernel_rfl) (by kernel_rfl) (fun _ _ _ h => h) (Or.inl ⟨by rfl, ?_⟩) (by assumption) ?_
      · intro W hSw
        first | rfl | (go_simp; done) | (go_simp; rfl)
      simp only [Act.put, List.setIfInBounds_toArray, List.set_cons_zero, List.set_cons_succ]
      refine wpAnyH_take (i := 2) (v := (.pointer (some ⟨p, 0, none⟩))) (List.getElem?_toArray.trans rfl) (by kernel_rfl) (by kernel_rfl) (by kernel_rfl) (fun _ _ _ h => h) (Or.inl ⟨by rfl, ?_⟩) (by assumption) ?_
      · intro W hSw
        first | rfl | (go_simp; done) | (go_simp; rfl)
      simp only [Act.put, List.setIfInBounds_toArray, List.set_cons_zero, List.set_cons_succ]
      refine wpAnyH_take (i := 3) (v := (.agg #[x0, x1, x2, x3])) (List.getElem?_toArray.trans rfl) (by kernel_rfl) (by kernel_rfl) (by kernel_rfl) (fun _ _ _ h => h) (Or.inl ⟨by rfl, ?_⟩) (by assumption) ?_
      · intro W hSw
        obtain ⟨q0, q1, q2, q3⟩ := HK.out W hSw.ps.kb.k
        first | (go_simp; done) | (go_simp; rfl)
      simp only [Act.put, List.setIfInBounds_toArray, List.set_cons_zero, List.set_cons_succ]
      refine wpAnyH_take (i := 4) (v := (.int .i64 (l : Nat))) (List.getElem?_toArray.trans rfl) (by kernel_rfl) (by kernel_rfl) (by kernel_rfl) (fun _ _ _ h => h) (Or.inl ⟨by rfl, ?_⟩) (by assumption) ?_
      · intro W hSw
        first | rfl | (go_simp; done) | (go_simp; rfl)
      simp only [Act.put, List.setIfInBounds_toArray, List.set_cons_zero, List.set_cons_succ]
      refine wpAnyH_take (i := 5) (v := (.int .i64 (l + 1 : Nat))) (List.getElem?_toArray.trans rfl) (by kernel_rfl) (by kernel_rfl) (by kernel_rfl) (fun _ _ _ h => h) (Or.inl ⟨by rfl, ?_⟩) (by assumption) ?_
      · intro W hSw
        first | rfl | (go_simp; done) | (go_simp; rfl)
      simp only [Act.put, List.setIfInBounds_toArray, List.set_cons_zero, List.set_cons_succ]
      refine wpAnyH_take (i := 6) (v := (.agg #[.string (bs t.1), .string (bs t.2)])) (List.getElem?_toArray.trans rfl) (by kernel_rfl) (by kernel_rfl) (by kernel_rfl) (fun _ _ _ h => h) (Or.inl ⟨by rfl, ?_⟩) (by assumption) ?_
      · intro W hSw
        obtain ⟨q0, q1⟩ := hSw.ps.load
        first | (go_simp; done) | (go_simp; rfl)
      simp only [Act.put, List.setIfInBounds_toArray, List.set_cons_zero, List.set_cons_succ]
      refine wpAnyH_ready (rs := [7]) (by kernel_rfl) (by simp) ?_
      refine (AllReadyH.cons (List.getElem?_toArray.trans rfl) (fun K hK => ?_) AllReadyH.nil)
      go_simp
      have HB := Lib.hid hHeld
      refine (HMT.out _ hHeld.ps.kb.k t).mono ?_
      rintro e wa ⟨v2, rfl, hv2, ga⟩
      have HVN2 := Lib.hid (own_ne_old hv2 HB.out.ps.kb.lt)
      have HS := Lib.hid (HB.out.two ga hv2)
      clear ga HB
      go_wp2_with fail
      refine hK.out _ _ HS.out.one (fun hHeld => ?_)
      clear hK K
      refine wpAnyH_take (i := 8) (v := v2) (List.getElem?_toArray.trans rfl) (by kernel_rfl) (by kernel_rfl) (by kernel_rfl) (fun _ _ _ h => h) (Or.inl ⟨by rfl, ?_⟩) (by assumption) ?_
      · intro W hSw
        first | rfl | (go_simp; done) | (go_simp; rfl)
      simp only [Act.put, List.setIfInBounds_toArray, List.set_cons_zero, List.set_cons_succ]
      refine wpAnyH_done (by kernel_rfl) ?_ _
      go_wp2_with fail
      go_meet
      exact ⟨HVN2, HS.out⟩
      -- REGION Pick7 END
    case rest =>
      clear hM7
      generalize u11 = v2 at *
      obtain ⟨HVN2, hpr⟩ := hcut
      obtain ⟨A2, c2, e2, _, _⟩ := mts_own hpr.r2
      subst e2
      obtain ⟨A1, c1, e1, _, _⟩ := mts_own hpr.r1
      subst e1
      have P1 := Lib.hid hpr
      clear hpr P0 HMT
      go_upto_region 8 with fail
      -- REGION Pick8 BEGIN
      refine wp_region_held_drew (S := fun W => PkRR w w.heap.size b1 t (.slice A1 (meet M t.1 t.2).length c1) (meet M t.1 t.2) (.slice A2 (meet N t.1 t.2).length c2) (meet N t.1 t.2) W) (by kernel_rfl) (P1.out.step (kept_drewN _ 1)) (fun hHeld => ?_)
      generalize wc.drew = v1 at hHeld ⊢
      refine wpAnyH_take (i := 0) (v := (.int .i64 (l : Nat))) (List.getElem?_toArray.trans rfl) (by kernel_rfl) (by kernel_rfl) (by kernel_rfl) (fun _ _ _ h => h) (Or.inl ⟨by rfl, ?_⟩) (by assumption) ?_
      · intro W hSw
        first | rfl | (go_simp; done) | (go_simp; rfl)
      simp only [Act.put, List.setIfInBounds_toArray, List.set_cons_zero, List.set_cons_succ]
      refine wpAnyH_take (i := 1) (v := (.slice A1 (meet M t.1 t.2).length c1)) (List.getElem?_toArray.trans rfl) (by kernel_rfl) (by kernel_rfl) (by kernel_rfl) (fun _ _ _ h => h) (Or.inl ⟨by rfl, ?_⟩) (by assumption) ?_
      · intro W hSw
        first | rfl | (go_simp; done) | (go_simp; rfl)
      simp only [Act.put, List.setIfInBounds_toArray, List.set_cons_zero, List.set_cons_succ]
      refine wpAnyH_take (i := 2) (v := (.slice A2 (meet N t.1 t.2).length c2)) (List.getElem?_toArray.trans rfl) (by kernel_rfl) (by kernel_rfl) (by kernel_rfl) (fun _ _ _ h => h) (Or.inl ⟨by rfl, ?_⟩) (by assumption) ?_
      · intro W hSw
        first | rfl | (go_simp; done) | (go_simp; rfl)
      simp only [Act.put, List.setIfInBounds_toArray, List.set_cons_zero, List.set_cons_succ]
      refine wpAnyH_take (i := 3) (v := (.pointer (some ⟨p, 0, none⟩))) (List.getElem?_toArray.trans rfl) (by kernel_rfl) (by kernel_rfl) (by kernel_rfl) (fun _ _ _ h => h) (Or.inl ⟨by rfl, ?_⟩) (by assumption) ?_
      · intro W hSw
        first | rfl | (go_simp; done) | (go_simp; rfl)
      simp only [Act.put, List.setIfInBounds_toArray, List.set_cons_zero, List.set_cons_succ]
      refine wpAnyH_take (i := 4) (v := (.pointer (some ⟨p, 0, none⟩))) (List.getElem?_toArray.trans rfl) (by kernel_rfl) (by kernel_rfl) (by kernel_rfl) (fun _ _ _ h => h) (Or.inl ⟨by rfl, ?_⟩) (by assumption) ?_
      · intro W hSw
        first | rfl | (go_simp; done) | (go_simp; rfl)
      simp only [Act.put, List.setIfInBounds_toArray, List.set_cons_zero, List.set_cons_succ]
      refine wpAnyH_take (i := 5) (v := (.pointer (some ⟨p, 0, none⟩))) (List.getElem?_toArray.trans rfl) (by kernel_rfl) (by kernel_rfl) (by kernel_rfl) (fun _ _ _ h => h) (Or.inl ⟨by rfl, ?_⟩) (by assumption) ?_
      · intro W hSw
        first | rfl | (go_simp; done) | (go_simp; rfl)
      simp only [Act.put, List.setIfInBounds_toArray, List.set_cons_zero, List.set_cons_succ]
      refine wpAnyH_take (i := 6) (v := (.agg #[x0, x1, x2, x3])) (List.getElem?_toArray.trans rfl) (by kernel_rfl) (by kernel_rfl) (by kernel_rfl) (fun _ _ _ h => h) (Or.inl ⟨by rfl, ?_⟩) (by assumption) ?_
      · intro W hSw
        obtain ⟨q0, q1, q2, q3⟩ := HK.out W hSw.ps.kb.k
        first | (go_simp; done) | (go_simp; rfl)
      simp only [Act.put, List.setIfInBounds_toArray, List.set_cons_zero, List.set_cons_succ]
      refine wpAnyH_take (i := 7) (v := (.int .i64 (l : Nat))) (List.getElem?_toArray.trans rfl) (by kernel_rfl) (by kernel_rfl) (by kernel_rfl) (fun _ _ _ h => h) (Or.inl ⟨by rfl, ?_⟩) (by assumption) ?_
      · intro W hSw
        first | rfl | (go_simp; done) | (go_simp; rfl)
      simp only [Act.put, List.setIfInBounds_toArray, List.set_cons_zero, List.set_cons_succ]
      refine wpAnyH_take (i := 8) (v := (.int .i64 (l + 1 : Nat))) (List.getElem?_toArray.trans rfl) (by kernel_rfl) (by kernel_rfl) (by kernel_rfl) (fun _ _ _ h => h) (Or.inl ⟨by rfl, ?_⟩) (by assumption) ?_
      · intro W hSw
        first | rfl | (go_simp; done) | (go_simp; rfl)
      simp only [Act.put, List.setIfInBounds_toArray, List.set_cons_zero, List.set_cons_succ]
      refine wpAnyH_take (i := 9) (v := (.agg #[.string (bs t.1), .string (bs t.2)])) (List.getElem?_toArray.trans rfl) (by kernel_rfl) (by kernel_rfl) (by kernel_rfl) (fun _ _ _ h => h) (Or.inl ⟨by rfl, ?_⟩) (by assumption) ?_
      · intro W hSw
        obtain ⟨q0, q1⟩ := hSw.ps.load
        first | (go_simp; done) | (go_simp; rfl)
      simp only [Act.put, List.setIfInBounds_toArray, List.set_cons_zero, List.set_cons_succ]
      refine wpAnyH_take (i := 10) (v := (.slice A2 (meet N t.1 t.2).length c2)) (List.getElem?_toArray.trans rfl) (by kernel_rfl) (by kernel_rfl) (by kernel_rfl) (fun _ _ _ h => h) (Or.inl ⟨by rfl, ?_⟩) (by assumption) ?_
      · intro W hSw
        first | rfl | (go_simp; done) | (go_simp; rfl)
      simp only [Act.put, List.setIfInBounds_toArray, List.set_cons_zero, List.set_cons_succ]
      refine wpAnyH_ready (rs := [11]) (by kernel_rfl) (by simp) ?_
      refine (AllReadyH.cons (List.getElem?_toArray.trans rfl) (fun K hK => ?_) AllReadyH.nil)
      go_simp
      have HB := Lib.hid hHeld
      refine (HO.out _ A2 (meet N t.1 t.2) (own_mts hHeld.r2) (HML.out t) c2 t).mono ?_
      rintro e wa ⟨rfl, ga⟩
      have HS := Lib.hid (HB.out.step ga)
      clear ga HB
      go_wp2_with fail
      refine hK.out _ _ HS.out (fun hHeld => ?_)
      clear hK K
      refine wpAnyH_ready (rs := [12]) (by kernel_rfl) (by simp) ?_
      refine (AllReadyH.cons (List.getElem?_toArray.trans rfl) (fun K hK => ?_) AllReadyH.nil)
      go_simp
      have HB := Lib.hid hHeld
      refine (HBL2.out _ hHeld.ps.kb.k (over t (meet N t.1 t.2))).mono ?_
      rintro e wb ⟨rfl, ga⟩
      have HS := Lib.hid (HB.out.step ga)
      clear ga HB
      go_wp2_with fail
      refine hK.out _ _ HS.out (fun hHeld => ?_)
      clear hK K
      refine wpAnyH_take (i := 13) (v := (.bool (!B (over t (meet N t.1 t.2))))) (List.getElem?_toArray.trans rfl) (by kernel_rfl) (by kernel_rfl) (by kernel_rfl) (fun _ _ _ h => h) (Or.inl ⟨by rfl, ?_⟩) (by assumption) ?_
      · intro W hSw
        first | rfl | (go_simp; done) | (go_simp; rfl)
      simp only [Act.put, List.setIfInBounds_toArray, List.set_cons_zero, List.set_cons_succ]
      refine wpAnyH_take (i := 14) (v := (.agg #[.int .i64 (l : Nat), .slice A1 (meet M t.1 t.2).length c1, .slice A2 (meet N t.1 t.2).length c2, .bool (!B (over t (meet N t.1 t.2)))])) (List.getElem?_toArray.trans rfl) (by kernel_rfl) (by kernel_rfl) (by kernel_rfl) (fun _ _ _ h => h) (Or.inl ⟨by rfl, ?_⟩) (by assumption) ?_
      · intro W hSw
        first | rfl | (go_simp; done) | (go_simp; rfl)
      simp only [Act.put, List.setIfInBounds_toArray, List.set_cons_zero, List.set_cons_succ]
      refine wpAnyH_ready (rs := [15]) (by kernel_rfl) (by simp) ?_
      refine (AllReadyH.cons (List.getElem?_toArray.trans rfl) (fun K hK => ?_) AllReadyH.nil)
      refine ite_wp (by rfl) (wp_store_all (new := #[.int .i64 (l : Nat), .slice A1 (meet M t.1 t.2).length c1, .slice A2 (meet N t.1 t.2).length c2, .bool (!B (over t (meet N t.1 t.2)))]) rfl rfl rfl (by kernel_rfl) (hHeld.ps.kb.store #[.int .i64 (l : Nat), .slice A1 (meet M t.1 t.2).length c1, .slice A2 (meet N t.1 t.2).length c2, .bool (!B (over t (meet N t.1 t.2)))] rfl (ones4 rfl rfl)) ?_)
      refine hK.out _ _ (PkRR.set hHeld (Nat.le_refl _) (by omega) HVN.out HVN2.out #[.int .i64 (l : Nat), .slice A1 (meet M t.1 t.2).length c1, .slice A2 (meet N t.1 t.2).length c2, .bool (!B (over t (meet N t.1 t.2)))] rfl) (fun hHeld => ?_)
      clear hK K
      dsimp only [Act.put]
      refine wpAnyH_take (i := 16) (v := (.int .i64 0)) (List.getElem?_toArray.trans rfl) (by kernel_rfl) (by kernel_rfl) (by kernel_rfl) (fun _ _ _ h => h) (Or.inl ⟨by rfl, ?_⟩) (by assumption) ?_
      · intro W hSw
        first | rfl | (go_simp; done) | (go_simp; rfl)
      simp only [Act.put, List.setIfInBounds_toArray, List.set_cons_zero, List.set_cons_succ]
      refine wpAnyH_done (by kernel_rfl) ?_ _
      have HH := hHeld
      obtain ⟨z0, z1, z2, z3⟩ := four_cells (HS.out.ps.kb.after #[.int .i64 (l : Nat), .slice A1 (meet M t.1 t.2).length c1, .slice A2 (meet N t.1 t.2).length c2, .bool (!B (over t (meet N t.1 t.2)))])
      go_wp2_with fail
      refine bodyPost_ret (v := .tuple #[.agg #[.int .i64 (l : Nat), .slice A1 (meet M t.1 t.2).length c1, .slice A2 (meet N t.1 t.2).length c2, .bool (!B (over t (meet N t.1 t.2)))], .int .i64 0]) (by simp [results, Tryz.results19, go_sem, z0, z1, z2, z3]) rfl ?_
      rw [HQ.out]
      unfold PkRet
      rw [HMM.out, HNN.out]
      exact ⟨_, _, t, by rw [HBD.out]; rfl, HR.out, HT1.out, hHeld.r1, hHeld.r2, HH.ps.kb.k⟩
      -- REGION Pick8 END
end Go.Proofs.YtnnmalpnjlnnlaaGreat

