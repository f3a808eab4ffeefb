/-
  What a disk's logs are gone through by: a range over a method value, slices.Collect and slices.Sorted of uint64 over it.
-/
import Derived.Test.YtlkcdcpdccmodaaGreatDoorWalFns
import Derived.RangeFuncOwn
import Derived.RangeFuncGives
import Derived.RangeFuncBound
import Derived.RangeFuncLeaves
import Derived.OwnWalkIn
namespace Go.Proofs.YtlkcdcpdccmodaaGreatDoor
open Go.ChangeShapes Go.WideShapes Go.ChangeAt Go.RowKit
set_option linter.unusedVariables false
set_option maxRecDepth 100000
set_option maxHeartbeats 1000000

/-- blocks of cells that are neither rows of uint64 nor boxes of []uint64 are as they were -/
structure Oth (W W' : World) : Prop where
  size : W.heap.size ≤ W'.heap.size
  same : ∀ (b : Nat) (c : Array Value) (t : TypeId) (z : Nat × Nat), W.heap[b]? = some (.cells c t z) → t ≠ 30 → t ≠ 53 → W'.heap[b]? = some (.cells c t z)
theorem Oth.trans {A B C : World} (h : Oth A B) (k : Oth B C) : Oth A C := ⟨Nat.le_trans h.size k.size, fun b c t z e h1 h2 => k.same b c t z (h.same b c t z e h1 h2) h1 h2⟩
theorem Oth.kept {A B : World} (h : Kept A B) : Oth A B := ⟨Below.size h, fun b c t z e _ _ => (Below.block h b (heap_lt e)).trans e⟩
theorem Oth.put {W : World} {l : Nat} {o : Obj} (o' : Obj) (hl : W.heap[l]? = some o) (ho : o.isCells = false) : Oth W (W.putObj l o') :=
  ⟨by simp [World.putObj], fun b c t z e _ _ => (World.putObj_heap_other (fun h => by subst h; rw [hl] at e; cases e; cases ho)).trans e⟩
theorem Oth.set {W : World} {b i : Nat} {c : Array Value} {t : TypeId} {z : Nat × Nat} (v : Value) (hb : W.heap[b]? = some (.cells c t z)) (ht : t = 30 ∨ t = 53) : Oth W (W.setCell ⟨b, i, none⟩ v) :=
  ⟨by simp [World.setCell], fun k c' t' z' e h1 h2 => (Below.heap_setCell _ _ _ _ (fun h => by
    have h' : k = b := h
    subst h'
    rw [hb] at e; cases e
    rcases ht with rfl | rfl
    · exact h1 rfl
    · exact h2 rfl)).trans e⟩
/-- what a caller of an iterator promises: its state abides growth; a round adds one -/
structure Takes (l : Nat) (m : Nat) (J : List Nat → World → Prop) : Prop where
  kept : ∀ pre W W', J pre W → Kept W W' → J pre W'
  round : ∀ (pre : List Nat) (x : Nat) (W : World), J pre W → pre.length < 60 → YieldAt Fence.wide m Tryz.prog l #[.int .u64 (x : Int)] W fun e W' => e = .returned (.bool true) ∧ J (pre ++ [x]) W' ∧ Oth W W'
  vars : ∀ pre W, J pre W → Vars W
/-- a range over a method value -/
theorem range_bound {n : Nat} {g : Operand} {ps : Array Tmp} {assign body : Code} {Q : Exit → Act → World → Prop} {a : Act} {w : World} {gf : Nat} {recv : Value}
    (hg : a.eval g = .func (.func gf) #[recv] #[]) (eg : ∀ args w, (callFunc gf args).run Tryz.prog w = .ok (.enter gf args) w) (hps : ps.size = 1) (L : List Nat)
    (hseq : ∀ (l : Nat) (J : List Nat → World → Prop) (W : World), Kept w W → Takes l (n - 1 - 1) J → J [] W → CallsIn Fence.wide (n - 1) Tryz.prog gf #[recv, .func (.yield l) #[] #[]] W fun e W' => (∃ v, e = .returned v) ∧ J L W')
    (I : List Nat → World → Prop) (hI : ∀ pre W W', I pre W → Kept W W' → I pre W') (hP : ∀ pre W l o o', I pre W → w.heap.size ≤ l → W.heap[l]? = some o → o.isCells = false → I pre (W.putObj l o')) (hV : ∀ pre W, I pre W → Vars W) (h0 : I [] w) (a₁ : Nat → Act)
    (hassign : ∀ (l : Nat) (x : Nat) (W : World) (K : Act → World → Prop), K (a₁ x) W →
      assign.wpIn (Fence.wide.inRound l) (n - 1 - 1) Tryz.prog (Exit.then K (fun _ _ _ => False)) { tmps := (ps.zip #[.int .u64 (x : Int)]).foldl (fun t (p, v) => t.setIfInBounds p v) a.tmps, defers := [] } W)
    (hbody : ∀ (l : Nat) (pre : List Nat) (x : Nat) (W : World), I pre W → pre.length < 60 → body.wpIn (Fence.wide.inRound l) (n - 1 - 1) Tryz.prog (fun e _ W' => e = .normal ∧ I (pre ++ [x]) W' ∧ Oth W W' ∧ KeepsOthers W W') (a₁ x) W)
    (hdone : ∀ (D : Nat) (W : World), w.heap.size ≤ D → I L W → W.heap[D]? = some (.deferred (some [])) → Q .normal { a with defers := { target := .collected D, args := #[] } :: a.defers } W) :
    (Code.rangeFunc g ps assign body).wpIn Fence.wide n Tryz.prog Q a w := by
  refine wpIn_rangeFunc ?_
  intro fn hfn
  obtain ⟨rec, hrec⟩ : ∃ rec : LoopState → Loop, rec = fun st => { state := st, pending := none, fn, tmps := a.tmps, params := ps, assign, body, defers := w.heap.size } := ⟨_, rfl⟩
  obtain ⟨W1, hW1⟩ : ∃ W1, (w.alloc (.deferred (some []))).alloc (.loop (rec .ready)) = W1 := ⟨_, rfl⟩
  have k1 : Kept w W1 := by rw [← hW1]; exact ((Kept.refl w).alloc _).alloc _
  have hL1 : W1.heap[w.heap.size + 1]? = some (.loop (rec .ready)) := by
    rw [← hW1]; have := World.alloc_heap_new (w.alloc (.deferred (some []))) (.loop (rec .ready)); rwa [World.size_alloc] at this
  have hD1 : W1.heap[w.heap.size]? = some (.deferred (some [])) := by
    rw [← hW1]; exact (Below.heap_alloc _ _ _ (by simp)).trans (World.alloc_heap_new w _)
  refine ⟨w.heap.size + 1, [{ target := .collected w.heap.size, args := #[] }], W1, { target := .fn (.func gf) #[], args := #[recv, .func (.yield (w.heap.size + 1)) #[] #[]] }, W1, gf,
    #[recv, .func (.yield (w.heap.size + 1)) #[] #[]], W1, ?_, ?_, ?_, ?_, (fun h => by cases h), ?_⟩
  · rw [← hW1, hrec]; exact run_enterLoop_outer _ _ _ _ _
  · simp only [resolve, hg]
    simp [go_sem]
  · intro f' _; exact trivial
  · simp [invoke, go_sem, eg]
  · have hT : Takes (w.heap.size + 1) (n - 1 - 1) (fun pre W => I pre W ∧ W.heap[w.heap.size + 1]? = some (.loop (rec .ready)) ∧ W.heap[w.heap.size]? = some (.deferred (some []))) := by
      refine ⟨fun pre W W' ⟨i, hl, hd⟩ k => ⟨hI _ _ _ i k, (Below.block k _ (heap_lt hl)).trans hl, (Below.block k _ (heap_lt hd)).trans hd⟩, ?_, fun pre W h => hV pre W h.1⟩
      rintro pre x W ⟨hi, hl, hd⟩ hlen
      have hlt := heap_lt hl
      have hy := run_yield (P := Tryz.prog) (args := #[.int .u64 (x : Int)]) hl (by rw [hrec]; exact hps.symm)
      rw [hrec] at hy
      refine ⟨fn, _, assign, body, hy, roundIn_of_wpIn hfn (hassign _ x W _ ⟨_, run_beginRound hl (by rw [hrec]), ?_⟩)⟩
      have hl2 : (W.putObj (w.heap.size + 1) (.loop { rec .ready with state := .busy })).heap[w.heap.size + 1]? = some (.loop { rec .ready with state := .busy }) := World.putObj_heap_same hlt
      have hd2 : (W.putObj (w.heap.size + 1) (.loop { rec .ready with state := .busy })).heap[w.heap.size]? = some (.deferred (some [])) := (World.putObj_heap_other (by omega)).trans hd
      have o2 : Oth W (W.putObj (w.heap.size + 1) (.loop { rec .ready with state := .busy })) := Oth.put _ hl rfl
      have i2 := hP pre W _ _ (.loop { rec .ready with state := .busy }) hi (show w.heap.size ≤ w.heap.size + 1 by omega) hl rfl
      refine wpIn_mono (hbody _ pre x _ i2 hlen) ?_
      rintro e a3 W3 ⟨rfl, hi3, o3, ko⟩
      have hl3 := ko.same _ _ hl2 rfl
      have hd3 := ko.same _ _ hd2 rfl
      have hr := run_endRound (P := Tryz.prog) none hl3
      have er : ({ ({ rec .ready with state := .busy } : Loop) with state := if (none : Option Code).isNone then .ready else .done, pending := none } : Loop) = rec .ready := by rw [hrec]; rfl
      rw [er] at hr
      exact ⟨_, _, hr, rfl, ⟨hP _ _ _ _ _ hi3 (by omega) hl3 rfl, World.putObj_heap_same (heap_lt hl3), (World.putObj_heap_other (by omega)).trans hd3⟩, (o2.trans o3).trans (Oth.put _ hl3 rfl)⟩
    refine (hseq _ _ W1 k1 hT ⟨hI _ _ _ h0 k1, hL1, hD1⟩).mono ?_
    rintro e W2 ⟨⟨v, rfl⟩, hi, hl, hd⟩
    have hend := run_endLoop (P := Tryz.prog) hl (by rw [hrec]; simp)
    have ep : (rec .ready).pending = none := by rw [hrec]
    rw [ep] at hend
    exact ⟨none, _, hend, hdone w.heap.size _ (Nat.le_refl _) (hP _ _ _ _ _ hi (by omega) hl rfl) ((World.putObj_heap_other (by omega)).trans hd)⟩
def ncells (l : List Nat) : List Value := l.map fun (n : Nat) => Value.int .u64 (n : Int)
theorem ncells_len (l : List Nat) : (ncells l).length = l.length := by simp [ncells]
theorem u64Info : (Tryz.prog.info? 30).map (fun i => (i.zero, i.size, i.bytes)) = some (some (.int .u64 0), 1, 8) := by kernel_rfl
/-- between two rounds of slices.AppendSeq -/
structure ApI (w0 : World) (b : Nat) (ss : List Nat) (W : World) : Prop where
  box : ∃ v, W.heap[b]? = some (.cells #[v] 53) ∧ W.ownsRow w0.heap.size 30 1 v ss.length (ncells ss)
  below : Below w0.heap.size w0 W
  vars : Vars w0
theorem ApI.kept {w0 W W' : World} {b : Nat} {ss : List Nat} (h : ApI w0 b ss W) (k : Kept W W') : ApI w0 b ss W' := by
  obtain ⟨⟨v, hb, hr⟩, h2, h3⟩ := h
  exact ⟨⟨v, (Below.block k b (heap_lt hb)).trans hb, own_kept hr k⟩, h2.trans (k.mono h2.size), h3⟩
theorem ApI.put {w0 W : World} {b l : Nat} {ss : List Nat} {o : Obj} (o' : Obj) (h : ApI w0 b ss W) (hl : w0.heap.size ≤ l) (hlo : W.heap[l]? = some o) (ho : o.isCells = false) : ApI w0 b ss (W.putObj l o') := by
  obtain ⟨⟨v, hb, hr⟩, h2, h3⟩ := h
  have hne : b ≠ l := fun e => by subst e; rw [hb] at hlo; cases hlo; cases ho
  have o2 : ∀ k, k ≠ l → (W.putObj l o').heap[k]? = W.heap[k]? := fun k hk => World.putObj_heap_other hk
  refine ⟨⟨v, (o2 b hne).trans hb, own_same hr fun r hv => o2 r fun e => ?_⟩, ⟨h2.os, h2.tape, h2.output, by simpa [World.putObj] using h2.size, fun k hk => (o2 k (by omega)).trans (h2.block k hk)⟩, h3⟩
  subst e
  obtain ⟨cur, hc⟩ := own_blk hr hv
  rw [hc] at hlo; cases hlo; cases ho
set_option maxHeartbeats 4000000 in
theorem appseq_any {w : World} {gf : Nat} {recv : Value} (eg : ∀ args w, (callFunc gf args).run Tryz.prog w = .ok (.enter gf args) w) (L : List Nat) (hv : Vars w)
    (hseq : ∀ (l : Nat) (J : List Nat → World → Prop) (W : World), Kept w W → Takes l 3 J → J [] W → CallsIn Fence.wide 4 Tryz.prog gf #[recv, .func (.yield l) #[] #[]] W fun e W' => (∃ v, e = .returned v) ∧ J L W') :
    Calls Tryz.prog 105 #[.slice none 0 0, .func (.func gf) #[recv] #[]] w fun e w' => ∃ v, e = .returned v ∧ w'.ownsRow w.heap.size 30 1 v L.length (ncells L) ∧ Kept w w' := by
  obtain ⟨i0, hi, hz0, hz1, hz2⟩ := info_parts u64Info
  refine (callsIn_wide (n := 5)).1 ?_
  refine callsIn_of_wp_marks Tryz.func105 rfl trivial ?_ rfl
  simp only [Tryz.ntmps105, List.size_toArray, List.length_cons, List.length_nil, Nat.reduceAdd, Nat.reduceSub, Array.replicate_succ, Array.replicate_zero, List.push_toArray, List.append_toArray, List.nil_append, List.cons_append]
  gi_wp2
  have k0 : Kept w (w.alloc (.cells #[.slice none 0 0] 53)) := (Kept.refl w).alloc _
  refine range_bound (recv := recv) (gf := gf) rfl eg rfl L (fun l J W k hT h0 => hseq l J W (kept_trans k0 k) hT h0) (ApI w w.heap.size) (fun pre W W' h k => h.kept k) (fun pre W l o o' h hl hlo ho => h.put o' (by simp at hl; omega) hlo ho) (fun pre W h => h.vars.kept h.below) ⟨⟨_, World.alloc_heap_new w _, ⟨rfl, .inl ⟨rfl, rfl⟩⟩⟩, k0, hv⟩ (fun x => { tmps := #[.slice none 0 0, .func (.func gf) #[recv] #[], .pointer (some ⟨w.heap.size, 0, none⟩), undef, .slice none 0 0, .int .u64 (x : Int), .func (.func gf) #[recv] #[], .int .u64 (x : Int), undef, undef, undef, undef, undef], defers := [] }) ?_ ?_ ?_
  · intro l x W K hK
    gi_wp2_with (rw [Oper.semAt_eq _ _ _ (fun c h => by cases h)]; go_simp; try go_bits)
    exact hK
  · intro l pre x W hap hlen
    obtain ⟨⟨v, hb, hr⟩, hbl, hvv⟩ := hap
    obtain ⟨va, vc, rfl⟩ := own_shape hr
    have hc : W.cell? ⟨w.heap.size, 0, none⟩ = some (.slice va pre.length vc) := cell_of hb 0 rfl
    have hbW := hbl.size
    have hlt := heap_lt hb
    have hnb : ∀ r, (Value.slice va pre.length vc).ownBlock = some r → r ≠ w.heap.size := fun r hr' e => by
      obtain ⟨cur, hcur⟩ := own_blk hr hr'
      rw [e, hb] at hcur; simp at hcur
    have hgen : ∀ (w3 : World), (W.alloc (.cells #[.int .u64 (x : Int)] 30)).grownBy w3 (Value.slice va pre.length vc).ownBlock → w3.heap[w.heap.size]? = some (.cells #[.slice va pre.length vc] 53) := fun w3 hg =>
      (hg.block w.heap.size (by simp; omega) (fun e => hnb _ e.symm rfl)).trans ((Below.heap_alloc _ _ _ hlt).trans hb)
    gi_wp2_with (first
      | (gi_at_builtin; refine wpListIn_append_own _ rfl _ _ 53 rfl w.heap.size 30 i0 (.int .u64 0) 1 8 Tryz.underlying53 hi hz0 hz1 hz2 rfl (by decide) _ _ _ rfl (hr.alloc _) ⟨W.heap.size, 0, none⟩ 1 1 [.int .u64 (x : Int)] rfl rfl (cell_one_new _ _ _) (by intro u hu; simp at hu; subst hu; rfl) (by unfold maxLen; omega) (by omega) (by simp; omega) ?_; intro v' w3 hown' hg3 hnil3; clear hnil3; obtain ⟨va', vc', rfl⟩ := own_shape hown'; have hc3 := cell_of (hgen w3 hg3) 0 rfl; have hf3 := frozen_of (hgen w3 hg3) 0; go_frame)
      | (rw [Oper.semAt_eq _ _ _ (fun c h => by cases h)]; go_simp; try go_bits))
    have hg : (W.alloc (.cells #[.int .u64 (x : Int)] 30)).grownBy w3 (Value.slice va pre.length vc).ownBlock := hg3
    have hb3 := hgen w3 hg
    have ka : Kept W (W.alloc (.cells #[.int .u64 (x : Int)] 30)) := (Kept.refl W).alloc _
    have hga : (W.alloc (.cells #[.int .u64 (x : Int)] 30)).heap.size = W.heap.size + 1 := by simp
    have hs3 := hg.size
    have same : ∀ (b : Nat) (o : Obj), W.heap[b]? = some o → (∀ c z, o ≠ .cells c 30 z) → w3.heap[b]? = some o := fun b o hbo hno =>
      (hg.block b (by have := heap_lt hbo; omega) (fun e => by
        obtain ⟨cur, hcur⟩ := own_blk hr e.symm
        rw [hbo] at hcur
        exact hno _ _ (Option.some.inj hcur))).trans ((Below.heap_alloc _ _ _ (heap_lt hbo)).trans hbo)
    have o3 : Oth W w3 := ⟨by omega, fun b c t z e h1 h2 => same b _ e (fun c' z' e' => h1 (by cases e'; rfl))⟩
    have hbl3 : Below w.heap.size w w3 := (hbl.alloc hbl.size _).grown hg (by simp; omega) (fun k hk => (hr.lt k hk).1)
    have e4 : ncells pre ++ [Value.int .u64 (x : Int)] = ncells (pre ++ [x]) := by simp [ncells]
    rw [e4] at hown'
    have hne4 : ∀ r, (Value.slice va' (pre.length + 1) vc').ownBlock = some r → r ≠ w.heap.size := fun r hr' e => by
      obtain ⟨cur, hcur⟩ := own_blk hown' hr'
      rw [e, hb3] at hcur; simp at hcur
    refine ⟨⟨⟨_, heap_set hb3, ?_⟩, ?_, hvv⟩, o3.trans (Oth.set _ hb3 (.inr rfl)), ⟨by simp [World.setCell]; omega, fun b o hbo ho => ?_⟩⟩
    · have := own_same (w' := w3.setCell ⟨w.heap.size, 0, none⟩ (.slice va' (pre.length + 1) vc')) hown' (fun r hr' => Below.heap_setCell _ _ _ _ (fun e => hne4 r hr' e))
      simpa using this
    · exact hbl3.grown (grown_setCell w3 w.heap.size 0 _) hbl3.size (fun k hk => by cases hk; exact Nat.le_refl _)
    · refine (Below.heap_setCell _ _ _ _ (fun e => ?_)).trans (same b o hbo (fun c z e => by subst e; cases ho))
      have e' : b = w.heap.size := e
      subst e'; rw [hb] at hbo; cases hbo; cases ho
  · intro D W hD hap hd
    obtain ⟨⟨v, hb, hr⟩, hbl, hvv⟩ := hap
    have hc : W.cell? ⟨w.heap.size, 0, none⟩ = some v := cell_of hb 0 rfl
    obtain ⟨va, vc, rfl⟩ := own_shape hr
    gi_wp2
    refine ⟨by simp, .inl ⟨_, _, rfl, run_takeDeferred hd, ?_⟩⟩
    have o2 : ∀ k, k ≠ D → (W.putObj D (.deferred none)).heap[k]? = W.heap[k]? := fun k hk => World.putObj_heap_other hk
    have hD' : w.heap.size < D := by simp at hD; omega
    exact ⟨_, results_tmp rfl _ _ _, _, rfl, own_same hr (fun r hr' => o2 r (fun e => by
      obtain ⟨cur, hcur⟩ := own_blk hr hr'
      rw [e, hd] at hcur; cases hcur)), ⟨hbl.os, hbl.tape, hbl.output, by simpa [World.putObj] using hbl.size, fun k hk => (o2 k (by omega)).trans (hbl.block k hk)⟩⟩
/-- slices.Collect over a method value -/
theorem collect_any {w : World} {gf : Nat} {recv : Value} (eg : ∀ args w, (callFunc gf args).run Tryz.prog w = .ok (.enter gf args) w) (L : List Nat) (hv : Vars w)
    (hseq : ∀ (l : Nat) (J : List Nat → World → Prop) (W : World), Kept w W → Takes l 3 J → J [] W → CallsIn Fence.wide 4 Tryz.prog gf #[recv, .func (.yield l) #[] #[]] W fun e W' => (∃ v, e = .returned v) ∧ J L W') :
    Calls Tryz.prog 92 #[.func (.func gf) #[recv] #[]] w fun e w' => ∃ v, e = .returned v ∧ w'.ownsRow w.heap.size 30 1 v L.length (ncells L) ∧ Kept w w' := by
  have HC := Lib.hid (appseq_any (recv := recv) eg L hv hseq)
  clear hseq
  go_enter Tryz.func92, Tryz.ntmps92
  go_wp2_with fail
  refine HC.out.mono ?_
  rintro e w' ⟨v, rfl, hr, hk⟩
  go_wp2_with fail
  go_ret
  exact ⟨v, rfl, hr, hk⟩
/-- the sort of a row, as a premise: the row holds M behind it -/
def SortsTo (L M : List Nat) : Prop := ∀ (base : Nat) (v : Value) (W : World), W.ownsRow base 30 1 v L.length (ncells L) → base ≤ W.heap.size → Calls Tryz.prog 93 #[v] W fun e W' => e = .returned (.tuple #[]) ∧ W'.ownsRow base 30 1 v L.length (ncells M) ∧ Below base W W'
/-- slices.Sorted over a method value -/
theorem sorted_any {w : World} {gf : Nat} {recv : Value} (eg : ∀ args w, (callFunc gf args).run Tryz.prog w = .ok (.enter gf args) w) (L M : List Nat) (hv : Vars w) (hS : SortsTo L M)
    (hseq : ∀ (l : Nat) (J : List Nat → World → Prop) (W : World), Kept w W → Takes l 3 J → J [] W → CallsIn Fence.wide 4 Tryz.prog gf #[recv, .func (.yield l) #[] #[]] W fun e W' => (∃ v, e = .returned v) ∧ J L W') :
    Calls Tryz.prog 65 #[.func (.func gf) #[recv] #[]] w fun e w' => ∃ v, e = .returned v ∧ w'.ownsRow w.heap.size 30 1 v L.length (ncells M) ∧ Kept w w' := by
  have HC := Lib.hid (collect_any (recv := recv) eg L hv hseq)
  clear hseq
  have HS := Lib.hid hS; clear hS
  go_enter Tryz.func65, Tryz.ntmps65
  go_wp2_with fail
  refine HC.out.mono ?_
  rintro e w1 ⟨v, rfl, hr, hk⟩
  obtain ⟨va, vc, rfl⟩ := own_shape hr
  have hs := Below.size hk
  go_wp2_with fail
  refine (HS.out w.heap.size _ w1 hr hs).mono ?_
  rintro e w2 ⟨rfl, hr2, hb2⟩
  go_wp2_with fail
  go_ret
  exact ⟨_, rfl, hr2, hk.trans hb2⟩
end Go.Proofs.YtlkcdcpdccmodaaGreatDoor
