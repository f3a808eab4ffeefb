/-
  The search of package mem: for each level the last one that is ahead, and how many entries were passed.
-/
import Derived.Test.YtpbhbgoaaephgaaMemTab
namespace Go.Proofs.Ytpbhbgoaaephgaa
open Go.ChangeShapes Go.WideShapes Go.ChangeAt Go.RowKit
set_option linter.unusedVariables false
set_option maxRecDepth 100000
set_option maxHeartbeats 1000000

def lastAt (p : Nat) (A : List Mm.Nd) (j : Nat) : Nat := Mm.lst p (Mm.blks (Mm.fl j A))
def lasts (p : Nat) (A : List Mm.Nd) : Value := .agg #[pv (some (lastAt p A 0)), pv (some (lastAt p A 1)), pv (some (lastAt p A 2)), pv (some (lastAt p A 3)), pv (some (lastAt p A 4)), pv (some (lastAt p A 5)), pv (some (lastAt p A 6)), pv (some (lastAt p A 7))]
def lastQ (p : Nat) (A : List Mm.Nd) (l : Nat) (j : Nat) : Value := if l ≤ j then pv (some (lastAt p A j)) else pv none
/-- a search's own memory -/
structure SI (w wr : World) (q : Nat → Value) : Prop where
  kept : Kept w wr
  res : wr.heap[w.heap.size]? = some (eightObj (fun _ => pv none))
  last : wr.heap[w.heap.size + 1]? = some (eightObj q)
theorem SI.more {w wr wr' : World} {q : Nat → Value} (h : SI w wr q) (k : Kept wr wr') : SI w wr' q :=
  ⟨kept_trans h.kept k, (Below.block k _ (mheap_lt h.res)).trans h.res, (Below.block k _ (mheap_lt h.last)).trans h.last⟩
theorem eight_cell {w : World} {b : Nat} {q : Nat → Value} (h : w.heap[b]? = some (eightObj q)) {j : Nat} (hj : j < 8) : w.cell? ⟨b, j, none⟩ = some (q j) := by
  have a : ∀ j, j < 8 → w.cell? ⟨b, j, none⟩ = some (q j) := eight (mcell h _ rfl) (mcell h _ rfl) (mcell h _ rfl) (mcell h _ rfl) (mcell h _ rfl) (mcell h _ rfl) (mcell h _ rfl) (mcell h _ rfl)
  exact a j hj
theorem mheap_set {w : World} {b o : Nat} {v : Value} {c : Array Value} {t : TypeId} {fr : Nat × Nat} (h : w.heap[b]? = some (.cells c t fr)) : (w.setCell ⟨b, o, none⟩ v).heap[b]? = some (.cells (c.setIfInBounds o v) t fr) := by
  simp [World.setCell, Array.getElem?_modify, h]
theorem mheap_other {w : World} {b o : Nat} {v : Value} {k : Nat} (h : k ≠ b) : (w.setCell ⟨b, o, none⟩ v).heap[k]? = w.heap[k]? := Below.heap_setCell _ _ _ _ h
theorem eight_set {w : World} {b : Nat} {q : Nat → Value} (h : w.heap[b]? = some (eightObj q)) {j : Nat} (hj : j < 8) (v : Value) : (w.setCell ⟨b, j, none⟩ v).heap[b]? = some (eightObj (fun i => if i = j then v else q i)) := by
  rw [mheap_set h]
  have a : ∀ j, j < 8 → some (Obj.cells (#[q 0, q 1, q 2, q 3, q 4, q 5, q 6, q 7].setIfInBounds j v) 79) = some (eightObj (fun i => if i = j then v else q i)) := eight rfl rfl rfl rfl rfl rfl rfl rfl
  exact a j hj
theorem kept_own {w wr : World} {b o : Nat} {v : Value} (h : Kept w wr) (hb : w.heap.size ≤ b) : Kept w (wr.setCell ⟨b, o, none⟩ v) :=
  ⟨(Below.os h : _), (Below.tape h : _), (Below.output h : _), by have := Below.size h; simpa [World.setCell] using this, fun k hk => (mheap_other (by omega)).trans (Below.block h k hk)⟩
theorem SI.set {w wr : World} {q : Nat → Value} (h : SI w wr q) {j : Nat} (hj : j < 8) (v : Value) : SI w (wr.setCell ⟨w.heap.size + 1, j, none⟩ v) (fun i => if i = j then v else q i) :=
  ⟨kept_own h.kept (by omega), (mheap_other (by omega)).trans h.res, eight_set h.last hj v⟩
theorem lastQ_step (p : Nat) (A : List Mm.Nd) (l : Nat) (hl : l < 8) : (fun i => if i = l then pv (some (lastAt p A l)) else lastQ p A (l + 1) i) = lastQ p A l := by
  funext i
  unfold lastQ
  by_cases h : i = l
  · subst h; rw [if_pos rfl, if_pos (Nat.le_refl _)]
  · rw [if_neg h]
    by_cases h1 : l + 1 ≤ i
    · rw [if_pos h1, if_pos (by omega)]
    · rw [if_neg h1, if_neg (by omega)]
theorem search_any {w : World} {p : Nat} {N : List Mm.Nd} {g : Nat → Nat → Option Nat} (h : IsTab w p N g) (k : List UInt8) (s : Nat) :
    Calls Try.prog 59 #[.pointer (some ⟨p, 0, none⟩), .string (bs k), .int .u64 (s : Nat)] w fun e w' => e = .returned (.tuple #[lasts p (Mm.nA N k s), .int .i64 (Mm.stp 0 (Mm.hs (Mm.nA N k s)) : Nat)]) ∧ Kept w w' := by
  have HT := Lib.hid h
  have HAZ := Lib.hid (Mm.nAZ N k s)
  have HA := Lib.hid (fun x (hx : x ∈ Mm.nA N k s) => nA_ah hx)
  have HZ := Lib.hid (fun x (hx : x ∈ Mm.nZ N k s) => nZ_not h.good hx)
  have HB := Lib.hid (fun j => Nat.le_trans (Mm.stp_le j (Mm.hs (Mm.nA N k s))) (show (Mm.hs (Mm.nA N k s)).length ≤ 1000 by
    have h1 := h.few
    rw [← Mm.nAZ N k s, List.length_append] at h1
    simp only [Mm.hs, List.length_map]; omega))
  have HH : Hid (∀ x ∈ Mm.hs (Mm.nA N k s), x ≤ 8) := Lib.hid (fun x hx => by
    obtain ⟨y, hy, rfl⟩ := List.mem_map.1 hx
    exact h.good.high y.v (List.mem_map.2 ⟨y, by rw [← Mm.nAZ N k s]; exact List.mem_append.2 (.inl hy), rfl⟩))
  clear h
  generalize Mm.nA N k s = A at *
  generalize Mm.nZ N k s = Z at *
  go_enter Try.func59, Try.ntmps59
  go_wp2_with fail
  go_loopw [9, 10, 11] (fun st at_ lv wr => ∃ l : Nat, l ≤ 8 ∧ lv = .int .i64 ((l : Int) - 1) ∧ at_ = .pointer (some ⟨lastAt p A l, 0, none⟩) ∧ st = .int .i64 (Mm.stp l (Mm.hs A) : Nat) ∧ Hid (SI w wr (lastQ p A l))) (fun _ _ lv _ => (intOf lv + 1).toNat)
  case atStart =>
    refine ⟨8, Nat.le_refl _, rfl, ?_, ?_, Lib.hid ⟨((Kept.refl _).alloc _).alloc _, ?_, ?_⟩⟩
    · unfold lastAt; rw [Mm.fl_nil HH.out]; rfl
    · rw [Mm.stp_none HH.out]; rfl
    · rw [malloc_old _ _ (by rw [malloc_size]; omega), malloc_new]; rfl
    · rw [← malloc_size w (eightObj (fun _ => pv none))]; exact malloc_new _ _
  case round =>
    obtain ⟨l, hl, rfl, rfl, rfl, HI⟩ := hrel
    cases l with
    | zero =>
      have c0 : ∀ j, j < 8 → wr.cell? ⟨w.heap.size + 1, j, none⟩ = some (.pointer (some ⟨lastAt p A j, 0, none⟩)) := fun j hj => eight_cell HI.out.last hj
      have d0 : ∀ j, j < 8 → wr.cell? ⟨w.heap.size, j, none⟩ = some (.pointer none) := fun j hj => eight_cell HI.out.res hj
      have f0 : ∀ j, wr.frozen? ⟨w.heap.size, j, none⟩ = false := fun j => mfrozen HI.out.res j
      have c1 := c0 0 (by omega); have c2 := c0 1 (by omega); have c3 := c0 2 (by omega); have c4 := c0 3 (by omega); have c5 := c0 4 (by omega); have c6 := c0 5 (by omega); have c7 := c0 6 (by omega); have c8 := c0 7 (by omega)
      have d1 := d0 0 (by omega); have d2 := d0 1 (by omega); have d3 := d0 2 (by omega); have d4 := d0 3 (by omega); have d5 := d0 4 (by omega); have d6 := d0 5 (by omega); have d7 := d0 6 (by omega); have d8 := d0 7 (by omega)
      have hkw := HI.out.kept
      clear c0 d0 HI HH HB HZ HA HAZ HT
      go_wp2_with fail
      refine bodyPost_ret (v := .tuple #[lasts p A, .int .i64 (Mm.stp 0 (Mm.hs A) : Nat)]) (by simp [results, Try.results59, go_sem, lasts, pv, d1, d2, d3, d4, d5, d6, d7, d8]) rfl ⟨rfl, ?_⟩
      exact kept_own (kept_own (kept_own (kept_own (kept_own (kept_own (kept_own (kept_own hkw (Nat.le_refl _)) (Nat.le_refl _)) (Nat.le_refl _)) (Nat.le_refl _)) (Nat.le_refl _)) (Nat.le_refl _)) (Nat.le_refl _)) (Nat.le_refl _)
    | succ m =>
      rw [show ((m + 1 : Nat) : Int) - 1 = (m : Int) by omega]
      obtain ⟨u0, v0, e1, e2, e3⟩ := Mm.lower m A
      have ea : lastAt p A (m + 1) = Mm.lst p (Mm.blks u0) := e2 p
      rw [ea]
      have hsub : ∀ u v, Mm.fl m A = u ++ v → ∀ x ∈ u ++ v, x ∈ N := fun u v e x hx => by rw [← HAZ.out]; exact List.mem_append.2 (.inl (fl_sub (j := m) (by rw [e]; exact hx)))
      have HSUB := Lib.hid hsub
      have c1 : wr.cell? ⟨Mm.lst p (Mm.blks u0), 5 + m, none⟩ = some (pv (g (Mm.lst p (Mm.blks u0)) m)) := (HT.out.mem.kept HI.out.kept).link (lst_in (fun x hx => hsub u0 v0 e1 x (List.mem_append.2 (.inl hx)))) (by omega)
      have HE1 := Lib.hid e1; have HE3 := Lib.hid e3
      clear hsub e1 e2 e3 ea
      go_wp2_with fail
      go_loopw [9, 10, 12] (fun st at_ nx wi => ∃ (u v : List Mm.Nd) (S : Nat), Hid (Mm.fl m A = u ++ v) ∧ at_ = .pointer (some ⟨Mm.lst p (Mm.blks u), 0, none⟩) ∧ nx = pv (g (Mm.lst p (Mm.blks u)) m) ∧ st = .int .i64 (S : Nat) ∧ Hid (S + v.length = Mm.stp m (Mm.hs A)) ∧ Hid (SI w wi (lastQ p A (m + 1)))) (fun st _ _ _ => Mm.stp m (Mm.hs A) - (intOf st).toNat)
      case atStart => exact ⟨u0, v0, _, HE1, rfl, rfl, rfl, HE3, HI⟩
      case round =>
        clear HI HE1 HE3 c1
        obtain ⟨u, v, S, HU, rfl, rfl, rfl, HS, HI⟩ := hrel
        have hfn : Mm.fl m N = u ++ (v ++ Mm.fl m Z) := by rw [← HAZ.out, Mm.fl_app, HU.out, List.append_assoc]
        have hg := HT.out.next (by omega) hfn
        have hn := HT.out.mem.kept HI.out.kept
        have hbd := HB.out m
        have hbd2 := HS.out
        cases v with
        | nil =>
          have hlast : Mm.lst p (Mm.blks u) = lastAt p A m := by unfold lastAt; rw [HU.out, List.append_nil]
          have hst : S = Mm.stp m (Mm.hs A) := by simpa using hbd2
          have c2 := eight_cell HI.out.last (j := m) (by omega)
          have f2 := mfrozen HI.out.last m
          have hlq : lastQ p A (m + 1) m = .pointer none := by unfold lastQ; rw [if_neg (by omega)]; rfl
          rw [hlq] at c2
          rw [hlast] at hg ⊢
          subst hst
          have HBD := Lib.hid hbd
          have HKT := Lib.hid HI.out.kept
          clear hbd hbd2 hlq hlast HU HS HSUB
          generalize hLA : lastAt p A m = LA at hg ⊢
          have HLA := Lib.hid hLA
          clear hLA
          cases hz : Mm.fl m Z with
          | nil =>
            rw [hz] at hg
            have e1 : pv (g LA m) = .pointer none := by rw [hg]; rfl
            rw [e1]
            clear hg hz e1 hn hfn
            go_wp2_with fail
            go_roundw
            case rel => exact ⟨m, by omega, by go_num, by rw [HLA.out], rfl, Lib.hid (by rw [← lastQ_step p A m (by omega), HLA.out]; exact HI.out.set (by omega) _)⟩
            case measure => simp [intOf]
          | cons z r =>
            have hzn : z ∈ N := by rw [← HAZ.out]; exact List.mem_append.2 (.inr (fl_sub (j := m) (by rw [hz]; simp)))
            have hza : z.e.ah k s = false := HZ.out z (fl_sub (j := m) (by rw [hz]; simp))
            have hc := ahead_any z.e k s
            rw [hza] at hc
            unfold entV at hc
            obtain ⟨b0, b1, b2, b3, b4⟩ := hn.ent hzn
            rw [hz] at hg
            have e1 : pv (g LA m) = .pointer (some ⟨z.b, 0, none⟩) := by rw [hg]; rfl
            rw [e1]
            clear hg hz e1 hn hfn hza hzn
            go_wp2_with fail
            refine (hc _).mono ?_
            rintro e w1 ⟨rfl, g1⟩
            have HI1 := Lib.hid (HI.out.more g1)
            have c3 := (kept_cell g1 (p := ⟨w.heap.size + 1, m, none⟩) (mheap_lt HI.out.last)).trans c2
            have f3 := (kept_frozen g1 (p := ⟨w.heap.size + 1, m, none⟩) (mheap_lt HI.out.last)).trans f2
            clear c2 f2 b0 b1 b2 b3 b4
            go_wp2_with fail
            go_roundw
            case rel => exact ⟨m, by omega, by go_num, by rw [HLA.out], rfl, Lib.hid (by rw [← lastQ_step p A m (by omega), HLA.out]; exact HI1.out.set (by omega) _)⟩
            case measure => simp [intOf]
        | cons y v =>
          have hy : y ∈ N := HSUB.out u (y :: v) HU.out y (by simp)
          have hya : y.e.ah k s = true := HA.out y (fl_sub (j := m) (by rw [HU.out]; simp))
          have hc := ahead_any y.e k s
          rw [hya] at hc
          unfold entV at hc
          obtain ⟨b0, b1, b2, b3, b4⟩ := hn.ent hy
          have b5 := hn.link (List.mem_cons_of_mem p (List.mem_map.2 ⟨y, hy, rfl⟩)) (j := m) (by omega)
          have hlt := hn.lt (List.mem_cons_of_mem p (List.mem_map.2 ⟨y, hy, rfl⟩))
          have e0 : pv (g (Mm.lst p (Mm.blks u)) m) = .pointer (some ⟨y.b, 0, none⟩) := by rw [hg]; rfl
          rw [e0]
          simp only [List.length_cons] at hbd2
          clear hg hfn hn hya hy e0
          have e1 : Mm.lst p (Mm.blks (u ++ [y])) = y.b := by rw [Mm.blks_app, Mm.lst_app]; rfl
          have HE1 := Lib.hid e1
          clear e1
          go_wp2_with fail
          refine (hc _).mono ?_
          rintro e w1 ⟨rfl, g1⟩
          have b6 := (kept_cell g1 (p := ⟨y.b, 5 + m, none⟩) hlt).trans b5
          clear b0 b1 b2 b3 b4 b5
          go_wp2_with fail
          go_roundw
          case rel => exact ⟨u ++ [y], v, S + 1, Lib.hid (by rw [HU.out]; simp), by rw [HE1.out], by rw [HE1.out], by go_num, Lib.hid (by omega), Lib.hid (HI.out.more g1)⟩
          case measure => simp [intOf]; omega
end Go.Proofs.Ytpbhbgoaaephgaa
