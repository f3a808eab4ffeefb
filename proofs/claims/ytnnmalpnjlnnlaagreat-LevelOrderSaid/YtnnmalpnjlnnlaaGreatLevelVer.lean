/-
  Package level over memory: a version; its numbers; ranges.
-/
import Derived.Test.YtnnmalpnjlnnlaaGreatLevelMany
import Derived.Sort.AtCall
import Derived.Shelf.SlSortCmp.QuietGrown
namespace Go.Proofs.YtnnmalpnjlnnlaaGreat
open Go.ChangeShapes Go.WideShapes Go.ChangeAt Go.RowKit
set_option linter.unusedVariables false
set_option maxRecDepth 100000
set_option maxHeartbeats 4000000
open Lv
/-- a version in memory -/
structure IsV (w : World) (p : Nat) (T : Nat → Lvl) (nx lg sq : Nat) : Prop where
  cells : w.heap[p]? = some (.cells #[(T 0).v, (T 1).v, (T 2).v, (T 3).v, .int .u64 (nx : Nat), .int .u64 (lg : Nat), .int .u64 (sq : Nat)] 73 (0, 0))
  tab : Tin w T
  flat : ∀ l, l < 4 → ∀ ad, (T l).A = some ad → ∃ b o, ad = ⟨b, o, none⟩
theorem IsV.kept {w w' : World} {p nx lg sq : Nat} {T : Nat → Lvl} (h : IsV w p T nx lg sq) (k : Kept w w') : IsV w' p T nx lg sq :=
  ⟨by rw [Below.block k p (mheap_lt h.cells)]; exact h.cells, h.tab.kept k, h.flat⟩
def vT0 (l : Nat) : Lvl := ⟨none, 0, []⟩
theorem tin_none (w : World) : Tin w vT0 := ⟨fun l _ j x hx => by simp [vT0] at hx, fun l _ => by simp [vT0], fun l _ => by simp [vT0], fun l _ x hx => by simp [vT0] at hx⟩
theorem lvnew_any (w : World) : Calls Tryz.prog 12 #[] w fun e w' => ∃ p, e = .returned (.pointer (some ⟨p, 0, none⟩)) ∧ IsV w' p vT0 1 0 0 ∧ w.heap.size ≤ p ∧ Kept w w' := by
  go_enter Tryz.func12, Tryz.ntmps12
  go_wp2_with fail
  go_ret
  exact ⟨w.heap.size, rfl, ⟨malloc_new w _, tin_none _, fun l _ ad e => by cases e⟩, Nat.le_refl _, (Kept.refl _).alloc _⟩
theorem lvchg_any (n b : Nat) (hb : b ≤ 18446744073709551615) (w : World) : Calls Tryz.prog 40 #[.int .u64 (n : Nat), .int .u64 (b : Nat)] w fun e w' => e = .returned (.int .u64 ((if b = 0 then n else b : Nat) : Int)) ∧ w' = w := by
  by_cases h : b = 0
  · subst h
    go_enter Tryz.func40, Tryz.ntmps40
    go_wp2_with fail
    go_ret
    exact ⟨rfl, rfl⟩
  · have d1 : ((b : Int) == 0) = false := by simp; omega
    rw [if_neg h]
    go_enter Tryz.func40, Tryz.ntmps40
    go_wp2_with fail
    go_ret
    exact ⟨rfl, rfl⟩
def inN (n l : Nat) : Bool := decide (l ≤ n) && decide (n ≤ 1099511627776)
theorem lvin_any (n l : Nat) (w : World) : Calls Tryz.prog 82 #[.int .u64 (n : Nat), .int .u64 (l : Nat)] w fun e w' => e = .returned (.bool (inN n l)) ∧ w' = w := by
  unfold inN
  by_cases h : l ≤ n
  · have d1 : decide ((l : Int) ≤ (n : Int)) = true := decide_eq_true (by omega)
    rw [show decide (l ≤ n) = true from decide_eq_true h, Bool.true_and]
    go_enter Tryz.func82, Tryz.ntmps82
    go_wp2_with fail
    go_ret
    exact ⟨by simp; omega, rfl⟩
  · have d1 : decide ((l : Int) ≤ (n : Int)) = false := decide_eq_false (by omega)
    rw [show decide (l ≤ n) = false from decide_eq_false h, Bool.false_and]
    go_enter Tryz.func82, Tryz.ntmps82
    go_wp2_with fail
    go_ret
    exact ⟨rfl, rfl⟩
theorem lvisl_any (z : Int) (w : World) : Calls Tryz.prog 58 #[.int .i64 z] w fun e w' => e = .returned (.bool (decide (0 ≤ z) && decide (z < 4))) ∧ w' = w := by
  by_cases h : 0 ≤ z
  · have d1 : decide ((0 : Int) ≤ z) = true := decide_eq_true h
    rw [d1, Bool.true_and]
    go_enter Tryz.func58, Tryz.ntmps58
    go_wp2_with fail
    go_ret
    exact ⟨rfl, rfl⟩
  · have d1 : decide ((0 : Int) ≤ z) = false := decide_eq_false h
    rw [d1, Bool.false_and]
    go_enter Tryz.func58, Tryz.ntmps58
    go_wp2_with fail
    go_ret
    exact ⟨rfl, rfl⟩
def spv (a b : List UInt8) : Value := .agg #[.string (bs a), .string (bs b)]
theorem two_grown (w : World) (a b : Obj) : ∃ q os, (w.alloc a).alloc b = Go.Sort.grow (w.drewN q) os := ⟨0, #[a] ++ #[b], by rw [Go.Sort.alloc_eq_grow, Go.Sort.alloc_eq_grow, Go.Sort.grow_grow]; rfl⟩
theorem kept_grown {w w' : World} (h : ∃ q os, w' = Go.Sort.grow (w.drewN q) os) : Kept w w' := by
  obtain ⟨q, os, rfl⟩ := h
  refine ⟨rfl, rfl, rfl, by simp [World.drewN], fun k hk => ?_⟩
  rw [Go.Sort.heap_grow_old _ _ (by simpa [World.drewN] using hk)]
  rfl
theorem lvspan_g (x : Meta) (w : World) : Calls Tryz.prog 53 #[mtv x] w fun e w' => e = .returned (spv x.first x.last) ∧ ∃ q os, w' = Go.Sort.grow (w.drewN q) os := by
  unfold mtv spv
  go_enter Tryz.func53, Tryz.ntmps53
  go_wp2_with fail
  have c0 : ((w.alloc (.cells #[.int .u64 (x.file : Nat), .int .i64 x.size, .string (bs x.first), .string (bs x.last), .int .u64 (x.seq : Nat)] 43)).alloc (.cells #[.string (bs x.first), .string (bs x.last)] 88)).cell? ⟨w.heap.size + 1, 0, none⟩ = some (.string (bs x.first)) := by simp
  have c1 : ((w.alloc (.cells #[.int .u64 (x.file : Nat), .int .i64 x.size, .string (bs x.first), .string (bs x.last), .int .u64 (x.seq : Nat)] 43)).alloc (.cells #[.string (bs x.first), .string (bs x.last)] 88)).cell? ⟨w.heap.size + 1, 1, none⟩ = some (.string (bs x.last)) := by simp
  refine bodyPost_ret (v := .agg #[.string (bs x.first), .string (bs x.last)]) (by simp [results, Tryz.results53, bs, go_sem]) rfl ⟨rfl, two_grown _ _ _⟩
theorem lvspan_any (x : Meta) (w : World) : Calls Tryz.prog 53 #[mtv x] w fun e w' => e = .returned (spv x.first x.last) ∧ Kept w w' := (lvspan_g x w).mono fun e w' h => ⟨h.1, kept_grown h.2⟩
theorem lvmeets_g (a b c d : List UInt8) (w : World) : Calls Tryz.prog 86 #[spv a b, spv c d] w fun e w' => e = .returned (.bool (meets a b c d)) ∧ ∃ q os, w' = Go.Sort.grow (w.drewN q) os := by
  have h1 := le_spell c b
  have h2 := le_spell a d
  have e1 : (!Op.bytesLess (bs b).toList (bs c).toList) = le c b := by rw [lvbs_list, lvbs_list, Mm.less_eq, le_not]
  have e2 : (!Op.bytesLess (bs d).toList (bs a).toList) = le a d := by rw [lvbs_list, lvbs_list, Mm.less_eq, le_not]
  unfold spv meets
  cases t : le c b
  · rw [t] at e1
    have e3 : Op.bytesLess (bs b).toList (bs c).toList = true := by simpa using e1
    clear e1 e2 h1 h2 t
    go_enter Tryz.func86, Tryz.ntmps86
    go_wp2_with fail
    go_ret
    exact ⟨rfl, two_grown _ _ _⟩
  · rw [t] at e1
    have e3 : Op.bytesLess (bs b).toList (bs c).toList = false := by simpa using e1
    rw [← e2]
    clear e1 e2 h1 h2 t
    go_enter Tryz.func86, Tryz.ntmps86
    go_wp2_with fail
    go_ret
    exact ⟨by simp, two_grown _ _ _⟩
theorem lvmeets_any (a b c d : List UInt8) (w : World) : Calls Tryz.prog 86 #[spv a b, spv c d] w fun e w' => e = .returned (.bool (meets a b c d)) ∧ Kept w w' := (lvmeets_g a b c d w).mono fun e w' h => ⟨h.1, kept_grown h.2⟩
/-- three numbers: none below what it was, none above the greatest -/
theorem lvnums_any {w : World} {p nx lg sq : Nat} {T : Nat → Lvl} (h : IsV w p T nx lg sq) : Calls Tryz.prog 32 #[.pointer (some ⟨p, 0, none⟩)] w fun e w' => e = .returned (.tuple #[.int .u64 (nx : Nat), .int .u64 (lg : Nat), .int .u64 (sq : Nat)]) ∧ ∃ q, w' = w.drewN q := by
  have c4 := mcell h.cells 4 (v := .int .u64 (nx : Nat)) (by rfl)
  have c5 := mcell h.cells 5 (v := .int .u64 (lg : Nat)) (by rfl)
  have c6 := mcell h.cells 6 (v := .int .u64 (sq : Nat)) (by rfl)
  clear h
  go_enter Tryz.func32, Tryz.ntmps32
  go_wp2_with fail
  go_quiet (fail)
  go_wp2_with fail
  go_ret3
  exact ⟨rfl, nq, rfl⟩
theorem lvgoes_any {w : World} {p r nx lg sq nx' lg' sq' : Nat} {T U : Nat → Lvl} (h : IsV w p T nx lg sq) (g : IsV w r U nx' lg' sq') : Calls Tryz.prog 41 #[.pointer (some ⟨p, 0, none⟩), .pointer (some ⟨r, 0, none⟩)] w fun e w' => e = .returned (.bool (inN nx nx' && inN lg lg' && inN sq sq')) ∧ ∃ q, w' = w.drewN q := by
  have c4 := mcell h.cells 4 (v := .int .u64 (nx : Nat)) (by rfl)
  have c5 := mcell h.cells 5 (v := .int .u64 (lg : Nat)) (by rfl)
  have c6 := mcell h.cells 6 (v := .int .u64 (sq : Nat)) (by rfl)
  have d4 := mcell g.cells 4 (v := .int .u64 (nx' : Nat)) (by rfl)
  have d5 := mcell g.cells 5 (v := .int .u64 (lg' : Nat)) (by rfl)
  have d6 := mcell g.cells 6 (v := .int .u64 (sq' : Nat)) (by rfl)
  clear h g
  have H1 := Lib.hid (fun W => lvin_any nx nx' W)
  have H2 := Lib.hid (fun W => lvin_any lg lg' W)
  have H3 := Lib.hid (fun W => lvin_any sq sq' W)
  generalize inN nx nx' = t1 at *
  generalize inN lg lg' = t2 at *
  generalize inN sq sq' = t3 at *
  cases t1 <;> cases t2 <;> (
    go_enter Tryz.func41, Tryz.ntmps41
    go_wp2_with fail
    go_big_quiet (first
      | (go_at_call_has 82 (Value.int .u64 (nx : Int)); refine Calls.quiet_of_same (H1.out _))
      | (go_at_call_has 82 (Value.int .u64 (lg : Int)); refine Calls.quiet_of_same (H2.out _))
      | (go_at_call_has 82 (Value.int .u64 (sq : Int)); refine Calls.quiet_of_same (H3.out _)))
    go_wp2_with fail
    go_ret
    exact ⟨by simp, nq, rfl⟩)
end Go.Proofs.YtnnmalpnjlnnlaaGreat
