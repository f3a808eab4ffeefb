/-
  The library's Concat: two lists of numbers, two lists of metas, in memory of the call's own.
-/
import Derived.Test.YtnnmalpnjlnnlaaGreatLevelFns
import Derived.Test.YtnnmalpnjlnnlaaGreatSortOwn
import Derived.Test.YtnnmalpnjlnnlaaGreatLaysL
import Derived.Test.YtnnmalpnjlnnlaaGreatMergeApp
import Derived.Shelf.Spec.SlicesGrow
namespace Go.Proofs.YtnnmalpnjlnnlaaGreat
open Go.ChangeShapes Go.WideShapes Go.ChangeAt Go.RowKit
set_option linter.unusedVariables false
set_option maxRecDepth 100000
set_option maxHeartbeats 4000000
open Lv
/-- a row of cells that lies in memory, nil of whatever room -/
def Lies (w : World) (A : Option Addr) (xs : List Value) : Prop := (A = none → xs = []) ∧ ∀ ad, A = some ad → ∀ j u, xs[j]? = some u → ∃ b, ad.block = b ∧ b < w.heap.size ∧ w.cell? (ad.add j) = some u
theorem Lies.kept {w w' : World} {A : Option Addr} {xs : List Value} (h : Lies w A xs) (k : Kept w w') : Lies w' A xs :=
  ⟨h.1, fun ad e j u hu => by
    obtain ⟨b, hb, hlt, hc⟩ := h.2 ad e j u hu
    have hbl : (ad.add j).block = ad.block := by unfold Addr.add; split <;> rfl
    refine ⟨b, hb, Nat.lt_of_lt_of_le hlt (Below.size k), ?_⟩
    rw [kept_cell k (by rw [hbl, hb]; exact hlt)]; exact hc⟩
/-- append of a row that lies in memory, onto a row of the call's own -/
theorem app_lies {ops : Array Oper} {rest : List Oper} {o : Oper} {a : Act} {Q : Exit → Act → World → Prop} {wr : World} {v : Value} (t e : TypeId) (i0 : TypeInfo) (z : Value) (size bytes : Nat) (ht : Tryz.prog.underlying t = some (.slice e)) (hi : Tryz.prog.info? e = some i0) (hz0 : i0.zero = some z)
    (hz1 : i0.size = size) (hz2 : i0.bytes = bytes) (hzs : z.cells.size = size) (hsz : 0 < size) (A : Option Addr) (c nx ny : Nat) (xs ys : List Value) (s x : Operand)
    (hw : Region.wanted o (yielded ops a.tmps) = true) (ho : o.op = .call { callee := .builtin .append, args := #[s, x], argTypes := #[t, t] })
    (hs : a.eval s = v) (Bs : Nat) (hBs : Bs ≤ wr.heap.size) (hown : wr.ownsRow Bs e size v nx xs) (hx : a.eval x = .slice A ny c) (hl : ys.length = ny * size) (hA : Lies wr A ys) (h1 : ∀ u ∈ ys, u.oneCell' = true)
    (h63 : nx + ny ≤ maxLen) (hbytes : (nx + ny) * bytes ≤ 140737488355328)
    (h : ∀ v' w1, w1.ownsRow Bs e size v' (nx + ny) (xs ++ ys) → wr.grownBy w1 v.ownBlock → wpList Tryz.prog ops Q rest (a.put o.dst v') w1) :
    wpList Tryz.prog ops Q (o :: rest) a wr := by
  refine wpList_step fun K hK => ?_
  rw [if_pos hw]
  cases A with
  | none =>
    have hy := hA.1 rfl
    subst hy
    have hn : ny = 0 := by
      rcases Nat.eq_zero_or_pos ny with h | h
      · exact h
      · have := Nat.mul_pos h hsz
        rw [← hl] at this; simp at this
    subst hn
    have hrun := run_append_owned_nil (P := Tryz.prog) (w := wr) Bs t o.type e i0 size ht hi v nx xs hown c
    unfold Oper.wp
    simp [execOp, ho, resolve, invoke, builtin, hs, hx, hrun, Result.andThen]
    exact hK _ _ (h v wr (by rw [List.append_nil]; exact hown) ⟨rfl, rfl, rfl, Nat.le_refl _, fun _ _ _ => rfl⟩)
  | some ad =>
    obtain ⟨v', w', hr, h2, h3, _⟩ := run_append_own_at (P := Tryz.prog) (w := wr) Bs t o.type e i0 z size bytes ht hi hz0 hz1 hz2 hzs hsz v nx xs hown ad ny c ys hl (fun j u hu => by obtain ⟨_, _, _, hc⟩ := hA.2 ad rfl j u hu; exact hc) h1 h63 hbytes hBs
    unfold Oper.wp execOp
    simp only [ho, resolve, invoke, builtin, Sem.run_bind, Sem.run_pure, Result.andThen_ok, List.map_toArray, List.map_cons, List.map_nil, hs, hx, hr]
    exact hK _ _ (h v' w' h2 h3)
-- CONCAT
theorem lvcatU_grow (n : Nat) (hn : n ≤ 100000) (w : World) : Calls Tryz.prog 98 #[.slice none 0 0, .int .i64 (n : Nat)] w fun e w' => ∃ v, e = .returned v ∧ w'.ownsRow w.heap.size 32 1 v 0 [] ∧ Kept w w' := by
  obtain ⟨i0, hi, hz0, hz1, hz2⟩ := info_parts uInfo
  by_cases h0 : n = 0
  · subst h0
    refine (Any8.slices_Grow_room Tryz.growU none 0 0 0 w (by omega) (by omega) (by omega) (by omega)).mono ?_
    rintro e w' ⟨rfl, rfl⟩
    exact ⟨_, rfl, World.ownsRow_nil _ _ _ _, Kept.refl _⟩
  · refine (Any8.slices_Grow_grow Tryz.growU i0 (.int .u64 0) hi hz0 (by rw [hz1]; decide) none 0 0 n [] w (Nat.le_refl _) (by omega) (by rw [hz2]; omega) (by omega) (by rw [hz1]; rfl) (fun _ => rfl) (fun a h => by cases h)).mono ?_
    rintro e w' ⟨rfl, rfl⟩
    have hcap : grownCap w (0 + n) 0 (Tryz.growU_ren.t 25) ≤ maxLen := grownCap_le_maxLen _ _ _ _ (by unfold maxLen; omega)
    have hge : 0 + n ≤ grownCap w (0 + n) 0 (Tryz.growU_ren.t 25) := grownCap_ge _ _ _ _
    generalize grownCap w (0 + n) 0 (Tryz.growU_ren.t 25) = C at *
    refine ⟨_, rfl, ⟨by simp, .inr ⟨w.heap.size, C, _, rfl, Nat.le_refl _, malloc_new w.drew _, by omega, hcap, ?_, by simp⟩⟩, (show Kept w w.drew from ⟨rfl, rfl, rfl, Nat.le_refl _, fun _ _ => rfl⟩).alloc _⟩
    rw [Array.size_append, Array.size_append, size_zeroCells, size_zeroCells, show ((.int .u64 0) : Value).cells.size = 1 from rfl]
    simp
    omega
theorem lvcatU_any {A1 A2 : Option Addr} {c1 c2 n1 n2 r : Nat} {xs ys : List Value} {w : World} (k0 : w.cell? ⟨r, 0, none⟩ = some (.slice A1 n1 c1)) (k1 : w.cell? ⟨r, 1, none⟩ = some (.slice A2 n2 c2)) (hr : r < w.heap.size) (l1 : xs.length = n1 * 1) (l2 : ys.length = n2 * 1)
    (hx : Lies w A1 xs) (hy : Lies w A2 ys) (o1 : ∀ u ∈ xs, u.oneCell' = true) (o2 : ∀ u ∈ ys, u.oneCell' = true) (b1 : n1 ≤ 50000) (b2 : n2 ≤ 50000) (rc : Nat) :
    Calls Tryz.prog 79 #[.slice (some ⟨r, 0, none⟩) 2 rc] w fun e w' => ∃ v, e = .returned v ∧ w'.ownsRow w.heap.size 32 1 v (n1 + n2) (xs ++ ys) ∧ Kept w w' := by
  obtain ⟨i0, hi, hz0, hz1, hz2⟩ := info_parts uInfo
  have HI := Lib.hid hi; have HZ0 := Lib.hid hz0; have HZ1 := Lib.hid hz1; have HZ2 := Lib.hid hz2
  have HX := Lib.hid hx; have HY := Lib.hid hy; have HO1 := Lib.hid o1; have HO2 := Lib.hid o2
  have K0 := Lib.hid k0; have K1 := Lib.hid k1
  have HG := Lib.hid (lvcatU_grow (n1 + n2) (by omega) w)
  clear hi hz0 hz1 hz2 hx hy o1 o2
  go_enter Tryz.func79, Tryz.ntmps79
  go_wp2_with fail
  go_loopw [11, 3] (fun x s wr => ((x = .int .i64 0 ∧ s = .int .i64 0) ∨ (x = .int .i64 1 ∧ s = .int .i64 n1) ∨ (x = .int .i64 2 ∧ s = .int .i64 ((n1 : Int) + (n2 : Int)))) ∧ wr = w) (fun x _ _ => 2 - (intOf x).toNat)
  case atStart => exact ⟨.inl ⟨rfl, rfl⟩, rfl⟩
  case round =>
    obtain ⟨⟨rfl, rfl⟩ | ⟨rfl, rfl⟩ | ⟨rfl, rfl⟩, rfl⟩ := hrel
    · go_wp2_with fail
      go_roundw
      case rel => exact ⟨.inr (.inl ⟨rfl, rfl⟩), trivial⟩
      case measure => simp [intOf]
    · go_wp2_with fail
      go_roundw
      case rel => exact ⟨.inr (.inr ⟨rfl, rfl⟩), trivial⟩
      case measure => simp [intOf]
    · clear k0 k1
      go_wp2_with fail
      refine HG.out.mono ?_
      rintro e w1 ⟨v, rfl, hown, hkr⟩
      go_wp2_with fail
      go_loopw [27, 6] (fun x s w2 => ((x = .int .i64 0 ∧ w2.ownsRow wr.heap.size 32 1 s 0 []) ∨ (x = .int .i64 1 ∧ w2.ownsRow wr.heap.size 32 1 s n1 xs) ∨ (x = .int .i64 2 ∧ w2.ownsRow wr.heap.size 32 1 s (n1 + n2) (xs ++ ys))) ∧ Kept wr w2) (fun x _ _ => 2 - (intOf x).toNat)
      case atStart => exact ⟨.inl ⟨rfl, hown⟩, hkr⟩
      case round =>
        clear hown hkr
        rename World => wq
        obtain ⟨⟨rfl, hown⟩ | ⟨rfl, hown⟩ | ⟨rfl, hown⟩, hkr⟩ := hrel
        · have k0 := (kept_cell hkr (p := ⟨r, 0, none⟩) hr).trans K0.out
          go_wp2_with (at_builtin; refine app_lies 29 32 i0 (.int .u64 0) 1 8 Tryz.underlying29 HI.out HZ0.out HZ1.out HZ2.out rfl (by decide) A1 c1 0 n1 [] xs _ _ rfl rfl rfl wr.heap.size (Below.size hkr) hown rfl l1 (HX.out.kept hkr) HO1.out (by unfold maxLen; omega) (by omega) ?_; intro v' w2 hown2 hg)
          rw [Nat.zero_add, List.nil_append] at hown2
          have g2 : Kept wr w2 := Below.grown hkr hg (Below.size hkr) (fun b hb => (hown.lt b hb).1)
          clear hown
          go_wp2
          go_roundw
          case rel => exact ⟨.inr (.inl ⟨rfl, hown2⟩), g2⟩
          case measure => simp [intOf]
        · have k0 := (kept_cell hkr (p := ⟨r, 1, none⟩) hr).trans K1.out
          go_wp2_with (at_builtin; refine app_lies 29 32 i0 (.int .u64 0) 1 8 Tryz.underlying29 HI.out HZ0.out HZ1.out HZ2.out rfl (by decide) A2 c2 n1 n2 xs ys _ _ rfl rfl rfl wr.heap.size (Below.size hkr) hown rfl l2 (HY.out.kept hkr) HO2.out (by unfold maxLen; omega) (by omega) ?_; intro v' w2 hown2 hg)
          have g2 : Kept wr w2 := Below.grown hkr hg (Below.size hkr) (fun b hb => (hown.lt b hb).1)
          clear hown
          go_wp2
          go_roundw
          case rel => exact ⟨.inr (.inr ⟨rfl, hown2⟩), g2⟩
          case measure => simp [intOf]
        · go_wp2
          go_ret
          exact ⟨_, rfl, hown, hkr⟩
theorem lvcatM_grow (n : Nat) (hn : n ≤ 100000) (w : World) : Calls Tryz.prog 101 #[.slice none 0 0, .int .i64 (n : Nat)] w fun e w' => ∃ v, e = .returned v ∧ w'.ownsRow w.heap.size 43 5 v 0 [] ∧ Kept w w' := by
  obtain ⟨i0, hi, hz0, hz1, hz2⟩ := info_parts mtInfo
  by_cases h0 : n = 0
  · subst h0
    refine (Any8.slices_Grow_room Tryz.growM none 0 0 0 w (by omega) (by omega) (by omega) (by omega)).mono ?_
    rintro e w' ⟨rfl, rfl⟩
    exact ⟨_, rfl, World.ownsRow_nil _ _ _ _, Kept.refl _⟩
  · refine (Any8.slices_Grow_grow Tryz.growM i0 zmtV hi hz0 (by rw [hz1]; decide) none 0 0 n [] w (Nat.le_refl _) (by omega) (by rw [hz2]; omega) (by omega) (by rw [hz1]; rfl) (fun _ => rfl) (fun a h => by cases h)).mono ?_
    rintro e w' ⟨rfl, rfl⟩
    have hcap : grownCap w (0 + n) 0 (Tryz.growM_ren.t 25) ≤ maxLen := grownCap_le_maxLen _ _ _ _ (by unfold maxLen; omega)
    have hge : 0 + n ≤ grownCap w (0 + n) 0 (Tryz.growM_ren.t 25) := grownCap_ge _ _ _ _
    generalize grownCap w (0 + n) 0 (Tryz.growM_ren.t 25) = C at *
    refine ⟨_, rfl, ⟨by simp, .inr ⟨w.heap.size, C, _, rfl, Nat.le_refl _, malloc_new w.drew _, by omega, hcap, ?_, by simp⟩⟩, (show Kept w w.drew from ⟨rfl, rfl, rfl, Nat.le_refl _, fun _ _ => rfl⟩).alloc _⟩
    rw [Array.size_append, Array.size_append, size_zeroCells, size_zeroCells, show (zmtV : Value).cells.size = 5 from rfl]
    simp
    omega
theorem lvcatM_any {A1 A2 : Option Addr} {c1 c2 n1 n2 r : Nat} {xs ys : List Value} {w : World} (k0 : w.cell? ⟨r, 0, none⟩ = some (.slice A1 n1 c1)) (k1 : w.cell? ⟨r, 1, none⟩ = some (.slice A2 n2 c2)) (hr : r < w.heap.size) (l1 : xs.length = n1 * 5) (l2 : ys.length = n2 * 5)
    (hx : Lies w A1 xs) (hy : Lies w A2 ys) (o1 : ∀ u ∈ xs, u.oneCell' = true) (o2 : ∀ u ∈ ys, u.oneCell' = true) (b1 : n1 ≤ 50000) (b2 : n2 ≤ 50000) (rc : Nat) :
    Calls Tryz.prog 83 #[.slice (some ⟨r, 0, none⟩) 2 rc] w fun e w' => ∃ v, e = .returned v ∧ w'.ownsRow w.heap.size 43 5 v (n1 + n2) (xs ++ ys) ∧ Kept w w' := by
  obtain ⟨i0, hi, hz0, hz1, hz2⟩ := info_parts mtInfo
  have HI := Lib.hid hi; have HZ0 := Lib.hid hz0; have HZ1 := Lib.hid hz1; have HZ2 := Lib.hid hz2
  have HX := Lib.hid hx; have HY := Lib.hid hy; have HO1 := Lib.hid o1; have HO2 := Lib.hid o2
  have K0 := Lib.hid k0; have K1 := Lib.hid k1
  have HG := Lib.hid (lvcatM_grow (n1 + n2) (by omega) w)
  clear hi hz0 hz1 hz2 hx hy o1 o2
  go_enter Tryz.func83, Tryz.ntmps83
  go_wp2_with fail
  go_loopw [11, 3] (fun x s wr => ((x = .int .i64 0 ∧ s = .int .i64 0) ∨ (x = .int .i64 1 ∧ s = .int .i64 n1) ∨ (x = .int .i64 2 ∧ s = .int .i64 ((n1 : Int) + (n2 : Int)))) ∧ wr = w) (fun x _ _ => 2 - (intOf x).toNat)
  case atStart => exact ⟨.inl ⟨rfl, rfl⟩, rfl⟩
  case round =>
    obtain ⟨⟨rfl, rfl⟩ | ⟨rfl, rfl⟩ | ⟨rfl, rfl⟩, rfl⟩ := hrel
    · go_wp2_with fail
      go_roundw
      case rel => exact ⟨.inr (.inl ⟨rfl, rfl⟩), trivial⟩
      case measure => simp [intOf]
    · go_wp2_with fail
      go_roundw
      case rel => exact ⟨.inr (.inr ⟨rfl, rfl⟩), trivial⟩
      case measure => simp [intOf]
    · clear k0 k1
      go_wp2_with fail
      refine HG.out.mono ?_
      rintro e w1 ⟨v, rfl, hown, hkr⟩
      go_wp2_with fail
      go_loopw [27, 6] (fun x s w2 => ((x = .int .i64 0 ∧ w2.ownsRow wr.heap.size 43 5 s 0 []) ∨ (x = .int .i64 1 ∧ w2.ownsRow wr.heap.size 43 5 s n1 xs) ∨ (x = .int .i64 2 ∧ w2.ownsRow wr.heap.size 43 5 s (n1 + n2) (xs ++ ys))) ∧ Kept wr w2) (fun x _ _ => 2 - (intOf x).toNat)
      case atStart => exact ⟨.inl ⟨rfl, hown⟩, hkr⟩
      case round =>
        clear hown hkr
        rename World => wq
        obtain ⟨⟨rfl, hown⟩ | ⟨rfl, hown⟩ | ⟨rfl, hown⟩, hkr⟩ := hrel
        · have k0 := (kept_cell hkr (p := ⟨r, 0, none⟩) hr).trans K0.out
          go_wp2_with (at_builtin; refine app_lies 30 43 i0 zmtV 5 56 Tryz.underlying30 HI.out HZ0.out HZ1.out HZ2.out rfl (by decide) A1 c1 0 n1 [] xs _ _ rfl rfl rfl wr.heap.size (Below.size hkr) hown rfl l1 (HX.out.kept hkr) HO1.out (by unfold maxLen; omega) (by omega) ?_; intro v' w2 hown2 hg)
          rw [Nat.zero_add, List.nil_append] at hown2
          have g2 : Kept wr w2 := Below.grown hkr hg (Below.size hkr) (fun b hb => (hown.lt b hb).1)
          clear hown
          go_wp2
          go_roundw
          case rel => exact ⟨.inr (.inl ⟨rfl, hown2⟩), g2⟩
          case measure => simp [intOf]
        · have k0 := (kept_cell hkr (p := ⟨r, 1, none⟩) hr).trans K1.out
          go_wp2_with (at_builtin; refine app_lies 30 43 i0 zmtV 5 56 Tryz.underlying30 HI.out HZ0.out HZ1.out HZ2.out rfl (by decide) A2 c2 n1 n2 xs ys _ _ rfl rfl rfl wr.heap.size (Below.size hkr) hown rfl l2 (HY.out.kept hkr) HO2.out (by unfold maxLen; omega) (by omega) ?_; intro v' w2 hown2 hg)
          have g2 : Kept wr w2 := Below.grown hkr hg (Below.size hkr) (fun b hb => (hown.lt b hb).1)
          clear hown
          go_wp2
          go_roundw
          case rel => exact ⟨.inr (.inr ⟨rfl, hown2⟩), g2⟩
          case measure => simp [intOf]
        · go_wp2
          go_ret
          exact ⟨_, rfl, hown, hkr⟩
end Go.Proofs.YtnnmalpnjlnnlaaGreat
