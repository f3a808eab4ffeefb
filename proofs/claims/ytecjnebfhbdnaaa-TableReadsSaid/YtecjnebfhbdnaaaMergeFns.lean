/-
  Package merge over memory: which entry is ahead, what a row is.
-/
import Derived.Test.YtecjnebfhbdnaaaPackMem
import Derived.Test.YtecjnebfhbdnaaaPackMath
import Derived.Deep.RegionHeld3
import Derived.Deep.LoopGhost
namespace Go.Proofs.Ytecjnebfhbdnaaa
open Go.ChangeShapes Go.WideShapes Go.ChangeAt Go.RowKit
set_option linter.unusedVariables false
set_option maxRecDepth 100000
set_option maxHeartbeats 1000000

theorem gahead_any (x : Mm.Ent) (k : List UInt8) (s : Nat) (w : World) :
    Calls Try.prog 54 #[entV x, .string (bs k), .int .u64 (s : Nat)] w fun e w' => e = .returned (.bool (x.ah k s)) ∧ Kept w w' := by
  unfold entV Mm.Ent.ah Mm.ahd
  by_cases h : x.key = k
  · have h1 : ((bs x.key).toList == (bs k).toList) = true := by rw [mbs_eq]; exact decide_eq_true h
    rw [if_pos h]
    clear h
    go_enter Try.func54, Try.ntmps54
    go_wp2_with fail
    go_ret
    exact ⟨ret_bool (by simp), (Kept.refl _).alloc _⟩
  · have h1 : ((bs x.key).toList == (bs k).toList) = false := by rw [mbs_eq]; exact decide_eq_false h
    have h2 := mbs_less x.key k
    rw [if_neg h, ← h2]
    clear h h2
    go_enter Try.func54, Try.ntmps54
    go_wp2_with fail
    go_ret
    exact ⟨rfl, (Kept.refl _).alloc _⟩
theorem gahead_ab (x y : Mm.Ent) (w : World) :
    Calls Try.prog 54 #[.agg #[.string (bs x.key), .int .u64 (x.seq : Nat), .bool x.del, .string (bs x.val)], .string (bs y.key), .int .u64 (y.seq : Nat)] w fun e w' => e = .returned (.bool (Mg.ab x y)) ∧ Kept w w' := gahead_any x y.key y.seq w
theorem Els.two {w : World} {A : Option Addr} {l : List Mm.Ent} (h : Els w A l) {i j : Nat} {x y : Mm.Ent} (hx : l[i]? = some x) (hy : l[j]? = some y) : ∃ b o, A = some ⟨b, o, none⟩ ∧ b < w.heap.size ∧
    (w.cell? ⟨b, o + i * 4, none⟩ = some (.string (bs x.key)) ∧ w.cell? ⟨b, o + i * 4 + 1, none⟩ = some (.int .u64 (x.seq : Nat)) ∧ w.cell? ⟨b, o + i * 4 + 2, none⟩ = some (.bool x.del) ∧ w.cell? ⟨b, o + i * 4 + 3, none⟩ = some (.string (bs x.val))) ∧
    (w.cell? ⟨b, o + j * 4, none⟩ = some (.string (bs y.key)) ∧ w.cell? ⟨b, o + j * 4 + 1, none⟩ = some (.int .u64 (y.seq : Nat)) ∧ w.cell? ⟨b, o + j * 4 + 2, none⟩ = some (.bool y.del) ∧ w.cell? ⟨b, o + j * 4 + 3, none⟩ = some (.string (bs y.val))) := by
  obtain ⟨b, o, rfl, hb, c⟩ := h i x hx
  obtain ⟨b', o', e, hb', c'⟩ := h j y hy
  cases e
  exact ⟨b, o, rfl, hb, c, c'⟩
/-- an entry's cells, at a place of a list -/
def Ec (w : World) (b o i : Nat) (x : Mm.Ent) : Prop := w.cell? ⟨b, o + i * 4, none⟩ = some (.string (bs x.key)) ∧ w.cell? ⟨b, o + i * 4 + 1, none⟩ = some (.int .u64 (x.seq : Nat)) ∧ w.cell? ⟨b, o + i * 4 + 2, none⟩ = some (.bool x.del) ∧ w.cell? ⟨b, o + i * 4 + 3, none⟩ = some (.string (bs x.val))
theorem Ec.kept {w w' : World} {b o i : Nat} {x : Mm.Ent} (h : Ec w b o i x) (hb : b < w.heap.size) (k : Kept w w') : Ec w' b o i x :=
  ⟨by rw [kept_cell k hb]; exact h.1, by rw [kept_cell k hb]; exact h.2.1, by rw [kept_cell k hb]; exact h.2.2.1, by rw [kept_cell k hb]; exact h.2.2.2⟩
theorem wrap_nat {j : Nat} (h : j ≤ 9223372036854775807) : IntKind.i64.wrap (j : Int) = (j : Int) := by rw [IntKind.wrap_i64]; omega
theorem grow_any (A : Option Addr) (c : Nat) (l : List Mm.Ent) (hl : l.length ≤ 4000) (w : World) (h : Els w A l) :
    Calls Try.prog 24 #[.slice A l.length c] w fun e w' => e = .returned (.bool (Mg.row l)) ∧ Kept w w' := by
  have HE := Lib.hid h
  clear h
  go_enter Try.func24, Try.ntmps24
  go_wp2_with fail
  go_loopw [3] (fun t wi => ∃ i : Nat, 1 ≤ i ∧ i ≤ l.length + 1 ∧ t = .int .i64 (i : Int) ∧ Hid (∀ j x y, j + 1 < i → l[j]? = some x → l[j + 1]? = some y → Mg.ab x y = true) ∧ Kept w wi) (fun t _ => l.length + 1 - (intOf t).toNat)
  case atStart => exact ⟨1, Nat.le_refl _, by omega, rfl, Lib.hid (fun i x y hi => absurd hi (by omega)), Kept.refl _⟩
  case round =>
    obtain ⟨i, hi1, hi, rfl, HA, ki⟩ := hrel
    by_cases hlt : i < l.length
    · obtain ⟨j, hj⟩ : ∃ j, i = j + 1 := ⟨i - 1, by omega⟩
      have hx : l[j]? = some l[j] := List.getElem?_eq_getElem (by omega)
      have hy : l[i]? = some l[i] := List.getElem?_eq_getElem hlt
      generalize l[j] = x at hx
      generalize l[i] = y at hy
      obtain ⟨b, o, rfl, hb, c0, d0⟩ := (HE.out.kept ki).two hx hy
      have C := Lib.hid (show Ec wr b o j x from c0)
      have D := Lib.hid (show Ec wr b o i y from d0)
      have hab := gahead_ab x y
      have HX := Lib.hid hx; have HY := Lib.hid hy
      have e1 : (i : Int) - 1 = (j : Int) := by omega
      have e2 : IntKind.i64.wrap (j : Int) = (j : Int) := wrap_nat (by omega)
      have hlt2 : j < l.length := by omega
      have HJ := Lib.hid hj
      obtain ⟨c0, c1, c2, c3⟩ := c0
      obtain ⟨d0, d1, d2, d3⟩ := d0
      clear hx hy hj
      cases hv : Mg.ab x y with
      | true =>
        have HV := Lib.hid hv
        rw [hv] at hab
        have HAH := Lib.hid hab
        clear hv hab
        go_wp2_with fail
        go_region_held3 (fun w' => (w'.cell? ⟨b, o + j * 4, none⟩ = some (.string (bs x.key)) ∧ w'.cell? ⟨b, o + j * 4 + 1, none⟩ = some (.int .u64 (x.seq : Nat)) ∧ w'.cell? ⟨b, o + j * 4 + 2, none⟩ = some (.bool x.del) ∧ w'.cell? ⟨b, o + j * 4 + 3, none⟩ = some (.string (bs x.val))) ∧ w'.cell? ⟨b, o + i * 4, none⟩ = some (.string (bs y.key)) ∧ w'.cell? ⟨b, o + i * 4 + 1, none⟩ = some (.int .u64 (y.seq : Nat)))
          (first | exact ⟨C.out, D.out.1, D.out.2.1⟩ | exact ⟨C.out.kept hb (kept_drewN _ 1), (D.out.kept hb (kept_drewN _ 1)).1, (D.out.kept hb (kept_drewN _ 1)).2.1⟩ | exact ⟨C.out.kept hb (kept_trans (kept_drewN wr 1) g1), (D.out.kept hb (kept_trans (kept_drewN wr 1) g1)).1, (D.out.kept hb (kept_trans (kept_drewN wr 1) g1)).2.1⟩)
          ((go_at_call 54; refine (HAH.out _).mono ?_; rintro e w1 ⟨rfl, g1⟩))
        have G1 := Lib.hid (kept_trans ki (kept_trans (kept_drewN wr 1) g1))
        clear g1 c0 c1 c2 c3 d0 d1 d2 d3
        go_wp2_with fail
        go_roundw
        case rel => exact ⟨i + 1, by omega, by omega, by go_num, Lib.hid (fun q u v hq hu hv => by
          by_cases e : q = j
          · subst e; rw [HX.out] at hu; rw [← HJ.out, HY.out] at hv; cases hu; cases hv; exact HV.out
          · exact HA.out q u v (by have := HJ.out; omega) hu hv), G1.out⟩
        case measure => simp [intOf]; omega
      | false =>
        have HV := Lib.hid (Mg.row_not (l := l) HX.out (by rw [← HJ.out]; exact HY.out) hv)
        rw [hv] at hab
        have HAH := Lib.hid hab
        clear hv hab
        go_wp2_with fail
        go_region_held3 (fun w' => (w'.cell? ⟨b, o + j * 4, none⟩ = some (.string (bs x.key)) ∧ w'.cell? ⟨b, o + j * 4 + 1, none⟩ = some (.int .u64 (x.seq : Nat)) ∧ w'.cell? ⟨b, o + j * 4 + 2, none⟩ = some (.bool x.del) ∧ w'.cell? ⟨b, o + j * 4 + 3, none⟩ = some (.string (bs x.val))) ∧ w'.cell? ⟨b, o + i * 4, none⟩ = some (.string (bs y.key)) ∧ w'.cell? ⟨b, o + i * 4 + 1, none⟩ = some (.int .u64 (y.seq : Nat)))
          (first | exact ⟨C.out, D.out.1, D.out.2.1⟩ | exact ⟨C.out.kept hb (kept_drewN _ 1), (D.out.kept hb (kept_drewN _ 1)).1, (D.out.kept hb (kept_drewN _ 1)).2.1⟩ | exact ⟨C.out.kept hb (kept_trans (kept_drewN wr 1) g1), (D.out.kept hb (kept_trans (kept_drewN wr 1) g1)).1, (D.out.kept hb (kept_trans (kept_drewN wr 1) g1)).2.1⟩)
          ((go_at_call 54; refine (HAH.out _).mono ?_; rintro e w1 ⟨rfl, g1⟩))
        have G1 := Lib.hid (kept_trans ki (kept_trans (kept_drewN wr 1) g1))
        clear g1 c0 c1 c2 c3 d0 d1 d2 d3
        go_wp2_with fail
        go_ret
        exact ⟨by rw [HV.out]; rfl, G1.out⟩
    · have hr : Mg.row l = true := Mg.row_adj.2 fun j x y hx hy => HA.out j x y (by have := (List.getElem?_eq_some_iff.1 hy).1; omega) hx hy
      have HR := Lib.hid hr
      clear hr
      go_wp2_with fail
      go_ret
      exact ⟨by rw [HR.out]; rfl, ki⟩
end Go.Proofs.Ytecjnebfhbdnaaa
