/-
  What a table tells: its first and its last entry, entries from a key on.
-/
import Derived.Test.YtecjnebfhbdnaaaTableGet
import Derived.Deep.AppendLies
import Derived.Test.YtecjnebfhbdnaaaBloomRefMake
namespace Go.Proofs.Ytecjnebfhbdnaaa
open Go.ChangeShapes Go.WideShapes Go.ChangeAt Go.RowKit
set_option linter.unusedVariables false
set_option maxRecDepth 100000
set_option maxHeartbeats 4000000

namespace Tb
open Mm
def FL (l : List Ent) (k : List UInt8) (N m : Nat) : List Ent := ((l.take m).filter (keyP k)).take N
theorem take_step {p : Ent → Bool} {F : List Ent} {x : Ent} {N : Nat} : (F ++ (if p x then [x] else [])).take N = F.take N ++ (if p x = true ∧ (F.take N).length < N then [x] else []) := by
  rw [List.take_append]
  congr 1
  cases hp : p x with
  | false => simp
  | true =>
    by_cases h : F.length < N
    · rw [if_pos (show true = true ∧ (F.take N).length < N from ⟨rfl, by rw [List.length_take]; omega⟩), if_pos rfl, List.take_of_length_le (by simp; omega)]
    · rw [if_neg (show ¬ (true = true ∧ (F.take N).length < N) from fun q => by have := q.2; rw [List.length_take] at this; omega), show N - F.length = 0 by omega, List.take_zero]
theorem FL_step {l : List Ent} {k : List UInt8} {N m : Nat} {x : Ent} (h : l[m]? = some x) : FL l k N (m + 1) = FL l k N m ++ (if keyP k x = true ∧ (FL l k N m).length < N then [x] else []) := by
  unfold FL
  rw [Mg.filter_step h, take_step]
theorem FL_all {l : List Ent} {k : List UInt8} {N m : Nat} (h : l.length ≤ m) : FL l k N m = frm l k N := by
  unfold FL frm; rw [List.take_of_length_le h]
theorem FL_full {l : List Ent} {k : List UInt8} {N m : Nat} (h : ¬ (FL l k N m).length < N) : FL l k N m = frm l k N := by
  unfold FL frm at *
  conv => rhs; rw [← List.take_append_drop m l, List.filter_append]
  rw [List.length_take] at h
  rw [List.take_append_of_le_length (by omega)]
theorem FL_len (l : List Ent) (k : List UInt8) (N m : Nat) : (FL l k N m).length ≤ l.length := by
  unfold FL
  rw [List.length_take]
  have := List.length_filter_le (keyP k) (l.take m)
  rw [List.length_take] at this
  omega
theorem FL_none {l : List Ent} (h : isT l = true) {k : List UInt8} {N i : Nat} (ha : At (tv l).index k 18446744073709551615 i) : FL l k N (8 * i) = [] := by
  unfold FL; rw [frm_skip h ha]; simp
theorem FL_block {l : List Ent} {k : List UInt8} {N i : Nat} : FL l k N (8 * i + (bl l i).length) = FL l k N (8 * (i + 1)) := by
  unfold FL
  congr 2
  rw [bl_len]
  by_cases h : 8 * (i + 1) ≤ l.length
  · congr 1; omega
  · rw [List.take_of_length_le (by omega), List.take_of_length_le (by omega)]
end Tb
theorem cell_same {w w' : World} {b : Nat} (h : w'.heap[b]? = w.heap[b]?) (i : Nat) : w'.cell? ⟨b, i, none⟩ = w.cell? ⟨b, i, none⟩ := by
  unfold World.cell?; rw [h]
theorem els_grown {w w' : World} {A : Option Addr} {l : List Mm.Ent} {row : Option Nat} (h : Els w A l) (hg : w.grownBy w' row) (hr : ∀ b o, A = some ⟨b, o, none⟩ → row ≠ some b) : Els w' A l := fun j x hx => by
  obtain ⟨b, o, e, hb, h0, h1, h2, h3⟩ := h j x hx
  have hs := hg.block b hb (fun q => hr b o e q.symm)
  exact ⟨b, o, e, Nat.lt_of_lt_of_le hb hg.size, (cell_same hs _).trans h0, (cell_same hs _).trans h1, (cell_same hs _).trans h2, (cell_same hs _).trans h3⟩
theorem tends_any {w : World} {p : Nat} {l : List Mm.Ent} (h : IsTb w p (Tb.tv l)) (hT : Tb.isT l = true) {x y : Mm.Ent} (hx : l[0]? = some x) (hy : l[l.length - 1]? = some y) :
    Calls Try.prog 16 #[.pointer (some ⟨p, 0, none⟩)] w fun e w' => e = .returned (.tuple #[entV x, entV y]) ∧ Kept w w' := by
  obtain ⟨h1, h2, h3, h4⟩ := Tb.isT_iff.1 hT
  have hn := Tb.nb_pos h1
  obtain ⟨A, c, hb, hp⟩ := h.blk
  rw [Tb.tv_len] at hb
  have hpl := mheap_lt hb
  obtain ⟨n, hN⟩ : ∃ n, n = Tb.nb l := ⟨_, rfl⟩
  have hnle := Tb.nb_le hT
  rw [← hN] at hb
  have R1 := Lib.hid (fun (W : World) (g : Kept w W) => tread2_any (h.kept g) (Tb.tv_get (l := l) (i := 0) (by omega)))
  have R2 := Lib.hid (fun (W : World) (g : Kept w W) => tread2_any (h.kept g) (Tb.tv_get (l := l) (i := Tb.nb l - 1) (by omega)))
  rw [Tb.tv_rd hT (by omega)] at R1
  rw [Tb.tv_rd hT (by omega)] at R2
  have e1 : (Tb.bl l 0)[0]? = some x := by rw [Tb.bl_get _ _ _ (by omega)]; exact hx
  have l1 : 1 ≤ (Tb.bl l 0).length := by rw [Tb.bl_len]; omega
  obtain ⟨m, hm⟩ : ∃ m, m = (Tb.bl l (Tb.nb l - 1)).length := ⟨_, rfl⟩
  have l2 : 1 ≤ m := by rw [hm, Tb.bl_len]; unfold Tb.nb at *; omega
  have l8 : m ≤ 8 := by rw [hm, Tb.bl_len]; omega
  have e2 : (Tb.bl l (Tb.nb l - 1))[m - 1]? = some y := by
    rw [Tb.bl_get _ _ _ (by omega), ← hy]
    congr 1
    rw [hm, Tb.bl_len]; unfold Tb.nb at *; omega
  obtain ⟨n', rfl⟩ : ∃ n', n = n' + 1 := ⟨n - 1, by omega⟩
  rw [show Tb.nb l - 1 = n' by omega] at R2
  have hw3 : IntKind.i64.wrap (n' : Int) = (n' : Int) := by rw [IntKind.wrap_i64]; omega
  rw [show Tb.nb l - 1 = n' by omega] at hm e2
  generalize Tb.bl l n' = L2 at *
  generalize Tb.bl l 0 = L1 at *
  have HB := Lib.hid hb
  obtain ⟨m', rfl⟩ : ∃ m', m = m' + 1 := ⟨m - 1, by omega⟩
  rw [← hm] at R2
  have hw4 : IntKind.i64.wrap (m' : Int) = (m' : Int) := by rw [IntKind.wrap_i64]; omega
  rw [Nat.add_sub_cancel] at e2
  have HM := Lib.hid hm
  have E1 := Lib.hid e1; have E2 := Lib.hid e2
  clear hm hb hp h hT h1 h2 h3 h4 hx hy e1 e2 hN
  go_enter Try.func16, Try.ntmps16
  go_wp2_with fail
  obtain ⟨W, hW⟩ : ∃ W, W = (w.alloc (.cells #[.string ⟨#[]⟩, .int .u64 0, .bool false, .string ⟨#[]⟩] 37)).alloc (.cells #[.string ⟨#[]⟩, .int .u64 0, .bool false, .string ⟨#[]⟩] 37) := ⟨_, rfl⟩
  rw [← hW]
  have KW0 := Lib.hid (show Kept w W by rw [hW]; exact ((Kept.refl w).alloc _).alloc _)
  have BA := Lib.hid (show W.heap[w.heap.size]? = some (.cells #[.string ⟨#[]⟩, .int .u64 0, .bool false, .string ⟨#[]⟩] 37 (0, 0)) by rw [hW]; exact (malloc_old _ _ (by simp)).trans (malloc_new w _))
  have BB := Lib.hid (show W.heap[w.heap.size + 1]? = some (.cells #[.string ⟨#[]⟩, .int .u64 0, .bool false, .string ⟨#[]⟩] 37 (0, 0)) by rw [hW]; have := malloc_new (w.alloc (.cells #[.string ⟨#[]⟩, .int .u64 0, .bool false, .string ⟨#[]⟩] 37)) (.cells #[.string ⟨#[]⟩, .int .u64 0, .bool false, .string ⟨#[]⟩] 37); rwa [malloc_size] at this)
  have PC := Lib.hid (fun (W' : World) (g : Kept W W') => blk_cell (mblk_kept HB.out (kept_trans KW0.out g)) 1)
  clear hW
  go_region_held3 (fun w' => w'.cell? ⟨p, 1, none⟩ = some (.slice A (n' + 1) c))
    (first | exact PC.out _ (kept_trans (kept_drewN W 1) (kept_trans g5 g6)) | exact PC.out _ (kept_trans (kept_drewN W 1) (kept_trans g6 g5)) | exact PC.out _ (kept_trans (kept_drewN W 1) g5) | exact PC.out _ (kept_trans (kept_drewN W 1) g6) | exact PC.out _ (kept_drewN W 1) | exact PC.out _ (Kept.refl _))
    (first
      | (go_at_call_of 49 (Value.int .i64 0); refine (R1.out _ (by first | exact kept_trans KW0.out (kept_trans (kept_drewN W 1) g6) | exact kept_trans KW0.out (kept_drewN W 1))).mono ?_; rintro e w5 ⟨B5, c5, rfl, hel5, g5⟩)
      | (go_at_call_of 49 (Value.int .i64 (n' : Nat)); refine (R2.out _ (by first | exact kept_trans KW0.out (kept_trans (kept_drewN W 1) g5) | exact kept_trans KW0.out (kept_drewN W 1))).mono ?_; rintro e w6 ⟨B6, c6, rfl, hel6, g6⟩))
  obtain ⟨b1, o1, rfl, hb1, x0, x1, x2, x3⟩ := (hel5.els.kept g6) 0 x E1.out
  obtain ⟨b2, o2, rfl, hb2, y0, y1, y2, y3⟩ := hel6.els m' y E2.out
  have nb1 := hel5.new b1 o1 rfl
  have nb2 := hel6.new b2 o2 rfl
  have nw := mheap_lt BB.out
  have nw5 := Below.size g5
  simp only [show W.drew.heap.size = W.heap.size from rfl] at nb1 nw5
  have na1 : b1 ≠ w.heap.size := by omega
  have na2 : b2 ≠ w.heap.size := by omega
  have na3 : b1 ≠ w.heap.size + 1 := by omega
  have na4 : b2 ≠ w.heap.size + 1 := by omega
  have GF := Lib.hid (kept_trans KW0.out (kept_trans (kept_drewN W 1) (kept_trans g5 g6)))
  have RA := Lib.hid (mblk_kept BA.out (kept_trans (kept_drewN W 1) (kept_trans g5 g6)))
  have RB := Lib.hid (mblk_kept BB.out (kept_trans (kept_drewN W 1) (kept_trans g5 g6)))
  have a0 := blk_cell RA.out 0; have a1 := blk_cell RA.out 1; have a2 := blk_cell RA.out 2; have a3 := blk_cell RA.out 3
  have d0 := blk_cell RB.out 0; have d1 := blk_cell RB.out 1; have d2 := blk_cell RB.out 2; have d3 := blk_cell RB.out 3
  have f0 := blk_soft RA.out 0; have f1 := blk_soft RA.out 1; have f2 := blk_soft RA.out 2; have f3 := blk_soft RA.out 3
  have k0 := blk_soft RB.out 0; have k1 := blk_soft RB.out 1; have k2 := blk_soft RB.out 2; have k3 := blk_soft RB.out 3
  simp only [List.getElem?_toArray, List.getElem?_cons_zero, List.getElem?_cons_succ] at a0 a1 a2 a3 d0 d1 d2 d3
  simp only [Nat.zero_mul, Nat.add_zero] at x0 x1 x2 x3
  clear nb1 nb2 nw nw5 hel5 hel6 g5 g6 PC R1 R2 HB HM
  go_wp2_with fail
  go_region
  go_wp2_with fail
  have hne : w.heap.size ≠ w.heap.size + 1 := by omega
  have hA := mset_ne (mset_ne (mset_ne (mset_ne (mset (mset (mset (mset RA.out 0 (.string (bs x.key))) 1 (.int .u64 (x.seq : Nat))) 2 (.bool x.del)) 3 (.string (bs x.val))) hne 0 (.string (bs y.key))) hne 1 (.int .u64 (y.seq : Nat))) hne 2 (.bool y.del)) hne 3 (.string (bs y.val))
  have hB := mset (mset (mset (mset (mset_ne (mset_ne (mset_ne (mset_ne RB.out hne.symm 0 (.string (bs x.key))) hne.symm 1 (.int .u64 (x.seq : Nat))) hne.symm 2 (.bool x.del)) hne.symm 3 (.string (bs x.val))) 0 (.string (bs y.key))) 1 (.int .u64 (y.seq : Nat))) 2 (.bool y.del)) 3 (.string (bs y.val))
  have z0 := blk_cell hA 0; have z1 := blk_cell hA 1; have z2 := blk_cell hA 2; have z3 := blk_cell hA 3
  have v0 := blk_cell hB 0; have v1 := blk_cell hB 1; have v2 := blk_cell hB 2; have v3 := blk_cell hB 3
  simp only [List.setIfInBounds_toArray, List.set_cons_zero, List.set_cons_succ, List.getElem?_toArray, List.getElem?_cons_zero, List.getElem?_cons_succ] at z0 z1 z2 z3 v0 v1 v2 v3
  refine bodyPost_ret (v := .tuple #[entV x, entV y]) (by simp [results, Try.results16, entV, go_sem, z0, z1, z2, z3, v0, v1, v2, v3]) rfl ⟨rfl, ?_⟩
  exact kept_trans (fin4 (fin4 GF.out (Nat.le_refl _)) (Nat.le_succ _)) (kept_drewN _ 1)
theorem tfrom_any {w : World} {p : Nat} {l : List Mm.Ent} (h : IsTb w p (Tb.tv l)) (hT : Tb.isT l = true) (k : List UInt8) (n : Int) (n1 : -9223372036854775808 ≤ n) (n2 : n ≤ 9223372036854775807) :
    Calls Try.prog 20 #[.pointer (some ⟨p, 0, none⟩), .string (bs k), .int .i64 n] w fun e w' => ∃ B c, e = .returned (.slice B (Tb.frm l k n.toNat).length c) ∧ Elr w.heap.size w' B c (Tb.frm l k n.toNat) ∧ Kept w w' := by
  obtain ⟨i0, hi, hz0, hz1, hz2⟩ := info_parts mentInfo
  obtain ⟨A, c, hb, hp⟩ := h.blk
  have hil := h.il
  rw [Tb.tv_len] at hb hil
  have hl500 := (Tb.isT_iff.1 hT).2.1
  have HF := Lib.hid (tfirst_any c hp (by rw [Tb.tv_len]; exact hil) (Tb.tv_mono hT) k 18446744073709551615)
  rw [Tb.tv_len] at HF
  have HT := Lib.hid hT
  have HIS := Lib.hid h
  have HB := Lib.hid hb
  have HI := Lib.hid hi; have HZ0 := Lib.hid hz0; have HZ1 := Lib.hid hz1; have HZ2 := Lib.hid hz2
  have p1 := blk_cell hb 1
  simp only [List.getElem?_toArray, List.getElem?_cons_zero, List.getElem?_cons_succ] at p1
  have hpl := mheap_lt hb
  obtain ⟨N, hN⟩ : ∃ N, N = n.toNat := ⟨_, rfl⟩
  rw [← hN]
  have HFN := Lib.hid (show ∀ m : Nat, (((Tb.FL l k N m).length : Nat) : Int) < n ↔ (Tb.FL l k N m).length < N from fun m => by omega)
  have HNB := Lib.hid (show ∀ i : Nat, Tb.nb l ≤ i → l.length ≤ 8 * i from fun i hi => by unfold Tb.nb at hi; omega)
  obtain ⟨nb, hnb⟩ : ∃ nb, nb = Tb.nb l := ⟨_, rfl⟩
  rw [← hnb] at p1 hil HF HNB HB
  have HNQ := Lib.hid hnb
  clear hi hz0 hz1 hz2 hb hp h hT hN hnb
  go_enter Try.func20, Try.ntmps20
  go_wp2_with fail
  refine HF.out.mono ?_
  rintro e w1 ⟨i, rfl, hat, g1⟩
  have HST := Lib.hid (Tb.FL_none (N := N) HT.out hat)
  have hi0 := hat.1
  rw [Tb.tv_len, ← HNQ.out] at hi0
  have G1 := Lib.hid g1
  clear hat g1 HF
  go_wp2_with fail
  go_loopw [7, 8] (fun v t wr => ∃ i : Nat, i ≤ nb ∧ t = .int .i64 i ∧ Hid (wr.ownsRow w.heap.size 37 4 v (Tb.FL l k N (8 * i)).length (elc (Tb.FL l k N (8 * i)))) ∧ Hid (Kept w wr)) (fun v t _ => nb - (intOf t).toNat)
  case atStart => exact ⟨i, hi0, rfl, Lib.hid (by rw [HST.out]; exact World.ownsRow_nil _ _ _ _), G1⟩
  case round =>
    obtain ⟨i, hi, rfl, HO, HK⟩ := hrel
    have pr1 := blk_cell (mblk_kept HB.out HK.out) 1
    simp only [List.getElem?_toArray, List.getElem?_cons_zero, List.getElem?_cons_succ] at pr1
    have hsz := Below.size HK.out
    have hFl := Tb.FL_len l k N (8 * i)
    have hnil := HO.out
    obtain ⟨B0, c0, rfl, _, hel0⟩ := els_own hnil
    have HEL0 := Lib.hid hel0
    clear hnil hel0
    by_cases hlt : i < nb
    · have d1 : decide ((i : Int) < (nb : Int)) = true := decide_eq_true (by omega)
      by_cases hf : (Tb.FL l k N (8 * i)).length < N
      · have d2 : decide (((Tb.FL l k N (8 * i)).length : Int) < n) = true := decide_eq_true ((HFN.out _).2 hf)
        have hrd := tread2_any (HIS.out.kept HK.out) (Tb.tv_get (l := l) (i := i) (by have := HNQ.out; omega))
        rw [Tb.tv_rd HT.out (by have := HNQ.out; omega)] at hrd
        have HRD := Lib.hid hrd
        have hm8 : (Tb.bl l i).length ≤ 8 := by rw [Tb.bl_len]; omega
        have HBE := Lib.hid (Tb.FL_block (l := l) (k := k) (N := N) (i := i))
        have HGE := Lib.hid (fun j (hj : j < 8) => Tb.bl_get l i j hj)
        clear hrd hf HEL0
        generalize Tb.bl l i = Q at *
        go_wp2_with fail
        refine HRD.out.mono ?_
        rintro e w2 ⟨B1, c1, rfl, hel, g2⟩
        have HQ := Lib.hid hel.els
        have HAP0 := Lib.hid (show ∀ r, (Value.slice B0 (Tb.FL l k N (8 * i)).length c0).ownBlock = some r → ∀ b o, B1 = some ⟨b, o, none⟩ → r ≠ b from fun r hr b o e => by
          have := (HO.out.lt r hr).2
          have := hel.new b o e
          omega)
        have HK2 := Lib.hid (kept_trans HK.out g2)
        have HO2 := Lib.hid (own_kept HO.out g2)
        clear hel g2 HRD HO pr1 p1 d1 d2
        go_wp2_with fail
        go_loopw [7, 36] (fun v t wr => ∃ j : Nat, j ≤ Q.length ∧ t = .int .i64 j ∧ Hid (wr.ownsRow w.heap.size 37 4 v (Tb.FL l k N (8 * i + j)).length (elc (Tb.FL l k N (8 * i + j)))) ∧ Hid (Kept w wr) ∧ Hid (Els wr B1 Q) ∧ Hid (∀ r, v.ownBlock = some r → ∀ b o, B1 = some ⟨b, o, none⟩ → r ≠ b)) (fun v t _ => Q.length - (intOf t).toNat)
        case atStart => exact ⟨0, Nat.zero_le _, rfl, HO2, HK2, HQ, HAP0⟩
        case round =>
          obtain ⟨j, hj, rfl, HOj, HKj, HQj, HAj⟩ := hrel
          by_cases hjl : j < Q.length
          · obtain ⟨x, hx⟩ : ∃ x, Q[j]? = some x := ⟨_, List.getElem?_eq_getElem hjl⟩
            have hxl : l[8 * i + j]? = some x := by rw [← HGE.out j (by omega)]; exact hx
            have hst := Tb.FL_step (k := k) (N := N) hxl
            obtain ⟨b, o, rfl, hbb, q0, q1, q2, q3⟩ := HQj.out j x hx
            have hszj := Below.size HKj.out
            have hFj := Tb.FL_len l k N (8 * i + j)
            have hFn := HFN.out (8 * i + j)
            have hoj := HOj.out
            obtain ⟨Bj, cj, rfl, _, _⟩ := els_own hoj
            clear hoj hx hxl
            cases hk : decide (x.key < k) with
            | true =>
              have kb : Op.bytesLess (bs x.key).toList (bs k).toList = true := by rw [mbs_less, hk]
              have hkp : Tb.keyP k x = false := by unfold Tb.keyP; rw [hk]; rfl
              rw [hkp, if_neg (by simp), List.append_nil] at hst
              have HN := Lib.hid (show (wr.alloc (.cells #[.string (bs x.key), .int .u64 (x.seq : Nat), .bool x.del, .string (bs x.val)] 37)).ownsRow w.heap.size 37 4 (.slice Bj (Tb.FL l k N (8 * i + j)).length cj) (Tb.FL l k N (8 * i + (j + 1))).length (elc (Tb.FL l k N (8 * i + (j + 1)))) by rw [← Nat.add_assoc, hst]; exact HOj.out.alloc _)
              clear hst hk hkp hFn
              go_wp2_with fail
              go_roundw
              case rel => exact ⟨j + 1, by omega, by go_num, HN, Lib.hid (HKj.out.alloc _), Lib.hid (HQj.out.kept ((Kept.refl _).alloc _)), HAj⟩
              case measure => simp [intOf]; omega
            | false =>
              have kb : Op.bytesLess (bs x.key).toList (bs k).toList = false := by rw [mbs_less, hk]
              have hkp : Tb.keyP k x = true := by unfold Tb.keyP; rw [hk]; rfl
              by_cases hr : (Tb.FL l k N (8 * i + j)).length < N
              · have d3 : decide (((Tb.FL l k N (8 * i + j)).length : Int) < n) = true := decide_eq_true (hFn.2 hr)
                rw [hkp, if_pos ⟨rfl, hr⟩] at hst
                have HST2 := Lib.hid hst
                clear hst hk hkp hFn hr
                generalize hX : Tb.FL l k N (8 * i + j) = X at *
                have HX := Lib.hid hX
                clear hX
                go_wp2_with (at_builtin; go_loud (refine wpList_append_lies _ rfl _ _ 22 rfl w.heap.size 37 i0 zentV 4 48 Try.underlying22 HI.out HZ0.out HZ1.out HZ2.out rfl (by decide) _ X.length (elc X) rfl ((HOj.out.alloc _).alloc _) ⟨wr.heap.size + 1, 0, none⟩ 1 1 [.string (bs x.key), .int .u64 (x.seq : Nat), .bool x.del, .string (bs x.val)] rfl rfl (mcells_new4 _ _ _ _ _ _ _ (by simp)) (by simp [Value.oneCell']) (by omega) (by unfold maxLen; omega) (by omega) (by simp; omega) (wr.heap.size + 2) (by simp) ?_))
                intro g1 cap1 w3 hown hg hlie hlt1
                have hrow := fun b hb => (HOj.out.lt b hb).1
                have HO3 := Lib.hid (show w3.ownsRow w.heap.size 37 4 (.slice (some ⟨g1, 0, none⟩) (X.length + 1) cap1) (Tb.FL l k N (8 * i + (j + 1))).length (elc (Tb.FL l k N (8 * i + (j + 1)))) by
                  rw [← Nat.add_assoc, HST2.out, List.length_append, elc_snoc]; exact hown)
                have HK3 := Lib.hid (show Kept w w3 from Below.grown ((HKj.out.alloc _).alloc _) hg (by simp; have := Below.size HKj.out; omega) hrow)
                have HQ3 := Lib.hid (els_grown (HQj.out.kept (((Kept.refl wr).alloc _).alloc _)) hg (fun b' o' e q => HAj.out b' q b' o' e rfl))
                have HA3 := Lib.hid (show ∀ r, (Value.slice (some ⟨g1, 0, none⟩) (X.length + 1) cap1).ownBlock = some r → ∀ b' o', some (⟨b, o, none⟩ : Addr) = some ⟨b', o', none⟩ → r ≠ b' from fun r hr b' o' e => by
                  have h1 : g1 = r := by simpa [Value.ownBlock] using hr
                  rcases hlie with q | q
                  · exact HAj.out r (h1 ▸ q) b' o' e
                  · cases e; omega)
                clear hown hg hrow HOj HST2 hlie
                go_wp2_with fail
                go_roundw
                case rel => exact ⟨j + 1, by omega, by go_num, HO3, HK3, HQ3, HA3⟩
                case measure => simp [intOf]; omega
              · have d3 : decide (((Tb.FL l k N (8 * i + j)).length : Int) < n) = false := decide_eq_false (fun q => hr (hFn.1 q))
                rw [if_neg (fun q => hr q.2), List.append_nil] at hst
                have HN := Lib.hid (show (wr.alloc (.cells #[.string (bs x.key), .int .u64 (x.seq : Nat), .bool x.del, .string (bs x.val)] 37)).ownsRow w.heap.size 37 4 (.slice Bj (Tb.FL l k N (8 * i + j)).length cj) (Tb.FL l k N (8 * i + (j + 1))).length (elc (Tb.FL l k N (8 * i + (j + 1)))) by rw [← Nat.add_assoc, hst]; exact HOj.out.alloc _)
                clear hst hk hkp hFn hr
                go_wp2_with fail
                go_roundw
                case rel => exact ⟨j + 1, by omega, by go_num, HN, Lib.hid (HKj.out.alloc _), Lib.hid (HQj.out.kept ((Kept.refl _).alloc _)), HAj⟩
                case measure => simp [intOf]; omega
          · have e : j = Q.length := by omega
            subst e
            have ho := HOj.out
            rw [HBE.out] at ho
            have HN := Lib.hid ho
            clear ho HOj
            go_wp2_with fail
            go_roundw
            case rel => exact ⟨i + 1, by omega, by go_num, HN, HKj⟩
            case measure => simp [intOf]; omega
      · have d2 : decide (((Tb.FL l k N (8 * i)).length : Int) < n) = false := decide_eq_false (fun q => hf ((HFN.out _).1 q))
        have HE := Lib.hid (Tb.FL_full hf)
        clear hf
        go_wp2_with fail
        go_ret
        exact ⟨B0, c0, by rw [← HE.out]; rfl, by rw [← HE.out]; exact HEL0.out, HK.out⟩
    · have d1 : decide ((i : Int) < (nb : Int)) = false := decide_eq_false (by omega)
      have HE := Lib.hid (Tb.FL_all (k := k) (N := N) (HNB.out i (by omega)))
      go_wp2_with fail
      go_ret
      exact ⟨B0, c0, by rw [← HE.out]; rfl, by rw [← HE.out]; exact HEL0.out, HK.out⟩
end Go.Proofs.Ytecjnebfhbdnaaa
