/-
  Several small texts as one.
-/
import Derived.Test.YtnnmalpnjlnnlaaGreatPackLvR
import Derived.Test.YtnnmalpnjlnnlaaGreatPackMem
import Derived.Deep.Slices
import Derived.Deep.Fields
import Derived.Deep.Grids
import Derived.ChangeSame
import Derived.OpenShut
/-
  The document's own: are metas, numbers, edits the same?
-/
namespace Go.Proofs.YtnnmalpnjlnnlaaGreat
open Go.ChangeShapes Go.WideShapes Go.ChangeAt Go.RowKit
set_option linter.unusedVariables false
set_option maxRecDepth 100000
set_option maxHeartbeats 8000000
open Lv
theorem mt_neq (x y : Meta) (W : World) : Sem.run Tryz.prog (binOp .neq 43 (.agg #[.int .u64 (x.file : Nat), .int .i64 x.size, .string (bs x.first), .string (bs x.last), .int .u64 (x.seq : Nat)]) (.agg #[.int .u64 (y.file : Nat), .int .i64 y.size, .string (bs y.first), .string (bs y.last), .int .u64 (y.seq : Nat)])) W = .ok (.bool (!decide (x = y))) W := by
  rw [run_neq_struct, run_equalIn_struct _ _ _ _ _ (by kernel_rfl) (by kernel_rfl)]
  simp [go_sem]
  by_cases h : x = y
  · subst h; simp
  · have : ¬ (x.file = y.file ∧ x.size = y.size ∧ x.first = y.first ∧ x.last = y.last ∧ x.seq = y.seq) := fun hc => h ((meta_eq x y).1 hc)
    rw [lvbs_list, lvbs_list, lvbs_list, lvbs_list]
    rw [decide_eq_false h]
    by_cases h1 : x.file = y.file <;> by_cases h2 : x.size = y.size <;> by_cases h3 : x.first = y.first <;> by_cases h4 : x.last = y.last <;> by_cases h5 : x.seq = y.seq <;> simp_all <;> omega
theorem take_eq {α : Type} {l m : List α} {k : Nat} {x y : α} (h : l.take k = m.take k) (hx : l[k]? = some x) (hy : m[k]? = some y) (e : x = y) : l.take (k + 1) = m.take (k + 1) := by
  rw [List.take_add_one, List.take_add_one, h, hx, hy, e]
theorem lvrsm_any {A B : Option Addr} {l m : List Meta} {w : World} (hA : Mts w A l) (hB : Mts w B m) (hl : l.length ≤ 100000) (hm : m.length ≤ 100000) (c d : Nat) :
    Calls Tryz.prog 21 #[.slice A l.length c, .slice B m.length d] w fun e w' => e = .returned (.bool (decide (l = m))) ∧ Kept w w' := by
  have HA := Lib.hid (fun W (hW : Kept w W) => hA.kept hW)
  have HB := Lib.hid (fun W (hW : Kept w W) => hB.kept hW)
  clear hA hB
  by_cases hlen : l.length = m.length
  · obtain ⟨n, hn⟩ : ∃ n, n = m.length := ⟨_, rfl⟩
    have hln : l.length = n := by omega
    have HN := Lib.hid (show m.length = n from hn.symm)
    have HLN := Lib.hid hln
    rw [hln, ← hn]
    have hnb : n ≤ 100000 := by omega
    clear hl hm hlen hn hln
    go_enter Tryz.func21, Tryz.ntmps21
    go_wp2_with fail
    go_loopw [5] (fun t wr => ∃ k : Nat, k ≤ n ∧ t = .int .i64 k ∧ Hid (l.take k = m.take k) ∧ Hid (Kept w wr)) (fun t _ => n - (intOf t).toNat)
    case atStart => exact ⟨0, Nat.zero_le _, rfl, Lib.hid rfl, Lib.hid (Kept.refl _)⟩
    case round =>
      obtain ⟨k, hk, rfl, HT, HK⟩ := hrel
      by_cases hlt : k < n
      · have d1 : decide ((k : Int) < (n : Int)) = true := decide_eq_true (by omega)
        obtain ⟨x, hx⟩ : ∃ x, l[k]? = some x := ⟨_, List.getElem?_eq_getElem (by rw [HLN.out]; exact hlt)⟩
        obtain ⟨y, hy⟩ : ∃ y, m[k]? = some y := ⟨_, List.getElem?_eq_getElem (by rw [HN.out]; exact hlt)⟩
        obtain ⟨b, o, rfl, hb, _⟩ := HA.out w (Kept.refl _) k x hx
        obtain ⟨b2, o2, rfl, hb2, _⟩ := HB.out w (Kept.refl _) k y hy
        have HX := Lib.hid (fun W (hW : Kept w W) => mt_at (HA.out W hW k x hx))
        have HY := Lib.hid (fun W (hW : Kept w W) => mt_at (HB.out W hW k y hy))
        have HXY := Lib.hid (fun e : x = y => take_eq HT.out hx hy e)
        have HNE := Lib.hid (fun (e : x ≠ y) => show l ≠ m from fun he => by subst he; rw [hx] at hy; cases hy; exact e rfl)
        have hq := mt_neq x y
        clear hx hy HT
        go_upto_region 6 with fail
        -- REGION RSm BEGIN
        refine wp_region_held_drew (S := fun W => KV w W) (by kernel_rfl) ⟨kept_trans HK.out (kept_drewN _ 1)⟩ (fun hHeld => ?_)
        refine wpAnyH_take (i := 0) (v := (.slice (some ⟨b, o, none⟩) n c)) (List.getElem?_toArray.trans rfl) (by kernel_rfl) (by kernel_rfl) (by kernel_rfl) (fun _ _ _ h => h) (Or.inl ⟨by rfl, ?_⟩) (by assumption) ?_
        · intro W hSw
          first | rfl | (go_simp; done) | (go_simp; rfl)
        simp only [Act.put, List.setIfInBounds_toArray, List.set_cons_zero, List.set_cons_succ]
        refine wpAnyH_take (i := 1) (v := (.int .i64 (k : Nat))) (List.getElem?_toArray.trans rfl) (by kernel_rfl) (by kernel_rfl) (by kernel_rfl) (fun _ _ _ h => h) (Or.inl ⟨by rfl, ?_⟩) (by assumption) ?_
        · intro W hSw
          first | rfl | (go_simp; done) | (go_simp; rfl)
        simp only [Act.put, List.setIfInBounds_toArray, List.set_cons_zero, List.set_cons_succ]
        refine wpAnyH_take (i := 2) (v := (.pointer (some ⟨b, o + k * 5, none⟩))) (List.getElem?_toArray.trans rfl) (by kernel_rfl) (by kernel_rfl) (by kernel_rfl) (fun _ _ _ h => h) (Or.inl ⟨by rfl, ?_⟩) (by assumption) ?_
        · intro W hSw
          first | rfl | (go_simp; done) | (go_simp; rfl)
        simp only [Act.put, List.setIfInBounds_toArray, List.set_cons_zero, List.set_cons_succ]
        refine wpAnyH_take (i := 3) (v := (.agg #[.int .u64 (x.file : Nat), .int .i64 x.size, .string (bs x.first), .string (bs x.last), .int .u64 (x.seq : Nat)])) (List.getElem?_toArray.trans rfl) (by kernel_rfl) (by kernel_rfl) (by kernel_rfl) (fun _ _ _ h => h) (Or.inl ⟨by rfl, ?_⟩) (by assumption) ?_
        · intro W hSw
          obtain ⟨q0, q1, q2, q3, q4⟩ := HX.out W hSw.k
          first | (go_simp; done) | (go_simp; rfl)
        simp only [Act.put, List.setIfInBounds_toArray, List.set_cons_zero, List.set_cons_succ]
        refine wpAnyH_take (i := 4) (v := (.slice (some ⟨b2, o2, none⟩) n d)) (List.getElem?_toArray.trans rfl) (by kernel_rfl) (by kernel_rfl) (by kernel_rfl) (fun _ _ _ h => h) (Or.inl ⟨by rfl, ?_⟩) (by assumption) ?_
        · intro W hSw
          first | rfl | (go_simp; done) | (go_simp; rfl)
        simp only [Act.put, List.setIfInBounds_toArray, List.set_cons_zero, List.set_cons_succ]
        refine wpAnyH_take (i := 5) (v := (.int .i64 (k : Nat))) (List.getElem?_toArray.trans rfl) (by kernel_rfl) (by kernel_rfl) (by kernel_rfl) (fun _ _ _ h => h) (Or.inl ⟨by rfl, ?_⟩) (by assumption) ?_
        · intro W hSw
          first | rfl | (go_simp; done) | (go_simp; rfl)
        simp only [Act.put, List.setIfInBounds_toArray, List.set_cons_zero, List.set_cons_succ]
        refine wpAnyH_take (i := 6) (v := (.pointer (some ⟨b2, o2 + k * 5, none⟩))) (List.getElem?_toArray.trans rfl) (by kernel_rfl) (by kernel_rfl) (by kernel_rfl) (fun _ _ _ h => h) (Or.inl ⟨by rfl, ?_⟩) (by assumption) ?_
        · intro W hSw
          first | rfl | (go_simp; done) | (go_simp; rfl)
        simp only [Act.put, List.setIfInBounds_toArray, List.set_cons_zero, List.set_cons_succ]
        refine wpAnyH_take (i := 7) (v := (.agg #[.int .u64 (y.file : Nat), .int .i64 y.size, .string (bs y.first), .string (bs y.last), .int .u64 (y.seq : Nat)])) (List.getElem?_toArray.trans rfl) (by kernel_rfl) (by kernel_rfl) (by kernel_rfl) (fun _ _ _ h => h) (Or.inl ⟨by rfl, ?_⟩) (by assumption) ?_
        · intro W hSw
          obtain ⟨q0, q1, q2, q3, q4⟩ := HY.out W hSw.k
          first | (go_simp; done) | (go_simp; rfl)
        simp only [Act.put, List.setIfInBounds_toArray, List.set_cons_zero, List.set_cons_succ]
        refine wpAnyH_take (i := 8) (v := (.bool (!decide (x = y)))) (List.getElem?_toArray.trans rfl) (by kernel_rfl) (by kernel_rfl) (by kernel_rfl) (fun _ _ _ h => h) (Or.inl ⟨by rfl, ?_⟩) (by assumption) ?_
        · intro W hSw
          first | rfl | (go_simp; done) | (go_simp; rfl)
        simp only [Act.put, List.setIfInBounds_toArray, List.set_cons_zero, List.set_cons_succ]
        refine wpAnyH_done (by kernel_rfl) ?_ _
        have HH := Lib.hid hHeld.k
        by_cases hxy : x = y
        · rw [decide_eq_true hxy]
          go_wp2_with fail
          go_roundw
          case rel => exact ⟨k + 1, by omega, by go_num, Lib.hid (HXY.out hxy), HH⟩
          case measure => simp [intOf]; omega
        · rw [decide_eq_false hxy]
          have HNN := Lib.hid (HNE.out hxy)
          clear hxy
          go_wp2_with fail
          go_ret
          exact ⟨by rw [decide_eq_false HNN.out]; rfl, HH.out⟩
        -- REGION RSm END
      · obtain rfl : k = n := by omega
        have d1 : decide ((k : Int) < (k : Int)) = false := decide_eq_false (by omega)
        have he : l = m := by
          have := HT.out
          rw [List.take_of_length_le (by rw [HLN.out]; exact Nat.le_refl _), List.take_of_length_le (by rw [HN.out]; exact Nat.le_refl _)] at this
          exact this
        have HE := Lib.hid he
        clear he
        go_wp2_with fail
        go_ret
        exact ⟨by rw [decide_eq_true HE.out]; rfl, HK.out⟩
  · have d1 : (((l.length : Nat) : Int) == ((m.length : Nat) : Int)) = false := by simp; omega
    have d2 : (((l.length : Nat) : Int) != ((m.length : Nat) : Int)) = true := by simp; omega
    have HE := Lib.hid (show l ≠ m from fun e => hlen (by rw [e]))
    go_enter Tryz.func21, Tryz.ntmps21
    go_wp2_with fail
    go_ret
    exact ⟨by rw [decide_eq_false HE.out]; rfl, Kept.refl _⟩
theorem nu_at {W : World} {b o : Nat} {q x : Nat} (h : ∃ b' o', (some ⟨b, o, none⟩ : Option Addr) = some ⟨b', o', none⟩ ∧ b' < W.heap.size ∧ W.cell? ⟨b', o' + q, none⟩ = some (.int .u64 (x : Nat))) : W.cell? ⟨b, o + q, none⟩ = some (.int .u64 (x : Nat)) := by
  obtain ⟨b', o', e, _, h⟩ := h
  cases e; exact h
theorem lvrsn_any {A B : Option Addr} {l m : List Nat} {w : World} (hA : Nus w A l) (hB : Nus w B m) (hl : l.length ≤ 100000) (hm : m.length ≤ 100000) (c d : Nat) :
    Calls Tryz.prog 50 #[.slice A l.length c, .slice B m.length d] w fun e w' => e = .returned (.bool (decide (l = m))) ∧ Kept w w' := by
  have HA := Lib.hid (fun W (hW : Kept w W) => hA.kept hW)
  have HB := Lib.hid (fun W (hW : Kept w W) => hB.kept hW)
  clear hA hB
  by_cases hlen : l.length = m.length
  · obtain ⟨n, hn⟩ : ∃ n, n = m.length := ⟨_, rfl⟩
    have hln : l.length = n := by omega
    have HN := Lib.hid (show m.length = n from hn.symm)
    have HLN := Lib.hid hln
    rw [hln, ← hn]
    have hnb : n ≤ 100000 := by omega
    clear hl hm hlen hn hln
    go_enter Tryz.func50, Tryz.ntmps50
    go_wp2_with fail
    go_loopw [5] (fun t wr => ∃ k : Nat, k ≤ n ∧ t = .int .i64 k ∧ Hid (l.take k = m.take k) ∧ Hid (Kept w wr)) (fun t _ => n - (intOf t).toNat)
    case atStart => exact ⟨0, Nat.zero_le _, rfl, Lib.hid rfl, Lib.hid (Kept.refl _)⟩
    case round =>
      obtain ⟨k, hk, rfl, HT, HK⟩ := hrel
      by_cases hlt : k < n
      · have d1 : decide ((k : Int) < (n : Int)) = true := decide_eq_true (by omega)
        obtain ⟨x, hx⟩ : ∃ x, l[k]? = some x := ⟨_, List.getElem?_eq_getElem (by rw [HLN.out]; exact hlt)⟩
        obtain ⟨y, hy⟩ : ∃ y, m[k]? = some y := ⟨_, List.getElem?_eq_getElem (by rw [HN.out]; exact hlt)⟩
        obtain ⟨b, o, rfl, hb, _⟩ := HA.out w (Kept.refl _) k x hx
        obtain ⟨b2, o2, rfl, hb2, _⟩ := HB.out w (Kept.refl _) k y hy
        have HX := Lib.hid (fun W (hW : Kept w W) => nu_at (HA.out W hW k x hx))
        have HY := Lib.hid (fun W (hW : Kept w W) => nu_at (HB.out W hW k y hy))
        have HXY := Lib.hid (fun e : x = y => take_eq HT.out hx hy e)
        have HNE := Lib.hid (fun (e : x ≠ y) => show l ≠ m from fun he => by subst he; rw [hx] at hy; cases hy; exact e rfl)
        obtain ⟨bv, hbv⟩ : ∃ bv, ((x : Int) != (y : Int)) = bv := ⟨_, rfl⟩
        have HBV := Lib.hid (show bv = !decide (x = y) from by rw [← hbv]; by_cases e : x = y <;> simp [e]; omega)
        clear hx hy HT
        go_upto_region 6 with fail
        -- REGION RSn BEGIN
        refine wp_region_held_drew (S := fun W => KV w W) (by kernel_rfl) ⟨kept_trans HK.out (kept_drewN _ 1)⟩ (fun hHeld => ?_)
        refine wpAnyH_take (i := 0) (v := (.slice (some ⟨b, o, none⟩) n c)) (List.getElem?_toArray.trans rfl) (by kernel_rfl) (by kernel_rfl) (by kernel_rfl) (fun _ _ _ h => h) (Or.inl ⟨by rfl, ?_⟩) (by assumption) ?_
        · intro W hSw
          first | rfl | (go_simp; done) | (go_simp; rfl)
        simp only [Act.put, List.setIfInBounds_toArray, List.set_cons_zero, List.set_cons_succ]
        refine wpAnyH_take (i := 1) (v := (.int .i64 (k : Nat))) (List.getElem?_toArray.trans rfl) (by kernel_rfl) (by kernel_rfl) (by kernel_rfl) (fun _ _ _ h => h) (Or.inl ⟨by rfl, ?_⟩) (by assumption) ?_
        · intro W hSw
          first | rfl | (go_simp; done) | (go_simp; rfl)
        simp only [Act.put, List.setIfInBounds_toArray, List.set_cons_zero, List.set_cons_succ]
        refine wpAnyH_take (i := 2) (v := (.pointer (some ⟨b, o + k, none⟩))) (List.getElem?_toArray.trans rfl) (by kernel_rfl) (by kernel_rfl) (by kernel_rfl) (fun _ _ _ h => h) (Or.inl ⟨by rfl, ?_⟩) (by assumption) ?_
        · intro W hSw
          first | rfl | (go_simp; done) | (go_simp; rfl)
        simp only [Act.put, List.setIfInBounds_toArray, List.set_cons_zero, List.set_cons_succ]
        refine wpAnyH_take (i := 3) (v := (.int .u64 (x : Nat))) (List.getElem?_toArray.trans rfl) (by kernel_rfl) (by kernel_rfl) (by kernel_rfl) (fun _ _ _ h => h) (Or.inl ⟨by rfl, ?_⟩) (by assumption) ?_
        · intro W hSw
          have q0 := HX.out W hSw.k
          first | (go_simp; done) | (go_simp; rfl)
        simp only [Act.put, List.setIfInBounds_toArray, List.set_cons_zero, List.set_cons_succ]
        refine wpAnyH_take (i := 4) (v := (.slice (some ⟨b2, o2, none⟩) n d)) (List.getElem?_toArray.trans rfl) (by kernel_rfl) (by kernel_rfl) (by kernel_rfl) (fun _ _ _ h => h) (Or.inl ⟨by rfl, ?_⟩) (by assumption) ?_
        · intro W hSw
          first | rfl | (go_simp; done) | (go_simp; rfl)
        simp only [Act.put, List.setIfInBounds_toArray, List.set_cons_zero, List.set_cons_succ]
        refine wpAnyH_take (i := 5) (v := (.int .i64 (k : Nat))) (List.getElem?_toArray.trans rfl) (by kernel_rfl) (by kernel_rfl) (by kernel_rfl) (fun _ _ _ h => h) (Or.inl ⟨by rfl, ?_⟩) (by assumption) ?_
        · intro W hSw
          first | rfl | (go_simp; done) | (go_simp; rfl)
        simp only [Act.put, List.setIfInBounds_toArray, List.set_cons_zero, List.set_cons_succ]
        refine wpAnyH_take (i := 6) (v := (.pointer (some ⟨b2, o2 + k, none⟩))) (List.getElem?_toArray.trans rfl) (by kernel_rfl) (by kernel_rfl) (by kernel_rfl) (fun _ _ _ h => h) (Or.inl ⟨by rfl, ?_⟩) (by assumption) ?_
        · intro W hSw
          first | rfl | (go_simp; done) | (go_simp; rfl)
        simp only [Act.put, List.setIfInBounds_toArray, List.set_cons_zero, List.set_cons_succ]
        refine wpAnyH_take (i := 7) (v := (.int .u64 (y : Nat))) (List.getElem?_toArray.trans rfl) (by kernel_rfl) (by kernel_rfl) (by kernel_rfl) (fun _ _ _ h => h) (Or.inl ⟨by rfl, ?_⟩) (by assumption) ?_
        · intro W hSw
          have q0 := HY.out W hSw.k
          first | (go_simp; done) | (go_simp; rfl)
        simp only [Act.put, List.setIfInBounds_toArray, List.set_cons_zero, List.set_cons_succ]
        refine wpAnyH_take (i := 8) (v := (.bool bv)) (List.getElem?_toArray.trans rfl) (by kernel_rfl) (by kernel_rfl) (by kernel_rfl) (fun _ _ _ h => h) (Or.inl ⟨by rfl, ?_⟩) (by assumption) ?_
        · intro W hSw
          first | rfl | (go_simp; done) | (go_simp; rfl)
        simp only [Act.put, List.setIfInBounds_toArray, List.set_cons_zero, List.set_cons_succ]
        refine wpAnyH_done (by kernel_rfl) ?_ _
        have HH := Lib.hid hHeld.k
        clear hbv
        by_cases hxy : x = y
        · have e : bv = false := by rw [HBV.out]; simp [hxy]
          subst e
          go_wp2_with fail
          go_roundw
          case rel => exact ⟨k + 1, by omega, by go_num, Lib.hid (HXY.out hxy), HH⟩
          case measure => simp [intOf]; omega
        · have e : bv = true := by rw [HBV.out]; simp [hxy]
          subst e
          have HNN := Lib.hid (HNE.out hxy)
          clear hxy
          go_wp2_with fail
          go_ret
          exact ⟨by rw [decide_eq_false HNN.out]; rfl, HH.out⟩
        -- REGION RSn END
      · obtain rfl : k = n := by omega
        have d1 : decide ((k : Int) < (k : Int)) = false := decide_eq_false (by omega)
        have he : l = m := by
          have := HT.out
          rw [List.take_of_length_le (by rw [HLN.out]; exact Nat.le_refl _), List.take_of_length_le (by rw [HN.out]; exact Nat.le_refl _)] at this
          exact this
        have HE := Lib.hid he
        clear he
        go_wp2_with fail
        go_ret
        exact ⟨by rw [decide_eq_true HE.out]; rfl, HK.out⟩
  · have d1 : (((l.length : Nat) : Int) == ((m.length : Nat) : Int)) = false := by simp; omega
    have d2 : (((l.length : Nat) : Int) != ((m.length : Nat) : Int)) = true := by simp; omega
    have HE := Lib.hid (show l ≠ m from fun e => hlen (by rw [e]))
    go_enter Tryz.func50, Tryz.ntmps50
    go_wp2_with fail
    go_ret
    exact ⟨by rw [decide_eq_false HE.out]; rfl, Kept.refl _⟩
theorem lvrsame_any {a b : Ed} {w : World} (ha : a.In w) (hb : b.In w) :
    Calls Tryz.prog 30 #[a.v, b.v] w fun e w' => ∃ B, e = .returned (.bool B) ∧ (B = true ↔ Lv.Alike a.edt b.edt) ∧ Kept w w' := by
  have HM := Lib.hid (fun W (hW : Kept w W) k (hk : k < 4) => lvrsm_any (w := W) ((ha.tab.mts k hk).kept hW) ((hb.tab.mts k hk).kept hW) (Nat.le_trans (ha.tl k hk) (by omega)) (Nat.le_trans (hb.tl k hk) (by omega)) (a.T k).c (b.T k).c)
  have HN := Lib.hid (fun W (hW : Kept w W) => lvrsn_any (w := W) (ha.gone.kept hW) (hb.gone.kept hW) (Nat.le_trans ha.gl (by omega)) (Nat.le_trans hb.gl (by omega)) a.c b.c)
  have HAL := Lib.hid (show Lv.Alike a.edt b.edt ↔ a.gone = b.gone ∧ (∀ l, l < 4 → (a.T l).l = (b.T l).l) ∧ a.nx = b.nx ∧ a.lg = b.lg ∧ a.sq = b.sq from Iff.rfl)
  obtain ⟨P, hP⟩ : ∃ P : Prop, P = Lv.Alike a.edt b.edt := ⟨_, rfl⟩
  rw [← hP] at HAL ⊢
  clear ha hb hP
  unfold Ed.v edv
  obtain ⟨A, c, gone, T, nx, lg, sq⟩ := a
  obtain ⟨A2, c2, gone2, U, nx2, lg2, sq2⟩ := b
  dsimp only at HM HN HAL ⊢
  have hTv : ∀ k, (T k).v = .slice (T k).A (T k).l.length (T k).c := fun _ => rfl
  have hUv : ∀ k, (U k).v = .slice (U k).A (U k).l.length (U k).c := fun _ => rfl
  simp only [← hTv, ← hUv] at HM
  clear hTv hUv
  obtain ⟨f, hf⟩ : ∃ f : Nat → Value, f = fun k => (T k).v := ⟨_, rfl⟩
  obtain ⟨g, hg⟩ : ∃ f : Nat → Value, f = fun k => (U k).v := ⟨_, rfl⟩
  have e0 : ∀ k, (T k).v = f k := fun k => by rw [hf]
  have e1 : ∀ k, (U k).v = g k := fun k => by rw [hg]
  simp only [e0, e1] at HM ⊢
  clear hf hg e0 e1
  obtain ⟨W0, hW0⟩ : ∃ W0, W0 = (w.alloc (.cells #[.slice A gone.length c, f 0, f 1, f 2, f 3, .int .u64 (nx : Nat), .int .u64 (lg : Nat), .int .u64 (sq : Nat)] 34)).alloc (.cells #[.slice A2 gone2.length c2, g 0, g 1, g 2, g 3, .int .u64 (nx2 : Nat), .int .u64 (lg2 : Nat), .int .u64 (sq2 : Nat)] 34) := ⟨_, rfl⟩
  have K0 := Lib.hid (show Kept w W0 by rw [hW0]; exact ((Kept.refl _).alloc _).alloc _)
  have BA := Lib.hid (fun W (hW : Kept W0 W) => hp_kept (show W0.heap[w.heap.size]? = some (.cells #[.slice A gone.length c, f 0, f 1, f 2, f 3, .int .u64 (nx : Nat), .int .u64 (lg : Nat), .int .u64 (sq : Nat)] 34 (0, 0)) by rw [hW0]; exact (malloc_old _ _ (by simp)).trans (malloc_new w _)) hW)
  have BB := Lib.hid (fun W (hW : Kept W0 W) => hp_kept (show W0.heap[w.heap.size + 1]? = some (.cells #[.slice A2 gone2.length c2, g 0, g 1, g 2, g 3, .int .u64 (nx2 : Nat), .int .u64 (lg2 : Nat), .int .u64 (sq2 : Nat)] 34 (0, 0)) by
    rw [hW0, show w.heap.size + 1 = (w.alloc (.cells #[.slice A gone.length c, f 0, f 1, f 2, f 3, .int .u64 (nx : Nat), .int .u64 (lg : Nat), .int .u64 (sq : Nat)] 34)).heap.size from by simp]; exact malloc_new _ _) hW)
  go_enter Tryz.func30, Tryz.ntmps30
  go_upto_region 1 with fail
  rw [← hW0]
  clear hW0
  go_wp2_with fail
  go_loopw [5] (fun t wr => ∃ k : Nat, k ≤ 4 ∧ t = .int .i64 k ∧ Hid (∀ l, l < k → (T l).l = (U l).l) ∧ Hid (Kept W0 wr)) (fun t _ => 4 - (intOf t).toNat)
  case atStart => exact ⟨0, Nat.zero_le _, rfl, Lib.hid (fun l hl => by omega), Lib.hid (Kept.refl _)⟩
  case round =>
    obtain ⟨k, hk, rfl, HT, HK⟩ := hrel
    by_cases hlt : k < 4
    · have d1 : decide ((k : Int) < 4) = true := decide_eq_true (by omega)
      have HMK := Lib.hid (fun W (hW : Kept w W) => HM.out W hW k hlt)
      have HC1 := Lib.hid (fun W (hW : Kept W0 W) => eight_at (BA.out W hW) k hlt)
      have HC2 := Lib.hid (fun W (hW : Kept W0 W) => eight_at (BB.out W hW) k hlt)
      obtain ⟨t, ht⟩ : ∃ t, t = decide ((T k).l = (U k).l) := ⟨_, rfl⟩
      have HTT := Lib.hid ht
      rw [← ht] at HMK
      clear ht
      go_upto_region 4 with fail
      -- REGION RSame BEGIN
      refine wp_region_held_drew (S := fun W => KV W0 W) (by kernel_rfl) ⟨kept_trans HK.out (kept_drewN _ 1)⟩ (fun hHeld => ?_)
      refine wpAnyH_take (i := 0) (v := (.int .i64 (k : Nat))) (List.getElem?_toArray.trans rfl) (by kernel_rfl) (by kernel_rfl) (by kernel_rfl) (fun _ _ _ h => h) (Or.inl ⟨by rfl, ?_⟩) (by assumption) ?_
      · intro W hSw
        first | rfl | (go_simp; done) | (go_simp; rfl)
      simp only [Act.put, List.setIfInBounds_toArray, List.set_cons_zero, List.set_cons_succ]
      refine wpAnyH_take (i := 1) (v := (.pointer (some ⟨w.heap.size, 1, none⟩))) (List.getElem?_toArray.trans rfl) (by kernel_rfl) (by kernel_rfl) (by kernel_rfl) (fun _ _ _ h => h) (Or.inl ⟨by rfl, ?_⟩) (by assumption) ?_
      · intro W hSw
        first | rfl | (go_simp; done) | (go_simp; rfl)
      simp only [Act.put, List.setIfInBounds_toArray, List.set_cons_zero, List.set_cons_succ]
      refine wpAnyH_take (i := 2) (v := (.pointer (some ⟨w.heap.size, 1 + k, none⟩))) (List.getElem?_toArray.trans rfl) (by kernel_rfl) (by kernel_rfl) (by kernel_rfl) (fun _ _ _ h => h) (Or.inl ⟨by rfl, ?_⟩) (by assumption) ?_
      · intro W hSw
        go_simp
        intro hh
        omega
      simp only [Act.put, List.setIfInBounds_toArray, List.set_cons_zero, List.set_cons_succ]
      refine wpAnyH_take (i := 3) (v := (f k)) (List.getElem?_toArray.trans rfl) (by kernel_rfl) (by kernel_rfl) (by kernel_rfl) (fun _ _ _ h => h) (Or.inl ⟨by rfl, ?_⟩) (by assumption) ?_
      · intro W hSw
        have q0 := HC1.out W hSw.k
        first | (go_simp; done) | (go_simp; rfl)
      simp only [Act.put, List.setIfInBounds_toArray, List.set_cons_zero, List.set_cons_succ]
      refine wpAnyH_take (i := 4) (v := (.int .i64 (k : Nat))) (List.getElem?_toArray.trans rfl) (by kernel_rfl) (by kernel_rfl) (by kernel_rfl) (fun _ _ _ h => h) (Or.inl ⟨by rfl, ?_⟩) (by assumption) ?_
      · intro W hSw
        first | rfl | (go_simp; done) | (go_simp; rfl)
      simp only [Act.put, List.setIfInBounds_toArray, List.set_cons_zero, List.set_cons_succ]
      refine wpAnyH_take (i := 5) (v := (.pointer (some ⟨(w.heap.size + 1), 1, none⟩))) (List.getElem?_toArray.trans rfl) (by kernel_rfl) (by kernel_rfl) (by kernel_rfl) (fun _ _ _ h => h) (Or.inl ⟨by rfl, ?_⟩) (by assumption) ?_
      · intro W hSw
        first | rfl | (go_simp; done) | (go_simp; rfl)
      simp only [Act.put, List.setIfInBounds_toArray, List.set_cons_zero, List.set_cons_succ]
      refine wpAnyH_take (i := 6) (v := (.pointer (some ⟨(w.heap.size + 1), 1 + k, none⟩))) (List.getElem?_toArray.trans rfl) (by kernel_rfl) (by kernel_rfl) (by kernel_rfl) (fun _ _ _ h => h) (Or.inl ⟨by rfl, ?_⟩) (by assumption) ?_
      · intro W hSw
        go_simp
        intro hh
        omega
      simp only [Act.put, List.setIfInBounds_toArray, List.set_cons_zero, List.set_cons_succ]
      refine wpAnyH_take (i := 7) (v := (g k)) (List.getElem?_toArray.trans rfl) (by kernel_rfl) (by kernel_rfl) (by kernel_rfl) (fun _ _ _ h => h) (Or.inl ⟨by rfl, ?_⟩) (by assumption) ?_
      · intro W hSw
        have q0 := HC2.out W hSw.k
        first | (go_simp; done) | (go_simp; rfl)
      simp only [Act.put, List.setIfInBounds_toArray, List.set_cons_zero, List.set_cons_succ]
      refine wpAnyH_ready (rs := [8]) (by kernel_rfl) (by simp) ?_
      refine (AllReadyH.cons (List.getElem?_toArray.trans rfl) (fun K hK => ?_) AllReadyH.nil)
      go_simp
      have HB := Lib.hid hHeld
      refine (HMK.out _ (kept_trans K0.out hHeld.k)).mono ?_
      rintro e wa ⟨rfl, ga⟩
      have HS := Lib.hid (show KV W0 wa from ⟨kept_trans HB.out.k ga⟩)
      clear ga HB
      go_wp2_with fail
      refine hK.out _ _ HS.out (fun hHeld => ?_)
      clear hK K
      refine wpAnyH_take (i := 9) (v := (.bool (!t))) (List.getElem?_toArray.trans rfl) (by kernel_rfl) (by kernel_rfl) (by kernel_rfl) (fun _ _ _ h => h) (Or.inl ⟨by rfl, ?_⟩) (by assumption) ?_
      · intro W hSw
        first | rfl | (go_simp; done) | (go_simp; rfl)
      simp only [Act.put, List.setIfInBounds_toArray, List.set_cons_zero, List.set_cons_succ]
      refine wpAnyH_done (by kernel_rfl) ?_ _
      have HH := Lib.hid hHeld.k
      cases t with
      | true =>
        have HE := Lib.hid (of_decide_eq_true HTT.out.symm)
        go_wp2_with fail
        go_roundw
        case rel => exact ⟨k + 1, by omega, by go_num, Lib.hid (fun l hl => by
          by_cases e : l = k
          · subst e; exact HE.out
          · exact HT.out l (by omega)), HH⟩
        case measure => simp [intOf]; omega
      | false =>
        have HX := Lib.hid (show ¬ P from fun h => of_decide_eq_false HTT.out.symm ((HAL.out.1 h).2.1 k hlt))
        go_wp2_with fail
        go_ret
        exact ⟨false, by simp, ⟨(fun h => by cases h), fun h => absurd h HX.out⟩, kept_trans K0.out HH.out⟩
      -- REGION RSame END
    · obtain rfl : k = 4 := by omega
      obtain ⟨z0, z1, z2, z3, z4, z5, z6, z7⟩ := eight_cells (BA.out _ HK.out)
      obtain ⟨y0, y1, y2, y3, y4, y5, y6, y7⟩ := eight_cells (BB.out _ HK.out)
      have HAM := Lib.hid (show P ↔ gone = gone2 ∧ nx = nx2 ∧ lg = lg2 ∧ sq = sq2 from HAL.out.trans ⟨fun h => ⟨h.1, h.2.2⟩, fun h => ⟨h.1, HT.out, h.2⟩⟩)
      go_wp2_with fail
      refine (HN.out _ (kept_trans K0.out HK.out)).mono ?_
      rintro e w5 ⟨rfl, g5⟩
      have K5 := Lib.hid (kept_trans HK.out g5)
      clear z0 z1 z2 z3 z4 z5 z6 z7 y0 y1 y2 y3 y4 y5 y6 y7 g5
      obtain ⟨z0, z1, z2, z3, z4, z5, z6, z7⟩ := eight_cells (BA.out _ K5.out)
      obtain ⟨y0, y1, y2, y3, y4, y5, y6, y7⟩ := eight_cells (BB.out _ K5.out)
      by_cases hg : gone = gone2
      · rw [decide_eq_true hg]
        have h1 : ((nx : Int) == (nx2 : Int)) = decide (nx = nx2) := by by_cases e : nx = nx2 <;> simp [e]; omega
        have h2 : ((lg : Int) == (lg2 : Int)) = decide (lg = lg2) := by by_cases e : lg = lg2 <;> simp [e]; omega
        have h3 : ((sq : Int) == (sq2 : Int)) = decide (sq = sq2) := by by_cases e : sq = sq2 <;> simp [e]; omega
        by_cases e1 : nx = nx2
        · rw [decide_eq_true e1] at h1
          by_cases e2 : lg = lg2
          · rw [decide_eq_true e2] at h2
            have HX := Lib.hid (show decide (sq = sq2) = true ↔ P from by rw [decide_eq_true_iff]; exact ⟨fun h => HAM.out.2 ⟨hg, e1, e2, h⟩, fun h => (HAM.out.1 h).2.2.2⟩)
            generalize decide (sq = sq2) = b3 at *
            clear HAM e1 e2 hg
            go_wp2_with fail
            go_ret
            exact ⟨b3, by simp, HX.out, kept_trans K0.out K5.out⟩
          · rw [decide_eq_false e2] at h2
            have HX := Lib.hid (show ¬ P from fun h => e2 (HAM.out.1 h).2.2.1)
            clear HAM e1 e2 hg h3
            go_wp2_with fail
            go_ret
            exact ⟨false, by simp, ⟨(fun h => by cases h), fun h => absurd h HX.out⟩, kept_trans K0.out K5.out⟩
        · rw [decide_eq_false e1] at h1
          have HX := Lib.hid (show ¬ P from fun h => e1 (HAM.out.1 h).2.1)
          clear HAM e1 hg h2 h3
          go_wp2_with fail
          go_ret
          exact ⟨false, by simp, ⟨(fun h => by cases h), fun h => absurd h HX.out⟩, kept_trans K0.out K5.out⟩
      · rw [decide_eq_false hg]
        have HX := Lib.hid (show ¬ P from fun h => hg (HAM.out.1 h).1)
        clear HAM hg
        go_wp2_with fail
        go_ret
        exact ⟨false, by simp, ⟨(fun h => by cases h), fun h => absurd h HX.out⟩, kept_trans K0.out K5.out⟩
end Go.Proofs.YtnnmalpnjlnnlaaGreat

/-
  Statements of package level: is an edit too large?
-/
namespace Go.Proofs.YtnnmalpnjlnnlaaGreat
open Go.ChangeShapes Go.WideShapes Go.ChangeAt Go.RowKit
set_option linter.unusedVariables false
set_option maxRecDepth 100000
set_option maxHeartbeats 8000000
open Lv
/-- an edit that came in: of any size -/
structure Ed.Wk (w : World) (e : Ed) : Prop where
  gone : Nus w e.A e.gone
  tab : Tin w e.T
  gl : e.gone.length ≤ maxLen
  nx : e.nx ≤ 18446744073709551615
  lg : e.lg ≤ 18446744073709551615
  sq : e.sq ≤ 18446744073709551615
theorem Ed.Wk.kept {w w' : World} {e : Ed} (h : e.Wk w) (k : Kept w w') : e.Wk w' := ⟨h.gone.kept k, h.tab.kept k, h.gl, h.nx, h.lg, h.sq⟩
def Ed.small (e : Ed) : Prop := e.gone.length ≤ 200 ∧ ∀ l, l < 4 → (e.T l).l.length ≤ 40 ∧ ∀ m ∈ (e.T l).l, m.first.length ≤ 300 ∧ m.last.length ≤ 300
theorem Ed.Wk.inn {w : World} {e : Ed} (h : e.Wk w) (s : e.small) : e.In w := ⟨h.gone, h.tab, Nat.le_trans s.1 (by omega), fun l hl => Nat.le_trans (s.2 l hl).1 (by omega), h.nx, h.lg, h.sq⟩
theorem lvlarge_any {e : Ed} {w : World} (he : e.Wk w) :
    Calls Tryz.prog 14 #[e.v] w fun r w' => ∃ B, r = .returned (.bool B) ∧ (B = false → e.small) ∧ Kept w w' := by
  have HT := Lib.hid (fun W (hW : Kept w W) => he.tab.kept hW)
  have hgl := he.gl
  have HSM := Lib.hid (show e.small ↔ e.gone.length ≤ 200 ∧ ∀ l, l < 4 → (e.T l).l.length ≤ 40 ∧ ∀ m ∈ (e.T l).l, m.first.length ≤ 300 ∧ m.last.length ≤ 300 from Iff.rfl)
  have HSN := Lib.hid he.tab.sane
  have HCP := Lib.hid (fun l (hl : l < 4) => Nat.le_trans (he.tab.cap l hl) (he.tab.most l hl))
  clear he
  obtain ⟨P, hP⟩ : ∃ P : Prop, P = e.small := ⟨_, rfl⟩
  rw [← hP] at HSM ⊢
  clear hP
  unfold Ed.v edv
  obtain ⟨GA, gc, gone, T, nx, lg, sq⟩ := e
  dsimp only at HT hgl HSM HSN HCP ⊢
  obtain ⟨f, hf⟩ : ∃ f : Nat → Value, f = fun k => (T k).v := ⟨_, rfl⟩
  have e0 : ∀ k, (T k).v = f k := fun k => by rw [hf]
  have HF := Lib.hid (fun k => show f k = .slice (T k).A (T k).l.length (T k).c from by rw [hf]; rfl)
  simp only [e0]
  clear hf e0
  obtain ⟨W0, hW0⟩ : ∃ W0, W0 = w.alloc (.cells #[.slice GA gone.length gc, f 0, f 1, f 2, f 3, .int .u64 (nx : Nat), .int .u64 (lg : Nat), .int .u64 (sq : Nat)] 34) := ⟨_, rfl⟩
  have K0 := Lib.hid (show Kept w W0 by rw [hW0]; exact (Kept.refl _).alloc _)
  have BA := Lib.hid (fun W (hW : Kept W0 W) => hp_kept (show W0.heap[w.heap.size]? = some (.cells #[.slice GA gone.length gc, f 0, f 1, f 2, f 3, .int .u64 (nx : Nat), .int .u64 (lg : Nat), .int .u64 (sq : Nat)] 34 (0, 0)) by rw [hW0]; exact malloc_new w _) hW)
  obtain ⟨z0, z1, z2, z3, z4, z5, z6, z7⟩ := eight_cells (BA.out W0 (Kept.refl _))
  unfold maxLen at hgl
  by_cases hg : gone.length ≤ 200
  · have d1 : decide ((200 : Int) < (gone.length : Int)) = false := decide_eq_false (by omega)
    go_enter Tryz.func14, Tryz.ntmps14
    go_upto_region 1 with fail
    rw [← hW0]
    clear hW0
    go_wp2_with fail
    clear z0 z1 z2 z3 z4 z5 z6 z7 d1
    go_loopw [9] (fun t wr => ∃ k : Nat, k ≤ 4 ∧ t = .int .i64 k ∧ Hid (∀ l, l < k → (T l).l.length ≤ 40 ∧ ∀ m ∈ (T l).l, m.first.length ≤ 300 ∧ m.last.length ≤ 300) ∧ Hid (Kept W0 wr)) (fun t _ => 4 - (intOf t).toNat)
    case atStart => exact ⟨0, Nat.zero_le _, rfl, Lib.hid (fun l hl => by omega), Lib.hid (Kept.refl _)⟩
    case round =>
      obtain ⟨k, hk, rfl, HS, HK⟩ := hrel
      by_cases hlt : k < 4
      · have d1 : decide ((k : Int) < 4) = true := decide_eq_true (by omega)
        have z0 := eight_at (BA.out _ HK.out) k hlt
        rw [HF.out k] at z0
        have HM := Lib.hid (fun W (hW : Kept w W) => (HT.out W hW).mts k hlt)
        have hcp := HCP.out k hlt
        have HSK := Lib.hid (HSN.out k hlt)
        have HSO := Lib.hid (fun (h1 : (T k).l.length ≤ 40) (h2 : ∀ m ∈ (T k).l, m.first.length ≤ 300 ∧ m.last.length ≤ 300) => show ∀ l, l < k + 1 → (T l).l.length ≤ 40 ∧ ∀ m ∈ (T l).l, m.first.length ≤ 300 ∧ m.last.length ≤ 300 from fun l hl => by
          by_cases e : l = k
          · subst e; exact ⟨h1, h2⟩
          · exact HS.out l (by omega))
        unfold maxLen at hcp
        have HLV := Lib.hid (show Value.slice (T k).A (T k).l.length (T k).c = Value.slice (T k).A (T k).l.length (T k).c from rfl)
        generalize hA : (T k).A = A at *
        generalize hc : (T k).c = c at *
        generalize hl : (T k).l = l at *
        have HLW := Lib.hid (And.intro hA (And.intro hc hl))
        clear hA hc hl HLV
        by_cases h40 : l.length ≤ 40
        · have d2 : decide ((40 : Int) < (l.length : Int)) = false := decide_eq_false (by omega)
          go_wp2_with fail
          clear z0
          go_loopw [23] (fun t wi => ∃ j : Nat, j ≤ l.length ∧ t = .int .i64 j ∧ Hid (∀ m ∈ l.take j, m.first.length ≤ 300 ∧ m.last.length ≤ 300) ∧ Hid (Kept W0 wi)) (fun t _ => l.length - (intOf t).toNat)
          case atStart => exact ⟨0, Nat.zero_le _, rfl, Lib.hid (by simp), HK⟩
          case round =>
            clear HK
            obtain ⟨j, hj, rfl, HJ, HK⟩ := hrel
            by_cases hjl : j < l.length
            · have d3 : decide ((j : Int) < (l.length : Int)) = true := decide_eq_true (by omega)
              have z0 := eight_at (BA.out _ HK.out) k hlt
              rw [HF.out k, HLW.out.1, HLW.out.2.1, HLW.out.2.2] at z0
              obtain ⟨x, hx⟩ : ∃ x, l[j]? = some x := ⟨_, List.getElem?_eq_getElem hjl⟩
              obtain ⟨b, o, rfl, hb, c0, c1, c2, c3, c4⟩ := HM.out _ (kept_trans K0.out HK.out) j x hx
              have hs := HSK.out x (List.mem_of_getElem? hx)
              obtain ⟨_, _, _, hs1, hs2, _⟩ := hs
              unfold maxLen at hs1 hs2
              have hz1 := lvbs_size x.first
              have hz2 := lvbs_size x.last
              have HTK := Lib.hid (show l.take (j + 1) = l.take j ++ [x] by rw [List.take_add_one, hx]; rfl)
              have HZ := Lib.hid (And.intro hz1 hz2)
              clear hx
              by_cases h1 : (bs x.first).size ≤ 300
              · have d4 : decide ((300 : Int) < ((bs x.first).size : Int)) = false := decide_eq_false (by omega)
                by_cases h2 : (bs x.last).size ≤ 300
                · have d5 : decide ((300 : Int) < ((bs x.last).size : Int)) = false := decide_eq_false (by omega)
                  have HN1 := Lib.hid (show ∀ m ∈ l.take (j + 1), m.first.length ≤ 300 ∧ m.last.length ≤ 300 from fun m hm => by
                    rw [HTK.out, List.mem_append] at hm
                    rcases hm with hm | hm
                    · exact HJ.out m hm
                    · rw [List.mem_singleton.1 hm]; omega)
                  clear hz1 hz2 hs1 hs2
                  go_wp2_with fail
                  go_roundw
                  case rel => exact ⟨j + 1, by omega, by go_num, HN1, HK⟩
                  case measure => simp [intOf]; omega
                · have d5 : decide ((300 : Int) < ((bs x.last).size : Int)) = true := decide_eq_true (by omega)
                  clear hz1 hz2 hs1 hs2
                  go_wp2_with fail
                  go_ret
                  exact ⟨true, by simp, (fun h => by cases h), kept_trans K0.out HK.out⟩
              · have d4 : decide ((300 : Int) < ((bs x.first).size : Int)) = true := decide_eq_true (by omega)
                clear hz1 hz2 hs1 hs2
                go_wp2_with fail
                go_ret
                exact ⟨true, by simp, (fun h => by cases h), kept_trans K0.out HK.out⟩
            · obtain rfl : j = l.length := by omega
              have HN2 := Lib.hid (HSO.out h40 (by have := HJ.out; rw [List.take_length] at this; exact this))
              go_wp2_with fail
              go_roundw
              case rel => exact ⟨k + 1, by omega, by go_num, HN2, HK⟩
              case measure => simp [intOf]; omega
        · have d2 : decide ((40 : Int) < (l.length : Int)) = true := decide_eq_true (by omega)
          go_wp2_with fail
          go_ret
          exact ⟨true, rfl, (fun h => by cases h), kept_trans K0.out HK.out⟩
      · obtain rfl : k = 4 := by omega
        have HX := Lib.hid (HSM.out.2 ⟨hg, HS.out⟩)
        go_wp2_with fail
        go_ret
        exact ⟨false, rfl, fun _ => HX.out, kept_trans K0.out HK.out⟩
  · have d1 : decide ((200 : Int) < (gone.length : Int)) = true := decide_eq_true (by omega)
    go_enter Tryz.func14, Tryz.ntmps14
    go_upto_region 1 with fail
    rw [← hW0]
    clear hW0
    go_wp2_with fail
    go_ret
    exact ⟨true, rfl, (fun h => by cases h), K0.out⟩
end Go.Proofs.YtnnmalpnjlnnlaaGreat

/-
  What comes into the laws of layer 12: numbers, metas, an edit, a list of edits.
-/
namespace Go.Proofs.YtnnmalpnjlnnlaaGreat
open Go.ChangeShapes Go.WideShapes Go.ChangeAt Go.RowKit
set_option linter.unusedVariables false
set_option maxRecDepth 100000
set_option maxHeartbeats 2000000
open Lv
theorem choose_list {α : Type} [Inhabited α] {len : Nat} {P : Nat → α → Prop} (h : ∀ i, i < len → ∃ x, P i x) : ∃ l : List α, l.length = len ∧ ∀ i x, l[i]? = some x → P i x := by
  have hch : ∀ i, ∃ x : α, i < len → P i x := fun i => by
    by_cases hil : i < len
    · obtain ⟨x, r⟩ := h i hil
      exact ⟨x, fun _ => r⟩
    · exact ⟨default, fun hh => absurd hh hil⟩
  obtain ⟨f, hf⟩ := Classical.axiomOfChoice hch
  refine ⟨(List.range len).map f, by simp, fun i x hx => ?_⟩
  have hil : i < len := by
    have := (List.getElem?_eq_some_iff.1 hx).1
    simpa using this
  have : f i = x := by simpa [hil] using hx
  rw [← this]; exact hf i hil
theorem lcellsMeta : Tryz.prog.cellsOf 43 = 5 := by kernel_rfl
theorem lcellsEdit : Tryz.prog.cellsOf 34 = 8 := by kernel_rfl
theorem lcellsStr : Tryz.prog.cellsOf 9 = 1 := by kernel_rfl
theorem lcellsU64 : Tryz.prog.cellsOf 32 = 1 := by kernel_rfl
theorem lcellsInt : Tryz.prog.cellsOf 3 = 1 := by kernel_rfl
theorem lcellsUs : Tryz.prog.cellsOf 29 = 1 := by kernel_rfl
theorem lcellsMs : Tryz.prog.cellsOf 30 = 1 := by kernel_rfl
theorem lcellsTab : Tryz.prog.cellsOf 31 = 4 := by kernel_rfl
section
variable {H : Type} {enc : TypeId × Value → H} {w : World}
theorem open_us {fuel : Nat} {cs : List Value} {x : DataW H × List MemPlace} (h : DataW.trod enc Tryz.prog w 0 (fun _ => true) true fuel 29 cs = some x) :
    ∃ (A : Option Addr) (cap : Nat) (l : List Nat), cs = [.slice A l.length cap] ∧ Nus w A l ∧ l.length ≤ maxLen := by
  rcases open_ints Tryz.underlying29 Tryz.underlying32 (by kernel_rfl) h with ⟨rfl, _⟩ | ⟨a, len, cap, zs, rfl, _, hl, hm, hz, _, hc, hwf⟩
  · exact ⟨none, 0, [], rfl, fun j x hx => by simp at hx, by simp⟩
  · rw [if_pos rfl] at hz
    have hlen : ((zs.take len).map Int.toNat).length = len := by rw [List.length_map, List.length_take]; omega
    refine ⟨some a, cap, (zs.take len).map Int.toNat, by rw [hlen], fun j x hx => ?_, by omega⟩
    have hj := (List.getElem?_eq_some_iff.1 hx).1
    rw [hlen] at hj
    have hc0 := hc 0 (by omega)
    rw [madd_zero] at hc0
    obtain ⟨b, o, rfl, hbl⟩ := maddr_at hc0
    refine ⟨b, o, rfl, hbl, ?_⟩
    have hcj := hc j (by omega)
    rw [madd_at] at hcj
    rw [List.getElem?_map, List.getElem?_take, if_pos hj, Option.map_eq_some_iff] at hx
    obtain ⟨z, hzj, rfl⟩ := hx
    have hb := bounds_u64 (hwf z (List.mem_of_getElem? hzj))
    rw [hcj, List.getD_eq_getElem?_getD, hzj, show ((z.toNat : Nat) : Int) = z by omega]; rfl
theorem open_meta {n : Nat} {b o : Nat} {cs : List Value} {y : DataW H × List MemPlace} (hcl : cs.length = 5) (hat : ∀ j, j < 5 → w.cell? ⟨b, o + j, none⟩ = cs[j]?) (ht : DataW.trod enc Tryz.prog w 0 (fun _ => true) true n 43 cs = some y) :
    ∃ x : Meta, Mt w b o x ∧ Sane x := by
  obtain ⟨ys, n', _, _, _, hyl, hf⟩ := DataW.trod_struct Tryz.underlying43 ht
  match cs, hcl with
  | [v0, v1, v2, v3, v4], _ =>
    have f0 := hf 0 _ rfl
    have f1 := hf 1 _ rfl
    have f2 := hf 2 _ rfl
    have f3 := hf 3 _ rfl
    have f4 := hf 4 _ rfl
    change DataW.trod enc Tryz.prog w 0 (fun _ => true) true n' 32 (List.take (Tryz.prog.cellsOf 32) [v0, v1, v2, v3, v4]) = _ at f0
    change DataW.trod enc Tryz.prog w 0 (fun _ => true) true n' 3 (List.take (Tryz.prog.cellsOf 3) [v1, v2, v3, v4]) = _ at f1
    change DataW.trod enc Tryz.prog w 0 (fun _ => true) true n' 9 (List.take (Tryz.prog.cellsOf 9) [v2, v3, v4]) = _ at f2
    change DataW.trod enc Tryz.prog w 0 (fun _ => true) true n' 9 (List.take (Tryz.prog.cellsOf 9) [v3, v4]) = _ at f3
    change DataW.trod enc Tryz.prog w 0 (fun _ => true) true n' 32 (List.take (Tryz.prog.cellsOf 32) [v4]) = _ at f4
    rw [lcellsU64] at f0 f4
    rw [lcellsInt] at f1
    rw [lcellsStr] at f2 f3
    simp only [List.take_succ_cons, List.take_zero] at f0 f1 f2 f3 f4
    have hyl5 : ys.length = 5 := hyl
    rw [List.getElem?_eq_getElem (show 0 < ys.length by omega)] at f0
    rw [List.getElem?_eq_getElem (show 1 < ys.length by omega)] at f1
    rw [List.getElem?_eq_getElem (show 2 < ys.length by omega)] at f2
    rw [List.getElem?_eq_getElem (show 3 < ys.length by omega)] at f3
    rw [List.getElem?_eq_getElem (show 4 < ys.length by omega)] at f4
    obtain ⟨fi, e0, _, hfi⟩ := DataW.trod_int Tryz.underlying32 f0
    obtain ⟨si, e1, _, hsi⟩ := DataW.trod_int Tryz.underlying3 f1
    obtain ⟨sa, e2, _, hsa⟩ := DataW.trod_string Tryz.underlying9 f2
    obtain ⟨sb, e3, _, hsb⟩ := DataW.trod_string Tryz.underlying9 f3
    obtain ⟨sq, e4, _, hsq⟩ := DataW.trod_int Tryz.underlying32 f4
    injection e0 with e0; injection e1 with e1; injection e2 with e2; injection e3 with e3; injection e4 with e4
    have b1 := bounds_u64 hfi
    have b2 := bounds_i64 hsi
    have b3 := bounds_u64 hsq
    have a0 := hat 0 (by omega)
    have a1 := hat 1 (by omega)
    have a2 := hat 2 (by omega)
    have a3 := hat 3 (by omega)
    have a4 := hat 4 (by omega)
    simp only [List.getElem?_cons_zero, List.getElem?_cons_succ] at a0 a1 a2 a3 a4
    refine ⟨⟨fi.toNat, si, sa.data.toList, sb.data.toList, sq.toNat⟩, ⟨?_, ?_, ?_, ?_, ?_⟩, ?_⟩
    · rw [Nat.add_zero] at a0; rw [a0, e0, show ((fi.toNat : Nat) : Int) = fi by omega]
    · rw [a1, e1]
    · rw [a2, e2, mbs_self]
    · rw [a3, e3, mbs_self]
    · rw [a4, e4, show ((sq.toNat : Nat) : Int) = sq by omega]
    · unfold Sane
      simp only [mtoList_size]
      refine ⟨by omega, by omega, by omega, hsa, hsb, by omega⟩
theorem open_ms {fuel : Nat} {cs : List Value} {x : DataW H × List MemPlace} (h : DataW.trod enc Tryz.prog w 0 (fun _ => true) true fuel 30 cs = some x) :
    ∃ T : Lvl, cs = [T.v] ∧ Mts w T.A T.l ∧ T.l.length ≤ T.c ∧ T.c ≤ maxLen ∧ ∀ m ∈ T.l, Sane m := by
  rcases Deep.open_slice Tryz.underlying30 h with ⟨rfl, _⟩ | ⟨a, len, cap, m, n, D, Pl, rfl, _, hl, hm, hmm, _, hi⟩
  · exact ⟨⟨none, 0, []⟩, rfl, fun j x hx => by simp at hx, by simp, by simp, fun x hx => by simp at hx⟩
  · rw [if_pos rfl] at hmm
    rw [lcellsMeta] at hi
    obtain ⟨l, hlen, hat⟩ := choose_list (α := Meta) (len := len) (P := fun i x => ∃ b o, a = ⟨b, o, none⟩ ∧ b < w.heap.size ∧ Mt w b (o + i * 5) x ∧ Sane x) (fun i hil => by
      obtain ⟨cs0, hc0, _⟩ := hi 0 (by omega)
      obtain ⟨_, hcl0, hat0⟩ := World.cells?_some hc0
      have h00 := hat0 0 (by omega)
      rw [Nat.zero_mul, madd_zero, madd_zero, List.getElem?_eq_getElem (show 0 < cs0.length by omega)] at h00
      obtain ⟨b, o, rfl, hbl⟩ := maddr_at h00
      obtain ⟨cs', hc, ht⟩ := hi i (by omega)
      obtain ⟨_, hcl, hat⟩ := World.cells?_some hc
      obtain ⟨x, hx⟩ := open_meta (o := o + i * 5) hcl (fun j hj => by rw [← hat j hj, madd_at, madd_at]) ht
      exact ⟨x, b, o, rfl, hbl, hx⟩)
    refine ⟨⟨some a, cap, l⟩, by unfold Lvl.v; rw [hlen], fun j x hx => ?_, by simp only; omega, hm, fun x hx => ?_⟩
    · obtain ⟨b, o, e, hb, hx', _⟩ := hat j x hx
      exact ⟨b, o, by rw [e], hb, hx'⟩
    · obtain ⟨j, hj⟩ := List.getElem?_of_mem hx
      obtain ⟨b, o, e, hb, _, hs⟩ := hat j x hj
      exact hs
/-- an edit that came in -/
theorem open_ed8 {n : Nat} {cs : List Value} {y : DataW H × List MemPlace} (ht : DataW.trod enc Tryz.prog w 0 (fun _ => true) true n 34 cs = some y) :
    ∃ e : Ed, cs = [.slice e.A e.gone.length e.c, (e.T 0).v, (e.T 1).v, (e.T 2).v, (e.T 3).v, .int .u64 (e.nx : Nat), .int .u64 (e.lg : Nat), .int .u64 (e.sq : Nat)] ∧ e.Wk w := by
  obtain ⟨ys, n', _, _, hcl, hyl, hf⟩ := DataW.trod_struct Tryz.underlying34 ht
  rw [lcellsEdit] at hcl
  match cs, hcl with
  | [v0, v1, v2, v3, v4, v5, v6, v7], _ =>
    have f0 := hf 0 _ rfl
    have f1 := hf 1 _ rfl
    have f2 := hf 2 _ rfl
    have f3 := hf 3 _ rfl
    have f4 := hf 4 _ rfl
    change DataW.trod enc Tryz.prog w 0 (fun _ => true) true n' 29 (List.take (Tryz.prog.cellsOf 29) [v0, v1, v2, v3, v4, v5, v6, v7]) = _ at f0
    change DataW.trod enc Tryz.prog w 0 (fun _ => true) true n' 31 (List.take (Tryz.prog.cellsOf 31) [v1, v2, v3, v4, v5, v6, v7]) = _ at f1
    change DataW.trod enc Tryz.prog w 0 (fun _ => true) true n' 32 (List.take (Tryz.prog.cellsOf 32) [v5, v6, v7]) = _ at f2
    change DataW.trod enc Tryz.prog w 0 (fun _ => true) true n' 32 (List.take (Tryz.prog.cellsOf 32) [v6, v7]) = _ at f3
    change DataW.trod enc Tryz.prog w 0 (fun _ => true) true n' 32 (List.take (Tryz.prog.cellsOf 32) [v7]) = _ at f4
    rw [lcellsUs] at f0
    rw [lcellsTab] at f1
    rw [lcellsU64] at f2 f3 f4
    simp only [List.take_succ_cons, List.take_zero] at f0 f1 f2 f3 f4
    have hyl5 : ys.length = 5 := hyl
    rw [List.getElem?_eq_getElem (show 0 < ys.length by omega)] at f0
    rw [List.getElem?_eq_getElem (show 1 < ys.length by omega)] at f1
    rw [List.getElem?_eq_getElem (show 2 < ys.length by omega)] at f2
    rw [List.getElem?_eq_getElem (show 3 < ys.length by omega)] at f3
    rw [List.getElem?_eq_getElem (show 4 < ys.length by omega)] at f4
    obtain ⟨gA, gc, g, e0, hgn, hgl⟩ := open_us f0
    obtain ⟨nx, e2, _, hnx⟩ := DataW.trod_int Tryz.underlying32 f2
    obtain ⟨lg, e3, _, hlg⟩ := DataW.trod_int Tryz.underlying32 f3
    obtain ⟨sq, e4, _, hsq⟩ := DataW.trod_int Tryz.underlying32 f4
    obtain ⟨zs, m', _, _, _, hzl, hz⟩ := DataW.trod_array Tryz.underlying31 f1
    have z0 := hz 0 (by omega)
    have z1 := hz 1 (by omega)
    have z2 := hz 2 (by omega)
    have z3 := hz 3 (by omega)
    rw [lcellsMs] at z0 z1 z2 z3
    simp only [Nat.mul_one, List.drop_zero, List.drop_succ_cons, List.take_succ_cons, List.take_zero] at z0 z1 z2 z3
    rw [List.getElem?_eq_getElem (show 0 < zs.length by omega)] at z0
    rw [List.getElem?_eq_getElem (show 1 < zs.length by omega)] at z1
    rw [List.getElem?_eq_getElem (show 2 < zs.length by omega)] at z2
    rw [List.getElem?_eq_getElem (show 3 < zs.length by omega)] at z3
    obtain ⟨T0, t0, p0⟩ := open_ms z0
    obtain ⟨T1, t1, p1⟩ := open_ms z1
    obtain ⟨T2, t2, p2⟩ := open_ms z2
    obtain ⟨T3, t3, p3⟩ := open_ms z3
    injection e0 with e0; injection e2 with e2; injection e3 with e3; injection e4 with e4
    injection t0 with t0; injection t1 with t1; injection t2 with t2; injection t3 with t3
    have b2 := bounds_u64 hnx
    have b3 := bounds_u64 hlg
    have b4 := bounds_u64 hsq
    obtain ⟨T, hT⟩ : ∃ T : Nat → Lvl, T = fun l => if l = 0 then T0 else if l = 1 then T1 else if l = 2 then T2 else T3 := ⟨_, rfl⟩
    have q0 : T 0 = T0 := by rw [hT]; rfl
    have q1 : T 1 = T1 := by rw [hT]; rfl
    have q2 : T 2 = T2 := by rw [hT]; rfl
    have q3 : T 3 = T3 := by rw [hT]; rfl
    have hall : ∀ l, l < 4 → Mts w (T l).A (T l).l ∧ (T l).l.length ≤ (T l).c ∧ (T l).c ≤ maxLen ∧ ∀ m ∈ (T l).l, Sane m := fun l hl => by
      have h4 : l = 0 ∨ l = 1 ∨ l = 2 ∨ l = 3 := by omega
      rcases h4 with rfl | rfl | rfl | rfl
      · rw [q0]; exact p0
      · rw [q1]; exact p1
      · rw [q2]; exact p2
      · rw [q3]; exact p3
    refine ⟨⟨gA, gc, g, T, nx.toNat, lg.toNat, sq.toNat⟩, ?_, ⟨hgn, ⟨fun l hl => (hall l hl).1, fun l hl => (hall l hl).2.1, fun l hl => (hall l hl).2.2.1, fun l hl => (hall l hl).2.2.2⟩, hgl, by simp only; omega, by simp only; omega, by simp only; omega⟩⟩
    simp only
    rw [q0, q1, q2, q3, e0, t0, t1, t2, t3, e2, e3, e4, show ((nx.toNat : Nat) : Int) = nx by omega, show ((lg.toNat : Nat) : Int) = lg by omega, show ((sq.toNat : Nat) : Int) = sq by omega]
/-- an edit at a place -/
def EdAt (w : World) (b o : Nat) (e : Ed) : Prop := w.cell? ⟨b, o, none⟩ = some (.slice e.A e.gone.length e.c) ∧ w.cell? ⟨b, o + 1, none⟩ = some (e.T 0).v ∧ w.cell? ⟨b, o + 2, none⟩ = some (e.T 1).v ∧ w.cell? ⟨b, o + 3, none⟩ = some (e.T 2).v ∧ w.cell? ⟨b, o + 4, none⟩ = some (e.T 3).v ∧ w.cell? ⟨b, o + 5, none⟩ = some (.int .u64 (e.nx : Nat)) ∧ w.cell? ⟨b, o + 6, none⟩ = some (.int .u64 (e.lg : Nat)) ∧ w.cell? ⟨b, o + 7, none⟩ = some (.int .u64 (e.sq : Nat))
/-- a list of edits in memory -/
def Eds (w : World) (A : Option Addr) (l : List Ed) : Prop := ∀ (j : Nat) (e : Ed), l[j]? = some e → ∃ b o, A = some ⟨b, o, none⟩ ∧ b < w.heap.size ∧ EdAt w b (o + j * 8) e ∧ e.Wk w
theorem EdAt.kept {w w' : World} {b o : Nat} {e : Ed} (h : EdAt w b o e) (k : Kept w w') (hb : b < w.heap.size) : EdAt w' b o e := by
  obtain ⟨h0, h1, h2, h3, h4, h5, h6, h7⟩ := h
  exact ⟨by rw [kept_cell k hb]; exact h0, by rw [kept_cell k hb]; exact h1, by rw [kept_cell k hb]; exact h2, by rw [kept_cell k hb]; exact h3, by rw [kept_cell k hb]; exact h4, by rw [kept_cell k hb]; exact h5, by rw [kept_cell k hb]; exact h6, by rw [kept_cell k hb]; exact h7⟩
theorem Eds.kept {w w' : World} {A : Option Addr} {l : List Ed} (h : Eds w A l) (k : Kept w w') : Eds w' A l := fun j e he => by
  obtain ⟨b, o, e1, hb, h1, h2⟩ := h j e he
  exact ⟨b, o, e1, Nat.lt_of_lt_of_le hb (Below.size k), h1.kept k hb, h2.kept k⟩
instance : Inhabited Ed := ⟨⟨none, 0, [], vT0, 0, 0, 0⟩⟩
theorem open_eds {fuel : Nat} {cs : List Value} {x : DataW H × List MemPlace} (h : DataW.trod enc Tryz.prog w 0 (fun _ => true) true fuel 22 cs = some x) :
    ∃ (A : Option Addr) (cap : Nat) (l : List Ed), cs = [.slice A l.length cap] ∧ Eds w A l ∧ l.length ≤ maxLen := by
  rcases Deep.open_slice Tryz.underlying22 h with ⟨rfl, _⟩ | ⟨a, len, cap, m, n, D, Pl, rfl, _, hl, hm, hmm, _, hi⟩
  · exact ⟨none, 0, [], rfl, fun j x hx => by simp at hx, by simp⟩
  · rw [if_pos rfl] at hmm
    rw [lcellsEdit] at hi
    obtain ⟨l, hlen, hat⟩ := choose_list (α := Ed) (len := len) (P := fun i x => ∃ b o, a = ⟨b, o, none⟩ ∧ b < w.heap.size ∧ EdAt w b (o + i * 8) x ∧ x.Wk w) (fun i hil => by
      obtain ⟨cs0, hc0, _⟩ := hi 0 (by omega)
      obtain ⟨_, hcl0, hat0⟩ := World.cells?_some hc0
      have h00 := hat0 0 (by omega)
      rw [Nat.zero_mul, madd_zero, madd_zero, List.getElem?_eq_getElem (show 0 < cs0.length by omega)] at h00
      obtain ⟨b, o, rfl, hbl⟩ := maddr_at h00
      obtain ⟨cs', hc, ht⟩ := hi i (by omega)
      obtain ⟨_, hcl, hat⟩ := World.cells?_some hc
      obtain ⟨e, rfl, he⟩ := open_ed8 ht
      have ha : ∀ (j : Nat) (u : Value), j < 8 → [Value.slice e.A e.gone.length e.c, (e.T 0).v, (e.T 1).v, (e.T 2).v, (e.T 3).v, .int .u64 (e.nx : Nat), .int .u64 (e.lg : Nat), .int .u64 (e.sq : Nat)][j]? = some u → w.cell? ⟨b, o + i * 8 + j, none⟩ = some u := fun j u hj hu => by
        have := hat j hj
        rw [madd_at, madd_at] at this
        rw [this]; exact hu
      exact ⟨e, b, o, rfl, hbl, ⟨ha 0 _ (by omega) rfl, ha 1 _ (by omega) rfl, ha 2 _ (by omega) rfl, ha 3 _ (by omega) rfl, ha 4 _ (by omega) rfl, ha 5 _ (by omega) rfl, ha 6 _ (by omega) rfl, ha 7 _ (by omega) rfl⟩, he⟩)
    refine ⟨some a, cap, l, by rw [hlen], fun j x hx => ?_, by omega⟩
    obtain ⟨b, o, e, hb, hx', hw⟩ := hat j x hx
    exact ⟨b, o, by rw [e], hb, hx', hw⟩
end
end Go.Proofs.YtnnmalpnjlnnlaaGreat

