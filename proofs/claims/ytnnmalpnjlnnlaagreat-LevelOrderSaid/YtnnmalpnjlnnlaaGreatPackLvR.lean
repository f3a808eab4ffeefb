/-
  Several small texts as one.
-/
import Derived.Test.YtnnmalpnjlnnlaaGreatLevelShort
import Derived.Test.YtnnmalpnjlnnlaaGreatStoreAll
import Derived.Test.YtnnmalpnjlnnlaaGreatLevelLink
import Derived.Test.YtnnmalpnjlnnlaaGreatLevelApply
import Derived.Test.YtnnmalpnjlnnlaaGreatStepApp
/-
  Package level over memory: a meta's bytes.
-/
namespace Go.Proofs.YtnnmalpnjlnnlaaGreat
open Go.ChangeShapes Go.WideShapes Go.ChangeAt Go.RowKit
set_option linter.unusedVariables false
set_option maxRecDepth 100000
set_option maxHeartbeats 8000000
open Lv
/-- numbers in a row that was just built -/
theorem lit2 {w W : World} (k : Kept w W) (x y : Nat) : ∃ w' b, w' = W.alloc (.cells #[.int .u64 (x : Nat), .int .u64 (y : Nat)] 32) ∧ b = W.heap.size ∧ KV w w' ∧ Hid (Nus w' (some ⟨b, 0, none⟩) [x, y]) := by
  refine ⟨_, _, rfl, rfl, ⟨k.alloc _⟩, Lib.hid (fun j z hz => ⟨W.heap.size, 0, rfl, by simp, ?_⟩)⟩
  have hn := malloc_new W (.cells #[.int .u64 (x : Nat), .int .u64 (y : Nat)] 32)
  match j, hz with
  | 0, hz => simp at hz; subst hz; exact mcell hn 0 (by rfl)
  | 1, hz => simp at hz; subst hz; exact mcell hn 1 (by rfl)
  | j + 2, hz => simp at hz
theorem lit1 {w W : World} (k : Kept w W) (x : Nat) : ∃ w' b, w' = W.alloc (.cells #[.int .u64 (x : Nat)] 32) ∧ b = W.heap.size ∧ KV w w' ∧ Hid (Nus w' (some ⟨b, 0, none⟩) [x]) := by
  refine ⟨_, _, rfl, rfl, ⟨k.alloc _⟩, Lib.hid (fun j z hz => ⟨W.heap.size, 0, rfl, by simp, ?_⟩)⟩
  have hn := malloc_new W (.cells #[.int .u64 (x : Nat)] 32)
  match j, hz with
  | 0, hz => simp at hz; subst hz; exact mcell hn 0 (by rfl)
  | j + 1, hz => simp at hz
theorem five_cells {w : World} {b : Nat} {x0 x1 x2 x3 x4 : Value} {t : TypeId} {z : Nat × Nat} (h : w.heap[b]? = some (.cells #[x0, x1, x2, x3, x4] t z)) :
    w.cell? ⟨b, 0, none⟩ = some x0 ∧ w.cell? ⟨b, 1, none⟩ = some x1 ∧ w.cell? ⟨b, 2, none⟩ = some x2 ∧ w.cell? ⟨b, 3, none⟩ = some x3 ∧ w.cell? ⟨b, 4, none⟩ = some x4 :=
  ⟨mcell h 0 (by rfl), mcell h 1 (by rfl), mcell h 2 (by rfl), mcell h 3 (by rfl), mcell h 4 (by rfl)⟩
theorem lvmb_any (m : Meta) (hm : may m = true) (w : World) : Calls Tryz.prog 62 #[mtv m] w fun e w' => e = .returned (.string (bs (encM m))) ∧ Kept w w' := by
  obtain ⟨f1, z0, z1, l1, l2, s1, f2, s2⟩ := may_nums hm
  have h2 := Lib.hid (fun (W : World) (A : Option Addr) (hA : Nus W A [m.file, m.size.toNat]) => lvshorts_any hA (by simp; omega) (by simp) 2)
  have h1 := Lib.hid (fun (W : World) (A : Option Addr) (hA : Nus W A [m.seq]) => lvshorts_any hA (by simp; omega) (by simp) 1)
  have g1 := Lib.hid (fun (W : World) => lvsized_any m.first (by omega) W)
  have g2 := Lib.hid (fun (W : World) => lvsized_any m.last (by omega) W)
  have hw : IntKind.u64.wrap m.size = ((m.size.toNat : Nat) : Int) := by
    rw [Int.toNat_of_nonneg z0, IntKind.wrap_u64]; omega
  have hE : bs (encM m) = ((bs (encG [m.file, m.size.toNat]) ++ bs (szd m.first)) ++ bs (szd m.last)) ++ bs (encG [m.seq]) := by
    simp [encM, encG, bs, ByteArray.ext_iff]
  have b1 : (bs (encG [m.file, m.size.toNat])).size ≤ 20 := by rw [lvbs_size]; have := encG_le [m.file, m.size.toNat] (fun x hx => by simp at hx; omega); simpa using this
  have b4 : (bs (encG [m.seq])).size ≤ 10 := by rw [lvbs_size]; have := encG_le [m.seq] (fun x hx => by simp at hx; omega); simpa using this
  have hsz : ∀ t : List UInt8, t.length ≤ 100 → (bs (szd t)).size ≤ 110 := fun t ht => by
    rw [lvbs_size]
    unfold szd
    have := encG_le [t.length] (fun x hx => by simp at hx; omega)
    have e : encG [t.length] = Nm.short t.length := by simp [encG]
    rw [e] at this
    rw [List.length_append]
    simp at this
    omega
  have b2 := hsz m.first l1
  have b3 := hsz m.last l2
  clear hsz hm f1 z1 l1 l2 s1 f2 s2
  rw [hE]
  clear hE
  obtain ⟨file, size, first, last, seq⟩ := m
  unfold mtv
  dsimp only at hw h1 h2 g1 g2 z0 b1 b2 b3 b4 ⊢
  generalize size.toNat = zn at *
  clear z0
  generalize bs (encG [file, zn]) = R1 at *
  generalize bs (szd first) = R2 at *
  generalize bs (szd last) = R3 at *
  generalize bs (encG [seq]) = R4 at *
  have c1 : ∀ W, (Op.stringOp .add R1 R2).run Tryz.prog W = .ok (.string (R1 ++ R2)) W := fun W => run_string_add_sum W _ _ (by omega)
  have c2 : ∀ W, (Op.stringOp .add (R1 ++ R2) R3).run Tryz.prog W = .ok (.string (R1 ++ R2 ++ R3)) W := fun W => run_string_add_sum W _ _ (by rw [ByteArray.size_append]; omega)
  have c3 : ∀ W, (Op.stringOp .add (R1 ++ R2 ++ R3) R4).run Tryz.prog W = .ok (.string (R1 ++ R2 ++ R3 ++ R4)) W := fun W => run_string_add_sum W _ _ (by rw [ByteArray.size_append, ByteArray.size_append]; omega)
  clear b1 b2 b3 b4
  obtain ⟨w0, hw0⟩ : ∃ w0, w0 = w.alloc (.cells #[.int .u64 (file : Nat), .int .i64 size, .string (bs first), .string (bs last), .int .u64 (seq : Nat)] 43) := ⟨_, rfl⟩
  have K0 := Lib.hid (show Kept w w0 by rw [hw0]; exact (Kept.refl _).alloc _)
  have F0 := Lib.hid (fun W (hW : Kept w0 W) => five_cells (hp_kept (show w0.heap[w.heap.size]? = some (.cells #[.int .u64 (file : Nat), .int .i64 size, .string (bs first), .string (bs last), .int .u64 (seq : Nat)] 43 (0, 0)) by rw [hw0]; exact malloc_new w _) hW))
  go_enter Tryz.func62, Tryz.ntmps62
  go_upto_region 1 with fail
  rw [← hw0]
  clear hw0
  -- REGION MetaBytes BEGIN
  refine wp_region_held_drew (S := fun W => KV w0 W) (by kernel_rfl) ⟨kept_drewN _ 1⟩ (fun hHeld => ?_)
  generalize w0.drew = v1 at hHeld ⊢
  refine wpAnyH_take (i := 0) (v := (.pointer (some ⟨w.heap.size, 0, none⟩))) (List.getElem?_toArray.trans rfl) (by kernel_rfl) (by kernel_rfl) (by kernel_rfl) (fun _ _ _ h => h) (Or.inl ⟨by rfl, ?_⟩) (by assumption) ?_
  · intro W hSw
    first | rfl | (go_simp; done) | (go_simp; rfl)
  simp only [Act.put, List.setIfInBounds_toArray, List.set_cons_zero, List.set_cons_succ]
  refine wpAnyH_take (i := 1) (v := (.int .u64 (file : Nat))) (List.getElem?_toArray.trans rfl) (by kernel_rfl) (by kernel_rfl) (by kernel_rfl) (fun _ _ _ h => h) (Or.inl ⟨by rfl, ?_⟩) (by assumption) ?_
  · intro W hSw
    obtain ⟨q0, q1, q2, q3, q4⟩ := F0.out W hSw.k
    first | (go_simp; done) | (go_simp; rfl)
  simp only [Act.put, List.setIfInBounds_toArray, List.set_cons_zero, List.set_cons_succ]
  refine wpAnyH_take (i := 2) (v := (.pointer (some ⟨w.heap.size, 1, none⟩))) (List.getElem?_toArray.trans rfl) (by kernel_rfl) (by kernel_rfl) (by kernel_rfl) (fun _ _ _ h => h) (Or.inl ⟨by rfl, ?_⟩) (by assumption) ?_
  · intro W hSw
    first | rfl | (go_simp; done) | (go_simp; rfl)
  simp only [Act.put, List.setIfInBounds_toArray, List.set_cons_zero, List.set_cons_succ]
  refine wpAnyH_take (i := 3) (v := (.int .i64 size)) (List.getElem?_toArray.trans rfl) (by kernel_rfl) (by kernel_rfl) (by kernel_rfl) (fun _ _ _ h => h) (Or.inl ⟨by rfl, ?_⟩) (by assumption) ?_
  · intro W hSw
    obtain ⟨q0, q1, q2, q3, q4⟩ := F0.out W hSw.k
    first | (go_simp; done) | (go_simp; rfl)
  simp only [Act.put, List.setIfInBounds_toArray, List.set_cons_zero, List.set_cons_succ]
  refine wpAnyH_take (i := 4) (v := (.int .u64 (zn : Nat))) (List.getElem?_toArray.trans rfl) (by kernel_rfl) (by kernel_rfl) (by kernel_rfl) (fun _ _ _ h => h) (Or.inl ⟨by rfl, ?_⟩) (by assumption) ?_
  · intro W hSw
    first | rfl | (go_simp; done) | (go_simp; rfl)
  simp only [Act.put, List.setIfInBounds_toArray, List.set_cons_zero, List.set_cons_succ]
  refine wpAnyH_take (i := 7) (v := (.pointer (some ⟨w.heap.size, 2, none⟩))) (List.getElem?_toArray.trans rfl) (by kernel_rfl) (by kernel_rfl) (by kernel_rfl) (fun _ _ _ h => h) (Or.inl ⟨by rfl, ?_⟩) (by assumption) ?_
  · intro W hSw
    first | rfl | (go_simp; done) | (go_simp; rfl)
  simp only [Act.put, List.setIfInBounds_toArray, List.set_cons_zero, List.set_cons_succ]
  refine wpAnyH_take (i := 8) (v := (.string (bs first))) (List.getElem?_toArray.trans rfl) (by kernel_rfl) (by kernel_rfl) (by kernel_rfl) (fun _ _ _ h => h) (Or.inl ⟨by rfl, ?_⟩) (by assumption) ?_
  · intro W hSw
    obtain ⟨q0, q1, q2, q3, q4⟩ := F0.out W hSw.k
    first | (go_simp; done) | (go_simp; rfl)
  simp only [Act.put, List.setIfInBounds_toArray, List.set_cons_zero, List.set_cons_succ]
  refine wpAnyH_take (i := 11) (v := (.pointer (some ⟨w.heap.size, 3, none⟩))) (List.getElem?_toArray.trans rfl) (by kernel_rfl) (by kernel_rfl) (by kernel_rfl) (fun _ _ _ h => h) (Or.inl ⟨by rfl, ?_⟩) (by assumption) ?_
  · intro W hSw
    first | rfl | (go_simp; done) | (go_simp; rfl)
  simp only [Act.put, List.setIfInBounds_toArray, List.set_cons_zero, List.set_cons_succ]
  refine wpAnyH_take (i := 12) (v := (.string (bs last))) (List.getElem?_toArray.trans rfl) (by kernel_rfl) (by kernel_rfl) (by kernel_rfl) (fun _ _ _ h => h) (Or.inl ⟨by rfl, ?_⟩) (by assumption) ?_
  · intro W hSw
    obtain ⟨q0, q1, q2, q3, q4⟩ := F0.out W hSw.k
    first | (go_simp; done) | (go_simp; rfl)
  simp only [Act.put, List.setIfInBounds_toArray, List.set_cons_zero, List.set_cons_succ]
  refine wpAnyH_take (i := 15) (v := (.pointer (some ⟨w.heap.size, 4, none⟩))) (List.getElem?_toArray.trans rfl) (by kernel_rfl) (by kernel_rfl) (by kernel_rfl) (fun _ _ _ h => h) (Or.inl ⟨by rfl, ?_⟩) (by assumption) ?_
  · intro W hSw
    first | rfl | (go_simp; done) | (go_simp; rfl)
  simp only [Act.put, List.setIfInBounds_toArray, List.set_cons_zero, List.set_cons_succ]
  refine wpAnyH_take (i := 16) (v := (.int .u64 (seq : Nat))) (List.getElem?_toArray.trans rfl) (by kernel_rfl) (by kernel_rfl) (by kernel_rfl) (fun _ _ _ h => h) (Or.inl ⟨by rfl, ?_⟩) (by assumption) ?_
  · intro W hSw
    obtain ⟨q0, q1, q2, q3, q4⟩ := F0.out W hSw.k
    first | (go_simp; done) | (go_simp; rfl)
  simp only [Act.put, List.setIfInBounds_toArray, List.set_cons_zero, List.set_cons_succ]
  refine wpAnyH_ready (rs := [5, 17]) (by kernel_rfl) (by simp) ?_
  refine (AllReadyH.cons (List.getElem?_toArray.trans rfl) (fun K hK => ?_) (AllReadyH.cons (List.getElem?_toArray.trans rfl) (fun K hK => ?_) AllReadyH.nil))
  · go_simp
    obtain ⟨wd, b5, hwd, hb, hkv, n5⟩ := lit2 hHeld.k file zn
    have HS := Lib.hid hkv
    rw [← hwd, ← hb]
    have hkw := Lib.hid (show Kept _ wd from by rw [hwd]; exact (Kept.refl _).alloc _)
    have N5 := n5
    clear hwd hb hkv n5 hkw
    go_wp2_with fail
    refine hK.out _ _ HS.out (fun hHeld => ?_)
    clear hK K
    refine wpAnyH_ready (rs := [6, 17]) (by kernel_rfl) (by simp) ?_
    refine (AllReadyH.cons (List.getElem?_toArray.trans rfl) (fun K hK => ?_) (AllReadyH.cons (List.getElem?_toArray.trans rfl) (fun K hK => ?_) AllReadyH.nil))
    · go_simp
      have HB := Lib.hid hHeld
      refine (h2.out _ _ N5.out).mono ?_
      rintro e wa ⟨rfl, ga⟩
      have HS := Lib.hid (show KV w0 wa from ⟨kept_trans HB.out.k ga⟩)
      have N5 := Lib.hid (N5.out.kept ga)
      clear ga HB
      go_wp2_with fail
      refine hK.out _ _ HS.out (fun hHeld => ?_)
      clear hK K
      refine wpAnyH_ready (rs := [9, 17]) (by kernel_rfl) (by simp) ?_
      refine (AllReadyH.cons (List.getElem?_toArray.trans rfl) (fun K hK => ?_) (AllReadyH.cons (List.getElem?_toArray.trans rfl) (fun K hK => ?_) AllReadyH.nil))
      · go_simp
        have HB := Lib.hid hHeld
        refine (g1.out _).mono ?_
        rintro e wa ⟨rfl, ga⟩
        have HS := Lib.hid (show KV w0 wa from ⟨kept_trans HB.out.k ga⟩)
        have N5 := Lib.hid (N5.out.kept ga)
        clear ga HB
        go_wp2_with fail
        refine hK.out _ _ HS.out (fun hHeld => ?_)
        clear hK K
        refine wpAnyH_take (i := 10) (v := (.string (R1 ++ R2))) (List.getElem?_toArray.trans rfl) (by kernel_rfl) (by kernel_rfl) (by kernel_rfl) (fun _ _ _ h => h) (Or.inl ⟨by rfl, ?_⟩) (by assumption) ?_
        · intro W hSw
          first | rfl | (go_simp; done) | (go_simp; rfl)
        simp only [Act.put, List.setIfInBounds_toArray, List.set_cons_zero, List.set_cons_succ]
        refine wpAnyH_ready (rs := [13, 17]) (by kernel_rfl) (by simp) ?_
        refine (AllReadyH.cons (List.getElem?_toArray.trans rfl) (fun K hK => ?_) (AllReadyH.cons (List.getElem?_toArray.trans rfl) (fun K hK => ?_) AllReadyH.nil))
        · go_simp
          have HB := Lib.hid hHeld
          refine (g2.out _).mono ?_
          rintro e wa ⟨rfl, ga⟩
          have HS := Lib.hid (show KV w0 wa from ⟨kept_trans HB.out.k ga⟩)
          have N5 := Lib.hid (N5.out.kept ga)
          clear ga HB
          go_wp2_with fail
          refine hK.out _ _ HS.out (fun hHeld => ?_)
          clear hK K
          refine wpAnyH_take (i := 14) (v := (.string (R1 ++ R2 ++ R3))) (List.getElem?_toArray.trans rfl) (by kernel_rfl) (by kernel_rfl) (by kernel_rfl) (fun _ _ _ h => h) (Or.inl ⟨by rfl, ?_⟩) (by assumption) ?_
          · intro W hSw
            first | rfl | (go_simp; done) | (go_simp; rfl)
          simp only [Act.put, List.setIfInBounds_toArray, List.set_cons_zero, List.set_cons_succ]
          refine wpAnyH_ready (rs := [17]) (by kernel_rfl) (by simp) ?_
          refine (AllReadyH.cons (List.getElem?_toArray.trans rfl) (fun K hK => ?_) AllReadyH.nil)
          go_simp
          obtain ⟨wd, b17, hwd, hb, hkv, n17⟩ := lit1 hHeld.k seq
          have HS := Lib.hid hkv
          rw [← hwd, ← hb]
          have hkw := Lib.hid (show Kept _ wd from by rw [hwd]; exact (Kept.refl _).alloc _)
          have N5 := Lib.hid (N5.out.kept hkw.out)
          have N17 := n17
          clear hwd hb hkv n17 hkw
          go_wp2_with fail
          refine hK.out _ _ HS.out (fun hHeld => ?_)
          clear hK K
          refine wpAnyH_ready (rs := [18]) (by kernel_rfl) (by simp) ?_
          refine (AllReadyH.cons (List.getElem?_toArray.trans rfl) (fun K hK => ?_) AllReadyH.nil)
          go_simp
          have HB := Lib.hid hHeld
          refine (h1.out _ _ N17.out).mono ?_
          rintro e wa ⟨rfl, ga⟩
          have HS := Lib.hid (show KV w0 wa from ⟨kept_trans HB.out.k ga⟩)
          have N5 := Lib.hid (N5.out.kept ga)
          have N17 := Lib.hid (N17.out.kept ga)
          clear ga HB
          go_wp2_with fail
          refine hK.out _ _ HS.out (fun hHeld => ?_)
          clear hK K
          refine wpAnyH_take (i := 19) (v := (.string (R1 ++ R2 ++ R3 ++ R4))) (List.getElem?_toArray.trans rfl) (by kernel_rfl) (by kernel_rfl) (by kernel_rfl) (fun _ _ _ h => h) (Or.inl ⟨by rfl, ?_⟩) (by assumption) ?_
          · intro W hSw
            first | rfl | (go_simp; done) | (go_simp; rfl)
          simp only [Act.put, List.setIfInBounds_toArray, List.set_cons_zero, List.set_cons_succ]
          refine wpAnyH_take (i := 20) (v := (.string (R1 ++ R2 ++ R3 ++ R4))) (List.getElem?_toArray.trans rfl) (by kernel_rfl) (by kernel_rfl) (by kernel_rfl) (fun _ _ _ h => h) (Or.inl ⟨by rfl, ?_⟩) (by assumption) ?_
          · intro W hSw
            first | rfl | (go_simp; done) | (go_simp; rfl)
          simp only [Act.put, List.setIfInBounds_toArray, List.set_cons_zero, List.set_cons_succ]
          refine wpAnyH_done (by kernel_rfl) ?_ _
          go_wp2_with fail
          go_ret
          exact ⟨rfl, kept_trans K0.out hHeld.k⟩
        · go_simp
          obtain ⟨wd, b17, hwd, hb, hkv, n17⟩ := lit1 hHeld.k seq
          have HS := Lib.hid hkv
          rw [← hwd, ← hb]
          have hkw := Lib.hid (show Kept _ wd from by rw [hwd]; exact (Kept.refl _).alloc _)
          have N5 := Lib.hid (N5.out.kept hkw.out)
          have N17 := n17
          clear hwd hb hkv n17 hkw
          go_wp2_with fail
          refine hK.out _ _ HS.out (fun hHeld => ?_)
          clear hK K
          refine wpAnyH_ready (rs := [13]) (by kernel_rfl) (by simp) ?_
          refine (AllReadyH.cons (List.getElem?_toArray.trans rfl) (fun K hK => ?_) AllReadyH.nil)
          go_simp
          have HB := Lib.hid hHeld
          refine (g2.out _).mono ?_
          rintro e wa ⟨rfl, ga⟩
          have HS := Lib.hid (show KV w0 wa from ⟨kept_trans HB.out.k ga⟩)
          have N5 := Lib.hid (N5.out.kept ga)
          have N17 := Lib.hid (N17.out.kept ga)
          clear ga HB
          go_wp2_with fail
          refine hK.out _ _ HS.out (fun hHeld => ?_)
          clear hK K
          refine wpAnyH_take (i := 14) (v := (.string (R1 ++ R2 ++ R3))) (List.getElem?_toArray.trans rfl) (by kernel_rfl) (by kernel_rfl) (by kernel_rfl) (fun _ _ _ h => h) (Or.inl ⟨by rfl, ?_⟩) (by assumption) ?_
          · intro W hSw
            first | rfl | (go_simp; done) | (go_simp; rfl)
          simp only [Act.put, List.setIfInBounds_toArray, List.set_cons_zero, List.set_cons_succ]
          refine wpAnyH_ready (rs := [18]) (by kernel_rfl) (by simp) ?_
          refine (AllReadyH.cons (List.getElem?_toArray.trans rfl) (fun K hK => ?_) AllReadyH.nil)
          go_simp
          have HB := Lib.hid hHeld
          refine (h1.out _ _ N17.out).mono ?_
          rintro e wa ⟨rfl, ga⟩
          have HS := Lib.hid (show KV w0 wa from ⟨kept_trans HB.out.k ga⟩)
          have N5 := Lib.hid (N5.out.kept ga)
          have N17 := Lib.hid (N17.out.kept ga)
          clear ga HB
          go_wp2_with fail
          refine hK.out _ _ HS.out (fun hHeld => ?_)
          clear hK K
          refine wpAnyH_take (i := 19) (v := (.string (R1 ++ R2 ++ R3 ++ R4))) (List.getElem?_toArray.trans rfl) (by kernel_rfl) (by kernel_rfl) (by kernel_rfl) (fun _ _ _ h => h) (Or.inl ⟨by rfl, ?_⟩) (by assumption) ?_
          · intro W hSw
            first | rfl | (go_simp; done) | (go_simp; rfl)
          simp only [Act.put, List.setIfInBounds_toArray, List.set_cons_zero, List.set_cons_succ]
          refine wpAnyH_take (i := 20) (v := (.string (R1 ++ R2 ++ R3 ++ R4))) (List.getElem?_toArray.trans rfl) (by kernel_rfl) (by kernel_rfl) (by kernel_rfl) (fun _ _ _ h => h) (Or.inl ⟨by rfl, ?_⟩) (by assumption) ?_
          · intro W hSw
            first | rfl | (go_simp; done) | (go_simp; rfl)
          simp only [Act.put, List.setIfInBounds_toArray, List.set_cons_zero, List.set_cons_succ]
          refine wpAnyH_done (by kernel_rfl) ?_ _
          go_wp2_with fail
          go_ret
          exact ⟨rfl, kept_trans K0.out hHeld.k⟩
      · go_simp
        obtain ⟨wd, b17, hwd, hb, hkv, n17⟩ := lit1 hHeld.k seq
        have HS := Lib.hid hkv
        rw [← hwd, ← hb]
        have hkw := Lib.hid (show Kept _ wd from by rw [hwd]; exact (Kept.refl _).alloc _)
        have N5 := Lib.hid (N5.out.kept hkw.out)
        have N17 := n17
        clear hwd hb hkv n17 hkw
        go_wp2_with fail
        refine hK.out _ _ HS.out (fun hHeld => ?_)
        clear hK K
        refine wpAnyH_ready (rs := [9]) (by kernel_rfl) (by simp) ?_
        refine (AllReadyH.cons (List.getElem?_toArray.trans rfl) (fun K hK => ?_) AllReadyH.nil)
        go_simp
        have HB := Lib.hid hHeld
        refine (g1.out _).mono ?_
        rintro e wa ⟨rfl, ga⟩
        have HS := Lib.hid (show KV w0 wa from ⟨kept_trans HB.out.k ga⟩)
        have N5 := Lib.hid (N5.out.kept ga)
        have N17 := Lib.hid (N17.out.kept ga)
        clear ga HB
        go_wp2_with fail
        refine hK.out _ _ HS.out (fun hHeld => ?_)
        clear hK K
        refine wpAnyH_take (i := 10) (v := (.string (R1 ++ R2))) (List.getElem?_toArray.trans rfl) (by kernel_rfl) (by kernel_rfl) (by kernel_rfl) (fun _ _ _ h => h) (Or.inl ⟨by rfl, ?_⟩) (by assumption) ?_
        · intro W hSw
          first | rfl | (go_simp; done) | (go_simp; rfl)
        simp only [Act.put, List.setIfInBounds_toArray, List.set_cons_zero, List.set_cons_succ]
        refine wpAnyH_ready (rs := [13]) (by kernel_rfl) (by simp) ?_
        refine (AllReadyH.cons (List.getElem?_toArray.trans rfl) (fun K hK => ?_) AllReadyH.nil)
        go_simp
        have HB := Lib.hid hHeld
        refine (g2.out _).mono ?_
        rintro e wa ⟨rfl, ga⟩
        have HS := Lib.hid (show KV w0 wa from ⟨kept_trans HB.out.k ga⟩)
        have N5 := Lib.hid (N5.out.kept ga)
        have N17 := Lib.hid (N17.out.kept ga)
        clear ga HB
        go_wp2_with fail
        refine hK.out _ _ HS.out (fun hHeld => ?_)
        clear hK K
        refine wpAnyH_take (i := 14) (v := (.string (R1 ++ R2 ++ R3))) (List.getElem?_toArray.trans rfl) (by kernel_rfl) (by kernel_rfl) (by kernel_rfl) (fun _ _ _ h => h) (Or.inl ⟨by rfl, ?_⟩) (by assumption) ?_
        · intro W hSw
          first | rfl | (go_simp; done) | (go_simp; rfl)
        simp only [Act.put, List.setIfInBounds_toArray, List.set_cons_zero, List.set_cons_succ]
        refine wpAnyH_ready (rs := [18]) (by kernel_rfl) (by simp) ?_
        refine (AllReadyH.cons (List.getElem?_toArray.trans rfl) (fun K hK => ?_) AllReadyH.nil)
        go_simp
        have HB := Lib.hid hHeld
        refine (h1.out _ _ N17.out).mono ?_
        rintro e wa ⟨rfl, ga⟩
        have HS := Lib.hid (show KV w0 wa from ⟨kept_trans HB.out.k ga⟩)
        have N5 := Lib.hid (N5.out.kept ga)
        have N17 := Lib.hid (N17.out.kept ga)
        clear ga HB
        go_wp2_with fail
        refine hK.out _ _ HS.out (fun hHeld => ?_)
        clear hK K
        refine wpAnyH_take (i := 19) (v := (.string (R1 ++ R2 ++ R3 ++ R4))) (List.getElem?_toArray.trans rfl) (by kernel_rfl) (by kernel_rfl) (by kernel_rfl) (fun _ _ _ h => h) (Or.inl ⟨by rfl, ?_⟩) (by assumption) ?_
        · intro W hSw
          first | rfl | (go_simp; done) | (go_simp; rfl)
        simp only [Act.put, List.setIfInBounds_toArray, List.set_cons_zero, List.set_cons_succ]
        refine wpAnyH_take (i := 20) (v := (.string (R1 ++ R2 ++ R3 ++ R4))) (List.getElem?_toArray.trans rfl) (by kernel_rfl) (by kernel_rfl) (by kernel_rfl) (fun _ _ _ h => h) (Or.inl ⟨by rfl, ?_⟩) (by assumption) ?_
        · intro W hSw
          first | rfl | (go_simp; done) | (go_simp; rfl)
        simp only [Act.put, List.setIfInBounds_toArray, List.set_cons_zero, List.set_cons_succ]
        refine wpAnyH_done (by kernel_rfl) ?_ _
        go_wp2_with fail
        go_ret
        exact ⟨rfl, kept_trans K0.out hHeld.k⟩
    · go_simp
      obtain ⟨wd, b17, hwd, hb, hkv, n17⟩ := lit1 hHeld.k seq
      have HS := Lib.hid hkv
      rw [← hwd, ← hb]
      have hkw := Lib.hid (show Kept _ wd from by rw [hwd]; exact (Kept.refl _).alloc _)
      have N5 := Lib.hid (N5.out.kept hkw.out)
      have N17 := n17
      clear hwd hb hkv n17 hkw
      go_wp2_with fail
      refine hK.out _ _ HS.out (fun hHeld => ?_)
      clear hK K
      refine wpAnyH_ready (rs := [6]) (by kernel_rfl) (by simp) ?_
      refine (AllReadyH.cons (List.getElem?_toArray.trans rfl) (fun K hK => ?_) AllReadyH.nil)
      go_simp
      have HB := Lib.hid hHeld
      refine (h2.out _ _ N5.out).mono ?_
      rintro e wa ⟨rfl, ga⟩
      have HS := Lib.hid (show KV w0 wa from ⟨kept_trans HB.out.k ga⟩)
      have N5 := Lib.hid (N5.out.kept ga)
      have N17 := Lib.hid (N17.out.kept ga)
      clear ga HB
      go_wp2_with fail
      refine hK.out _ _ HS.out (fun hHeld => ?_)
      clear hK K
      refine wpAnyH_ready (rs := [9]) (by kernel_rfl) (by simp) ?_
      refine (AllReadyH.cons (List.getElem?_toArray.trans rfl) (fun K hK => ?_) AllReadyH.nil)
      go_simp
      have HB := Lib.hid hHeld
      refine (g1.out _).mono ?_
      rintro e wa ⟨rfl, ga⟩
      have HS := Lib.hid (show KV w0 wa from ⟨kept_trans HB.out.k ga⟩)
      have N5 := Lib.hid (N5.out.kept ga)
      have N17 := Lib.hid (N17.out.kept ga)
      clear ga HB
      go_wp2_with fail
      refine hK.out _ _ HS.out (fun hHeld => ?_)
      clear hK K
      refine wpAnyH_take (i := 10) (v := (.string (R1 ++ R2))) (List.getElem?_toArray.trans rfl) (by kernel_rfl) (by kernel_rfl) (by kernel_rfl) (fun _ _ _ h => h) (Or.inl ⟨by rfl, ?_⟩) (by assumption) ?_
      · intro W hSw
        first | rfl | (go_simp; done) | (go_simp; rfl)
      simp only [Act.put, List.setIfInBounds_toArray, List.set_cons_zero, List.set_cons_succ]
      refine wpAnyH_ready (rs := [13]) (by kernel_rfl) (by simp) ?_
      refine (AllReadyH.cons (List.getElem?_toArray.trans rfl) (fun K hK => ?_) AllReadyH.nil)
      go_simp
      have HB := Lib.hid hHeld
      refine (g2.out _).mono ?_
      rintro e wa ⟨rfl, ga⟩
      have HS := Lib.hid (show KV w0 wa from ⟨kept_trans HB.out.k ga⟩)
      have N5 := Lib.hid (N5.out.kept ga)
      have N17 := Lib.hid (N17.out.kept ga)
      clear ga HB
      go_wp2_with fail
      refine hK.out _ _ HS.out (fun hHeld => ?_)
      clear hK K
      refine wpAnyH_take (i := 14) (v := (.string (R1 ++ R2 ++ R3))) (List.getElem?_toArray.trans rfl) (by kernel_rfl) (by kernel_rfl) (by kernel_rfl) (fun _ _ _ h => h) (Or.inl ⟨by rfl, ?_⟩) (by assumption) ?_
      · intro W hSw
        first | rfl | (go_simp; done) | (go_simp; rfl)
      simp only [Act.put, List.setIfInBounds_toArray, List.set_cons_zero, List.set_cons_succ]
      refine wpAnyH_ready (rs := [18]) (by kernel_rfl) (by simp) ?_
      refine (AllReadyH.cons (List.getElem?_toArray.trans rfl) (fun K hK => ?_) AllReadyH.nil)
      go_simp
      have HB := Lib.hid hHeld
      refine (h1.out _ _ N17.out).mono ?_
      rintro e wa ⟨rfl, ga⟩
      have HS := Lib.hid (show KV w0 wa from ⟨kept_trans HB.out.k ga⟩)
      have N5 := Lib.hid (N5.out.kept ga)
      have N17 := Lib.hid (N17.out.kept ga)
      clear ga HB
      go_wp2_with fail
      refine hK.out _ _ HS.out (fun hHeld => ?_)
      clear hK K
      refine wpAnyH_take (i := 19) (v := (.string (R1 ++ R2 ++ R3 ++ R4))) (List.getElem?_toArray.trans rfl) (by kernel_rfl) (by kernel_rfl) (by kernel_rfl) (fun _ _ _ h => h) (Or.inl ⟨by rfl, ?_⟩) (by assumption) ?_
      · intro W hSw
        first | rfl | (go_simp; done) | (go_simp; rfl)
      simp only [Act.put, List.setIfInBounds_toArray, List.set_cons_zero, List.set_cons_succ]
      refine wpAnyH_take (i := 20) (v := (.string (R1 ++ R2 ++ R3 ++ R4))) (List.getElem?_toArray.trans rfl) (by kernel_rfl) (by kernel_rfl) (by kernel_rfl) (fun _ _ _ h => h) (Or.inl ⟨by rfl, ?_⟩) (by assumption) ?_
      · intro W hSw
        first | rfl | (go_simp; done) | (go_simp; rfl)
      simp only [Act.put, List.setIfInBounds_toArray, List.set_cons_zero, List.set_cons_succ]
      refine wpAnyH_done (by kernel_rfl) ?_ _
      go_wp2_with fail
      go_ret
      exact ⟨rfl, kept_trans K0.out hHeld.k⟩
  · go_simp
    obtain ⟨wd, b17, hwd, hb, hkv, n17⟩ := lit1 hHeld.k seq
    have HS := Lib.hid hkv
    rw [← hwd, ← hb]
    have hkw := Lib.hid (show Kept _ wd from by rw [hwd]; exact (Kept.refl _).alloc _)
    have N17 := n17
    clear hwd hb hkv n17 hkw
    go_wp2_with fail
    refine hK.out _ _ HS.out (fun hHeld => ?_)
    clear hK K
    refine wpAnyH_ready (rs := [5]) (by kernel_rfl) (by simp) ?_
    refine (AllReadyH.cons (List.getElem?_toArray.trans rfl) (fun K hK => ?_) AllReadyH.nil)
    go_simp
    obtain ⟨wd, b5, hwd, hb, hkv, n5⟩ := lit2 hHeld.k file zn
    have HS := Lib.hid hkv
    rw [← hwd, ← hb]
    have hkw := Lib.hid (show Kept _ wd from by rw [hwd]; exact (Kept.refl _).alloc _)
    have N17 := Lib.hid (N17.out.kept hkw.out)
    have N5 := n5
    clear hwd hb hkv n5 hkw
    go_wp2_with fail
    refine hK.out _ _ HS.out (fun hHeld => ?_)
    clear hK K
    refine wpAnyH_ready (rs := [6]) (by kernel_rfl) (by simp) ?_
    refine (AllReadyH.cons (List.getElem?_toArray.trans rfl) (fun K hK => ?_) AllReadyH.nil)
    go_simp
    have HB := Lib.hid hHeld
    refine (h2.out _ _ N5.out).mono ?_
    rintro e wa ⟨rfl, ga⟩
    have HS := Lib.hid (show KV w0 wa from ⟨kept_trans HB.out.k ga⟩)
    have N5 := Lib.hid (N5.out.kept ga)
    have N17 := Lib.hid (N17.out.kept ga)
    clear ga HB
    go_wp2_with fail
    refine hK.out _ _ HS.out (fun hHeld => ?_)
    clear hK K
    refine wpAnyH_ready (rs := [9]) (by kernel_rfl) (by simp) ?_
    refine (AllReadyH.cons (List.getElem?_toArray.trans rfl) (fun K hK => ?_) AllReadyH.nil)
    go_simp
    have HB := Lib.hid hHeld
    refine (g1.out _).mono ?_
    rintro e wa ⟨rfl, ga⟩
    have HS := Lib.hid (show KV w0 wa from ⟨kept_trans HB.out.k ga⟩)
    have N5 := Lib.hid (N5.out.kept ga)
    have N17 := Lib.hid (N17.out.kept ga)
    clear ga HB
    go_wp2_with fail
    refine hK.out _ _ HS.out (fun hHeld => ?_)
    clear hK K
    refine wpAnyH_take (i := 10) (v := (.string (R1 ++ R2))) (List.getElem?_toArray.trans rfl) (by kernel_rfl) (by kernel_rfl) (by kernel_rfl) (fun _ _ _ h => h) (Or.inl ⟨by rfl, ?_⟩) (by assumption) ?_
    · intro W hSw
      first | rfl | (go_simp; done) | (go_simp; rfl)
    simp only [Act.put, List.setIfInBounds_toArray, List.set_cons_zero, List.set_cons_succ]
    refine wpAnyH_ready (rs := [13]) (by kernel_rfl) (by simp) ?_
    refine (AllReadyH.cons (List.getElem?_toArray.trans rfl) (fun K hK => ?_) AllReadyH.nil)
    go_simp
    have HB := Lib.hid hHeld
    refine (g2.out _).mono ?_
    rintro e wa ⟨rfl, ga⟩
    have HS := Lib.hid (show KV w0 wa from ⟨kept_trans HB.out.k ga⟩)
    have N5 := Lib.hid (N5.out.kept ga)
    have N17 := Lib.hid (N17.out.kept ga)
    clear ga HB
    go_wp2_with fail
    refine hK.out _ _ HS.out (fun hHeld => ?_)
    clear hK K
    refine wpAnyH_take (i := 14) (v := (.string (R1 ++ R2 ++ R3))) (List.getElem?_toArray.trans rfl) (by kernel_rfl) (by kernel_rfl) (by kernel_rfl) (fun _ _ _ h => h) (Or.inl ⟨by rfl, ?_⟩) (by assumption) ?_
    · intro W hSw
      first | rfl | (go_simp; done) | (go_simp; rfl)
    simp only [Act.put, List.setIfInBounds_toArray, List.set_cons_zero, List.set_cons_succ]
    refine wpAnyH_ready (rs := [18]) (by kernel_rfl) (by simp) ?_
    refine (AllReadyH.cons (List.getElem?_toArray.trans rfl) (fun K hK => ?_) AllReadyH.nil)
    go_simp
    have HB := Lib.hid hHeld
    refine (h1.out _ _ N17.out).mono ?_
    rintro e wa ⟨rfl, ga⟩
    have HS := Lib.hid (show KV w0 wa from ⟨kept_trans HB.out.k ga⟩)
    have N5 := Lib.hid (N5.out.kept ga)
    have N17 := Lib.hid (N17.out.kept ga)
    clear ga HB
    go_wp2_with fail
    refine hK.out _ _ HS.out (fun hHeld => ?_)
    clear hK K
    refine wpAnyH_take (i := 19) (v := (.string (R1 ++ R2 ++ R3 ++ R4))) (List.getElem?_toArray.trans rfl) (by kernel_rfl) (by kernel_rfl) (by kernel_rfl) (fun _ _ _ h => h) (Or.inl ⟨by rfl, ?_⟩) (by assumption) ?_
    · intro W hSw
      first | rfl | (go_simp; done) | (go_simp; rfl)
    simp only [Act.put, List.setIfInBounds_toArray, List.set_cons_zero, List.set_cons_succ]
    refine wpAnyH_take (i := 20) (v := (.string (R1 ++ R2 ++ R3 ++ R4))) (List.getElem?_toArray.trans rfl) (by kernel_rfl) (by kernel_rfl) (by kernel_rfl) (fun _ _ _ h => h) (Or.inl ⟨by rfl, ?_⟩) (by assumption) ?_
    · intro W hSw
      first | rfl | (go_simp; done) | (go_simp; rfl)
    simp only [Act.put, List.setIfInBounds_toArray, List.set_cons_zero, List.set_cons_succ]
    refine wpAnyH_done (by kernel_rfl) ?_ _
    go_wp2_with fail
    go_ret
    exact ⟨rfl, kept_trans K0.out hHeld.k⟩
  -- REGION MetaBytes END
end Go.Proofs.YtnnmalpnjlnnlaaGreat

/-
  Package level over memory: has an edit bytes?
-/
namespace Go.Proofs.YtnnmalpnjlnnlaaGreat
open Go.ChangeShapes Go.WideShapes Go.ChangeAt Go.RowKit
set_option linter.unusedVariables false
set_option maxRecDepth 100000
set_option maxHeartbeats 8000000
open Lv
theorem nus_lies {w : World} {A : Option Addr} {l : List Nat} (h : Nus w A l) : A = none ∨ (∃ ad, A = some ad) := by cases A with | none => exact .inl rfl | some a => exact .inr ⟨a, rfl⟩
theorem lies_nus {w : World} {A : Option Addr} {l : List Nat} (h : Nus w A l) : Lies w A (nsc l) := by
  refine ⟨fun e => ?_, fun ad e j u hu => ?_⟩
  · cases l with
    | nil => rfl
    | cons x l =>
      obtain ⟨b, o, e2, _⟩ := h 0 x rfl
      rw [e] at e2; cases e2
  · unfold nsc at hu
    rw [List.getElem?_map, Option.map_eq_some_iff] at hu
    obtain ⟨x, hx, rfl⟩ := hu
    obtain ⟨b, o, e2, hb, hc⟩ := h j x hx
    rw [e] at e2
    cases e2
    have hadd : (⟨b, o, none⟩ : Addr).add j = ⟨b, o + j, none⟩ := by unfold Addr.add; split <;> simp_all
    exact ⟨b, rfl, hb, by rw [hadd]; exact hc⟩
theorem own_nus {w : World} {B n : Nat} {v : Value} {l : List Nat} (h : w.ownsRow B 32 1 v n (nsc l)) : ∃ A c, v = .slice A l.length c ∧ n = l.length ∧ Nus w A l := by
  have hl : l.length = n := by have := h.1; rw [nsc_len] at this; omega
  rcases h.2 with ⟨e, e0⟩ | ⟨r, cap, cur, e, hbs, hb, hnc, _, _, htk⟩
  · have : l = [] := List.eq_nil_of_length_eq_zero (by omega)
    subst this
    exact ⟨none, 0, e, by simp; omega, fun j x hx => by simp at hx⟩
  · refine ⟨some ⟨r, 0, none⟩, cap, by rw [hl]; exact e, hl.symm, fun j x hx => ⟨r, 0, rfl, mheap_lt hb, ?_⟩⟩
    have hj := (List.getElem?_eq_some_iff.1 hx).1
    have hu : (nsc l)[j]? = some (.int .u64 (x : Nat)) := by unfold nsc; rw [List.getElem?_map, hx]; rfl
    rw [← htk, List.getElem?_take, if_pos (by omega)] at hu
    rw [Nat.zero_add]
    exact mcell hb j (by simpa using hu)
theorem lit3_own (w : World) (x y z : Nat) : (w.alloc (.cells #[.int .u64 (x : Nat), .int .u64 (y : Nat), .int .u64 (z : Nat)] 32)).ownsRow w.heap.size 32 1 (.slice (some ⟨w.heap.size, 0, none⟩) 3 3) 3 (nsc [x, y, z]) :=
  ⟨by simp [nsc], .inr ⟨w.heap.size, 3, _, rfl, Nat.le_refl _, malloc_new w _, Nat.le_refl _, by decide, by simp, by simp [nsc]⟩⟩
theorem isE_parts (E : Edt) (h1 : E.gone.length ≤ 120) (h2 : manyL E.new (fun _ => []) = false) : isE E = ((([E.nx, E.lg, E.sq] ++ E.gone).all isS) && all4 may E.new) := by
  unfold isE
  rw [h2, decide_eq_true h1]
  rfl
theorem lvhas_any {w : World} {e : Ed} (he : e.In w) :
    Calls Tryz.prog 59 #[e.v] w fun r w' => r = .returned (.bool (isE e.edt)) ∧ Kept w w' := by
  have HE := Lib.hid (fun W (hW : Kept w W) => he.kept hW)
  have HALL := Lib.hid (fun W (hW : Kept w W) => lvall_may (he.tab.kept hW) (fun l hl => Nat.le_trans (he.tl l hl) (by omega)))
  have HMN := Lib.hid (fun W => lvmany_any e.T vT0 W (fun l hl => Nat.le_trans (he.tl l hl) (by omega)) (fun l hl => by simp [vT0]))
  obtain ⟨i0, hi, hz0, hz1, hz2⟩ := info_parts uInfo
  have HI := Lib.hid hi; have HZ0 := Lib.hid hz0; have HZ1 := Lib.hid hz1; have HZ2 := Lib.hid hz2
  have HGN := Lib.hid (fun W (hW : Kept w W) => lies_nus (he.gone.kept hW))
  have hgl := he.gl
  obtain ⟨GA, gc, gone, eT, enx, elg, esq⟩ := e
  unfold Ed.v edv
  obtain ⟨E, hE⟩ : ∃ E : Edt, E = Ed.edt ⟨GA, gc, gone, eT, enx, elg, esq⟩ := ⟨_, rfl⟩
  rw [← hE]
  have HED := Lib.hid hE
  dsimp only at HALL HMN HGN hgl ⊢
  obtain ⟨A1, hA1⟩ : ∃ A1, A1 = all4 may (fun l => (eT l).l) := ⟨_, rfl⟩
  rw [← hA1] at HALL
  have HA := Lib.hid (show A1 = all4 may E.new from by rw [hE]; exact hA1)
  obtain ⟨Mn, hMn⟩ : ∃ Mn, Mn = many eT vT0 := ⟨_, rfl⟩
  rw [← hMn] at HMN
  have HMD := Lib.hid (show Mn = manyL E.new (fun _ => []) from by rw [hE, hMn]; rfl)
  unfold tbv at HALL HMN
  obtain ⟨a0, n0, c0, h0⟩ : ∃ a n c, (eT 0).v = .slice a n c := ⟨_, _, _, rfl⟩
  obtain ⟨a1, n1, c1, h1⟩ : ∃ a n c, (eT 1).v = .slice a n c := ⟨_, _, _, rfl⟩
  obtain ⟨a2, n2, c2, h2⟩ : ∃ a n c, (eT 2).v = .slice a n c := ⟨_, _, _, rfl⟩
  obtain ⟨a3, n3, c3, h3⟩ : ∃ a n c, (eT 3).v = .slice a n c := ⟨_, _, _, rfl⟩
  simp only [h0, h1, h2, h3] at HALL HMN ⊢
  have hnil : ∀ l, (vT0 l).v = .slice none 0 0 := fun _ => rfl
  simp only [hnil] at HMN
  clear h0 h1 h2 h3 hnil hE hA1 hMn he HE
  have HGE := Lib.hid (show E.gone = gone ∧ E.nx = enx ∧ E.lg = elg ∧ E.sq = esq from by rw [HED.out]; exact ⟨rfl, rfl, rfl, rfl⟩)
  obtain ⟨W1, hW1⟩ : ∃ W1, W1 = w.alloc (.cells #[.slice GA gone.length gc, .slice a0 n0 c0, .slice a1 n1 c1, .slice a2 n2 c2, .slice a3 n3 c3, .int .u64 (enx : Nat), .int .u64 (elg : Nat), .int .u64 (esq : Nat)] 34) := ⟨_, rfl⟩
  have G1 := Lib.hid (show Kept w W1 by rw [hW1]; exact (Kept.refl _).alloc _)
  have hb1 : W1.heap[w.heap.size]? = some (.cells #[.slice GA gone.length gc, .slice a0 n0 c0, .slice a1 n1 c1, .slice a2 n2 c2, .slice a3 n3 c3, .int .u64 (enx : Nat), .int .u64 (elg : Nat), .int .u64 (esq : Nat)] 34 (0, 0)) := by rw [hW1]; exact malloc_new w _
  have HB := Lib.hid (fun W (hW : Kept W1 W) => eight_cells (hp_kept hb1 hW))
  have HBL := Lib.hid (mheap_lt hb1)
  clear hb1
  obtain ⟨k0, k1, k2, k3, k4, k5, k6, k7⟩ := HB.out W1 (Kept.refl _)
  by_cases hg : gone.length ≤ 120
  · have d1 : decide ((120 : Int) < (gone.length : Int)) = false := decide_eq_false (by omega)
    go_enter Tryz.func59, Tryz.ntmps59
    go_upto_region 1 with fail
    rw [← hW1]
    clear hW1
    go_wp2_with fail
    refine (HMN.out _).mono ?_
    rintro r w2 ⟨rfl, g2⟩
    have G2 := Lib.hid (kept_trans G1.out g2)
    have G12 := Lib.hid g2
    clear g2 k0 k1 k2 k3 k4 k5 k6 k7 HMN d1
    cases Mn with
    | true =>
      go_wp2_with fail
      go_ret
      exact ⟨by unfold isE; rw [← HMD.out]; simp, G2.out⟩
    | false =>
    obtain ⟨k0, k1, k2, k3, k4, k5, k6, k7⟩ := HB.out w2 G12.out
    have hown := lit3_own w2 enx elg esq
    have HX := Lib.hid (HGN.out _ (kept_trans G2.out ((Kept.refl w2).alloc (.cells #[.int .u64 (enx : Nat), .int .u64 (elg : Nat), .int .u64 (esq : Nat)] 32))))
    have KA := Lib.hid ((Kept.refl w2).alloc (.cells #[.int .u64 (enx : Nat), .int .u64 (elg : Nat), .int .u64 (esq : Nat)] 32))
    have r0 := (kept_cell KA.out (p := ⟨w.heap.size, 0, none⟩) (Nat.lt_of_lt_of_le HBL.out G12.out.size)).trans k0
    have HO := Lib.hid hown
    clear hown
    go_wp2_with (at_builtin; refine app_lies 29 32 i0 (.int .u64 0) 1 8 Tryz.underlying29 HI.out HZ0.out HZ1.out HZ2.out rfl (by decide) GA gc 3 gone.length (nsc [enx, elg, esq]) (nsc gone) _ _ rfl rfl rfl w2.heap.size (Below.size KA.out) HO.out rfl (by simp [nsc]) HX.out (nsc_one _) (by unfold maxLen; omega) (by omega) ?_; intro v' w3 hown2 hg3)
    have hk3 : Kept w2 w3 := Below.grown KA.out hg3 KA.out.size (fun k hk => by cases hk; exact Nat.le_refl _)
    have K3 := Lib.hid hk3
    rw [← nsc_app] at hown2
    obtain ⟨VA, vc, rfl, hn3, hnu⟩ := own_nus hown2
    have HNU := Lib.hid hnu
    have HIS := Lib.hid (isE_parts E (by rw [HGE.out.1]; exact hg) HMD.out.symm)
    have hEL : [E.nx, E.lg, E.sq] ++ E.gone = [enx, elg, esq] ++ gone := by rw [HGE.out.1, HGE.out.2.1, HGE.out.2.2.1, HGE.out.2.2.2]
    rw [hEL, ← HA.out] at HIS
    have hLL : ([enx, elg, esq] ++ gone).length ≤ 2000 := by rw [List.length_append]; simp only [List.length_cons, List.length_nil]; omega
    clear hown2 hg3 hn3 hk3 k0 k1 k2 k3 k4 k5 k6 k7 r0 HX HO KA hEL HGN hnu hgl hg
    generalize [enx, elg, esq] ++ gone = L at *
    go_simp
    go_wp2_with fail
    go_loopw [26] (fun t wr => ∃ k : Nat, k ≤ L.length ∧ t = .int .i64 k ∧ Hid (∀ x ∈ L.take k, isS x = true) ∧ wr = w3) (fun t _ => L.length - (intOf t).toNat)
    case atStart => exact ⟨0, Nat.zero_le _, rfl, Lib.hid (by simp), rfl⟩
    case round =>
      obtain ⟨k, hk, rfl, HZ, rfl⟩ := hrel
      by_cases hlt : k < L.length
      · obtain ⟨x, hx⟩ : ∃ x, L[k]? = some x := ⟨_, List.getElem?_eq_getElem hlt⟩
        obtain ⟨b, o, rfl, hb, cx⟩ := HNU.out k x hx
        have HT := Lib.hid (show L.take (k + 1) = L.take k ++ [x] by rw [List.take_add_one, hx]; rfl)
        have HM := Lib.hid (List.mem_of_getElem? hx)
        clear hx
        by_cases hs : x ≤ 1099511627776
        · have d1 : decide ((1099511627776 : Int) < (x : Int)) = false := decide_eq_false (by omega)
          go_wp2_with fail
          go_roundw
          case rel => exact ⟨k + 1, by omega, by go_num, Lib.hid (fun y hy => by
            rw [HT.out, List.mem_append] at hy
            rcases hy with hy | hy
            · exact HZ.out y hy
            · rw [List.mem_singleton.1 hy]; exact decide_eq_true hs), by first | trivial | rfl⟩
          case measure => simp [intOf]; omega
        · have d1 : decide ((1099511627776 : Int) < (x : Int)) = true := decide_eq_true (by omega)
          have hf : L.all isS = false := by
            rw [Bool.eq_false_iff]
            intro hc
            rw [List.all_eq_true] at hc
            exact hs (of_decide_eq_true (hc x HM.out))
          have HFF := Lib.hid hf
          clear hf
          go_wp2_with fail
          go_ret
          exact ⟨by rw [HIS.out, HFF.out]; rfl, kept_trans G2.out K3.out⟩
      · obtain rfl : k = L.length := by omega
        rw [List.take_length] at HZ
        have HFF := Lib.hid (show L.all isS = true by rw [List.all_eq_true]; exact HZ.out)
        obtain ⟨k0, k1, k2, k3, k4, k5, k6, k7⟩ := HB.out _ (kept_trans G12.out K3.out)
        have K4 := Lib.hid (kept_trans G2.out K3.out)
        go_wp2_with fail
        refine (HALL.out _ K4.out).mono ?_
        rintro r w5 ⟨rfl, g5⟩
        have K5 := Lib.hid (kept_trans K4.out g5)
        clear g5
        go_wp2_with fail
        go_ret
        exact ⟨by rw [HIS.out, HFF.out]; rfl, K5.out⟩
  · have d1 : decide ((120 : Int) < (gone.length : Int)) = true := decide_eq_true (by omega)
    go_enter Tryz.func59, Tryz.ntmps59
    go_upto_region 1 with fail
    rw [← hW1]
    clear hW1
    go_wp2_with fail
    go_ret
    exact ⟨by unfold isE; rw [HGE.out.1, decide_eq_false hg]; simp, G1.out⟩
end Go.Proofs.YtnnmalpnjlnnlaaGreat

/-
  Package level over memory: an edit's bytes.
-/
namespace Go.Proofs.YtnnmalpnjlnnlaaGreat
open Go.ChangeShapes Go.WideShapes Go.ChangeAt Go.RowKit
set_option linter.unusedVariables false
set_option maxRecDepth 100000
set_option maxHeartbeats 8000000
open Lv
theorem short_le (n : Nat) (h : n ≤ 18446744073709551615) : (Nm.short n).length ≤ 10 := by
  have := encG_le [n] (fun x hx => by simp at hx; omega)
  simpa [encG] using this
theorem szd_le (t : List UInt8) (h : t.length ≤ 100) : (szd t).length ≤ 110 := by
  unfold szd
  have := short_le t.length (by omega)
  rw [List.length_append]; omega
theorem encM_le {m : Meta} (h : may m = true) : (encM m).length ≤ 250 := by
  obtain ⟨f1, z0, z1, l1, l2, s1, f2, s2⟩ := may_nums h
  unfold encM
  have h1 := short_le m.file (by omega)
  have h2 := short_le m.size.toNat (by omega)
  have h3 := short_le m.seq (by omega)
  have h4 := szd_le m.first l1
  have h5 := szd_le m.last l2
  simp only [List.length_append]
  omega
theorem encMs_le : ∀ {l : List Meta}, (∀ m ∈ l, may m = true) → ((l.map encM).flatten).length ≤ 250 * l.length
  | [], _ => by simp
  | m :: l, h => by
    have ih := encMs_le (l := l) (fun x hx => h x (List.mem_cons_of_mem _ hx))
    have := encM_le (h m (by simp))
    simp only [List.map_cons, List.flatten_cons, List.length_append, List.length_cons]
    omega
theorem encL_le {l : List Meta} (h : ∀ m ∈ l, may m = true) (hl : l.length ≤ 30) : (encL l).length ≤ 8000 := by
  unfold encL
  have := short_le l.length (by omega)
  have := encMs_le h
  rw [List.length_append]; omega
theorem encT_le {t : Nat → List Meta} (h : ∀ l, l < 4 → (t l).length ≤ 30 ∧ ∀ m ∈ t l, may m = true) : ∀ k, k ≤ 4 → (encT t k).length ≤ 8000 * k
  | 0, _ => by simp [encT]
  | k + 1, hk => by
    have ih := encT_le h k (by omega)
    have := encL_le (h k (by omega)).2 (h k (by omega)).1
    rw [encT_succ, List.length_append]; omega
theorem map_take {l : List Meta} {j : Nat} {x : Meta} (h : l[j]? = some x) : ((l.take (j + 1)).map encM).flatten = ((l.take j).map encM).flatten ++ encM x := by
  rw [List.take_add_one, h]
  simp
theorem lit4 (w : World) (x y z u : Nat) : Nus (w.alloc (.cells #[.int .u64 (x : Nat), .int .u64 (y : Nat), .int .u64 (z : Nat), .int .u64 (u : Nat)] 32)) (some ⟨w.heap.size, 0, none⟩) [x, y, z, u] := fun j v hv => by
  have hn := malloc_new w (.cells #[.int .u64 (x : Nat), .int .u64 (y : Nat), .int .u64 (z : Nat), .int .u64 (u : Nat)] 32)
  refine ⟨w.heap.size, 0, rfl, by simp, ?_⟩
  match j, hv with
  | 0, hv => simp at hv; subst hv; exact mcell hn 0 (by rfl)
  | 1, hv => simp at hv; subst hv; exact mcell hn 1 (by rfl)
  | 2, hv => simp at hv; subst hv; exact mcell hn 2 (by rfl)
  | 3, hv => simp at hv; subst hv; exact mcell hn 3 (by rfl)
  | j + 4, hv => simp at hv
theorem lit1n (w : World) (x : Nat) : Nus (w.alloc (.cells #[.int .u64 (x : Nat)] 32)) (some ⟨w.heap.size, 0, none⟩) [x] := fun j v hv => by
  have hn := malloc_new w (.cells #[.int .u64 (x : Nat)] 32)
  refine ⟨w.heap.size, 0, rfl, by simp, ?_⟩
  match j, hv with
  | 0, hv => simp at hv; subst hv; exact mcell hn 0 (by rfl)
  | j + 1, hv => simp at hv
theorem idx_tab4 (T : Nat → Lvl) (k : Nat) (hk : k < 4) (W : World) : Sem.run Tryz.prog (Instr.index 31 (.agg #[(T 0).v, (T 1).v, (T 2).v, (T 3).v]) (.int .i64 (k : Int))) W = .ok (T k).v W := by
  have hk4 : k = 0 ∨ k = 1 ∨ k = 2 ∨ k = 3 := by omega
  rcases hk4 with rfl | rfl | rfl | rfl
  · simp [Instr.index, run_underlying Tryz.underlying31, asIntOf, go_sem]
  · simp [Instr.index, run_underlying Tryz.underlying31, asIntOf, go_sem]
  · simp [Instr.index, run_underlying Tryz.underlying31, asIntOf, go_sem]
  · simp [Instr.index, run_underlying Tryz.underlying31, asIntOf, go_sem]
theorem lvenc_any {w : World} {e : Ed} (he : e.In w) :
    Calls Tryz.prog 24 #[e.v] w fun r w' => r = .returned (.tuple #[.string (bs (encS e.edt)), .int .i64 (encC e.edt)]) ∧ Kept w w' := by
  have HE := Lib.hid (fun W (hW : Kept w W) => he.kept hW)
  have HH := Lib.hid (fun W (hW : Kept w W) => lvhas_any (he.kept hW))
  have HSH := Lib.hid (fun W A (l : List Nat) c (hA : Nus W A l) (hn : ∀ x ∈ l, x ≤ 18446744073709551615) (hl : l.length ≤ 1000) => lvshorts_any (w := W) hA hn hl c)
  obtain ⟨GA, gc, gone, eT, enx, elg, esq⟩ := e
  unfold Ed.v edv at HH
  unfold Ed.v edv
  obtain ⟨E, hE⟩ : ∃ E : Edt, E = Ed.edt ⟨GA, gc, gone, eT, enx, elg, esq⟩ := ⟨_, rfl⟩
  rw [← hE] at HH ⊢
  have HED := Lib.hid (show E.gone = gone ∧ E.new = (fun l => (eT l).l) ∧ E.nx = enx ∧ E.lg = elg ∧ E.sq = esq from by rw [hE]; exact ⟨rfl, rfl, rfl, rfl, rfl⟩)
  dsimp only at HH ⊢
  have hRS : (isE E = true → bs (encS E) = bs (enc E) ∧ encC E = 0) ∧ (isE E = false → bs (encS E) = bs [] ∧ encC E = 2) := by
    unfold encS encC
    cases isE E
    · exact ⟨(fun hh => by cases hh), fun _ => ⟨rfl, rfl⟩⟩
    · exact ⟨fun _ => ⟨rfl, rfl⟩, (fun hh => by cases hh)⟩
  generalize bs (encS E) = rEs at *
  generalize encC E = rEc at *
  have HRS := Lib.hid hRS
  clear hE hRS
  have hidx := fun k hk => idx_tab4 eT k hk
  obtain ⟨a0, n0, c0, h0⟩ : ∃ a n c, (eT 0).v = .slice a n c := ⟨_, _, _, rfl⟩
  obtain ⟨a1, n1, c1, h1⟩ : ∃ a n c, (eT 1).v = .slice a n c := ⟨_, _, _, rfl⟩
  obtain ⟨a2, n2, c2, h2⟩ : ∃ a n c, (eT 2).v = .slice a n c := ⟨_, _, _, rfl⟩
  obtain ⟨a3, n3, c3, h3⟩ : ∃ a n c, (eT 3).v = .slice a n c := ⟨_, _, _, rfl⟩
  simp only [h0, h1, h2, h3] at HH hidx ⊢
  have HIX := Lib.hid hidx
  clear h0 h1 h2 h3 hidx he
  obtain ⟨W1, hW1⟩ : ∃ W1, W1 = w.alloc (.cells #[.slice GA gone.length gc, .slice a0 n0 c0, .slice a1 n1 c1, .slice a2 n2 c2, .slice a3 n3 c3, .int .u64 (enx : Nat), .int .u64 (elg : Nat), .int .u64 (esq : Nat)] 34) := ⟨_, rfl⟩
  have G1 := Lib.hid (show Kept w W1 by rw [hW1]; exact (Kept.refl _).alloc _)
  have hb1 : W1.heap[w.heap.size]? = some (.cells #[.slice GA gone.length gc, .slice a0 n0 c0, .slice a1 n1 c1, .slice a2 n2 c2, .slice a3 n3 c3, .int .u64 (enx : Nat), .int .u64 (elg : Nat), .int .u64 (esq : Nat)] 34 (0, 0)) := by rw [hW1]; exact malloc_new w _
  have HB := Lib.hid (fun W (hW : Kept W1 W) => eight_cells (hp_kept hb1 hW))
  have HBL := Lib.hid (mheap_lt hb1)
  clear hb1
  obtain ⟨k0, k1, k2, k3, k4, k5, k6, k7⟩ := HB.out W1 (Kept.refl _)
  go_enter Tryz.func24, Tryz.ntmps24
  go_upto_region 1 with fail
  rw [← hW1]
  clear hW1
  go_wp2_with fail
  refine (HH.out _ G1.out).mono ?_
  rintro r w2 ⟨rfl, g2⟩
  have G2 := Lib.hid (kept_trans G1.out g2)
  have G12 := Lib.hid g2
  clear g2 k0 k1 k2 k3 k4 k5 k6 k7 HH
  cases hB : isE E with
  | false =>
    go_wp2_with fail
    go_ret2
    exact ⟨by rw [(HRS.out.2 hB).1, (HRS.out.2 hB).2]; rfl, G2.out⟩
  | true =>
  obtain ⟨hi1, hi2, ⟨hi3, hi4, hi5, hi6⟩, hi7⟩ := isE_iff.1 hB
  rw [HED.out.1] at hi1 hi6
  rw [HED.out.2.2.1] at hi3
  rw [HED.out.2.2.2.1] at hi4
  rw [HED.out.2.2.2.2] at hi5
  rw [HED.out.2.1] at hi2 hi7
  have HI6 := Lib.hid hi6; have HI2 := Lib.hid hi2; have HI7 := Lib.hid hi7
  have HEN := Lib.hid (show enc E = encG [enx, elg, esq, gone.length] ++ (encG gone ++ encT (fun l => (eT l).l) 4) from by
    unfold enc encH; rw [HED.out.1, HED.out.2.1, HED.out.2.2.1, HED.out.2.2.2.1, HED.out.2.2.2.2])
  have HLT := Lib.hid (encT_le (t := fun l => (eT l).l) (fun l hl => ⟨hi2 l hl, hi7 l hl⟩))
  have hlH := encG_le [enx, elg, esq, gone.length] (fun x hx => by simp at hx; omega)
  have hlG := encG_le gone (fun x hx => Nat.le_trans (hi6 x hx) (by omega))
  have HRR := Lib.hid (show rEs = bs (encG [enx, elg, esq, gone.length] ++ (encG gone ++ encT (fun l => (eT l).l) 4)) ∧ rEc = 0 from by rw [← HEN.out]; exact HRS.out.1 hB)
  have hw3 : IntKind.u64.wrap (gone.length : Int) = ((gone.length : Nat) : Int) := by rw [IntKind.wrap_u64]; omega
  clear hi2 hi6 hi7 hB HEN HRS
  obtain ⟨k0, k1, k2, k3, k4, k5, k6, k7⟩ := HB.out w2 G12.out
  have q0 : (w2.alloc (.cells #[.pointer none, .slice none 0 0] 101)).cell? ⟨w.heap.size, 0, none⟩ = some (.slice GA gone.length gc) := (kept_cell ((Kept.refl w2).alloc _) (p := ⟨w.heap.size, 0, none⟩) (Nat.lt_of_lt_of_le HBL.out G12.out.size)).trans k0
  have q5 : (w2.alloc (.cells #[.pointer none, .slice none 0 0] 101)).cell? ⟨w.heap.size, 5, none⟩ = some (.int .u64 (enx : Nat)) := (kept_cell ((Kept.refl w2).alloc _) (p := ⟨w.heap.size, 5, none⟩) (Nat.lt_of_lt_of_le HBL.out G12.out.size)).trans k5
  have q6 : (w2.alloc (.cells #[.pointer none, .slice none 0 0] 101)).cell? ⟨w.heap.size, 6, none⟩ = some (.int .u64 (elg : Nat)) := (kept_cell ((Kept.refl w2).alloc _) (p := ⟨w.heap.size, 6, none⟩) (Nat.lt_of_lt_of_le HBL.out G12.out.size)).trans k6
  have q7 : (w2.alloc (.cells #[.pointer none, .slice none 0 0] 101)).cell? ⟨w.heap.size, 7, none⟩ = some (.int .u64 (esq : Nat)) := (kept_cell ((Kept.refl w2).alloc _) (p := ⟨w.heap.size, 7, none⟩) (Nat.lt_of_lt_of_le HBL.out G12.out.size)).trans k7
  have hN4 := lit4 (w2.alloc (.cells #[.pointer none, .slice none 0 0] 101)) enx elg esq gone.length
  rw [malloc_size] at hN4
  have S4 := Lib.hid (HSH.out _ _ [enx, elg, esq, gone.length] 4 hN4 (fun x hx => by simp at hx; omega) (by simp))
  clear hN4
  have B0 := Lib.hid ((bld_new w2).kept ((Kept.refl (w2.alloc (.cells #[.pointer none, .slice none 0 0] 101))).alloc (.cells #[.int .u64 (enx : Nat), .int .u64 (elg : Nat), .int .u64 (esq : Nat), .int .u64 (gone.length : Nat)] 32)))
  have K0 := Lib.hid (((Kept.refl w2).alloc (.cells #[.pointer none, .slice none 0 0] 101)).alloc (.cells #[.int .u64 (enx : Nat), .int .u64 (elg : Nat), .int .u64 (esq : Nat), .int .u64 (gone.length : Nat)] 32))
  generalize encG [enx, elg, esq, gone.length] = R4 at *
  clear k0 k1 k2 k3 k4 k5 k6 k7
  go_wp2_with fail
  refine S4.out.mono ?_
  rintro r w3 ⟨rfl, g3⟩
  have B3 := Lib.hid (B0.out.kept g3)
  have K3 := Lib.hid (kept_trans K0.out g3)
  clear q0 q5 q6 q7 g3 S4 B0 K0
  go_wp2_with fail
  refine (bld_write w2.heap.size w2.heap.size [] (bs R4) _ B3.out (by rw [lvbs_size]; simp at hlH ⊢; omega) K3.out.size).mono ?_
  rintro r w4 ⟨rfl, hB4, g4⟩
  rw [bs_data, List.nil_append] at hB4
  have B4 := Lib.hid hB4
  have K4 := Lib.hid (show Kept w2 w4 from Below.trans K3.out g4)
  have G14 := Lib.hid (kept_trans G12.out K4.out)
  obtain ⟨k0, k1, k2, k3, k4, k5, k6, k7⟩ := HB.out w4 G14.out
  have S5 := Lib.hid (HSH.out w4 GA gone gc ((HE.out w4 (kept_trans G2.out K4.out)).gone) (fun x hx => Nat.le_trans (HI6.out x hx) (by omega)) (by omega))
  clear hB4 g4 B3 K3
  go_wp2_with fail
  refine S5.out.mono ?_
  rintro r w5 ⟨rfl, g5⟩
  have B5 := Lib.hid (B4.out.kept g5)
  have K5 := Lib.hid (kept_trans K4.out g5)
  clear k0 k1 k2 k3 k4 k5 k6 k7 g5 S5 B4 K4 G14
  go_wp2_with fail
  refine (bld_write w2.heap.size w2.heap.size R4 (bs (encG gone)) _ B5.out (by rw [lvbs_size]; simp at hlH ⊢; omega) K5.out.size).mono ?_
  rintro r w6 ⟨rfl, hB6, g6⟩
  rw [bs_data] at hB6
  have B6 := Lib.hid hB6
  have K6 := Lib.hid (show Kept w2 w6 from Below.trans K5.out g6)
  obtain ⟨k0, k1, k2, k3, k4, k5, k6, k7⟩ := HB.out w6 (kept_trans G12.out K6.out)
  have hlP : (R4 ++ encG gone).length ≤ 10040 := by rw [List.length_append]; simp at hlH; omega
  rw [← List.append_assoc] at HRR
  generalize R4 ++ encG gone = P at *
  clear hB6 g6 B5 K5 hlH hlG
  go_wp2_with fail
  go_loopw [31] (fun t wr => ∃ k : Nat, k ≤ 4 ∧ t = .int .i64 k ∧ Hid (Bld w2.heap.size w2.heap.size (P ++ encT (fun l => (eT l).l) k) wr) ∧ Hid (Kept w2 wr)) (fun t _ => 4 - (intOf t).toNat)
  case atStart => exact ⟨0, by omega, rfl, Lib.hid (by have := B6.out; simpa [encT] using this), K6⟩
  case round =>
    clear k0 k1 k2 k3 k4 k5 k6 k7 B6 K6
    obtain ⟨k, hk, rfl, HBR, HK⟩ := hrel
    by_cases hk4 : k < 4
    · have hidx := HIX.out k hk4
      have d4 : decide ((k : Int) < 4) = true := decide_eq_true (by omega)
      have HM := Lib.hid (fun W (hW : Kept w W) => (HE.out W hW).tab.mts k hk4)
      have hlen := HI2.out k hk4
      have HMY := Lib.hid (HI7.out k hk4)
      have HTS := Lib.hid (encT_succ (fun l => (eT l).l) k)
      have hlT := HLT.out k hk
      dsimp only at HM HMY HTS hlen hlT
      have hv : (eT k).v = .slice (eT k).A (eT k).l.length (eT k).c := rfl
      rw [hv] at hidx
      clear hv
      generalize (eT k).A = A at *
      generalize (eT k).c = c at *
      generalize (eT k).l = l at *
      generalize encT (fun l => (eT l).l) k = R at *
      have hwl : IntKind.u64.wrap (l.length : Int) = ((l.length : Nat) : Int) := by rw [IntKind.wrap_u64]; omega
      have SL := Lib.hid (HSH.out _ _ [l.length] 1 (lit1n wr l.length) (fun x hx => by simp at hx; omega) (by simp))
      have BR := Lib.hid (HBR.out.kept ((Kept.refl wr).alloc (.cells #[.int .u64 (l.length : Nat)] 32)))
      have KR := Lib.hid (kept_trans HK.out ((Kept.refl wr).alloc (.cells #[.int .u64 (l.length : Nat)] 32)))
      go_wp2_with fail
      refine SL.out.mono ?_
      rintro r w7 ⟨rfl, g7⟩
      have B7 := Lib.hid (BR.out.kept g7)
      have K7 := Lib.hid (kept_trans KR.out g7)
      clear g7 SL BR KR hidx
      have hls := short_le l.length (by omega)
      have hes : encG [l.length] = Nm.short l.length := by simp [encG]
      rw [hes]
      go_wp2_with fail
      refine (bld_write w2.heap.size w2.heap.size (P ++ R) (bs (Nm.short l.length)) _ B7.out (by rw [lvbs_size, List.length_append]; omega) K7.out.size).mono ?_
      rintro r w8 ⟨rfl, hB8, g8⟩
      rw [bs_data] at hB8
      have B8 := Lib.hid hB8
      have K8 := Lib.hid (show Kept w2 w8 from Below.trans K7.out g8)
      have HTR := Lib.hid (show P ++ (R ++ encL l) = (P ++ R ++ Nm.short l.length) ++ (l.map encM).flatten from by unfold encL; simp)
      have hlQ : (P ++ R ++ Nm.short l.length).length ≤ 50000 := by rw [List.length_append, List.length_append]; omega
      generalize P ++ R ++ Nm.short l.length = Q at *
      clear hB8 g8 B7 K7 hls hes
      go_wp2_with fail
      go_loopw [42] (fun t wi => ∃ j : Nat, j ≤ l.length ∧ t = .int .i64 j ∧ Hid (Bld w2.heap.size w2.heap.size (Q ++ ((l.take j).map encM).flatten) wi) ∧ Hid (Kept w2 wi)) (fun t _ => l.length - (intOf t).toNat)
      case atStart => exact ⟨0, Nat.zero_le _, rfl, Lib.hid (by have := B8.out; simpa using this), K8⟩
      case round =>
        clear B8 K8
        obtain ⟨j, hj, rfl, HBJ, HKJ⟩ := hrel
        by_cases hlt : j < l.length
        · obtain ⟨x, hx⟩ : ∃ x, l[j]? = some x := ⟨_, List.getElem?_eq_getElem hlt⟩
          obtain ⟨b, o, rfl, hb, c0, c1, c2, c3, c4⟩ := HM.out wr (kept_trans G2.out HKJ.out) j x hx
          have HMB := Lib.hid (fun W => lvmb_any x (HMY.out x (List.mem_of_getElem? hx)) W)
          have hxl := encM_le (HMY.out x (List.mem_of_getElem? hx))
          have HXT := Lib.hid (map_take hx)
          have hjl := encMs_le (l := l.take j) (fun y hy => HMY.out y (List.mem_of_mem_take hy))
          rw [List.length_take] at hjl
          unfold mtv at HMB
          clear hx HTR HTS HIX HI7 HI2 HLT
          have BA := Lib.hid (HBJ.out.kept ((Kept.refl wr).alloc (.cells #[.int .u64 (x.file : Nat), .int .i64 x.size, .string (bs x.first), .string (bs x.last), .int .u64 (x.seq : Nat)] 43)))
          have KA := Lib.hid (kept_trans HKJ.out ((Kept.refl wr).alloc (.cells #[.int .u64 (x.file : Nat), .int .i64 x.size, .string (bs x.first), .string (bs x.last), .int .u64 (x.seq : Nat)] 43)))
          generalize ((l.take j).map encM).flatten = M at *
          generalize encM x = X at *
          go_wp2_with fail
          refine (HMB.out _).mono ?_
          rintro r w9 ⟨rfl, g9⟩
          have B9 := Lib.hid (BA.out.kept g9)
          have K9 := Lib.hid (kept_trans KA.out g9)
          clear g9 BA KA HMB c0 c1 c2 c3 c4
          go_wp2_with fail
          refine (bld_write w2.heap.size w2.heap.size (Q ++ M) (bs X) _ B9.out (by rw [lvbs_size, List.length_append]; omega) K9.out.size).mono ?_
          rintro r w10 ⟨rfl, hB10, g10⟩
          rw [bs_data, List.append_assoc, ← HXT.out] at hB10
          have B10 := Lib.hid hB10
          have K10 := Lib.hid (show Kept w2 w10 from Below.trans K9.out g10)
          clear hB10 g10 B9 K9
          go_wp2_with fail
          go_roundw
          case rel => exact ⟨j + 1, by omega, by go_num, B10, K10⟩
          case measure => simp [intOf]; omega
        · obtain rfl : j = l.length := by omega
          have BJ := HBJ.out
          rw [List.take_length, ← HTR.out, ← HTS.out] at BJ
          have HBJ2 := Lib.hid BJ
          clear BJ HBJ
          go_wp2_with fail
          go_roundw
          case rel => exact ⟨k + 1, by omega, by go_num, HBJ2, HKJ⟩
          case measure => simp [intOf]; omega
    · obtain rfl : k = 4 := by omega
      go_wp2_with fail
      refine (bld_string w2.heap.size w2.heap.size _ _ HBR.out HK.out.size).mono ?_
      rintro r w9 ⟨rfl, g9⟩
      have kEn := Lib.hid (show Kept w2 w9 from Below.trans HK.out g9)
      clear g9
      go_wp2_with fail
      go_ret2
      exact ⟨by rw [HRR.out.1, HRR.out.2]; rfl, kept_trans G2.out kEn.out⟩
end Go.Proofs.YtnnmalpnjlnnlaaGreat

/-
  Package level over memory: the reader: a number, how many, a text, a meta.
-/
namespace Go.Proofs.YtnnmalpnjlnnlaaGreat
open Go.ChangeShapes Go.WideShapes Go.ChangeAt Go.RowKit
set_option linter.unusedVariables false
set_option maxRecDepth 100000
set_option maxHeartbeats 8000000
open Lv
/-- all blocks but b are as they were; there may be new ones -/
structure LBut (b : Nat) (w w' : World) : Prop where
  os : w'.os = w.os
  tape : w'.tape = w.tape
  output : w'.output = w.output
  size : w.heap.size ≤ w'.heap.size
  block : ∀ k, k < w.heap.size → k ≠ b → w'.heap[k]? = w.heap[k]?
theorem LBut.kept {b : Nat} {w w' : World} (h : Kept w w') : LBut b w w' := ⟨h.os, h.tape, h.output, h.size, fun k hk _ => h.block k hk⟩
theorem LBut.trans {b : Nat} {w w1 w2 : World} (h : LBut b w w1) (k : LBut b w1 w2) : LBut b w w2 :=
  ⟨k.os.trans h.os, k.tape.trans h.tape, k.output.trans h.output, Nat.le_trans h.size k.size, fun i hi hn => (k.block i (Nat.lt_of_lt_of_le hi h.size) hn).trans (h.block i hi hn)⟩
theorem LBut.set (b j : Nat) (w : World) (x : Value) : LBut b w (w.setCell ⟨b, j, none⟩ x) :=
  ⟨rfl, rfl, rfl, by simp [World.setCell], fun k _ hn => Below.heap_setCell _ _ _ _ (fun e => hn e)⟩
theorem LBut.row {b : Nat} {w W : World} (h : LBut b w W) {q : Nat} (hq : w.heap.size ≤ q) (new : Array Value) : LBut b w (W.setRow q new) :=
  ⟨h.os, h.tape, h.output, (by show w.heap.size ≤ (W.heap.modify q _).size; rw [Array.size_modify]; exact h.size), fun k hk hn => by
    show (W.heap.modify q _)[k]? = _
    rw [Array.getElem?_modify, if_neg (by omega)]; exact h.block k hk hn⟩
theorem LBut.at {b : Nat} {w w' : World} (h : LBut b w w') {k : Nat} {o : Obj} (hk : w.heap[k]? = some o) (hn : k ≠ b) : w'.heap[k]? = some o :=
  (h.block k (Array.getElem?_eq_some_iff.1 hk).1 hn).trans hk
theorem LBut.own {b : Nat} {w w' : World} (h : LBut b w w') {B e size n : Nat} {v : Value} {xs : List Value} (ho : w.ownsRow B e size v n xs) (hb : b < B) : w'.ownsRow B e size v n xs :=
  ho.kept (row := some b) ⟨h.os, h.tape, h.output, h.size, fun k hk hn => h.block k hk (fun e => hn (by rw [e]))⟩ (.inr (own_ne_old ho hb))
/-- the block p is a reader: what is left -/
def LRd (w : World) (p : Nat) (R : List UInt8) : Prop := w.heap[p]? = some (.cells #[.string (bs R)] 112 (0, 0))
theorem LRd.kept {w w' : World} {p : Nat} {R : List UInt8} (h : LRd w p R) (k : Kept w w') : LRd w' p R := (Below.block k p (Array.getElem?_eq_some_iff.1 h).1).trans h
theorem LRd.set {w : World} {p : Nat} {R : List UInt8} (h : LRd w p R) (r : List UInt8) : LRd (w.setCell ⟨p, 0, none⟩ (.string (bs r))) p r := by
  unfold LRd at *
  simp [World.setCell, Array.getElem?_modify, h]
theorem lvtakeR_le (R : List UInt8) : (Nm.takeR R).length ≤ R.length := by
  unfold Nm.takeR
  cases h : Nm.take R with
  | none => simp
  | some x =>
    obtain ⟨n, r⟩ := x
    have := congrArg List.length (Nm.take_back _ _ _ h).1
    rw [List.length_append] at this
    simp; omega
theorem lvtakeN_lt (R : List UInt8) : Nm.takeN R < 18446744073709551616 := by
  unfold Nm.takeN
  cases h : Nm.take R with
  | none => simp
  | some x =>
    obtain ⟨n, r⟩ := x
    exact (Nm.take_back _ _ _ h).2
theorem lvnumb_any {p : Nat} {R : List UInt8} (hl : R.length ≤ 16777216) (W : World) (hR : LRd W p R) :
    Calls Tryz.prog 90 #[.pointer (some ⟨p, 0, none⟩)] W fun e w' => e = .returned (.int .u64 (Nm.takeN R : Nat)) ∧ LRd w' p (Nm.takeR R) ∧ LBut p W w' := by
  have c0 := mcell hR 0 (v := .string (bs R)) (by rfl)
  have hc := take_any (bs R) (by rw [lvbs_size]; unfold maxLen; omega)
  rw [bs_data] at hc
  have HR := Lib.hid hR
  have HC := Lib.hid hc
  clear hR hc
  go_enter Tryz.func90, Tryz.ntmps90
  go_wp2_with fail
  refine (HC.out _).mono ?_
  rintro e w1 ⟨rfl, g1⟩
  have hR1 := HR.out.kept g1
  have f1 := mfrozen hR1 0
  have d1 := mcell hR1 0 (v := .string (bs R)) (by rfl)
  have HR1 := Lib.hid hR1
  clear hR1
  go_wp2_with fail
  go_ret
  exact ⟨rfl, HR1.out.set _, (LBut.kept g1).trans (LBut.set p 0 w1 _)⟩
theorem lvcount_any {p : Nat} {R : List UInt8} (hl : R.length ≤ 16777216) (most : Nat) (W : World) (hR : LRd W p R) :
    Calls Tryz.prog 91 #[.pointer (some ⟨p, 0, none⟩), .int .u64 (most : Nat)] W fun e w' => e = .returned (.int .u64 (cnt most R : Nat)) ∧ LRd w' p (Nm.takeR R) ∧ LBut p W w' := by
  have HC := Lib.hid (lvnumb_any hl W hR)
  clear hR
  unfold cnt
  by_cases hm : Nm.takeN R ≤ most
  · have e1 : min (Nm.takeN R) most = Nm.takeN R := by omega
    have d1 : min (Nm.takeN R : Int) (most : Int) = (Nm.takeN R : Int) := by omega
    rw [e1]
    generalize Nm.takeN R = n at *
    generalize Nm.takeR R = r at *
    go_enter Tryz.func91, Tryz.ntmps91
    go_wp2_with fail
    refine HC.out.mono ?_
    rintro e w1 ⟨rfl, h1, g1⟩
    go_wp2_with fail
    go_ret
    exact ⟨by simp, h1, g1⟩
  · have e1 : min (Nm.takeN R) most = most := by omega
    have d1 : min (Nm.takeN R : Int) (most : Int) = (most : Int) := by omega
    rw [e1]
    generalize Nm.takeN R = n at *
    generalize Nm.takeR R = r at *
    go_enter Tryz.func91, Tryz.ntmps91
    go_wp2_with fail
    refine HC.out.mono ?_
    rintro e w1 ⟨rfl, h1, g1⟩
    go_wp2_with fail
    go_ret
    exact ⟨by simp, h1, g1⟩
theorem lvtx_le (R : List UInt8) : (tx R).2.length ≤ R.length ∧ (tx R).1.length ≤ R.length := by
  unfold tx
  have h1 := lvtakeR_le R
  simp only [List.length_drop, List.length_take]
  omega
theorem lvtext_any {p : Nat} {R : List UInt8} (hl : R.length ≤ 16777216) (W : World) (hR : LRd W p R) :
    Calls Tryz.prog 110 #[.pointer (some ⟨p, 0, none⟩)] W fun e w' => e = .returned (.string (bs (tx R).1)) ∧ LRd w' p (tx R).2 ∧ LBut p W w' := by
  have h1 := lvtakeR_le R
  have h2 := lvtakeN_lt R
  have HC := Lib.hid (lvnumb_any hl W hR)
  have HD := Lib.hid (show (tx R).1 = (Nm.takeR R).take (min (Nm.takeN R) (Nm.takeR R).length) ∧ (tx R).2 = (Nm.takeR R).drop (min (Nm.takeN R) (Nm.takeR R).length) from ⟨rfl, rfl⟩)
  clear hR
  generalize (tx R).1 = T1 at *
  generalize (tx R).2 = T2 at *
  generalize Nm.takeN R = n at *
  generalize Nm.takeR R = r at *
  have hz := lvbs_size r
  have hw : IntKind.u64.wrap ((bs r).size : Int) = ((bs r).size : Int) := by rw [IntKind.wrap_u64]; omega
  obtain ⟨m, hm⟩ : ∃ m, m = min n r.length := ⟨_, rfl⟩
  have hmn : min (n : Int) ((bs r).size : Int) = (m : Int) := by omega
  have hmr : m ≤ (bs r).size := by omega
  rw [← hm] at HD
  have HX := Lib.hid (show (bs r).extract 0 m = bs T1 from by rw [HD.out.1]; simp [bs, ByteArray.ext_iff])
  have HY := Lib.hid (show (bs r).extract m (bs r).size = bs T2 from by rw [HD.out.2, extract_end]; rfl)
  clear hm HD hz
  go_enter Tryz.func110, Tryz.ntmps110
  go_wp2_with fail
  refine HC.out.mono ?_
  rintro e w1 ⟨rfl, hR1, g1⟩
  have f1 := mfrozen hR1 0
  have d1 := mcell hR1 0 (v := .string (bs r)) (by rfl)
  have HR1 := Lib.hid hR1; have G1 := Lib.hid g1
  clear hR1 g1
  go_wp2_with fail
  go_ret
  exact ⟨by rw [← HX.out]; rfl, by rw [HY.out]; exact HR1.out.set _, G1.out.trans (LBut.set p 0 w1 _)⟩
def metaV (m : Meta) : Value := .agg #[.int .u64 (m.file : Nat), .int .i64 m.size, .string (bs m.first), .string (bs m.last), .int .u64 (m.seq : Nat)]
theorem wrap_sg (n : Nat) (h : n < 18446744073709551616) : IntKind.i64.wrap (n : Int) = sg n := by
  rw [IntKind.wrap_i64]; unfold sg; split <;> omega
/-- the reader moved; a block of its own stands -/
structure LMs (p : Nat) (w : World) (b : Nat) (t : TypeId) (n : Nat) (W : World) : Prop where
  but : LBut p w W
  blk : ∃ c : Array Value, c.size = n ∧ W.heap[b]? = some (.cells c t (0, 0))
theorem LMs.step {p : Nat} {w : World} {b : Nat} {t : TypeId} {n : Nat} {W W' : World} (h : LMs p w b t n W) (g : LBut p W W') (hne : b ≠ p) : LMs p w b t n W' := by
  obtain ⟨c, hc, hb⟩ := h.blk
  exact ⟨h.but.trans g, c, hc, g.at hb hne⟩
theorem LMs.store {p : Nat} {w : World} {b : Nat} {t : TypeId} {n : Nat} {W : World} (h : LMs p w b t n W) (new : Array Value) (hn : new.size = n) (h1 : ∀ v ∈ new.toList, v.oneCell' = true) :
    Sem.run Tryz.prog (storeCells ⟨b, 0, none⟩ new.toList) W = .ok () (W.setRow b new) := by
  obtain ⟨c, hc, hbk⟩ := h.blk
  exact store_all hbk (by rw [hn, hc]) h1
theorem LMs.set {p : Nat} {w : World} {b : Nat} {t : TypeId} {n : Nat} {W : World} (h : LMs p w b t n W) (hb : w.heap.size ≤ b) (new : Array Value) (hn : new.size = n) : LMs p w b t n (W.setRow b new) := by
  obtain ⟨c, hc, hbk⟩ := h.blk
  exact ⟨h.but.row hb new, new, hn, row_set hbk⟩
theorem LMs.after {p : Nat} {w : World} {b : Nat} {t : TypeId} {n : Nat} {W : World} (h : LMs p w b t n W) (new : Array Value) : (W.setRow b new).heap[b]? = some (.cells new t (0, 0)) := by
  obtain ⟨c, hc, hbk⟩ := h.blk
  exact row_set hbk
theorem LRd.row {w : World} {p : Nat} {R : List UInt8} (h : LRd w p R) {q : Nat} (hq : q ≠ p) (new : Array Value) : LRd (w.setRow q new) p R := by
  show (w.heap.modify q _)[p]? = _
  rw [Array.getElem?_modify, if_neg hq]; exact h
theorem lrd_set {w : World} {p : Nat} {R : List UInt8} (h : LRd w p R) {q : Nat} (hq : q ≠ p) (j : Nat) (x : Value) : LRd (w.setCell ⟨q, j, none⟩ x) p R := lvset_ne h (fun e => hq e.symm) j x
theorem LBut.own1 {b : Nat} {w W : World} (h : LBut b w W) {q : Nat} (hq : w.heap.size ≤ q) (j : Nat) (x : Value) : LBut b w (W.setCell ⟨q, j, none⟩ x) :=
  ⟨h.os, h.tape, h.output, Nat.le_trans h.size (by simp [World.setCell]), fun k hk hn => (Below.heap_setCell _ _ _ _ (fun (e : k = q) => by omega)).trans (h.block k hk hn)⟩
theorem lvmeta_any {p : Nat} {R : List UInt8} (hl : R.length ≤ 16777216) (w : World) (hR : LRd w p R) :
    Calls Tryz.prog 92 #[.pointer (some ⟨p, 0, none⟩)] w fun e w' => e = .returned (metaV (rdM R).1) ∧ LRd w' p (rdM R).2 ∧ LBut p w w' := by
  have hp : p < w.heap.size := mheap_lt hR
  have C1 := Lib.hid (fun W (h : LRd W p R) => lvnumb_any hl W h)
  have l1 := lvtakeR_le R
  have C2 := Lib.hid (fun W (h : LRd W p (Nm.takeR R)) => lvnumb_any (R := Nm.takeR R) (by omega) W h)
  have l2 := lvtakeR_le (Nm.takeR R)
  have C3 := Lib.hid (fun W (h : LRd W p (Nm.takeR (Nm.takeR R))) => lvtext_any (R := Nm.takeR (Nm.takeR R)) (by omega) W h)
  have l3 := (lvtx_le (Nm.takeR (Nm.takeR R))).1
  have C4 := Lib.hid (fun W (h : LRd W p (tx (Nm.takeR (Nm.takeR R))).2) => lvtext_any (R := (tx (Nm.takeR (Nm.takeR R))).2) (by omega) W h)
  have l4 := (lvtx_le (tx (Nm.takeR (Nm.takeR R))).2).1
  have C5 := Lib.hid (fun W (h : LRd W p (tx (tx (Nm.takeR (Nm.takeR R))).2).2) => lvnumb_any (R := (tx (tx (Nm.takeR (Nm.takeR R))).2).2) (by omega) W h)
  have hw := wrap_sg (Nm.takeN (Nm.takeR R)) (lvtakeN_lt _)
  unfold rdM metaV
  clear l1 l2 l3 l4 hl
  have HR := Lib.hid hR
  clear hR
  dsimp only
  generalize Nm.takeN (tx (tx (Nm.takeR (Nm.takeR R))).2).2 = n5 at *
  generalize Nm.takeR (tx (tx (Nm.takeR (Nm.takeR R))).2).2 = R5 at *
  generalize (tx (tx (Nm.takeR (Nm.takeR R))).2).1 = t4 at *
  generalize (tx (tx (Nm.takeR (Nm.takeR R))).2).2 = R4 at *
  generalize (tx (Nm.takeR (Nm.takeR R))).1 = t3 at *
  generalize (tx (Nm.takeR (Nm.takeR R))).2 = R3 at *
  generalize Nm.takeR (Nm.takeR R) = R2 at *
  generalize sg (Nm.takeN (Nm.takeR R)) = z2 at *
  generalize Nm.takeN (Nm.takeR R) = n2 at *
  generalize Nm.takeR R = R1 at *
  generalize Nm.takeN R = n1 at *
  have HL := Lib.hid hp
  obtain ⟨w0, hw0⟩ : ∃ w0, w0 = w.alloc (.cells #[.int .u64 0, .int .i64 0, .string ⟨#[]⟩, .string ⟨#[]⟩, .int .u64 0] 43) := ⟨_, rfl⟩
  have I0 := Lib.hid (show w0.heap[w.heap.size]? = some (.cells #[.int .u64 0, .int .i64 0, .string ⟨#[]⟩, .string ⟨#[]⟩, .int .u64 0] 43 (0, 0)) from by rw [hw0]; exact malloc_new w _)
  have K0 := Lib.hid (show LBut p w w0 from by rw [hw0]; exact LBut.kept ((Kept.refl _).alloc _))
  have J0 := Lib.hid (show LRd w0 p R from by rw [hw0]; exact HR.out.kept ((Kept.refl _).alloc _))
  have hne : w.heap.size ≠ p := by omega
  go_enter Tryz.func92, Tryz.ntmps92
  go_upto_region 1 with fail
  rw [← hw0]
  clear hw0
  go_wp2_with fail
  refine (C1.out _ J0.out).mono ?_
  rintro e w1 ⟨rfl, h1, g1⟩
  have J1 := Lib.hid h1; have G1 := Lib.hid g1
  clear h1 g1
  go_wp2_with fail
  refine (C2.out _ J1.out).mono ?_
  rintro e w2 ⟨rfl, h1, g1⟩
  have J2 := Lib.hid h1; have G2 := Lib.hid (G1.out.trans g1)
  clear h1 g1
  go_wp2_with fail
  refine (C3.out _ J2.out).mono ?_
  rintro e w3 ⟨rfl, h1, g1⟩
  have J3 := Lib.hid h1; have G3 := Lib.hid (G2.out.trans g1)
  clear h1 g1
  go_wp2_with fail
  refine (C4.out _ J3.out).mono ?_
  rintro e w4 ⟨rfl, h1, g1⟩
  have J4 := Lib.hid h1; have G4 := Lib.hid (G3.out.trans g1)
  clear h1 g1
  go_wp2_with fail
  refine (C5.out _ J4.out).mono ?_
  rintro e w5 ⟨rfl, h1, g1⟩
  have J5 := Lib.hid h1; have G5 := Lib.hid (G4.out.trans g1)
  have hb := G5.out.at I0.out hne
  obtain ⟨z0, z1, z2', z3, z4⟩ := five_cells hb
  have s0 := mfrozen hb 0; have s1 := mfrozen hb 1; have s2 := mfrozen hb 2; have s3 := mfrozen hb 3; have s4 := mfrozen hb 4
  have HB5 := Lib.hid hb
  clear h1 g1 hb
  go_wp2_with fail
  have hb2 := lvset (lvset (lvset (lvset (lvset HB5.out 0 (.int .u64 (n1 : Nat))) 1 (.int .i64 z2)) 2 (.string (bs t3))) 3 (.string (bs t4))) 4 (.int .u64 (n5 : Nat))
  obtain ⟨y0, y1, y2, y3, y4⟩ := five_cells (x0 := .int .u64 (n1 : Nat)) (x1 := .int .i64 z2) (x2 := .string (bs t3)) (x3 := .string (bs t4)) (x4 := .int .u64 (n5 : Nat)) hb2
  refine bodyPost_ret (v := .agg #[.int .u64 (n1 : Nat), .int .i64 z2, .string (bs t3), .string (bs t4), .int .u64 (n5 : Nat)]) (by simp [results, Tryz.results92, go_sem, y0, y1, y2, y3, y4]) rfl ⟨rfl, ?_, ?_⟩
  · exact lrd_set (lrd_set (lrd_set (lrd_set (lrd_set J5.out hne 0 _) hne 1 _) hne 2 _) hne 3 _) hne 4 _
  · exact (((((K0.out.trans G5.out).own1 (Nat.le_refl _) 0 _).own1 (Nat.le_refl _) 1 _).own1 (Nat.le_refl _) 2 _).own1 (Nat.le_refl _) 3 _).own1 (Nat.le_refl _) 4 _
end Go.Proofs.YtnnmalpnjlnnlaaGreat

/-
  Package level over memory: the reader reads an edit.
-/
namespace Go.Proofs.YtnnmalpnjlnnlaaGreat
open Go.ChangeShapes Go.WideShapes Go.ChangeAt Go.RowKit
set_option linter.unusedVariables false
set_option maxRecDepth 100000
set_option maxHeartbeats 8000000
open Lv
def zed : List Value := [.slice none 0 0, .slice none 0 0, .slice none 0 0, .slice none 0 0, .slice none 0 0, .int .u64 0, .int .u64 0, .int .u64 0]
/-- what has been read so far: the reader, the edit's variable, its rows -/
structure EdS (p : Nat) (w : World) (q : Nat) (W : World) (R : List UInt8) (gv : Value) (G : List Nat) (f : Nat → Value) (L : Nat → List Meta) (nx lg sq : Nat) : Prop where
  but : LBut p w W
  rd : LRd W p R
  res : W.heap[w.heap.size]? = some (.cells #[.slice none 0 0, .slice none 0 0, .slice none 0 0, .slice none 0 0, .slice none 0 0, .int .u64 0, .int .u64 0, .int .u64 0] 34 (0, 0))
  blk : W.heap[q]? = some (.cells #[gv, f 0, f 1, f 2, f 3, .int .u64 (nx : Nat), .int .u64 (lg : Nat), .int .u64 (sq : Nat)] 34 (0, 0))
  g : W.ownsRow (q + 1) 32 1 gv G.length (nsc G)
  l : Four (q + 1) W f L 4
theorem Four.but {B k p : Nat} {w w' : World} {f : Nat → Value} {L : Nat → List Meta} (h : Four B w f L k) (g : LBut p w w') (hp : p < B) : Four B w' f L k :=
  ⟨fun i hi => g.own (h.own i hi) hp, h.apart⟩
theorem EdS.call {p : Nat} {w : World} {q : Nat} {W W' : World} {R R' : List UInt8} {gv : Value} {G : List Nat} {f : Nat → Value} {L : Nat → List Meta} {nx lg sq : Nat} (h : EdS p w q W R gv G f L nx lg sq) (hp : p < w.heap.size) (hq : w.heap.size < q) (hr : LRd W' p R') (g : LBut p W W') : EdS p w q W' R' gv G f L nx lg sq :=
  ⟨h.but.trans g, hr, g.at h.res (by omega), g.at h.blk (by omega), g.own h.g (by omega), h.l.but g (by omega)⟩
theorem EdS.kept {p : Nat} {w : World} {q : Nat} {W W' : World} {R : List UInt8} {gv : Value} {G : List Nat} {f : Nat → Value} {L : Nat → List Meta} {nx lg sq : Nat} (h : EdS p w q W R gv G f L nx lg sq) (hp : p < w.heap.size) (hq : w.heap.size < q) (g : Kept W W') : EdS p w q W' R gv G f L nx lg sq :=
  h.call hp hq (h.rd.kept g) (LBut.kept g)
/-- rows of different types lie in different blocks -/
theorem own_types {w : World} {B B' e e' s s' n n' : Nat} {v u : Value} {xs ys : List Value} (h : w.ownsRow B e s v n xs) (g : w.ownsRow B' e' s' u n' ys) (hne : e ≠ e') : ∀ b, v.ownBlock = some b → u.ownBlock ≠ some b := fun b hv hu => by
  rcases h.2 with ⟨e1, _⟩ | ⟨r, cap, cur, e1, _, hb, _⟩
  · rw [e1] at hv; cases hv
  · rcases g.2 with ⟨e2, _⟩ | ⟨r2, cap2, cur2, e2, _, hb2, _⟩
    · rw [e2] at hu; cases hu
    · rw [e1] at hv; rw [e2] at hu
      cases hv; cases hu
      rw [hb] at hb2
      injection hb2 with hb2
      injection hb2 with _ h3 _
      exact hne h3
/-- a number more among those that go -/
theorem EdS.addG {p : Nat} {w : World} {q : Nat} {W W' : World} {R : List UInt8} {gv gv' : Value} {G : List Nat} {f : Nat → Value} {L : Nat → List Meta} {nx lg sq : Nat} (h : EdS p w q W R gv G f L nx lg sq) (hp : p < w.heap.size) (hq : w.heap.size < q) (n : Nat)
    (ho : W'.ownsRow (q + 1) 32 1 gv' (G.length + 1) (nsc G ++ [.int .u64 (n : Nat)])) (hg : W.grownBy W' gv.ownBlock) : LBut p w W' ∧ W'.heap[q]? = some (.cells #[gv, f 0, f 1, f 2, f 3, .int .u64 (nx : Nat), .int .u64 (lg : Nat), .int .u64 (sq : Nat)] 34 (0, 0)) ∧ EdS p w q (W'.setCell ⟨q, 0, none⟩ gv') R gv' (G ++ [n]) f L nx lg sq := by
  have hgb : ∀ k, k < q + 1 → some k ≠ gv.ownBlock := fun k hk e => by have := (own_new h.g e.symm).1; omega
  have hsz := h.but.size
  have hq2 := mheap_lt h.blk
  have hLB : LBut p w W' := ⟨hg.os.trans h.but.os, hg.tape.trans h.but.tape, hg.output.trans h.but.output, Nat.le_trans hsz hg.size, fun k hk hn => (hg.block k (by omega) (hgb k (by omega))).trans (h.but.block k hk hn)⟩
  have hb : ∀ k o, k < q + 1 → W.heap[k]? = some o → W'.heap[k]? = some o := fun k o hk ho => (hg.block k (mheap_lt ho) (hgb k hk)).trans ho
  have hblk := hb q _ (by omega) h.blk
  have ht := fun i (hi : i < 4) => own_types h.g (h.l.own i hi) (by decide)
  have hl : ∀ i, i < 4 → W'.ownsRow (q + 1) 43 5 (f i) (L i).length (mtl (L i)) := fun i hi => (h.l.own i hi).kept hg (by
    cases hv : gv.ownBlock with
    | none => cases hf : (f i).ownBlock with
      | none => exact .inl rfl
      | some b => exact .inr (by simp)
    | some b => exact .inr (ht i hi b hv))
  refine ⟨hLB, hblk, ⟨hLB.own1 (by omega) 0 gv', lrd_set (hb p _ (by omega) h.rd) (by omega) 0 gv', lvset_ne (hb _ _ (by omega) h.res) (by omega) 0 gv', lvset hblk 0 gv', ?_, ⟨fun i hi => own_set' (hl i hi) (own_ne_old (hl i hi) (by omega)) 0 gv', h.l.apart⟩⟩⟩
  have := own_set' ho (b := q) (own_ne_old ho (by omega)) 0 gv'
  rw [nsc_app, List.length_append]
  exact this
/-- a meta more in a level -/
theorem EdS.addL {p : Nat} {w : World} {q : Nat} {W W' : World} {R : List UInt8} {gv v' : Value} {G : List Nat} {f : Nat → Value} {L : Nat → List Meta} {nx lg sq : Nat} (h : EdS p w q W R gv G f L nx lg sq) (hp : p < w.heap.size) (hq : w.heap.size < q) (k : Nat) (hk : k < 4) (m : Meta)
    (ho : W'.ownsRow (q + 1) 43 5 v' ((L k).length + 1) (mtl (L k) ++ mtc m)) (hg : W.grownBy W' (f k).ownBlock) (ha : v'.ownBlock = (f k).ownBlock ∨ v'.ownBlock = some W.heap.size) :
    LBut p w W' ∧ W'.heap[q]? = some (.cells #[gv, f 0, f 1, f 2, f 3, .int .u64 (nx : Nat), .int .u64 (lg : Nat), .int .u64 (sq : Nat)] 34 (0, 0)) ∧ EdS p w q (W'.setCell ⟨q, 1 + k, none⟩ v') R gv G (vset f k v') (vset L k (L k ++ [m])) nx lg sq := by
  have hgb : ∀ j, j < q + 1 → some j ≠ (f k).ownBlock := fun j hj e => by have := (own_new (h.l.own k hk) e.symm).1; omega
  have hsz := h.but.size
  have hq2 := mheap_lt h.blk
  have hLB : LBut p w W' := ⟨hg.os.trans h.but.os, hg.tape.trans h.but.tape, hg.output.trans h.but.output, Nat.le_trans hsz hg.size, fun j hj hn => (hg.block j (by omega) (hgb j (by omega))).trans (h.but.block j hj hn)⟩
  have hb : ∀ j o, j < q + 1 → W.heap[j]? = some o → W'.heap[j]? = some o := fun j o hj ho => (hg.block j (mheap_lt ho) (hgb j hj)).trans ho
  have hblk := hb q _ (by omega) h.blk
  have hgo : W'.ownsRow (q + 1) 32 1 gv G.length (nsc G) := h.g.kept hg (by
    cases hv : gv.ownBlock with
    | none => cases hf : (f k).ownBlock with
      | none => exact .inl rfl
      | some b => exact .inr (by simp)
    | some b => exact .inr (fun e => own_types h.g (h.l.own k hk) (by decide) b hv e.symm))
  have hl : ∀ i, i < 4 → i ≠ k → W'.ownsRow (q + 1) 43 5 (f i) (L i).length (mtl (L i)) := fun i hi hne => (h.l.own i hi).kept hg (by
    cases hv : (f i).ownBlock with
    | none => exact .inl rfl
    | some b => exact .inr (fun e => h.l.apart i k hi hk hne b hv e.symm))
  have hnew : ∀ i, i < 4 → i ≠ k → ∀ b, (f i).ownBlock = some b → v'.ownBlock ≠ some b := fun i hi hne b hb2 e => by
    rcases ha with h1 | h1
    · exact h.l.apart i k hi hk hne b hb2 (h1.symm.trans e)
    · rw [h1] at e; cases e; have := (own_new (h.l.own i hi) hb2).2; omega
  have hset := lvset hblk (1 + k) v'
  refine ⟨hLB, hblk, ⟨hLB.own1 (by omega) _ v', lrd_set (hb p _ (by omega) h.rd) (by omega) _ v', lvset_ne (hb _ _ (by omega) h.res) (by omega) _ v', ?_, own_set' hgo (own_ne_old hgo (by omega)) _ v', ⟨fun i hi => ?_, fun i j hi hj hne b hbi => ?_⟩⟩⟩
  · have hk4 : k = 0 ∨ k = 1 ∨ k = 2 ∨ k = 3 := by omega
    rcases hk4 with rfl | rfl | rfl | rfl <;> exact hset
  · by_cases e : i = k
    · subst e
      rw [vset_at, vset_at, List.length_append, mtl_app]
      have := own_set' ho (b := q) (own_ne_old ho (by omega)) (1 + i) v'
      simpa [mtl] using this
    · rw [vset_ne _ _ e, vset_ne _ _ e]
      exact own_set' (hl i hi e) (own_ne_old (hl i hi e) (by omega)) _ v'
  · by_cases e : i = k
    · subst e
      rw [vset_at] at hbi
      rw [vset_ne _ _ (fun e => hne e.symm)]
      intro hc
      exact hnew j hj (fun e => hne e.symm) b hc hbi
    · rw [vset_ne _ _ e] at hbi
      by_cases e2 : j = k
      · subst e2; rw [vset_at]; exact hnew i hi e b hbi
      · rw [vset_ne _ _ e2]; exact h.l.apart i j hi hj hne b hbi
theorem lit1e {p : Nat} {w : World} {q : Nat} {W : World} {R : List UInt8} {gv : Value} {G : List Nat} {f : Nat → Value} {L : Nat → List Meta} {nx lg sq : Nat} (h : EdS p w q W R gv G f L nx lg sq) (hp : p < w.heap.size) (hq : w.heap.size < q) (x : Nat) :
    ∃ w' b, w' = W.alloc (.cells #[.int .u64 (x : Nat)] 32) ∧ b = W.heap.size ∧ EdS p w q w' R gv G f L nx lg sq ∧ Hid (w'.cell? ⟨b, 0, none⟩ = some (.int .u64 (x : Nat))) :=
  ⟨_, _, rfl, rfl, h.kept hp hq ((Kept.refl _).alloc _), Lib.hid (mcell (malloc_new W _) 0 (by rfl))⟩
theorem litme {p : Nat} {w : World} {q : Nat} {W : World} {R : List UInt8} {gv : Value} {G : List Nat} {f : Nat → Value} {L : Nat → List Meta} {nx lg sq : Nat} (h : EdS p w q W R gv G f L nx lg sq) (hp : p < w.heap.size) (hq : w.heap.size < q) (m : Meta) :
    ∃ w' b, w' = W.alloc (.cells #[.int .u64 (m.file : Nat), .int .i64 m.size, .string (bs m.first), .string (bs m.last), .int .u64 (m.seq : Nat)] 43) ∧ b = W.heap.size ∧ EdS p w q w' R gv G f L nx lg sq ∧ Hid (w'.heap[b]? = some (.cells #[.int .u64 (m.file : Nat), .int .i64 m.size, .string (bs m.first), .string (bs m.last), .int .u64 (m.seq : Nat)] 43 (0, 0))) :=
  ⟨_, _, rfl, rfl, h.kept hp hq ((Kept.refl _).alloc _), Lib.hid (malloc_new W _)⟩
theorem one_new {W : World} {b : Nat} {x : Value} (h : W.cell? ⟨b, 0, none⟩ = some x) : ∀ j u, [x][j]? = some u → W.cell? ((⟨b, 0, none⟩ : Addr).add j) = some u := fun j u hu => by
  have hadd : (⟨b, 0, none⟩ : Addr).add j = ⟨b, j, none⟩ := by unfold Addr.add; split <;> simp_all
  rw [hadd]
  cases j with
  | zero => simp at hu; rw [← hu]; exact h
  | succ j => simp at hu
theorem five_new {W : World} {b : Nat} {m : Meta} (h : W.heap[b]? = some (.cells #[.int .u64 (m.file : Nat), .int .i64 m.size, .string (bs m.first), .string (bs m.last), .int .u64 (m.seq : Nat)] 43 (0, 0))) : ∀ j u, (mtc m)[j]? = some u → W.cell? ((⟨b, 0, none⟩ : Addr).add j) = some u := fun j u hu => by
  have hadd : (⟨b, 0, none⟩ : Addr).add j = ⟨b, j, none⟩ := by unfold Addr.add; split <;> simp_all
  rw [hadd]
  exact mcell h j (by rw [← hu]; simp [mtc])
theorem rdG_len : ∀ (c : Nat) (R : List UInt8), (rdG c R).1.length = c ∧ (rdG c R).2.length ≤ R.length
  | 0, R => by simp [rdG]
  | c + 1, R => by
    have ih := rdG_len c R
    have h := lvtakeR_le (rdG c R).2
    simp only [rdG, List.length_append, List.length_cons, List.length_nil]
    omega
theorem rdM_le (R : List UInt8) : (rdM R).2.length ≤ R.length := by
  unfold rdM
  have h1 := lvtakeR_le R
  have h2 := lvtakeR_le (Nm.takeR R)
  have h3 := (lvtx_le (Nm.takeR (Nm.takeR R))).1
  have h4 := (lvtx_le (tx (Nm.takeR (Nm.takeR R))).2).1
  have h5 := lvtakeR_le (tx (tx (Nm.takeR (Nm.takeR R))).2).2
  simp only
  omega
theorem rdMs_len : ∀ (c : Nat) (R : List UInt8), (rdMs c R).1.length = c ∧ (rdMs c R).2.length ≤ R.length
  | 0, R => by simp [rdMs]
  | c + 1, R => by
    have ih := rdMs_len c R
    have h := rdM_le (rdMs c R).2
    simp only [rdMs, List.length_append, List.length_cons, List.length_nil]
    omega
theorem rdL_le (R : List UInt8) : (rdL R).2.length ≤ R.length := by
  unfold rdL
  have h1 := lvtakeR_le R
  have h2 := (rdMs_len (cnt 30 R) (Nm.takeR R)).2
  omega
theorem aft_le : ∀ (k : Nat) (R : List UInt8), (aft k R).length ≤ R.length
  | 0, R => Nat.le_refl _
  | k + 1, R => by
    have ih := aft_le k R
    have h := rdL_le (aft k R)
    show (rdL (aft k R)).2.length ≤ _
    omega
theorem EdS.cell {p : Nat} {w : World} {q : Nat} {W : World} {R : List UInt8} {gv : Value} {G : List Nat} {f : Nat → Value} {L : Nat → List Meta} {nx lg sq : Nat} (h : EdS p w q W R gv G f L nx lg sq) (k : Nat) (hk : k < 4) : W.cell? ⟨q, 1 + k, none⟩ = some (f k) := by
  have hk4 : k = 0 ∨ k = 1 ∨ k = 2 ∨ k = 3 := by omega
  rcases hk4 with rfl | rfl | rfl | rfl <;> exact mcell h.blk _ (by rfl)
theorem eight_at {W : World} {q : Nat} {gv : Value} {f : Nat → Value} {x y z : Value} (h : W.heap[q]? = some (.cells #[gv, f 0, f 1, f 2, f 3, x, y, z] 34 (0, 0))) (k : Nat) (hk : k < 4) : W.cell? ⟨q, 1 + k, none⟩ = some (f k) := by
  have hk4 : k = 0 ∨ k = 1 ∨ k = 2 ∨ k = 3 := by omega
  rcases hk4 with rfl | rfl | rfl | rfl <;> exact mcell h _ (by rfl)
theorem Four.same {B k : Nat} {w : World} {f : Nat → Value} {L M : Nat → List Meta} (h : Four B w f L k) (e : ∀ i, i < k → L i = M i) : Four B w f M k :=
  ⟨fun i hi => by rw [← e i hi]; exact h.own i hi, h.apart⟩
theorem lvrdedit_any {p : Nat} {s : List UInt8} (hl : s.length ≤ 16777216) (w : World) (hR : LRd w p s) :
    Calls Tryz.prog 66 #[.pointer (some ⟨p, 0, none⟩)] w fun e w' => ∃ gv f, e = .returned (edv gv f (rdE s).nx (rdE s).lg (rdE s).sq) ∧ w'.ownsRow w.heap.size 32 1 gv (rdE s).gone.length (nsc (rdE s).gone) ∧ Four w.heap.size w' f (rdE s).new 4 ∧ LBut p w w' := by
  have hp : p < w.heap.size := mheap_lt hR
  obtain ⟨i0, hi, hz0, hz1, hz2⟩ := info_parts uInfo
  have HI := Lib.hid hi; have HZ0 := Lib.hid hz0; have HZ1 := Lib.hid hz1; have HZ2 := Lib.hid hz2
  obtain ⟨j0, hj, hy0, hy1, hy2⟩ := info_parts mtInfo
  have HJ := Lib.hid hj; have HY0 := Lib.hid hy0; have HY1 := Lib.hid hy1; have HY2 := Lib.hid hy2
  have l1 := lvtakeR_le s
  have l2 := lvtakeR_le (Nm.takeR s)
  have l3 := lvtakeR_le (Nm.takeR (Nm.takeR s))
  have l4 := lvtakeR_le (r3 s)
  have lr3 : (r3 s).length ≤ 16777216 := by unfold r3; omega
  have C1 := Lib.hid (fun W (h : LRd W p s) => lvnumb_any hl W h)
  have C2 := Lib.hid (fun W (h : LRd W p (Nm.takeR s)) => lvnumb_any (R := Nm.takeR s) (by omega) W h)
  have C3 := Lib.hid (fun W (h : LRd W p (Nm.takeR (Nm.takeR s))) => show Calls Tryz.prog 90 #[.pointer (some ⟨p, 0, none⟩)] W fun e w' => e = .returned (.int .u64 (Nm.takeN (Nm.takeR (Nm.takeR s)) : Nat)) ∧ LRd w' p (r3 s) ∧ LBut p W w' from lvnumb_any (R := Nm.takeR (Nm.takeR s)) (by omega) W h)
  have C4 := Lib.hid (fun W (h : LRd W p (r3 s)) => lvcount_any lr3 120 W h)
  have hc : cnt 120 (r3 s) ≤ 120 := by unfold cnt; omega
  unfold rdE
  dsimp only
  clear hi hz0 hz1 hz2 hj hy0 hy1 hy2 l1 l2 l3
  have lg0 : (Nm.takeR (r3 s)).length ≤ 16777216 := by omega
  clear l4 lr3 hl
  generalize Nm.takeN (Nm.takeR (Nm.takeR s)) = n3 at *
  generalize Nm.takeR (r3 s) = R0 at *
  generalize cnt 120 (r3 s) = c at *
  generalize r3 s = R3 at *
  generalize Nm.takeR (Nm.takeR s) = R2 at *
  generalize Nm.takeN (Nm.takeR s) = n2 at *
  generalize Nm.takeR s = R1 at *
  generalize Nm.takeN s = n1 at *
  obtain ⟨w0, hw0⟩ : ∃ w0, w0 = w.alloc (.cells #[.slice none 0 0, .slice none 0 0, .slice none 0 0, .slice none 0 0, .slice none 0 0, .int .u64 0, .int .u64 0, .int .u64 0] 34) := ⟨_, rfl⟩
  have I0 := Lib.hid (show w0.heap[w.heap.size]? = some (.cells #[.slice none 0 0, .slice none 0 0, .slice none 0 0, .slice none 0 0, .slice none 0 0, .int .u64 0, .int .u64 0, .int .u64 0] 34 (0, 0)) from by rw [hw0]; exact malloc_new w _)
  have K0 := Lib.hid (show LBut p w w0 from by rw [hw0]; exact LBut.kept ((Kept.refl _).alloc _))
  have J0 := Lib.hid (show LRd w0 p s from by rw [hw0]; exact hR.kept ((Kept.refl _).alloc _))
  clear hR
  go_enter Tryz.func66, Tryz.ntmps66
  go_upto_region 1 with fail
  rw [← hw0]
  clear hw0
  go_wp2_with fail
  refine (C1.out _ J0.out).mono ?_
  rintro e w1 ⟨rfl, h1, g1⟩
  have J1 := Lib.hid h1; have G1 := Lib.hid g1
  clear h1 g1
  go_wp2_with fail
  refine (C2.out _ J1.out).mono ?_
  rintro e w2 ⟨rfl, h1, g1⟩
  have J2 := Lib.hid h1; have G2 := Lib.hid (G1.out.trans g1)
  clear h1 g1
  go_wp2_with fail
  refine (C3.out _ J2.out).mono ?_
  rintro e w3 ⟨rfl, h1, g1⟩
  have J3 := Lib.hid h1; have G3 := Lib.hid (G2.out.trans g1)
  clear h1 g1
  have hq : w.heap.size < w3.heap.size := Nat.lt_of_lt_of_le (mheap_lt I0.out) G3.out.size
  obtain ⟨w4, hw4⟩ : ∃ w4, w4 = w3.alloc (.cells #[.slice none 0 0, .slice none 0 0, .slice none 0 0, .slice none 0 0, .slice none 0 0, .int .u64 (n1 : Nat), .int .u64 (n2 : Nat), .int .u64 (n3 : Nat)] 34) := ⟨_, rfl⟩
  have E4 := Lib.hid (show EdS p w w3.heap.size w4 R3 (.slice none 0 0) [] (fun _ => .slice none 0 0) (fun _ => []) n1 n2 n3 from by
    rw [hw4]
    have ka : Kept w3 (w3.alloc (.cells #[.slice none 0 0, .slice none 0 0, .slice none 0 0, .slice none 0 0, .slice none 0 0, .int .u64 (n1 : Nat), .int .u64 (n2 : Nat), .int .u64 (n3 : Nat)] 34)) := (Kept.refl _).alloc _
    exact ⟨(K0.out.trans G3.out).trans (LBut.kept ka), J3.out.kept ka, hp_kept (G3.out.at I0.out (by omega)) ka, malloc_new w3 _, World.ownsRow_nil _ _ _ _, ⟨fun i hi => World.ownsRow_nil _ _ _ _, fun i j hi hj hne b hb => by cases hb⟩⟩)
  clear G1 G2 G3 J1 J2 J3 J0 K0 I0 C1 C2 C3
  go_upto_region 2 with fail
  rw [← hw4]
  clear hw4
  generalize w3.heap.size = q at *
  go_wp2_with fail
  refine (C4.out _ E4.out.rd).mono ?_
  rintro e w5 ⟨rfl, h1, g1⟩
  have E5 := Lib.hid (E4.out.call hp hq h1 g1)
  clear h1 g1 E4 C4
  go_wp2_with fail
  go_loopw [14] (fun t wr => ∃ (k : Nat) (gv : Value), k ≤ c ∧ t = .int .u64 k ∧ Hid (EdS p w q wr (rdG k R0).2 gv (rdG k R0).1 (fun _ => .slice none 0 0) (fun _ => []) n1 n2 n3)) (fun t _ => c - (intOf t).toNat)
  case atStart => exact ⟨0, _, Nat.zero_le _, rfl, E5⟩
  case round =>
    clear E5
    obtain ⟨k, gv, hk, rfl, HE⟩ := hrel
    obtain ⟨gA, gc, rfl⟩ := own_slice HE.out.g
    by_cases hlt : k < c
    · have d1 : decide ((k : Int) < (c : Int)) = true := decide_eq_true (by omega)
      have hgl := rdG_len k R0
      have HNB := Lib.hid (fun W (h : LRd W p (rdG k R0).2) => lvnumb_any (R := (rdG k R0).2) (by omega) W h)
      have HGS := Lib.hid (show rdG (k + 1) R0 = ((rdG k R0).1 ++ [Nm.takeN (rdG k R0).2], Nm.takeR (rdG k R0).2) from rfl)
      have hG : (rdG k R0).1.length ≤ 120 := by omega
      clear hgl
      generalize (rdG k R0).1 = G at *
      generalize Nm.takeN (rdG k R0).2 = n at *
      generalize Nm.takeR (rdG k R0).2 = R' at *
      generalize (rdG k R0).2 = R at *
      have HE1 := Lib.hid (show EdS p w q wr.drew _ _ _ _ _ _ _ _ from HE.out.kept hp hq (kept_drewN wr 1))
      go_upto_region 4 with fail
      -- REGION RdE4 BEGIN
      refine wp_region_held_drew (S := fun W => LBut p w W) (by kernel_rfl) HE1.out.but (fun hHeld => ?_)
      generalize wr.drew = v1 at *
      refine wpAnyH_take (i := 0) (v := (.pointer (some ⟨q, 0, none⟩))) (List.getElem?_toArray.trans rfl) (by kernel_rfl) (by kernel_rfl) (by kernel_rfl) (fun _ _ _ h => h) (Or.inl ⟨by rfl, ?_⟩) (by assumption) ?_
      · intro W hSw
        first | rfl | (go_simp; done) | (go_simp; rfl)
      simp only [Act.put, List.setIfInBounds_toArray, List.set_cons_zero, List.set_cons_succ]
      refine wpAnyH_take (i := 2) (v := (.pointer (some ⟨p, 0, none⟩))) (List.getElem?_toArray.trans rfl) (by kernel_rfl) (by kernel_rfl) (by kernel_rfl) (fun _ _ _ h => h) (Or.inl ⟨by rfl, ?_⟩) (by assumption) ?_
      · intro W hSw
        first | rfl | (go_simp; done) | (go_simp; rfl)
      simp only [Act.put, List.setIfInBounds_toArray, List.set_cons_zero, List.set_cons_succ]
      refine wpAnyH_ready (rs := [1, 3]) (by kernel_rfl) (by simp) ?_
      refine (AllReadyH.cons (List.getElem?_toArray.trans rfl) (fun K hK => ?_) (AllReadyH.cons (List.getElem?_toArray.trans rfl) (fun K hK => ?_) AllReadyH.nil))
      · obtain ⟨z0, z1, z2, z3, z4, z5, z6, z7⟩ := eight_cells HE1.out.blk
        go_simp
        clear z0 z1 z2 z3 z4 z5 z6 z7
        refine hK.out _ _ hHeld (fun hHeld => ?_)
        clear hK K
        try dsimp only [Act.put]
        refine wpAnyH_ready (rs := [3]) (by kernel_rfl) (by simp) ?_
        refine (AllReadyH.cons (List.getElem?_toArray.trans rfl) (fun K hK => ?_) AllReadyH.nil)
        go_simp
        refine (HNB.out _ HE1.out.rd).mono ?_
        rintro e wa ⟨rfl, hr, ga⟩
        have HE2 := Lib.hid (HE1.out.call hp hq hr ga)
        clear HE1 hr ga
        have HE1 := HE2
        clear HE2
        go_wp2_with fail
        refine hK.out _ _ HE1.out.but (fun hHeld => ?_)
        clear hK K
        refine wpAnyH_ready (rs := [4]) (by kernel_rfl) (by simp) ?_
        refine (AllReadyH.cons (List.getElem?_toArray.trans rfl) (fun K hK => ?_) AllReadyH.nil)
        go_simp
        obtain ⟨wd, b4, hwd, hb4, he4, hc4⟩ := lit1e HE1.out hp hq n
        rw [← hwd, ← hb4]
        have HE2 := Lib.hid he4
        clear HE1 he4 hwd hb4
        have HE1 := HE2
        clear HE2
        go_wp2_with fail
        refine hK.out _ _ HE1.out.but (fun hHeld => ?_)
        clear hK K
        refine wpAnyH_ready (rs := [5]) (by kernel_rfl) (by simp) ?_
        refine (AllReadyH.cons (List.getElem?_toArray.trans rfl) (fun K hK => ?_) AllReadyH.nil)
        refine step_app rfl _ _ 29 rfl (q + 1) 32 i0 (.int .u64 0) 1 8 Tryz.underlying29 HI.out HZ0.out HZ1.out HZ2.out rfl (by decide) (.slice gA G.length gc) G.length (nsc G) rfl HE1.out.g ⟨b4, 0, none⟩ 1 1 [.int .u64 (n : Nat)] rfl rfl (one_new hc4.out) (by simp [Value.oneCell']) (by unfold maxLen; omega) (by omega) (by have := mheap_lt HE1.out.blk; omega) ?_
        intro v' wN hown hg ha
        obtain ⟨hb1, hb2, hb3⟩ := HE1.out.addG hp hq n hown hg
        obtain ⟨vA, vc, rfl⟩ := own_slice hown
        have HE2 := Lib.hid hb3; have HB2 := Lib.hid hb2
        clear hb2 hb3 hown hg ha HE1
        refine hK.out _ _ hb1 (fun hHeld => ?_)
        clear hK K
        try dsimp only [Act.put]
        refine wpAnyH_take (i := 6) (v := (.pointer (some ⟨q, 0, none⟩))) (List.getElem?_toArray.trans rfl) (by kernel_rfl) (by kernel_rfl) (by kernel_rfl) (fun _ _ _ h => h) (Or.inl ⟨by rfl, ?_⟩) (by assumption) ?_
        · intro W hSw
          first | rfl | (go_simp; done) | (go_simp; rfl)
        simp only [Act.put, List.setIfInBounds_toArray, List.set_cons_zero, List.set_cons_succ]
        refine wpAnyH_ready (rs := [7]) (by kernel_rfl) (by simp) ?_
        refine (AllReadyH.cons (List.getElem?_toArray.trans rfl) (fun K hK => ?_) AllReadyH.nil)
        have z0 := mcell HB2.out 0 (v := (.slice gA G.length gc)) (by rfl)
        have s0 := mfrozen HB2.out 0
        go_simp
        clear z0 s0
        refine hK.out _ _ HE2.out.but (fun hHeld => ?_)
        clear hK K
        try dsimp only [Act.put]
        refine wpAnyH_done (by kernel_rfl) ?_ _
        go_wp2_with fail
        go_roundw
        case rel => exact ⟨k + 1, _, by omega, by go_num, by rw [HGS.out]; exact HE2⟩
        case measure => simp [intOf]; omega
      · go_simp
        refine (HNB.out _ HE1.out.rd).mono ?_
        rintro e wa ⟨rfl, hr, ga⟩
        have HE2 := Lib.hid (HE1.out.call hp hq hr ga)
        clear HE1 hr ga
        have HE1 := HE2
        clear HE2
        go_wp2_with fail
        refine hK.out _ _ HE1.out.but (fun hHeld => ?_)
        clear hK K
        refine wpAnyH_ready (rs := [1, 4]) (by kernel_rfl) (by simp) ?_
        refine (AllReadyH.cons (List.getElem?_toArray.trans rfl) (fun K hK => ?_) (AllReadyH.cons (List.getElem?_toArray.trans rfl) (fun K hK => ?_) AllReadyH.nil))
        · obtain ⟨z0, z1, z2, z3, z4, z5, z6, z7⟩ := eight_cells HE1.out.blk
          go_simp
          clear z0 z1 z2 z3 z4 z5 z6 z7
          refine hK.out _ _ hHeld (fun hHeld => ?_)
          clear hK K
          try dsimp only [Act.put]
          refine wpAnyH_ready (rs := [4]) (by kernel_rfl) (by simp) ?_
          refine (AllReadyH.cons (List.getElem?_toArray.trans rfl) (fun K hK => ?_) AllReadyH.nil)
          go_simp
          obtain ⟨wd, b4, hwd, hb4, he4, hc4⟩ := lit1e HE1.out hp hq n
          rw [← hwd, ← hb4]
          have HE2 := Lib.hid he4
          clear HE1 he4 hwd hb4
          have HE1 := HE2
          clear HE2
          go_wp2_with fail
          refine hK.out _ _ HE1.out.but (fun hHeld => ?_)
          clear hK K
          refine wpAnyH_ready (rs := [5]) (by kernel_rfl) (by simp) ?_
          refine (AllReadyH.cons (List.getElem?_toArray.trans rfl) (fun K hK => ?_) AllReadyH.nil)
          refine step_app rfl _ _ 29 rfl (q + 1) 32 i0 (.int .u64 0) 1 8 Tryz.underlying29 HI.out HZ0.out HZ1.out HZ2.out rfl (by decide) (.slice gA G.length gc) G.length (nsc G) rfl HE1.out.g ⟨b4, 0, none⟩ 1 1 [.int .u64 (n : Nat)] rfl rfl (one_new hc4.out) (by simp [Value.oneCell']) (by unfold maxLen; omega) (by omega) (by have := mheap_lt HE1.out.blk; omega) ?_
          intro v' wN hown hg ha
          obtain ⟨hb1, hb2, hb3⟩ := HE1.out.addG hp hq n hown hg
          obtain ⟨vA, vc, rfl⟩ := own_slice hown
          have HE2 := Lib.hid hb3; have HB2 := Lib.hid hb2
          clear hb2 hb3 hown hg ha HE1
          refine hK.out _ _ hb1 (fun hHeld => ?_)
          clear hK K
          try dsimp only [Act.put]
          refine wpAnyH_take (i := 6) (v := (.pointer (some ⟨q, 0, none⟩))) (List.getElem?_toArray.trans rfl) (by kernel_rfl) (by kernel_rfl) (by kernel_rfl) (fun _ _ _ h => h) (Or.inl ⟨by rfl, ?_⟩) (by assumption) ?_
          · intro W hSw
            first | rfl | (go_simp; done) | (go_simp; rfl)
          simp only [Act.put, List.setIfInBounds_toArray, List.set_cons_zero, List.set_cons_succ]
          refine wpAnyH_ready (rs := [7]) (by kernel_rfl) (by simp) ?_
          refine (AllReadyH.cons (List.getElem?_toArray.trans rfl) (fun K hK => ?_) AllReadyH.nil)
          have z0 := mcell HB2.out 0 (v := (.slice gA G.length gc)) (by rfl)
          have s0 := mfrozen HB2.out 0
          go_simp
          clear z0 s0
          refine hK.out _ _ HE2.out.but (fun hHeld => ?_)
          clear hK K
          try dsimp only [Act.put]
          refine wpAnyH_done (by kernel_rfl) ?_ _
          go_wp2_with fail
          go_roundw
          case rel => exact ⟨k + 1, _, by omega, by go_num, by rw [HGS.out]; exact HE2⟩
          case measure => simp [intOf]; omega
        · go_simp
          obtain ⟨wd, b4, hwd, hb4, he4, hc4⟩ := lit1e HE1.out hp hq n
          rw [← hwd, ← hb4]
          have HE2 := Lib.hid he4
          clear HE1 he4 hwd hb4
          have HE1 := HE2
          clear HE2
          go_wp2_with fail
          refine hK.out _ _ HE1.out.but (fun hHeld => ?_)
          clear hK K
          refine wpAnyH_ready (rs := [1]) (by kernel_rfl) (by simp) ?_
          refine (AllReadyH.cons (List.getElem?_toArray.trans rfl) (fun K hK => ?_) AllReadyH.nil)
          obtain ⟨z0, z1, z2, z3, z4, z5, z6, z7⟩ := eight_cells HE1.out.blk
          go_simp
          clear z0 z1 z2 z3 z4 z5 z6 z7
          refine hK.out _ _ hHeld (fun hHeld => ?_)
          clear hK K
          try dsimp only [Act.put]
          refine wpAnyH_ready (rs := [5]) (by kernel_rfl) (by simp) ?_
          refine (AllReadyH.cons (List.getElem?_toArray.trans rfl) (fun K hK => ?_) AllReadyH.nil)
          refine step_app rfl _ _ 29 rfl (q + 1) 32 i0 (.int .u64 0) 1 8 Tryz.underlying29 HI.out HZ0.out HZ1.out HZ2.out rfl (by decide) (.slice gA G.length gc) G.length (nsc G) rfl HE1.out.g ⟨b4, 0, none⟩ 1 1 [.int .u64 (n : Nat)] rfl rfl (one_new hc4.out) (by simp [Value.oneCell']) (by unfold maxLen; omega) (by omega) (by have := mheap_lt HE1.out.blk; omega) ?_
          intro v' wN hown hg ha
          obtain ⟨hb1, hb2, hb3⟩ := HE1.out.addG hp hq n hown hg
          obtain ⟨vA, vc, rfl⟩ := own_slice hown
          have HE2 := Lib.hid hb3; have HB2 := Lib.hid hb2
          clear hb2 hb3 hown hg ha HE1
          refine hK.out _ _ hb1 (fun hHeld => ?_)
          clear hK K
          try dsimp only [Act.put]
          refine wpAnyH_take (i := 6) (v := (.pointer (some ⟨q, 0, none⟩))) (List.getElem?_toArray.trans rfl) (by kernel_rfl) (by kernel_rfl) (by kernel_rfl) (fun _ _ _ h => h) (Or.inl ⟨by rfl, ?_⟩) (by assumption) ?_
          · intro W hSw
            first | rfl | (go_simp; done) | (go_simp; rfl)
          simp only [Act.put, List.setIfInBounds_toArray, List.set_cons_zero, List.set_cons_succ]
          refine wpAnyH_ready (rs := [7]) (by kernel_rfl) (by simp) ?_
          refine (AllReadyH.cons (List.getElem?_toArray.trans rfl) (fun K hK => ?_) AllReadyH.nil)
          have z0 := mcell HB2.out 0 (v := (.slice gA G.length gc)) (by rfl)
          have s0 := mfrozen HB2.out 0
          go_simp
          clear z0 s0
          refine hK.out _ _ HE2.out.but (fun hHeld => ?_)
          clear hK K
          try dsimp only [Act.put]
          refine wpAnyH_done (by kernel_rfl) ?_ _
          go_wp2_with fail
          go_roundw
          case rel => exact ⟨k + 1, _, by omega, by go_num, by rw [HGS.out]; exact HE2⟩
          case measure => simp [intOf]; omega
      -- REGION RdE4 END
    · obtain rfl : k = c := by omega
      have d1 : decide ((k : Int) < (k : Int)) = false := decide_eq_false (by omega)
      have hgl := rdG_len k R0
      have lRR : (rdG k R0).2.length ≤ 16777216 := by omega
      clear hgl hlt
      generalize hGG : (rdG k R0).1 = G at *
      generalize hRR : (rdG k R0).2 = RR at *
      have HGG := Lib.hid (And.intro hGG hRR)
      clear hGG hRR
      go_wp2_with fail
      go_loopw [24] (fun t wr => ∃ (l : Nat) (f : Nat → Value) (L : Nat → List Meta), l ≤ 4 ∧ t = .int .i64 l ∧ Hid (EdS p w q wr (aft l RR) (.slice gA G.length gc) G f L n1 n2 n3) ∧ Hid (∀ i, i < 4 → L i = if i < l then (rdL (aft i RR)).1 else [])) (fun t _ => 4 - (intOf t).toNat)
      case atStart => exact ⟨0, _, _, by omega, rfl, HE, Lib.hid (fun i hi => by rw [if_neg (by omega)])⟩
      case round =>
        clear HE
        obtain ⟨l, f, L, hl4, rfl, HE, HL⟩ := hrel
        by_cases hlt : l < 4
        · have d2 : decide ((l : Int) < 4) = true := decide_eq_true (by omega)
          have hal := aft_le l RR
          have hcn : cnt 30 (aft l RR) ≤ 30 := by unfold cnt; omega
          have C5 := Lib.hid (fun W (h : LRd W p (aft l RR)) => lvcount_any (R := aft l RR) (by omega) 30 W h)
          have l5 := lvtakeR_le (aft l RR)
          have HA1 := Lib.hid (show (rdL (aft l RR)).1 = (rdMs (cnt 30 (aft l RR)) (Nm.takeR (aft l RR))).1 ∧ aft (l + 1) RR = (rdMs (cnt 30 (aft l RR)) (Nm.takeR (aft l RR))).2 from ⟨rfl, rfl⟩)
          have lTR : (Nm.takeR (aft l RR)).length ≤ 16777216 := by omega
          clear hal l5
          generalize cnt 30 (aft l RR) = c2 at *
          generalize Nm.takeR (aft l RR) = TR at *
          go_wp2_with fail
          refine (C5.out _ HE.out.rd).mono ?_
          rintro e w7 ⟨rfl, h1, g1⟩
          have E7 := Lib.hid (HE.out.call hp hq h1 g1)
          have HLl := Lib.hid (show L l = [] from by rw [HL.out l hlt, if_neg (by omega)])
          clear h1 g1 HE C5
          go_wp2_with fail
          go_loopw [29] (fun t wi => ∃ (j : Nat) (f2 : Nat → Value) (L2 : Nat → List Meta), j ≤ c2 ∧ t = .int .u64 j ∧ Hid (EdS p w q wi (rdMs j TR).2 (.slice gA G.length gc) G f2 L2 n1 n2 n3) ∧ Hid (L2 l = (rdMs j TR).1 ∧ ∀ i, i ≠ l → L2 i = L i)) (fun t _ => c2 - (intOf t).toNat)
          case atStart => exact ⟨0, _, _, Nat.zero_le _, rfl, E7, Lib.hid ⟨HLl.out, fun i _ => rfl⟩⟩
          case round =>
            clear E7
            obtain ⟨j, f2, L2, hj, rfl, HE, HL2⟩ := hrel
            by_cases hjc : j < c2
            · have d3 : decide ((j : Int) < (c2 : Int)) = true := decide_eq_true (by omega)
              have hml := rdMs_len j TR
              have HMB := Lib.hid (fun W (h : LRd W p (rdMs j TR).2) => lvmeta_any (R := (rdMs j TR).2) (by omega) W h)
              have HMS := Lib.hid (show rdMs (j + 1) TR = ((rdMs j TR).1 ++ [(rdM (rdMs j TR).2).1], (rdM (rdMs j TR).2).2) from rfl)
              have hLl : (L2 l).length ≤ 30 := by rw [HL2.out.1]; omega
              have HLM := Lib.hid (fun M : List Meta => show L2 l = (rdMs j TR).1 from HL2.out.1)
              have HLN := Lib.hid HL2.out.2
              have HM1 := Lib.hid HL2.out.1
              clear hml HL2
              generalize (rdM (rdMs j TR).2).1 = m at *
              generalize (rdM (rdMs j TR).2).2 = R' at *
              generalize (rdMs j TR).2 = R at *
              unfold metaV at HMB
              have HE1 := Lib.hid (show EdS p w q wr.drew _ _ _ _ _ _ _ _ from HE.out.kept hp hq (kept_drewN wr 1))
              go_upto_region 11 with fail
              -- REGION RdE11 BEGIN
              refine wp_region_held_drew (S := fun W => LBut p w W) (by kernel_rfl) HE1.out.but (fun hHeld => ?_)
              generalize wr.drew = v1 at *
              refine wpAnyH_take (i := 0) (v := (.int .i64 (l : Nat))) (List.getElem?_toArray.trans rfl) (by kernel_rfl) (by kernel_rfl) (by kernel_rfl) (fun _ _ _ h => h) (Or.inl ⟨by rfl, ?_⟩) (by assumption) ?_
              · intro W hSw
                first | rfl | (go_simp; done) | (go_simp; rfl)
              simp only [Act.put, List.setIfInBounds_toArray, List.set_cons_zero, List.set_cons_succ]
              refine wpAnyH_take (i := 1) (v := (.int .i64 (l : Nat))) (List.getElem?_toArray.trans rfl) (by kernel_rfl) (by kernel_rfl) (by kernel_rfl) (fun _ _ _ h => h) (Or.inl ⟨by rfl, ?_⟩) (by assumption) ?_
              · intro W hSw
                first | rfl | (go_simp; done) | (go_simp; rfl)
              simp only [Act.put, List.setIfInBounds_toArray, List.set_cons_zero, List.set_cons_succ]
              refine wpAnyH_take (i := 2) (v := (.pointer (some ⟨q, 1, none⟩))) (List.getElem?_toArray.trans rfl) (by kernel_rfl) (by kernel_rfl) (by kernel_rfl) (fun _ _ _ h => h) (Or.inl ⟨by rfl, ?_⟩) (by assumption) ?_
              · intro W hSw
                first | rfl | (go_simp; done) | (go_simp; rfl)
              simp only [Act.put, List.setIfInBounds_toArray, List.set_cons_zero, List.set_cons_succ]
              refine wpAnyH_take (i := 3) (v := (.pointer (some ⟨q, 1 + l, none⟩))) (List.getElem?_toArray.trans rfl) (by kernel_rfl) (by kernel_rfl) (by kernel_rfl) (fun _ _ _ h => h) (Or.inl ⟨by rfl, ?_⟩) (by assumption) ?_
              · intro W hSw
                go_simp
                intro hh
                omega
              simp only [Act.put, List.setIfInBounds_toArray, List.set_cons_zero, List.set_cons_succ]
              refine wpAnyH_take (i := 5) (v := (.pointer (some ⟨p, 0, none⟩))) (List.getElem?_toArray.trans rfl) (by kernel_rfl) (by kernel_rfl) (by kernel_rfl) (fun _ _ _ h => h) (Or.inl ⟨by rfl, ?_⟩) (by assumption) ?_
              · intro W hSw
                first | rfl | (go_simp; done) | (go_simp; rfl)
              simp only [Act.put, List.setIfInBounds_toArray, List.set_cons_zero, List.set_cons_succ]
              refine wpAnyH_take (i := 9) (v := (.pointer (some ⟨q, 1, none⟩))) (List.getElem?_toArray.trans rfl) (by kernel_rfl) (by kernel_rfl) (by kernel_rfl) (fun _ _ _ h => h) (Or.inl ⟨by rfl, ?_⟩) (by assumption) ?_
              · intro W hSw
                first | rfl | (go_simp; done) | (go_simp; rfl)
              simp only [Act.put, List.setIfInBounds_toArray, List.set_cons_zero, List.set_cons_succ]
              refine wpAnyH_ready (rs := [4, 6]) (by kernel_rfl) (by simp) ?_
              refine (AllReadyH.cons (List.getElem?_toArray.trans rfl) (fun K hK => ?_) (AllReadyH.cons (List.getElem?_toArray.trans rfl) (fun K hK => ?_) AllReadyH.nil))
              · have z0 := HE1.out.cell l hlt
                go_simp
                clear z0
                refine hK.out _ _ hHeld (fun hHeld => ?_)
                clear hK K
                try dsimp only [Act.put]
                refine wpAnyH_ready (rs := [6]) (by kernel_rfl) (by simp) ?_
                refine (AllReadyH.cons (List.getElem?_toArray.trans rfl) (fun K hK => ?_) AllReadyH.nil)
                go_simp
                refine (HMB.out _ HE1.out.rd).mono ?_
                rintro e wa ⟨rfl, hr, ga⟩
                have HE2 := Lib.hid (HE1.out.call hp hq hr ga)
                clear HE1 hr ga
                have HE1 := HE2
                clear HE2
                go_wp2_with fail
                refine hK.out _ _ HE1.out.but (fun hHeld => ?_)
                clear hK K
                refine wpAnyH_ready (rs := [7]) (by kernel_rfl) (by simp) ?_
                refine (AllReadyH.cons (List.getElem?_toArray.trans rfl) (fun K hK => ?_) AllReadyH.nil)
                go_simp
                obtain ⟨wd, b4, hwd, hb4, he4, hc4⟩ := litme HE1.out hp hq m
                rw [← hwd, ← hb4]
                have HE2 := Lib.hid he4
                clear HE1 he4 hwd hb4
                have HE1 := HE2
                clear HE2
                go_wp2_with fail
                refine hK.out _ _ HE1.out.but (fun hHeld => ?_)
                clear hK K
                refine wpAnyH_ready (rs := [8]) (by kernel_rfl) (by simp) ?_
                refine (AllReadyH.cons (List.getElem?_toArray.trans rfl) (fun K hK => ?_) AllReadyH.nil)
                refine step_app rfl _ _ 30 rfl (q + 1) 43 j0 zmtV 5 56 Tryz.underlying30 HJ.out HY0.out HY1.out HY2.out rfl (by decide) (f2 l) (L2 l).length (mtl (L2 l)) rfl (HE1.out.l.own l hlt) ⟨b4, 0, none⟩ 1 1 (mtc m) rfl rfl (five_new hc4.out) (by simp [mtc, Value.oneCell']) (by unfold maxLen; omega) (by omega) (by have := mheap_lt HE1.out.blk; omega) ?_
                intro v' wN hown hg ha
                obtain ⟨hb1, hb2, hb3⟩ := HE1.out.addL hp hq l hlt m hown hg ha
                obtain ⟨vA, vc, rfl⟩ := own_slice hown
                have HE2 := Lib.hid hb3; have HB2 := Lib.hid hb2
                clear hb2 hb3 hown hg ha HE1
                refine hK.out _ _ hb1 (fun hHeld => ?_)
                clear hK K
                try dsimp only [Act.put]
                refine wpAnyH_take (i := 10) (v := (.pointer (some ⟨q, 1 + l, none⟩))) (List.getElem?_toArray.trans rfl) (by kernel_rfl) (by kernel_rfl) (by kernel_rfl) (fun _ _ _ h => h) (Or.inl ⟨by rfl, ?_⟩) (by assumption) ?_
                · intro W hSw
                  go_simp
                  intro hh
                  omega
                simp only [Act.put, List.setIfInBounds_toArray, List.set_cons_zero, List.set_cons_succ]
                refine wpAnyH_ready (rs := [11]) (by kernel_rfl) (by simp) ?_
                refine (AllReadyH.cons (List.getElem?_toArray.trans rfl) (fun K hK => ?_) AllReadyH.nil)
                have z0 := eight_at HB2.out l hlt
                have s0 := mfrozen HB2.out (1 + l)
                go_simp
                clear z0 s0
                refine hK.out _ _ HE2.out.but (fun hHeld => ?_)
                clear hK K
                try dsimp only [Act.put]
                refine wpAnyH_done (by kernel_rfl) ?_ _
                go_wp2_with fail
                go_roundw
                case rel => exact ⟨j + 1, _, _, by omega, by go_num, by rw [HMS.out]; exact HE2, Lib.hid ⟨by rw [vset_at, HM1.out, HMS.out], fun i hi => by rw [vset_ne _ _ hi]; exact HLN.out i hi⟩⟩
                case measure => simp [intOf]; omega
              · go_simp
                refine (HMB.out _ HE1.out.rd).mono ?_
                rintro e wa ⟨rfl, hr, ga⟩
                have HE2 := Lib.hid (HE1.out.call hp hq hr ga)
                clear HE1 hr ga
                have HE1 := HE2
                clear HE2
                go_wp2_with fail
                refine hK.out _ _ HE1.out.but (fun hHeld => ?_)
                clear hK K
                refine wpAnyH_ready (rs := [4, 7]) (by kernel_rfl) (by simp) ?_
                refine (AllReadyH.cons (List.getElem?_toArray.trans rfl) (fun K hK => ?_) (AllReadyH.cons (List.getElem?_toArray.trans rfl) (fun K hK => ?_) AllReadyH.nil))
                · have z0 := HE1.out.cell l hlt
                  go_simp
                  clear z0
                  refine hK.out _ _ hHeld (fun hHeld => ?_)
                  clear hK K
                  try dsimp only [Act.put]
                  refine wpAnyH_ready (rs := [7]) (by kernel_rfl) (by simp) ?_
                  refine (AllReadyH.cons (List.getElem?_toArray.trans rfl) (fun K hK => ?_) AllReadyH.nil)
                  go_simp
                  obtain ⟨wd, b4, hwd, hb4, he4, hc4⟩ := litme HE1.out hp hq m
                  rw [← hwd, ← hb4]
                  have HE2 := Lib.hid he4
                  clear HE1 he4 hwd hb4
                  have HE1 := HE2
                  clear HE2
                  go_wp2_with fail
                  refine hK.out _ _ HE1.out.but (fun hHeld => ?_)
                  clear hK K
                  refine wpAnyH_ready (rs := [8]) (by kernel_rfl) (by simp) ?_
                  refine (AllReadyH.cons (List.getElem?_toArray.trans rfl) (fun K hK => ?_) AllReadyH.nil)
                  refine step_app rfl _ _ 30 rfl (q + 1) 43 j0 zmtV 5 56 Tryz.underlying30 HJ.out HY0.out HY1.out HY2.out rfl (by decide) (f2 l) (L2 l).length (mtl (L2 l)) rfl (HE1.out.l.own l hlt) ⟨b4, 0, none⟩ 1 1 (mtc m) rfl rfl (five_new hc4.out) (by simp [mtc, Value.oneCell']) (by unfold maxLen; omega) (by omega) (by have := mheap_lt HE1.out.blk; omega) ?_
                  intro v' wN hown hg ha
                  obtain ⟨hb1, hb2, hb3⟩ := HE1.out.addL hp hq l hlt m hown hg ha
                  obtain ⟨vA, vc, rfl⟩ := own_slice hown
                  have HE2 := Lib.hid hb3; have HB2 := Lib.hid hb2
                  clear hb2 hb3 hown hg ha HE1
                  refine hK.out _ _ hb1 (fun hHeld => ?_)
                  clear hK K
                  try dsimp only [Act.put]
                  refine wpAnyH_take (i := 10) (v := (.pointer (some ⟨q, 1 + l, none⟩))) (List.getElem?_toArray.trans rfl) (by kernel_rfl) (by kernel_rfl) (by kernel_rfl) (fun _ _ _ h => h) (Or.inl ⟨by rfl, ?_⟩) (by assumption) ?_
                  · intro W hSw
                    go_simp
                    intro hh
                    omega
                  simp only [Act.put, List.setIfInBounds_toArray, List.set_cons_zero, List.set_cons_succ]
                  refine wpAnyH_ready (rs := [11]) (by kernel_rfl) (by simp) ?_
                  refine (AllReadyH.cons (List.getElem?_toArray.trans rfl) (fun K hK => ?_) AllReadyH.nil)
                  have z0 := eight_at HB2.out l hlt
                  have s0 := mfrozen HB2.out (1 + l)
                  go_simp
                  clear z0 s0
                  refine hK.out _ _ HE2.out.but (fun hHeld => ?_)
                  clear hK K
                  try dsimp only [Act.put]
                  refine wpAnyH_done (by kernel_rfl) ?_ _
                  go_wp2_with fail
                  go_roundw
                  case rel => exact ⟨j + 1, _, _, by omega, by go_num, by rw [HMS.out]; exact HE2, Lib.hid ⟨by rw [vset_at, HM1.out, HMS.out], fun i hi => by rw [vset_ne _ _ hi]; exact HLN.out i hi⟩⟩
                  case measure => simp [intOf]; omega
                · go_simp
                  obtain ⟨wd, b4, hwd, hb4, he4, hc4⟩ := litme HE1.out hp hq m
                  rw [← hwd, ← hb4]
                  have HE2 := Lib.hid he4
                  clear HE1 he4 hwd hb4
                  have HE1 := HE2
                  clear HE2
                  go_wp2_with fail
                  refine hK.out _ _ HE1.out.but (fun hHeld => ?_)
                  clear hK K
                  refine wpAnyH_ready (rs := [4]) (by kernel_rfl) (by simp) ?_
                  refine (AllReadyH.cons (List.getElem?_toArray.trans rfl) (fun K hK => ?_) AllReadyH.nil)
                  have z0 := HE1.out.cell l hlt
                  go_simp
                  clear z0
                  refine hK.out _ _ hHeld (fun hHeld => ?_)
                  clear hK K
                  try dsimp only [Act.put]
                  refine wpAnyH_ready (rs := [8]) (by kernel_rfl) (by simp) ?_
                  refine (AllReadyH.cons (List.getElem?_toArray.trans rfl) (fun K hK => ?_) AllReadyH.nil)
                  refine step_app rfl _ _ 30 rfl (q + 1) 43 j0 zmtV 5 56 Tryz.underlying30 HJ.out HY0.out HY1.out HY2.out rfl (by decide) (f2 l) (L2 l).length (mtl (L2 l)) rfl (HE1.out.l.own l hlt) ⟨b4, 0, none⟩ 1 1 (mtc m) rfl rfl (five_new hc4.out) (by simp [mtc, Value.oneCell']) (by unfold maxLen; omega) (by omega) (by have := mheap_lt HE1.out.blk; omega) ?_
                  intro v' wN hown hg ha
                  obtain ⟨hb1, hb2, hb3⟩ := HE1.out.addL hp hq l hlt m hown hg ha
                  obtain ⟨vA, vc, rfl⟩ := own_slice hown
                  have HE2 := Lib.hid hb3; have HB2 := Lib.hid hb2
                  clear hb2 hb3 hown hg ha HE1
                  refine hK.out _ _ hb1 (fun hHeld => ?_)
                  clear hK K
                  try dsimp only [Act.put]
                  refine wpAnyH_take (i := 10) (v := (.pointer (some ⟨q, 1 + l, none⟩))) (List.getElem?_toArray.trans rfl) (by kernel_rfl) (by kernel_rfl) (by kernel_rfl) (fun _ _ _ h => h) (Or.inl ⟨by rfl, ?_⟩) (by assumption) ?_
                  · intro W hSw
                    go_simp
                    intro hh
                    omega
                  simp only [Act.put, List.setIfInBounds_toArray, List.set_cons_zero, List.set_cons_succ]
                  refine wpAnyH_ready (rs := [11]) (by kernel_rfl) (by simp) ?_
                  refine (AllReadyH.cons (List.getElem?_toArray.trans rfl) (fun K hK => ?_) AllReadyH.nil)
                  have z0 := eight_at HB2.out l hlt
                  have s0 := mfrozen HB2.out (1 + l)
                  go_simp
                  clear z0 s0
                  refine hK.out _ _ HE2.out.but (fun hHeld => ?_)
                  clear hK K
                  try dsimp only [Act.put]
                  refine wpAnyH_done (by kernel_rfl) ?_ _
                  go_wp2_with fail
                  go_roundw
                  case rel => exact ⟨j + 1, _, _, by omega, by go_num, by rw [HMS.out]; exact HE2, Lib.hid ⟨by rw [vset_at, HM1.out, HMS.out], fun i hi => by rw [vset_ne _ _ hi]; exact HLN.out i hi⟩⟩
                  case measure => simp [intOf]; omega
              -- REGION RdE11 END
            · obtain rfl : j = c2 := by omega
              have d3 : decide ((j : Int) < (j : Int)) = false := decide_eq_false (by omega)
              have HF := Lib.hid (show ∀ i, i < 4 → L2 i = if i < l + 1 then (rdL (aft i RR)).1 else [] from fun i hi => by
                by_cases e : i = l
                · subst e
                  rw [HL2.out.1, if_pos (by omega), HA1.out.1]
                · rw [HL2.out.2 i e, HL.out i hi]
                  by_cases h : i < l
                  · rw [if_pos h, if_pos (by omega)]
                  · rw [if_neg h, if_neg (by omega)])
              go_wp2_with fail
              go_roundw
              case rel => exact ⟨l + 1, f2, L2, by omega, by go_num, by rw [HA1.out.2]; exact HE, HF⟩
              case measure => simp [intOf]; omega
        · obtain rfl : l = 4 := by omega
          obtain ⟨v0, r0, e0⟩ := own_slice (HE.out.l.own 0 (by omega))
          obtain ⟨v1, r1, e1⟩ := own_slice (HE.out.l.own 1 (by omega))
          obtain ⟨v2, r2, e2⟩ := own_slice (HE.out.l.own 2 (by omega))
          obtain ⟨v3, r3, e3⟩ := own_slice (HE.out.l.own 3 (by omega))
          have hb := HE.out.blk
          rw [e0, e1, e2, e3] at hb
          have HEE := Lib.hid (And.intro e0 (And.intro e1 (And.intro e2 e3)))
          clear e0 e1 e2 e3
          generalize (L 0).length = o0 at *
          generalize (L 1).length = o1 at *
          generalize (L 2).length = o2 at *
          generalize (L 3).length = o3 at *
          obtain ⟨z0, z1, z2, z3, z4, z5, z6, z7⟩ := eight_cells hb
          obtain ⟨y0, y1, y2, y3, y4, y5, y6, y7⟩ := eight_cells HE.out.res
          have HRS := Lib.hid HE.out.res
          have s0 := mfrozen HRS.out 0; have s1 := mfrozen HRS.out 1; have s2 := mfrozen HRS.out 2; have s3 := mfrozen HRS.out 3
          have s4 := mfrozen HRS.out 4; have s5 := mfrozen HRS.out 5; have s6 := mfrozen HRS.out 6; have s7 := mfrozen HRS.out 7
          clear hb
          go_wp2_with fail
          have hne : w.heap.size ≠ p := by omega
          have hq1 : w.heap.size < q + 1 := by omega
          obtain ⟨x0, x1, x2, x3, x4, x5, x6, x7⟩ := eight_cells (x0 := (.slice gA G.length gc)) (x1 := (.slice v0 o0 r0)) (x2 := (.slice v1 o1 r1)) (x3 := (.slice v2 o2 r2)) (x4 := (.slice v3 o3 r3)) (x5 := (.int .u64 (n1 : Nat))) (x6 := (.int .u64 (n2 : Nat))) (x7 := (.int .u64 (n3 : Nat))) (lvset (lvset (lvset (lvset (lvset (lvset (lvset (lvset HRS.out 0 (.slice gA G.length gc)) 1 (.slice v0 o0 r0)) 2 (.slice v1 o1 r1)) 3 (.slice v2 o2 r2)) 4 (.slice v3 o3 r3)) 5 (.int .u64 (n1 : Nat))) 6 (.int .u64 (n2 : Nat))) 7 (.int .u64 (n3 : Nat)))
          refine bodyPost_ret (v := .agg #[(.slice gA G.length gc), (.slice v0 o0 r0), (.slice v1 o1 r1), (.slice v2 o2 r2), (.slice v3 o3 r3), (.int .u64 (n1 : Nat)), (.int .u64 (n2 : Nat)), (.int .u64 (n3 : Nat))]) (by simp [results, Tryz.results66, go_sem, x0, x1, x2, x3, x4, x5, x6, x7]) rfl ⟨.slice gA G.length gc, f, ?_, ?_, ?_, ?_⟩
          · unfold edv
            rw [HEE.out.1, HEE.out.2.1, HEE.out.2.2.1, HEE.out.2.2.2]
          · rw [HGG.out.1]
            exact own_base (own_set' (own_set' (own_set' (own_set' (own_set' (own_set' (own_set' (own_set' HE.out.g (own_ne_old HE.out.g hq1) 0 (.slice gA G.length gc)) (own_ne_old HE.out.g hq1) 1 (.slice v0 o0 r0)) (own_ne_old HE.out.g hq1) 2 (.slice v1 o1 r1)) (own_ne_old HE.out.g hq1) 3 (.slice v2 o2 r2)) (own_ne_old HE.out.g hq1) 4 (.slice v3 o3 r3)) (own_ne_old HE.out.g hq1) 5 (.int .u64 (n1 : Nat))) (own_ne_old HE.out.g hq1) 6 (.int .u64 (n2 : Nat))) (own_ne_old HE.out.g hq1) 7 (.int .u64 (n3 : Nat))) (Nat.le_of_lt hq1)
          · rw [HGG.out.2]
            exact (Four.mono (Four.set (Four.set (Four.set (Four.set (Four.set (Four.set (Four.set (Four.set HE.out.l hq1 0 (.slice gA G.length gc)) hq1 1 (.slice v0 o0 r0)) hq1 2 (.slice v1 o1 r1)) hq1 3 (.slice v2 o2 r2)) hq1 4 (.slice v3 o3 r3)) hq1 5 (.int .u64 (n1 : Nat))) hq1 6 (.int .u64 (n2 : Nat))) hq1 7 (.int .u64 (n3 : Nat))) (Nat.le_of_lt hq1)).same (fun i hi => (HL.out i hi).trans (if_pos hi))
          · exact (LBut.own1 (LBut.own1 (LBut.own1 (LBut.own1 (LBut.own1 (LBut.own1 (LBut.own1 (LBut.own1 HE.out.but (Nat.le_refl _) 0 (.slice gA G.length gc)) (Nat.le_refl _) 1 (.slice v0 o0 r0)) (Nat.le_refl _) 2 (.slice v1 o1 r1)) (Nat.le_refl _) 3 (.slice v2 o2 r2)) (Nat.le_refl _) 4 (.slice v3 o3 r3)) (Nat.le_refl _) 5 (.int .u64 (n1 : Nat))) (Nat.le_refl _) 6 (.int .u64 (n2 : Nat))) (Nat.le_refl _) 7 (.int .u64 (n3 : Nat)))
end Go.Proofs.YtnnmalpnjlnnlaaGreat

/-
  Package level over memory: the edit that bytes are.
-/
namespace Go.Proofs.YtnnmalpnjlnnlaaGreat
open Go.ChangeShapes Go.WideShapes Go.ChangeAt Go.RowKit
set_option linter.unusedVariables false
set_option maxRecDepth 100000
set_option maxHeartbeats 8000000
open Lv
theorem rdM_sane (R : List UInt8) (h : R.length ≤ 16777216) : Sane (rdM R).1 := by
  have h1 := lvtakeR_le R
  have h2 := lvtakeR_le (Nm.takeR R)
  have h3 := lvtx_le (Nm.takeR (Nm.takeR R))
  have h4 := lvtx_le (tx (Nm.takeR (Nm.takeR R))).2
  have a1 := lvtakeN_lt R
  have a2 := lvtakeN_lt (Nm.takeR R)
  have a3 := lvtakeN_lt (tx (tx (Nm.takeR (Nm.takeR R))).2).2
  unfold rdM Sane maxLen
  simp only
  have hs : -9223372036854775808 ≤ sg (Nm.takeN (Nm.takeR R)) ∧ sg (Nm.takeN (Nm.takeR R)) ≤ 9223372036854775807 := by
    unfold sg; split <;> omega
  omega
theorem rdMs_sane : ∀ (c : Nat) (R : List UInt8), R.length ≤ 16777216 → ∀ x ∈ (rdMs c R).1, Sane x
  | 0, R, _, x, hx => by simp [rdMs] at hx
  | c + 1, R, h, x, hx => by
    have hl := (rdMs_len c R).2
    simp only [rdMs, List.mem_append, List.mem_singleton] at hx
    rcases hx with hx | rfl
    · exact rdMs_sane c R h x hx
    · exact rdM_sane _ (by omega)
theorem rdE_lists {s : List UInt8} (h : s.length ≤ 16777216) : (rdE s).gone.length ≤ 120 ∧ ∀ l, l < 4 → ((rdE s).new l).length ≤ 30 ∧ ∀ x ∈ (rdE s).new l, Sane x := by
  have l1 := lvtakeR_le s
  have l2 := lvtakeR_le (Nm.takeR s)
  have l3 := lvtakeR_le (Nm.takeR (Nm.takeR s))
  have l4 := lvtakeR_le (r3 s)
  have lr3 : (r3 s).length ≤ 16777216 := by unfold r3; omega
  have hg := rdG_len (cnt 120 (r3 s)) (Nm.takeR (r3 s))
  refine ⟨?_, fun l hl => ?_⟩
  · show (rdG (cnt 120 (r3 s)) (Nm.takeR (r3 s))).1.length ≤ 120
    rw [hg.1]; unfold cnt; omega
  · have ha := aft_le l (rdG (cnt 120 (r3 s)) (Nm.takeR (r3 s))).2
    have lt := lvtakeR_le (aft l (rdG (cnt 120 (r3 s)) (Nm.takeR (r3 s))).2)
    have hm := rdMs_len (cnt 30 (aft l (rdG (cnt 120 (r3 s)) (Nm.takeR (r3 s))).2)) (Nm.takeR (aft l (rdG (cnt 120 (r3 s)) (Nm.takeR (r3 s))).2))
    refine ⟨?_, fun x hx => rdMs_sane _ _ (by omega) x hx⟩
    show (rdMs (cnt 30 (aft l (rdG (cnt 120 (r3 s)) (Nm.takeR (r3 s))).2)) (Nm.takeR (aft l (rdG (cnt 120 (r3 s)) (Nm.takeR (r3 s))).2))).1.length ≤ 30
    rw [hm.1]; unfold cnt; omega
def edz : Value := .agg #[.slice none 0 0, .slice none 0 0, .slice none 0 0, .slice none 0 0, .slice none 0 0, .int .u64 0, .int .u64 0, .int .u64 0]
/-- what Decode tells -/
def DcRet (s : List UInt8) (w : World) (e : Ending) (w' : World) : Prop :=
  (isB s = true → ∃ d : Ed, e = .returned (.tuple #[d.v, .int .i64 0]) ∧ d.In w' ∧ Lv.Alike d.edt (rdE s)) ∧ (isB s = false → e = .returned (.tuple #[edz, .int .i64 2])) ∧ Kept w w'
/-- an edit that was read, as an edit in memory -/
theorem ed_read {s : List UInt8} (h : s.length ≤ 16777216) {w : World} {B : Nat} {gv : Value} {f : Nat → Value} (hg : w.ownsRow B 32 1 gv (rdE s).gone.length (nsc (rdE s).gone)) (hF : Four B w f (rdE s).new 4) :
    ∃ d : Ed, edv gv f (rdE s).nx (rdE s).lg (rdE s).sq = d.v ∧ d.In w ∧ Lv.Alike d.edt (rdE s) := by
  obtain ⟨h1, h2⟩ := rdE_lists h
  obtain ⟨A, c, rfl, _, hn⟩ := own_nus hg
  obtain ⟨U, hU, hUl, hUt, hUf, _⟩ := hF.tin (fun l hl => (h2 l hl).2)
  obtain ⟨f0, f1, f2, f3⟩ := four_inj hU
  have n1 := lvtakeN_lt s
  have n2 := lvtakeN_lt (Nm.takeR s)
  have n3 := lvtakeN_lt (Nm.takeR (Nm.takeR s))
  refine ⟨⟨A, c, (rdE s).gone, U, (rdE s).nx, (rdE s).lg, (rdE s).sq⟩, ?_, ⟨hn, hUt, by simp only; omega, fun l hl => by simp only; rw [hUl l hl]; have := (h2 l hl).1; omega, ?_, ?_, ?_⟩, ⟨rfl, fun l hl => hUl l hl, rfl, rfl, rfl⟩⟩
  · unfold Ed.v edv
    rw [f0, f1, f2, f3]
  · show Nm.takeN s ≤ _; omega
  · show Nm.takeN (Nm.takeR s) ≤ _; omega
  · show Nm.takeN (Nm.takeR (Nm.takeR s)) ≤ _; omega
theorem lvdec_any (s : List UInt8) (hl : s.length ≤ 16777216) (w : World) : Calls Tryz.prog 26 #[.string (bs s)] w (DcRet s w) := by
  obtain ⟨Q, hQ⟩ : ∃ Q, Q = DcRet s w := ⟨_, rfl⟩
  rw [← hQ]
  have HQ := Lib.hid hQ
  clear hQ
  have HRD := Lib.hid (fun p W (h : LRd W p s) => lvrdedit_any hl W h)
  have HER := Lib.hid (fun (W : World) (B : Nat) (gv : Value) (f : Nat → Value) (hg : W.ownsRow B 32 1 gv (rdE s).gone.length (nsc (rdE s).gone)) (hF : Four B W f (rdE s).new 4) => ed_read hl hg hF)
  obtain ⟨w1, hw1⟩ : ∃ w1, w1 = (w.alloc (.cells #[.slice none 0 0, .slice none 0 0, .slice none 0 0, .slice none 0 0, .slice none 0 0, .int .u64 0, .int .u64 0, .int .u64 0] 34)).alloc (.cells #[.string (bs s)] 112) := ⟨_, rfl⟩
  have K1 := Lib.hid (show Kept w w1 by rw [hw1]; exact ((Kept.refl _).alloc _).alloc _)
  have B1 := Lib.hid (show w1.heap[w.heap.size]? = some (.cells #[.slice none 0 0, .slice none 0 0, .slice none 0 0, .slice none 0 0, .slice none 0 0, .int .u64 0, .int .u64 0, .int .u64 0] 34 (0, 0)) by rw [hw1]; exact (malloc_old _ _ (by simp)).trans (malloc_new w _))
  have R1 := Lib.hid (show LRd w1 (w.heap.size + 1) s by
    rw [hw1, show w.heap.size + 1 = (w.alloc (.cells #[.slice none 0 0, .slice none 0 0, .slice none 0 0, .slice none 0 0, .slice none 0 0, .int .u64 0, .int .u64 0, .int .u64 0] 34)).heap.size from by simp]; exact malloc_new _ _)
  go_enter Tryz.func26, Tryz.ntmps26
  go_upto_region 2 with fail
  rw [← hw1]
  clear hw1
  go_wp2_with fail
  refine (HRD.out _ _ R1.out).mono ?_
  rintro e w2 ⟨gv, f, rfl, hg, hF, g2⟩
  obtain ⟨d, hd, hin, hal⟩ := HER.out w2 _ gv f hg hF
  rw [hd]
  have hk2 : Kept w w2 := ⟨g2.os.trans K1.out.os, g2.tape.trans K1.out.tape, g2.output.trans K1.out.output, Nat.le_trans K1.out.size g2.size, fun k hk => (g2.block k (Nat.lt_of_lt_of_le hk K1.out.size) (by omega)).trans (K1.out.block k hk)⟩
  have K2 := Lib.hid hk2
  have B2 := Lib.hid (g2.at B1.out (by omega))
  have HIN := Lib.hid (fun W (hW : Kept w2 W) => hin.kept hW)
  have HEN := Lib.hid (fun W (hW : Kept w2 W) => lvenc_any (hin.kept hW))
  have HAL := Lib.hid hal
  obtain ⟨A, c, hA⟩ : ∃ A c, A = d.A ∧ c = d.c := ⟨_, _, rfl, rfl⟩
  obtain ⟨u0, m0, r0, e0⟩ : ∃ a n c, (d.T 0).v = .slice a n c := ⟨_, _, _, rfl⟩
  obtain ⟨u1, m1, r1, e1⟩ : ∃ a n c, (d.T 1).v = .slice a n c := ⟨_, _, _, rfl⟩
  obtain ⟨u2, m2, r2, e2⟩ : ∃ a n c, (d.T 2).v = .slice a n c := ⟨_, _, _, rfl⟩
  obtain ⟨u3, m3, r3', e3⟩ : ∃ a n c, (d.T 3).v = .slice a n c := ⟨_, _, _, rfl⟩
  have hv : d.v = .agg #[.slice A d.gone.length c, .slice u0 m0 r0, .slice u1 m1 r1, .slice u2 m2 r2, .slice u3 m3 r3', .int .u64 (d.nx : Nat), .int .u64 (d.lg : Nat), .int .u64 (d.sq : Nat)] := by
    unfold Ed.v edv; dsimp only; rw [e0, e1, e2, e3, hA.1, hA.2]
  have HVD := Lib.hid hv
  rw [hv] at HEN ⊢
  have hE : encS d.edt = encS (rdE s) ∧ encC d.edt = encC (rdE s) := by unfold encS encC; rw [hal.isE, hal.enc]; exact ⟨rfl, rfl⟩
  rw [hE.1, hE.2] at HEN
  have HG0 := Lib.hid hg; have HF0 := Lib.hid hF; have HD0 := Lib.hid (hd.trans hv)
  have HLT1 := Lib.hid (mheap_lt B1.out)
  clear hd hin hal hg hF g2 hA e0 e1 e2 e3 hv hE HRD B1 R1 K1 hk2
  generalize d.gone.length = gl at *
  generalize d.nx = dn at *
  generalize d.lg = dl at *
  generalize d.sq = dq at *
  go_wp2_with fail
  have HBX := Lib.hid (malloc_new w2 (.cells #[.slice A gl c, .slice u0 m0 r0, .slice u1 m1 r1, .slice u2 m2 r2, .slice u3 m3 r3', .int .u64 (dn : Nat), .int .u64 (dl : Nat), .int .u64 (dq : Nat)] 34))
  refine (HEN.out _ ((Kept.refl w2).alloc _)).mono ?_
  rintro e w3 ⟨rfl, g3⟩
  have K23 := Lib.hid (kept_trans ((Kept.refl w2).alloc _) g3)
  have K3 := Lib.hid (kept_trans K2.out K23.out)
  have BX3 := Lib.hid (hp_kept HBX.out g3)
  have BR3 := Lib.hid (hp_kept B2.out K23.out)
  have HQQ := Lib.hid (show isB s = (isE (rdE s) && decide (enc (rdE s) = s)) from rfl)
  obtain ⟨y0, y1, y2, y3, y4, y5, y6, y7⟩ := eight_cells BR3.out
  obtain ⟨z0, z1, z2, z3, z4, z5, z6, z7⟩ := eight_cells BX3.out
  have s0 := mfrozen BR3.out 0; have s1 := mfrozen BR3.out 1; have s2 := mfrozen BR3.out 2; have s3 := mfrozen BR3.out 3
  have s4 := mfrozen BR3.out 4; have s5 := mfrozen BR3.out 5; have s6 := mfrozen BR3.out 6; have s7 := mfrozen BR3.out 7
  clear g3 HEN HBX
  unfold encS encC
  cases hB : isE (rdE s) with
  | false =>
    rw [hB] at HQQ
    rw [if_neg (by simp), if_neg (by simp)]
    go_wp2_with fail
    obtain ⟨x0, x1, x2, x3, x4, x5, x6, x7⟩ := eight_cells (x0 := (.slice none 0 0)) (x1 := (.slice none 0 0)) (x2 := (.slice none 0 0)) (x3 := (.slice none 0 0)) (x4 := (.slice none 0 0)) (x5 := (.int .u64 0)) (x6 := (.int .u64 0)) (x7 := (.int .u64 0)) (lvset (lvset (lvset (lvset (lvset (lvset (lvset (lvset BR3.out 0 (.slice none 0 0)) 1 (.slice none 0 0)) 2 (.slice none 0 0)) 3 (.slice none 0 0)) 4 (.slice none 0 0)) 5 (.int .u64 0)) 6 (.int .u64 0)) 7 (.int .u64 0))
    refine bodyPost_ret (v := .tuple #[.agg #[(.slice none 0 0), (.slice none 0 0), (.slice none 0 0), (.slice none 0 0), (.slice none 0 0), (.int .u64 0), (.int .u64 0), (.int .u64 0)], .int .i64 2]) (by simp [results, Tryz.results26, go_sem, x0, x1, x2, x3, x4, x5, x6, x7]) rfl ?_
    rw [HQ.out]
    exact ⟨(fun h => by rw [HQQ.out] at h; cases h), fun _ => rfl, (Below.setCell (Below.setCell (Below.setCell (Below.setCell (Below.setCell (Below.setCell (Below.setCell (Below.setCell K3.out (p := ⟨w.heap.size, 0, none⟩) (Nat.le_refl _) (.slice none 0 0)) (p := ⟨w.heap.size, 1, none⟩) (Nat.le_refl _) (.slice none 0 0)) (p := ⟨w.heap.size, 2, none⟩) (Nat.le_refl _) (.slice none 0 0)) (p := ⟨w.heap.size, 3, none⟩) (Nat.le_refl _) (.slice none 0 0)) (p := ⟨w.heap.size, 4, none⟩) (Nat.le_refl _) (.slice none 0 0)) (p := ⟨w.heap.size, 5, none⟩) (Nat.le_refl _) (.int .u64 0)) (p := ⟨w.heap.size, 6, none⟩) (Nat.le_refl _) (.int .u64 0)) (p := ⟨w.heap.size, 7, none⟩) (Nat.le_refl _) (.int .u64 0))⟩
  | true =>
    rw [hB] at HQQ
    rw [if_pos rfl, if_pos rfl]
    have HX := Lib.hid (lvbs_list (enc (rdE s)))
    generalize enc (rdE s) = X at *
    by_cases he : X = s
    · subst he
      go_wp2_with fail
      have hlt1 : w.heap.size < w1.heap.size := HLT1.out
      obtain ⟨d', hd', hi', ha'⟩ := HER.out _ _ gv f (own_set' (own_set' (own_set' (own_set' (own_set' (own_set' (own_set' (own_set' (own_kp K23.out HG0.out) (own_ne_old HG0.out hlt1) 0 (.slice A gl c)) (own_ne_old HG0.out hlt1) 1 (.slice u0 m0 r0)) (own_ne_old HG0.out hlt1) 2 (.slice u1 m1 r1)) (own_ne_old HG0.out hlt1) 3 (.slice u2 m2 r2)) (own_ne_old HG0.out hlt1) 4 (.slice u3 m3 r3')) (own_ne_old HG0.out hlt1) 5 (.int .u64 (dn : Nat))) (own_ne_old HG0.out hlt1) 6 (.int .u64 (dl : Nat))) (own_ne_old HG0.out hlt1) 7 (.int .u64 (dq : Nat))) (Four.set (Four.set (Four.set (Four.set (Four.set (Four.set (Four.set (Four.set (HF0.out.kept K23.out) hlt1 0 (.slice A gl c)) hlt1 1 (.slice u0 m0 r0)) hlt1 2 (.slice u1 m1 r1)) hlt1 3 (.slice u2 m2 r2)) hlt1 4 (.slice u3 m3 r3')) hlt1 5 (.int .u64 (dn : Nat))) hlt1 6 (.int .u64 (dl : Nat))) hlt1 7 (.int .u64 (dq : Nat)))
      obtain ⟨x0, x1, x2, x3, x4, x5, x6, x7⟩ := eight_cells (x0 := (.slice A gl c)) (x1 := (.slice u0 m0 r0)) (x2 := (.slice u1 m1 r1)) (x3 := (.slice u2 m2 r2)) (x4 := (.slice u3 m3 r3')) (x5 := (.int .u64 (dn : Nat))) (x6 := (.int .u64 (dl : Nat))) (x7 := (.int .u64 (dq : Nat))) (lvset (lvset (lvset (lvset (lvset (lvset (lvset (lvset BR3.out 0 (.slice A gl c)) 1 (.slice u0 m0 r0)) 2 (.slice u1 m1 r1)) 3 (.slice u2 m2 r2)) 4 (.slice u3 m3 r3')) 5 (.int .u64 (dn : Nat))) 6 (.int .u64 (dl : Nat))) 7 (.int .u64 (dq : Nat)))
      refine bodyPost_ret (v := .tuple #[.agg #[(.slice A gl c), (.slice u0 m0 r0), (.slice u1 m1 r1), (.slice u2 m2 r2), (.slice u3 m3 r3'), (.int .u64 (dn : Nat)), (.int .u64 (dl : Nat)), (.int .u64 (dq : Nat))], .int .i64 0]) (by simp [results, Tryz.results26, go_sem, x0, x1, x2, x3, x4, x5, x6, x7]) rfl ?_
      rw [HQ.out]
      exact ⟨fun _ => ⟨d', by rw [← hd', HD0.out], hi', ha'⟩, fun h => by rw [HQQ.out] at h; simp at h, (Below.setCell (Below.setCell (Below.setCell (Below.setCell (Below.setCell (Below.setCell (Below.setCell (Below.setCell K3.out (p := ⟨w.heap.size, 0, none⟩) (Nat.le_refl _) (.slice A gl c)) (p := ⟨w.heap.size, 1, none⟩) (Nat.le_refl _) (.slice u0 m0 r0)) (p := ⟨w.heap.size, 2, none⟩) (Nat.le_refl _) (.slice u1 m1 r1)) (p := ⟨w.heap.size, 3, none⟩) (Nat.le_refl _) (.slice u2 m2 r2)) (p := ⟨w.heap.size, 4, none⟩) (Nat.le_refl _) (.slice u3 m3 r3')) (p := ⟨w.heap.size, 5, none⟩) (Nat.le_refl _) (.int .u64 (dn : Nat))) (p := ⟨w.heap.size, 6, none⟩) (Nat.le_refl _) (.int .u64 (dl : Nat))) (p := ⟨w.heap.size, 7, none⟩) (Nat.le_refl _) (.int .u64 (dq : Nat)))⟩
    · have h1 : ((bs X).toList == (bs s).toList) = false := by rw [lvbs_list, lvbs_list]; simpa using he
      go_wp2_with fail
      obtain ⟨x0, x1, x2, x3, x4, x5, x6, x7⟩ := eight_cells (x0 := (.slice none 0 0)) (x1 := (.slice none 0 0)) (x2 := (.slice none 0 0)) (x3 := (.slice none 0 0)) (x4 := (.slice none 0 0)) (x5 := (.int .u64 0)) (x6 := (.int .u64 0)) (x7 := (.int .u64 0)) (lvset (lvset (lvset (lvset (lvset (lvset (lvset (lvset BR3.out 0 (.slice none 0 0)) 1 (.slice none 0 0)) 2 (.slice none 0 0)) 3 (.slice none 0 0)) 4 (.slice none 0 0)) 5 (.int .u64 0)) 6 (.int .u64 0)) 7 (.int .u64 0))
      refine bodyPost_ret (v := .tuple #[.agg #[(.slice none 0 0), (.slice none 0 0), (.slice none 0 0), (.slice none 0 0), (.slice none 0 0), (.int .u64 0), (.int .u64 0), (.int .u64 0)], .int .i64 2]) (by simp [results, Tryz.results26, go_sem, x0, x1, x2, x3, x4, x5, x6, x7]) rfl ?_
      rw [HQ.out]
      exact ⟨fun h => by rw [HQQ.out] at h; simp at h; exact absurd h he, fun _ => rfl, (Below.setCell (Below.setCell (Below.setCell (Below.setCell (Below.setCell (Below.setCell (Below.setCell (Below.setCell K3.out (p := ⟨w.heap.size, 0, none⟩) (Nat.le_refl _) (.slice none 0 0)) (p := ⟨w.heap.size, 1, none⟩) (Nat.le_refl _) (.slice none 0 0)) (p := ⟨w.heap.size, 2, none⟩) (Nat.le_refl _) (.slice none 0 0)) (p := ⟨w.heap.size, 3, none⟩) (Nat.le_refl _) (.slice none 0 0)) (p := ⟨w.heap.size, 4, none⟩) (Nat.le_refl _) (.slice none 0 0)) (p := ⟨w.heap.size, 5, none⟩) (Nat.le_refl _) (.int .u64 0)) (p := ⟨w.heap.size, 6, none⟩) (Nat.le_refl _) (.int .u64 0)) (p := ⟨w.heap.size, 7, none⟩) (Nat.le_refl _) (.int .u64 0))⟩
end Go.Proofs.YtnnmalpnjlnnlaaGreat

