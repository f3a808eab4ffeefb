/-
  The document's own locks, writes and leases as bytes.
-/
import Derived.Test.YtdmnmbomijnjeaaColOwn
import Derived.Test.YtdmnmbomijnjeaaKeyRef
namespace Go.Proofs.Ytdmnmbomijnjeaa
open Go.ChangeShapes Go.WideShapes Go.ChangeAt Go.RowKit
set_option linter.unusedVariables false
set_option maxRecDepth 100000
set_option maxHeartbeats 8000000
open Co
theorem clrtime_any (n : Int) (h : 0 ≤ n) (w : World) :
    Calls Try.prog 29 #[.int .u64 n] w fun e w' => e = .returned (.bool (cnt n.toNat)) ∧ w = w' := by
  have HM := Lib.hid (show cnt n.toNat = decide (1 ≤ n ∧ n ≤ 1099511627776) from by unfold cnt; rw [decide_eq_decide]; omega)
  by_cases h1 : 1 ≤ n
  · by_cases h2 : n ≤ 1099511627776
    · go_enter Try.func29, Try.ntmps29
      go_wp2
      go_ret
      exact ⟨ret_bool (by rw [HM.out, Bool.eq_iff_iff]; simp <;> omega), rfl⟩
    · go_enter Try.func29, Try.ntmps29
      go_wp2
      go_ret
      exact ⟨ret_bool (by rw [HM.out, Bool.eq_iff_iff]; simp <;> omega), rfl⟩
  · go_enter Try.func29, Try.ntmps29
    go_wp2
    go_ret
    exact ⟨ret_bool (by rw [HM.out, Bool.eq_iff_iff]; simp <;> omega), rfl⟩
theorem alloc_kx {w0 : World} {b : Nat} {c : Array Value} {t : TypeId} {W : World} (h : KX w0 b c t W) (o : Obj) : ∃ wd b1, wd = W.alloc o ∧ b1 = W.heap.size ∧ KX w0 b c t wd ∧ wd.heap[b1]? = some o :=
  ⟨_, _, rfl, rfl, h.kept ((Kept.refl _).alloc _), clnew _ _⟩
theorem conv_u8 {w : World} {b : Nat} {c : UInt8} {x : Int} (hx : x = (c.toNat : Int)) (h : w.heap[b]? = some (.cells #[.int .u8 x] 5 (0, 0))) :
    (convert 57 9 (.slice (some ⟨b, 0, none⟩) 1 1)).run Try.prog w = .ok (.string (bs [c])) w := by
  subst hx
  exact conv_cells [c] rfl (fun j hj => by
    have : j = 0 := by simpa using hj
    subst this
    exact clcell h 0 rfl)
theorem u8_of_k {k : Int} (h : k = 1 ∨ k = 2 ∨ k = 3) : IntKind.u8.wrap k = k ∧ k = ((k.toNat.toUInt8).toNat : Int) := by
  rcases h with rfl | rfl | rfl <;> exact ⟨rfl, rfl⟩
theorem clrlock_any (l : Lk) (hp : l.p.length ≤ maxLen) (ha : l.a ≤ 18446744073709551615) (w : World) :
    Calls Try.prog 12 #[lkv l] w fun e w' => e = .returned (.tuple #[.string (bs (encKS l)), .int .i64 (encKC l)]) ∧ Kept w w' := by
  have HF0 := Lib.hid (show isK l = false → bs (encKS l) = ⟨#[]⟩ ∧ encKC l = 2 from fun h => by unfold encKS encKC; rw [h]; exact ⟨rfl, rfl⟩)
  have HTr := Lib.hid (show isK l = true → encKS l = encK l ∧ encKC l = 0 from fun h => by unfold encKS encKC; rw [h]; exact ⟨rfl, rfl⟩)
  have HIK := Lib.hid (@isK_iff l)
  have HE := Lib.hid (show encK l = l.k.toNat.toUInt8 :: (Nm.short l.s ++ (Nm.short l.a ++ l.p)) from rfl)
  unfold lkv
  obtain ⟨p, s, k, a⟩ := l
  dsimp only at *
  have h1 := rkmay_any (bs p) (by rw [clbs_size]; exact hp)
  rw [bs_data] at h1
  have h2 := clrtime_any (s : Int) (by omega)
  rw [Int.toNat_natCast] at h2
  have HBI := Lib.hid (show isK ⟨p, s, k, a⟩ = (Ky.may p && (cnt s && (lays k && decide (a ≤ 1099511627776)))) from rfl)
  generalize encKS ⟨p, s, k, a⟩ = rSt at *
  generalize encKC ⟨p, s, k, a⟩ = rCo at *
  generalize encK ⟨p, s, k, a⟩ = rEn at *
  generalize isK ⟨p, s, k, a⟩ = B at *
  generalize Ky.may p = B1 at *
  generalize cnt s = B2 at *
  have H1 := Lib.hid h1; have H2 := Lib.hid h2
  clear h1 h2
  cases B1 with
  | false =>
    have HF := Lib.hid (HF0.out (by rw [HBI.out]; rfl))
    clear HF0 HTr HIK HE HBI
    rw [HF.out.1, HF.out.2]
    clear HF
    go_enter Try.func12, Try.ntmps12
    go_wp2_with fail
    refine (H1.out _).mono ?_
    rintro e w1 ⟨rfl, rfl⟩
    go_wp2_with fail
    go_ret2
    exact ⟨rfl, (Kept.refl _).alloc _⟩
  | true =>
  cases B2 with
  | false =>
    have HF := Lib.hid (HF0.out (by rw [HBI.out]; rfl))
    clear HF0 HTr HIK HE HBI
    rw [HF.out.1, HF.out.2]
    clear HF
    go_enter Try.func12, Try.ntmps12
    go_wp2_with fail
    refine (H1.out _).mono ?_
    rintro e w1 ⟨rfl, rfl⟩
    go_wp2_with fail
    refine (H2.out _).mono ?_
    rintro e w1 ⟨rfl, rfl⟩
    go_wp2_with fail
    go_ret2
    exact ⟨rfl, (Kept.refl _).alloc _⟩
  | true =>
  by_cases hk1 : k < 1
  · have d1 : decide (k < 1) = true := decide_eq_true hk1
    have hly : lays k = false := by unfold lays; exact decide_eq_false (by omega)
    have HF := Lib.hid (HF0.out (by rw [HBI.out]; rw [hly]; rfl))
    clear HF0 HTr HIK HE HBI
    rw [HF.out.1, HF.out.2]
    clear HF
    go_enter Try.func12, Try.ntmps12
    go_wp2_with fail
    refine (H1.out _).mono ?_
    rintro e w1 ⟨rfl, rfl⟩
    go_wp2_with fail
    refine (H2.out _).mono ?_
    rintro e w1 ⟨rfl, rfl⟩
    go_wp2_with fail
    go_ret2
    exact ⟨rfl, (Kept.refl _).alloc _⟩
  by_cases hk2 : 2 < k
  · have d1 : decide (k < 1) = false := decide_eq_false hk1
    have d2 : decide (2 < k) = true := decide_eq_true hk2
    have hly : lays k = false := by unfold lays; exact decide_eq_false (by omega)
    have HF := Lib.hid (HF0.out (by rw [HBI.out]; rw [hly]; rfl))
    clear HF0 HTr HIK HE HBI
    rw [HF.out.1, HF.out.2]
    clear HF
    go_enter Try.func12, Try.ntmps12
    go_wp2_with fail
    refine (H1.out _).mono ?_
    rintro e w1 ⟨rfl, rfl⟩
    go_wp2_with fail
    refine (H2.out _).mono ?_
    rintro e w1 ⟨rfl, rfl⟩
    go_wp2_with fail
    go_ret2
    exact ⟨rfl, (Kept.refl _).alloc _⟩
  have d1 : decide (k < 1) = false := decide_eq_false hk1
  have d2 : decide (2 < k) = false := decide_eq_false hk2
  by_cases ha2 : 1099511627776 < a
  · have d3 : decide ((1099511627776 : Int) < (a : Int)) = true := decide_eq_true (by omega)
    have hda : decide (a ≤ 1099511627776) = false := decide_eq_false (by omega)
    have HF := Lib.hid (HF0.out (by rw [HBI.out]; rw [hda]; cases lays k <;> rfl))
    clear HF0 HTr HIK HE HBI
    rw [HF.out.1, HF.out.2]
    clear HF
    go_enter Try.func12, Try.ntmps12
    go_wp2_with fail
    refine (H1.out _).mono ?_
    rintro e w1 ⟨rfl, rfl⟩
    go_wp2_with fail
    refine (H2.out _).mono ?_
    rintro e w1 ⟨rfl, rfl⟩
    go_wp2_with fail
    go_ret2
    exact ⟨rfl, (Kept.refl _).alloc _⟩
  have d3 : decide ((1099511627776 : Int) < (a : Int)) = false := decide_eq_false (by omega)
  have hB : B = true := by
    rw [HBI.out, show lays k = true from by unfold lays; exact decide_eq_true (by omega), show decide (a ≤ 1099511627776) = true from decide_eq_true (by omega)]; rfl
  obtain ⟨e1, e2⟩ := HTr.out hB
  obtain ⟨⟨q1, q2⟩, ⟨q3, q4⟩, q5, q6⟩ := HIK.out.1 hB
  rw [e1, e2]
  have hs1 := rshort_any (s : Int) (by omega) (by omega)
  have hs2 := rshort_any (a : Int) (by omega) (by omega)
  rw [Int.toNat_natCast] at hs1 hs2
  have HU := Lib.hid (u8_of_k (k := k) (by omega))
  have hw8 := HU.out.1
  have z1 : (bs [k.toNat.toUInt8]).size = 1 := by rw [clbs_size]; rfl
  have z2 : (bs (Nm.short s)).size ≤ 6 := by rw [clbs_size]; exact (sz_six q4).2
  have z3 : (bs (Nm.short a)).size ≤ 6 := by rw [clbs_size]; exact (sz_six q6).2
  have z4 : (bs p).size ≤ 24 := by rw [clbs_size]; exact q2
  have HRE := Lib.hid (show bs [k.toNat.toUInt8] ++ bs (Nm.short s) ++ bs (Nm.short a) ++ bs p = bs rEn from by
    rw [HE.out]; exact bs_of (by simp [bs, ByteArray.data_append]))
  obtain ⟨T1, hT1⟩ : ∃ T, T = bs [k.toNat.toUInt8] := ⟨_, rfl⟩
  have HT1 := Lib.hid hT1
  rw [← hT1] at z1 HRE
  generalize bs (Nm.short s) = T2 at *
  generalize bs (Nm.short a) = T3 at *
  generalize bs p = T4 at *
  have a1 : (T1 ++ T2).size ≤ 7 := by rw [ByteArray.size_append]; omega
  have a2 : (T1 ++ T2 ++ T3).size ≤ 13 := by rw [ByteArray.size_append]; omega
  have r1 : ∀ W, (Op.stringOp .add T1 T2).run Try.prog W = .ok (.string (T1 ++ T2)) W := fun W => run_string_add_sum W _ _ (by omega)
  have r2 : ∀ W, (Op.stringOp .add (T1 ++ T2) T3).run Try.prog W = .ok (.string (T1 ++ T2 ++ T3)) W := fun W => run_string_add_sum W _ _ (by omega)
  have r3 : ∀ W, (Op.stringOp .add (T1 ++ T2 ++ T3) T4).run Try.prog W = .ok (.string (T1 ++ T2 ++ T3 ++ T4)) W := fun W => run_string_add_sum W _ _ (by omega)
  have HS1 := Lib.hid hs1; have HS2 := Lib.hid hs2
  have I1 := Lib.hid (KX.new w #[.string T4, .int .u64 (s : Nat), .int .i64 k, .int .u64 (a : Nat)] 24).drew
  clear e1 e2 hs1 hs2 a1 a2 q1 q2 q3 q4 q5 q6 z1 z2 z3 z4 HF0 HTr HIK HE HBI hB hT1
  go_enter Try.func12, Try.ntmps12
  go_wp2_with fail
  refine (H1.out _).mono ?_
  rintro e w1 ⟨rfl, rfl⟩
  go_wp2_with fail
  refine (H2.out _).mono ?_
  rintro e w1 ⟨rfl, rfl⟩
  go_upto_region 3 with fail
  refine wp_region_held_drew (S := fun W => KX w w.heap.size #[.string T4, .int .u64 (s : Nat), .int .i64 k, .int .u64 (a : Nat)] 24 W) (by kernel_rfl) I1.out (fun hHeld => ?_)
  generalize (w.alloc (.cells #[.string T4, .int .u64 (s : Nat), .int .i64 k, .int .u64 (a : Nat)] 24)).drew = v1 at hHeld ⊢
  refine wpAnyH_take (i := 0) (v := (.pointer (some ⟨w.heap.size, 2, none⟩))) (List.getElem?_toArray.trans rfl) (by kernel_rfl) (by kernel_rfl) (by kernel_rfl) (fun _ _ _ h => h) (Or.inl ⟨by rfl, ?_⟩) (by assumption) ?_
  · intro W hSw
    first | rfl | (go_simp; done) | (go_simp; rfl)
  simp only [Act.put, List.setIfInBounds_toArray, List.set_cons_zero, List.set_cons_succ]
  refine wpAnyH_take (i := 1) (v := (.int .i64 k)) (List.getElem?_toArray.trans rfl) (by kernel_rfl) (by kernel_rfl) (by kernel_rfl) (fun _ _ _ h => h) (Or.inl ⟨by rfl, ?_⟩) (by assumption) ?_
  · intro W hSw
    obtain ⟨q0, q1, q2, q3⟩ := hSw.c4
    first | (go_simp; done) | (go_simp; rfl)
  simp only [Act.put, List.setIfInBounds_toArray, List.set_cons_zero, List.set_cons_succ]
  refine wpAnyH_take (i := 2) (v := (.int .u8 k)) (List.getElem?_toArray.trans rfl) (by kernel_rfl) (by kernel_rfl) (by kernel_rfl) (fun _ _ _ h => h) (Or.inl ⟨by rfl, ?_⟩) (by assumption) ?_
  · intro W hSw
    first | rfl | (go_simp; done) | (go_simp; rfl)
  simp only [Act.put, List.setIfInBounds_toArray, List.set_cons_zero, List.set_cons_succ]
  refine wpAnyH_take (i := 5) (v := (.pointer (some ⟨w.heap.size, 1, none⟩))) (List.getElem?_toArray.trans rfl) (by kernel_rfl) (by kernel_rfl) (by kernel_rfl) (fun _ _ _ h => h) (Or.inl ⟨by rfl, ?_⟩) (by assumption) ?_
  · intro W hSw
    first | rfl | (go_simp; done) | (go_simp; rfl)
  simp only [Act.put, List.setIfInBounds_toArray, List.set_cons_zero, List.set_cons_succ]
  refine wpAnyH_take (i := 6) (v := (.int .u64 (s : Nat))) (List.getElem?_toArray.trans rfl) (by kernel_rfl) (by kernel_rfl) (by kernel_rfl) (fun _ _ _ h => h) (Or.inl ⟨by rfl, ?_⟩) (by assumption) ?_
  · intro W hSw
    obtain ⟨q0, q1, q2, q3⟩ := hSw.c4
    first | (go_simp; done) | (go_simp; rfl)
  simp only [Act.put, List.setIfInBounds_toArray, List.set_cons_zero, List.set_cons_succ]
  refine wpAnyH_take (i := 9) (v := (.pointer (some ⟨w.heap.size, 3, none⟩))) (List.getElem?_toArray.trans rfl) (by kernel_rfl) (by kernel_rfl) (by kernel_rfl) (fun _ _ _ h => h) (Or.inl ⟨by rfl, ?_⟩) (by assumption) ?_
  · intro W hSw
    first | rfl | (go_simp; done) | (go_simp; rfl)
  simp only [Act.put, List.setIfInBounds_toArray, List.set_cons_zero, List.set_cons_succ]
  refine wpAnyH_take (i := 10) (v := (.int .u64 (a : Nat))) (List.getElem?_toArray.trans rfl) (by kernel_rfl) (by kernel_rfl) (by kernel_rfl) (fun _ _ _ h => h) (Or.inl ⟨by rfl, ?_⟩) (by assumption) ?_
  · intro W hSw
    obtain ⟨q0, q1, q2, q3⟩ := hSw.c4
    first | (go_simp; done) | (go_simp; rfl)
  simp only [Act.put, List.setIfInBounds_toArray, List.set_cons_zero, List.set_cons_succ]
  refine wpAnyH_take (i := 13) (v := (.pointer (some ⟨w.heap.size, 0, none⟩))) (List.getElem?_toArray.trans rfl) (by kernel_rfl) (by kernel_rfl) (by kernel_rfl) (fun _ _ _ h => h) (Or.inl ⟨by rfl, ?_⟩) (by assumption) ?_
  · intro W hSw
    first | rfl | (go_simp; done) | (go_simp; rfl)
  simp only [Act.put, List.setIfInBounds_toArray, List.set_cons_zero, List.set_cons_succ]
  refine wpAnyH_take (i := 14) (v := (.string T4)) (List.getElem?_toArray.trans rfl) (by kernel_rfl) (by kernel_rfl) (by kernel_rfl) (fun _ _ _ h => h) (Or.inl ⟨by rfl, ?_⟩) (by assumption) ?_
  · intro W hSw
    obtain ⟨q0, q1, q2, q3⟩ := hSw.c4
    first | (go_simp; done) | (go_simp; rfl)
  simp only [Act.put, List.setIfInBounds_toArray, List.set_cons_zero, List.set_cons_succ]
  refine wpAnyH_ready (rs := [3, 7]) (by kernel_rfl) (by simp) ?_
  refine (AllReadyH.cons (List.getElem?_toArray.trans rfl) (fun K hK => ?_) (AllReadyH.cons (List.getElem?_toArray.trans rfl) (fun K hK => ?_) AllReadyH.nil))
  · go_simp
    obtain ⟨wd, b3, hwd, hb3, HS, H3⟩ := alloc_kx hHeld (.cells #[.int .u8 k] 5)
    try simp only [World.heap_drew] at hb3
    rw [← hwd, ← hb3]
    clear hwd hb3
    go_wp2_with fail
    refine hK.out _ _ HS (fun hHeld => ?_)
    clear hK K
    refine wpAnyH_ready (rs := [4, 7]) (by kernel_rfl) (by simp) ?_
    refine (AllReadyH.cons (List.getElem?_toArray.trans rfl) (fun K hK => ?_) (AllReadyH.cons (List.getElem?_toArray.trans rfl) (fun K hK => ?_) AllReadyH.nil))
    · have hcv := conv_u8 HU.out.2 H3
      rw [← HT1.out] at hcv
      go_simp
      clear hcv
      refine hK.out _ _ hHeld (fun hHeld => ?_)
      clear hK K
      try dsimp only [Act.put]
      refine wpAnyH_ready (rs := [7]) (by kernel_rfl) (by simp) ?_
      refine (AllReadyH.cons (List.getElem?_toArray.trans rfl) (fun K hK => ?_) AllReadyH.nil)
      go_simp
      refine (HS1.out _).mono ?_
      rintro e wa ⟨rfl, ga⟩
      have HS := hHeld.kept ga
      have H3 := clhp H3 ga
      clear ga
      go_wp2_with fail
      refine hK.out _ _ HS (fun hHeld => ?_)
      clear hK K
      refine wpAnyH_take (i := 8) (v := (.string (T1 ++ T2))) (List.getElem?_toArray.trans rfl) (by kernel_rfl) (by kernel_rfl) (by kernel_rfl) (fun _ _ _ h => h) (Or.inl ⟨by rfl, ?_⟩) (by assumption) ?_
      · intro W hSw
        first | rfl | (go_simp; done) | (go_simp; rfl)
      simp only [Act.put, List.setIfInBounds_toArray, List.set_cons_zero, List.set_cons_succ]
      refine wpAnyH_ready (rs := [11]) (by kernel_rfl) (by simp) ?_
      refine (AllReadyH.cons (List.getElem?_toArray.trans rfl) (fun K hK => ?_) AllReadyH.nil)
      go_simp
      refine (HS2.out _).mono ?_
      rintro e wa ⟨rfl, ga⟩
      have HS := hHeld.kept ga
      have H3 := clhp H3 ga
      clear ga
      go_wp2_with fail
      refine hK.out _ _ HS (fun hHeld => ?_)
      clear hK K
      refine wpAnyH_take (i := 12) (v := (.string (T1 ++ T2 ++ T3))) (List.getElem?_toArray.trans rfl) (by kernel_rfl) (by kernel_rfl) (by kernel_rfl) (fun _ _ _ h => h) (Or.inl ⟨by rfl, ?_⟩) (by assumption) ?_
      · intro W hSw
        first | rfl | (go_simp; done) | (go_simp; rfl)
      simp only [Act.put, List.setIfInBounds_toArray, List.set_cons_zero, List.set_cons_succ]
      refine wpAnyH_take (i := 15) (v := (.string (T1 ++ T2 ++ T3 ++ T4))) (List.getElem?_toArray.trans rfl) (by kernel_rfl) (by kernel_rfl) (by kernel_rfl) (fun _ _ _ h => h) (Or.inl ⟨by rfl, ?_⟩) (by assumption) ?_
      · intro W hSw
        first | rfl | (go_simp; done) | (go_simp; rfl)
      simp only [Act.put, List.setIfInBounds_toArray, List.set_cons_zero, List.set_cons_succ]
      refine wpAnyH_take (i := 16) (v := (.string (T1 ++ T2 ++ T3 ++ T4))) (List.getElem?_toArray.trans rfl) (by kernel_rfl) (by kernel_rfl) (by kernel_rfl) (fun _ _ _ h => h) (Or.inl ⟨by rfl, ?_⟩) (by assumption) ?_
      · intro W hSw
        first | rfl | (go_simp; done) | (go_simp; rfl)
      simp only [Act.put, List.setIfInBounds_toArray, List.set_cons_zero, List.set_cons_succ]
      refine wpAnyH_take (i := 17) (v := (.int .i64 0)) (List.getElem?_toArray.trans rfl) (by kernel_rfl) (by kernel_rfl) (by kernel_rfl) (fun _ _ _ h => h) (Or.inl ⟨by rfl, ?_⟩) (by assumption) ?_
      · intro W hSw
        first | rfl | (go_simp; done) | (go_simp; rfl)
      simp only [Act.put, List.setIfInBounds_toArray, List.set_cons_zero, List.set_cons_succ]
      refine wpAnyH_done (by kernel_rfl) ?_ _
      have hk6 := hHeld.k
      go_wp2_with fail
      go_ret2
      exact ⟨by rw [HRE.out] <;> rfl, hk6⟩
    · go_simp
      refine (HS1.out _).mono ?_
      rintro e wa ⟨rfl, ga⟩
      have HS := hHeld.kept ga
      have H3 := clhp H3 ga
      clear ga
      go_wp2_with fail
      refine hK.out _ _ HS (fun hHeld => ?_)
      clear hK K
      refine wpAnyH_ready (rs := [4, 11]) (by kernel_rfl) (by simp) ?_
      refine (AllReadyH.cons (List.getElem?_toArray.trans rfl) (fun K hK => ?_) (AllReadyH.cons (List.getElem?_toArray.trans rfl) (fun K hK => ?_) AllReadyH.nil))
      · have hcv := conv_u8 HU.out.2 H3
        rw [← HT1.out] at hcv
        go_simp
        clear hcv
        refine hK.out _ _ hHeld (fun hHeld => ?_)
        clear hK K
        try dsimp only [Act.put]
        refine wpAnyH_take (i := 8) (v := (.string (T1 ++ T2))) (List.getElem?_toArray.trans rfl) (by kernel_rfl) (by kernel_rfl) (by kernel_rfl) (fun _ _ _ h => h) (Or.inl ⟨by rfl, ?_⟩) (by assumption) ?_
        · intro W hSw
          first | rfl | (go_simp; done) | (go_simp; rfl)
        simp only [Act.put, List.setIfInBounds_toArray, List.set_cons_zero, List.set_cons_succ]
        refine wpAnyH_ready (rs := [11]) (by kernel_rfl) (by simp) ?_
        refine (AllReadyH.cons (List.getElem?_toArray.trans rfl) (fun K hK => ?_) AllReadyH.nil)
        go_simp
        refine (HS2.out _).mono ?_
        rintro e wa ⟨rfl, ga⟩
        have HS := hHeld.kept ga
        have H3 := clhp H3 ga
        clear ga
        go_wp2_with fail
        refine hK.out _ _ HS (fun hHeld => ?_)
        clear hK K
        refine wpAnyH_take (i := 12) (v := (.string (T1 ++ T2 ++ T3))) (List.getElem?_toArray.trans rfl) (by kernel_rfl) (by kernel_rfl) (by kernel_rfl) (fun _ _ _ h => h) (Or.inl ⟨by rfl, ?_⟩) (by assumption) ?_
        · intro W hSw
          first | rfl | (go_simp; done) | (go_simp; rfl)
        simp only [Act.put, List.setIfInBounds_toArray, List.set_cons_zero, List.set_cons_succ]
        refine wpAnyH_take (i := 15) (v := (.string (T1 ++ T2 ++ T3 ++ T4))) (List.getElem?_toArray.trans rfl) (by kernel_rfl) (by kernel_rfl) (by kernel_rfl) (fun _ _ _ h => h) (Or.inl ⟨by rfl, ?_⟩) (by assumption) ?_
        · intro W hSw
          first | rfl | (go_simp; done) | (go_simp; rfl)
        simp only [Act.put, List.setIfInBounds_toArray, List.set_cons_zero, List.set_cons_succ]
        refine wpAnyH_take (i := 16) (v := (.string (T1 ++ T2 ++ T3 ++ T4))) (List.getElem?_toArray.trans rfl) (by kernel_rfl) (by kernel_rfl) (by kernel_rfl) (fun _ _ _ h => h) (Or.inl ⟨by rfl, ?_⟩) (by assumption) ?_
        · intro W hSw
          first | rfl | (go_simp; done) | (go_simp; rfl)
        simp only [Act.put, List.setIfInBounds_toArray, List.set_cons_zero, List.set_cons_succ]
        refine wpAnyH_take (i := 17) (v := (.int .i64 0)) (List.getElem?_toArray.trans rfl) (by kernel_rfl) (by kernel_rfl) (by kernel_rfl) (fun _ _ _ h => h) (Or.inl ⟨by rfl, ?_⟩) (by assumption) ?_
        · intro W hSw
          first | rfl | (go_simp; done) | (go_simp; rfl)
        simp only [Act.put, List.setIfInBounds_toArray, List.set_cons_zero, List.set_cons_succ]
        refine wpAnyH_done (by kernel_rfl) ?_ _
        have hk6 := hHeld.k
        go_wp2_with fail
        go_ret2
        exact ⟨by rw [HRE.out] <;> rfl, hk6⟩
      · go_simp
        refine (HS2.out _).mono ?_
        rintro e wa ⟨rfl, ga⟩
        have HS := hHeld.kept ga
        have H3 := clhp H3 ga
        clear ga
        go_wp2_with fail
        refine hK.out _ _ HS (fun hHeld => ?_)
        clear hK K
        refine wpAnyH_ready (rs := [4]) (by kernel_rfl) (by simp) ?_
        refine (AllReadyH.cons (List.getElem?_toArray.trans rfl) (fun K hK => ?_) AllReadyH.nil)
        have hcv := conv_u8 HU.out.2 H3
        rw [← HT1.out] at hcv
        go_simp
        clear hcv
        refine hK.out _ _ hHeld (fun hHeld => ?_)
        clear hK K
        try dsimp only [Act.put]
        refine wpAnyH_take (i := 8) (v := (.string (T1 ++ T2))) (List.getElem?_toArray.trans rfl) (by kernel_rfl) (by kernel_rfl) (by kernel_rfl) (fun _ _ _ h => h) (Or.inl ⟨by rfl, ?_⟩) (by assumption) ?_
        · intro W hSw
          first | rfl | (go_simp; done) | (go_simp; rfl)
        simp only [Act.put, List.setIfInBounds_toArray, List.set_cons_zero, List.set_cons_succ]
        refine wpAnyH_take (i := 12) (v := (.string (T1 ++ T2 ++ T3))) (List.getElem?_toArray.trans rfl) (by kernel_rfl) (by kernel_rfl) (by kernel_rfl) (fun _ _ _ h => h) (Or.inl ⟨by rfl, ?_⟩) (by assumption) ?_
        · intro W hSw
          first | rfl | (go_simp; done) | (go_simp; rfl)
        simp only [Act.put, List.setIfInBounds_toArray, List.set_cons_zero, List.set_cons_succ]
        refine wpAnyH_take (i := 15) (v := (.string (T1 ++ T2 ++ T3 ++ T4))) (List.getElem?_toArray.trans rfl) (by kernel_rfl) (by kernel_rfl) (by kernel_rfl) (fun _ _ _ h => h) (Or.inl ⟨by rfl, ?_⟩) (by assumption) ?_
        · intro W hSw
          first | rfl | (go_simp; done) | (go_simp; rfl)
        simp only [Act.put, List.setIfInBounds_toArray, List.set_cons_zero, List.set_cons_succ]
        refine wpAnyH_take (i := 16) (v := (.string (T1 ++ T2 ++ T3 ++ T4))) (List.getElem?_toArray.trans rfl) (by kernel_rfl) (by kernel_rfl) (by kernel_rfl) (fun _ _ _ h => h) (Or.inl ⟨by rfl, ?_⟩) (by assumption) ?_
        · intro W hSw
          first | rfl | (go_simp; done) | (go_simp; rfl)
        simp only [Act.put, List.setIfInBounds_toArray, List.set_cons_zero, List.set_cons_succ]
        refine wpAnyH_take (i := 17) (v := (.int .i64 0)) (List.getElem?_toArray.trans rfl) (by kernel_rfl) (by kernel_rfl) (by kernel_rfl) (fun _ _ _ h => h) (Or.inl ⟨by rfl, ?_⟩) (by assumption) ?_
        · intro W hSw
          first | rfl | (go_simp; done) | (go_simp; rfl)
        simp only [Act.put, List.setIfInBounds_toArray, List.set_cons_zero, List.set_cons_succ]
        refine wpAnyH_done (by kernel_rfl) ?_ _
        have hk6 := hHeld.k
        go_wp2_with fail
        go_ret2
        exact ⟨by rw [HRE.out] <;> rfl, hk6⟩
  · go_simp
    refine (HS1.out _).mono ?_
    rintro e wa ⟨rfl, ga⟩
    have HS := hHeld.kept ga
    clear ga
    go_wp2_with fail
    refine hK.out _ _ HS (fun hHeld => ?_)
    clear hK K
    refine wpAnyH_ready (rs := [3, 11]) (by kernel_rfl) (by simp) ?_
    refine (AllReadyH.cons (List.getElem?_toArray.trans rfl) (fun K hK => ?_) (AllReadyH.cons (List.getElem?_toArray.trans rfl) (fun K hK => ?_) AllReadyH.nil))
    · go_simp
      obtain ⟨wd, b3, hwd, hb3, HS, H3⟩ := alloc_kx hHeld (.cells #[.int .u8 k] 5)
      try simp only [World.heap_drew] at hb3
      rw [← hwd, ← hb3]
      clear hwd hb3
      go_wp2_with fail
      refine hK.out _ _ HS (fun hHeld => ?_)
      clear hK K
      refine wpAnyH_ready (rs := [4, 11]) (by kernel_rfl) (by simp) ?_
      refine (AllReadyH.cons (List.getElem?_toArray.trans rfl) (fun K hK => ?_) (AllReadyH.cons (List.getElem?_toArray.trans rfl) (fun K hK => ?_) AllReadyH.nil))
      · have hcv := conv_u8 HU.out.2 H3
        rw [← HT1.out] at hcv
        go_simp
        clear hcv
        refine hK.out _ _ hHeld (fun hHeld => ?_)
        clear hK K
        try dsimp only [Act.put]
        refine wpAnyH_take (i := 8) (v := (.string (T1 ++ T2))) (List.getElem?_toArray.trans rfl) (by kernel_rfl) (by kernel_rfl) (by kernel_rfl) (fun _ _ _ h => h) (Or.inl ⟨by rfl, ?_⟩) (by assumption) ?_
        · intro W hSw
          first | rfl | (go_simp; done) | (go_simp; rfl)
        simp only [Act.put, List.setIfInBounds_toArray, List.set_cons_zero, List.set_cons_succ]
        refine wpAnyH_ready (rs := [11]) (by kernel_rfl) (by simp) ?_
        refine (AllReadyH.cons (List.getElem?_toArray.trans rfl) (fun K hK => ?_) AllReadyH.nil)
        go_simp
        refine (HS2.out _).mono ?_
        rintro e wa ⟨rfl, ga⟩
        have HS := hHeld.kept ga
        have H3 := clhp H3 ga
        clear ga
        go_wp2_with fail
        refine hK.out _ _ HS (fun hHeld => ?_)
        clear hK K
        refine wpAnyH_take (i := 12) (v := (.string (T1 ++ T2 ++ T3))) (List.getElem?_toArray.trans rfl) (by kernel_rfl) (by kernel_rfl) (by kernel_rfl) (fun _ _ _ h => h) (Or.inl ⟨by rfl, ?_⟩) (by assumption) ?_
        · intro W hSw
          first | rfl | (go_simp; done) | (go_simp; rfl)
        simp only [Act.put, List.setIfInBounds_toArray, List.set_cons_zero, List.set_cons_succ]
        refine wpAnyH_take (i := 15) (v := (.string (T1 ++ T2 ++ T3 ++ T4))) (List.getElem?_toArray.trans rfl) (by kernel_rfl) (by kernel_rfl) (by kernel_rfl) (fun _ _ _ h => h) (Or.inl ⟨by rfl, ?_⟩) (by assumption) ?_
        · intro W hSw
          first | rfl | (go_simp; done) | (go_simp; rfl)
        simp only [Act.put, List.setIfInBounds_toArray, List.set_cons_zero, List.set_cons_succ]
        refine wpAnyH_take (i := 16) (v := (.string (T1 ++ T2 ++ T3 ++ T4))) (List.getElem?_toArray.trans rfl) (by kernel_rfl) (by kernel_rfl) (by kernel_rfl) (fun _ _ _ h => h) (Or.inl ⟨by rfl, ?_⟩) (by assumption) ?_
        · intro W hSw
          first | rfl | (go_simp; done) | (go_simp; rfl)
        simp only [Act.put, List.setIfInBounds_toArray, List.set_cons_zero, List.set_cons_succ]
        refine wpAnyH_take (i := 17) (v := (.int .i64 0)) (List.getElem?_toArray.trans rfl) (by kernel_rfl) (by kernel_rfl) (by kernel_rfl) (fun _ _ _ h => h) (Or.inl ⟨by rfl, ?_⟩) (by assumption) ?_
        · intro W hSw
          first | rfl | (go_simp; done) | (go_simp; rfl)
        simp only [Act.put, List.setIfInBounds_toArray, List.set_cons_zero, List.set_cons_succ]
        refine wpAnyH_done (by kernel_rfl) ?_ _
        have hk6 := hHeld.k
        go_wp2_with fail
        go_ret2
        exact ⟨by rw [HRE.out] <;> rfl, hk6⟩
      · go_simp
        refine (HS2.out _).mono ?_
        rintro e wa ⟨rfl, ga⟩
        have HS := hHeld.kept ga
        have H3 := clhp H3 ga
        clear ga
        go_wp2_with fail
        refine hK.out _ _ HS (fun hHeld => ?_)
        clear hK K
        refine wpAnyH_ready (rs := [4]) (by kernel_rfl) (by simp) ?_
        refine (AllReadyH.cons (List.getElem?_toArray.trans rfl) (fun K hK => ?_) AllReadyH.nil)
        have hcv := conv_u8 HU.out.2 H3
        rw [← HT1.out] at hcv
        go_simp
        clear hcv
        refine hK.out _ _ hHeld (fun hHeld => ?_)
        clear hK K
        try dsimp only [Act.put]
        refine wpAnyH_take (i := 8) (v := (.string (T1 ++ T2))) (List.getElem?_toArray.trans rfl) (by kernel_rfl) (by kernel_rfl) (by kernel_rfl) (fun _ _ _ h => h) (Or.inl ⟨by rfl, ?_⟩) (by assumption) ?_
        · intro W hSw
          first | rfl | (go_simp; done) | (go_simp; rfl)
        simp only [Act.put, List.setIfInBounds_toArray, List.set_cons_zero, List.set_cons_succ]
        refine wpAnyH_take (i := 12) (v := (.string (T1 ++ T2 ++ T3))) (List.getElem?_toArray.trans rfl) (by kernel_rfl) (by kernel_rfl) (by kernel_rfl) (fun _ _ _ h => h) (Or.inl ⟨by rfl, ?_⟩) (by assumption) ?_
        · intro W hSw
          first | rfl | (go_simp; done) | (go_simp; rfl)
        simp only [Act.put, List.setIfInBounds_toArray, List.set_cons_zero, List.set_cons_succ]
        refine wpAnyH_take (i := 15) (v := (.string (T1 ++ T2 ++ T3 ++ T4))) (List.getElem?_toArray.trans rfl) (by kernel_rfl) (by kernel_rfl) (by kernel_rfl) (fun _ _ _ h => h) (Or.inl ⟨by rfl, ?_⟩) (by assumption) ?_
        · intro W hSw
          first | rfl | (go_simp; done) | (go_simp; rfl)
        simp only [Act.put, List.setIfInBounds_toArray, List.set_cons_zero, List.set_cons_succ]
        refine wpAnyH_take (i := 16) (v := (.string (T1 ++ T2 ++ T3 ++ T4))) (List.getElem?_toArray.trans rfl) (by kernel_rfl) (by kernel_rfl) (by kernel_rfl) (fun _ _ _ h => h) (Or.inl ⟨by rfl, ?_⟩) (by assumption) ?_
        · intro W hSw
          first | rfl | (go_simp; done) | (go_simp; rfl)
        simp only [Act.put, List.setIfInBounds_toArray, List.set_cons_zero, List.set_cons_succ]
        refine wpAnyH_take (i := 17) (v := (.int .i64 0)) (List.getElem?_toArray.trans rfl) (by kernel_rfl) (by kernel_rfl) (by kernel_rfl) (fun _ _ _ h => h) (Or.inl ⟨by rfl, ?_⟩) (by assumption) ?_
        · intro W hSw
          first | rfl | (go_simp; done) | (go_simp; rfl)
        simp only [Act.put, List.setIfInBounds_toArray, List.set_cons_zero, List.set_cons_succ]
        refine wpAnyH_done (by kernel_rfl) ?_ _
        have hk6 := hHeld.k
        go_wp2_with fail
        go_ret2
        exact ⟨by rw [HRE.out] <;> rfl, hk6⟩
    · go_simp
      refine (HS2.out _).mono ?_
      rintro e wa ⟨rfl, ga⟩
      have HS := hHeld.kept ga
      clear ga
      go_wp2_with fail
      refine hK.out _ _ HS (fun hHeld => ?_)
      clear hK K
      refine wpAnyH_ready (rs := [3]) (by kernel_rfl) (by simp) ?_
      refine (AllReadyH.cons (List.getElem?_toArray.trans rfl) (fun K hK => ?_) AllReadyH.nil)
      go_simp
      obtain ⟨wd, b3, hwd, hb3, HS, H3⟩ := alloc_kx hHeld (.cells #[.int .u8 k] 5)
      try simp only [World.heap_drew] at hb3
      rw [← hwd, ← hb3]
      clear hwd hb3
      go_wp2_with fail
      refine hK.out _ _ HS (fun hHeld => ?_)
      clear hK K
      refine wpAnyH_ready (rs := [4]) (by kernel_rfl) (by simp) ?_
      refine (AllReadyH.cons (List.getElem?_toArray.trans rfl) (fun K hK => ?_) AllReadyH.nil)
      have hcv := conv_u8 HU.out.2 H3
      rw [← HT1.out] at hcv
      go_simp
      clear hcv
      refine hK.out _ _ hHeld (fun hHeld => ?_)
      clear hK K
      try dsimp only [Act.put]
      refine wpAnyH_take (i := 8) (v := (.string (T1 ++ T2))) (List.getElem?_toArray.trans rfl) (by kernel_rfl) (by kernel_rfl) (by kernel_rfl) (fun _ _ _ h => h) (Or.inl ⟨by rfl, ?_⟩) (by assumption) ?_
      · intro W hSw
        first | rfl | (go_simp; done) | (go_simp; rfl)
      simp only [Act.put, List.setIfInBounds_toArray, List.set_cons_zero, List.set_cons_succ]
      refine wpAnyH_take (i := 12) (v := (.string (T1 ++ T2 ++ T3))) (List.getElem?_toArray.trans rfl) (by kernel_rfl) (by kernel_rfl) (by kernel_rfl) (fun _ _ _ h => h) (Or.inl ⟨by rfl, ?_⟩) (by assumption) ?_
      · intro W hSw
        first | rfl | (go_simp; done) | (go_simp; rfl)
      simp only [Act.put, List.setIfInBounds_toArray, List.set_cons_zero, List.set_cons_succ]
      refine wpAnyH_take (i := 15) (v := (.string (T1 ++ T2 ++ T3 ++ T4))) (List.getElem?_toArray.trans rfl) (by kernel_rfl) (by kernel_rfl) (by kernel_rfl) (fun _ _ _ h => h) (Or.inl ⟨by rfl, ?_⟩) (by assumption) ?_
      · intro W hSw
        first | rfl | (go_simp; done) | (go_simp; rfl)
      simp only [Act.put, List.setIfInBounds_toArray, List.set_cons_zero, List.set_cons_succ]
      refine wpAnyH_take (i := 16) (v := (.string (T1 ++ T2 ++ T3 ++ T4))) (List.getElem?_toArray.trans rfl) (by kernel_rfl) (by kernel_rfl) (by kernel_rfl) (fun _ _ _ h => h) (Or.inl ⟨by rfl, ?_⟩) (by assumption) ?_
      · intro W hSw
        first | rfl | (go_simp; done) | (go_simp; rfl)
      simp only [Act.put, List.setIfInBounds_toArray, List.set_cons_zero, List.set_cons_succ]
      refine wpAnyH_take (i := 17) (v := (.int .i64 0)) (List.getElem?_toArray.trans rfl) (by kernel_rfl) (by kernel_rfl) (by kernel_rfl) (fun _ _ _ h => h) (Or.inl ⟨by rfl, ?_⟩) (by assumption) ?_
      · intro W hSw
        first | rfl | (go_simp; done) | (go_simp; rfl)
      simp only [Act.put, List.setIfInBounds_toArray, List.set_cons_zero, List.set_cons_succ]
      refine wpAnyH_done (by kernel_rfl) ?_ _
      have hk6 := hHeld.k
      go_wp2_with fail
      go_ret2
      exact ⟨by rw [HRE.out] <;> rfl, hk6⟩
theorem clrwrite_any (l : Wr) (w : World) :
    Calls Try.prog 14 #[wrv l] w fun e w' => e = .returned (.tuple #[.string (bs (encWS l)), .int .i64 (encWC l)]) ∧ Kept w w' := by
  have HF0 := Lib.hid (show isW l = false → bs (encWS l) = ⟨#[]⟩ ∧ encWC l = 2 from fun h => by unfold encWS encWC; rw [h]; exact ⟨rfl, rfl⟩)
  have HTr := Lib.hid (show isW l = true → encWS l = encW l ∧ encWC l = 0 from fun h => by unfold encWS encWC; rw [h]; exact ⟨rfl, rfl⟩)
  have HIK := Lib.hid (@isW_iff l)
  have HE := Lib.hid (show encW l = l.k.toNat.toUInt8 :: Nm.short l.s from rfl)
  unfold wrv
  obtain ⟨s, k⟩ := l
  dsimp only at *
  have h2 := clrtime_any (s : Int) (by omega)
  rw [Int.toNat_natCast] at h2
  have HBI := Lib.hid (show isW ⟨s, k⟩ = (cnt s && decide (k = 1 ∨ k = 2 ∨ k = 3)) from rfl)
  generalize encWS ⟨s, k⟩ = rSt at *
  generalize encWC ⟨s, k⟩ = rCo at *
  generalize encW ⟨s, k⟩ = rEn at *
  generalize isW ⟨s, k⟩ = B at *
  generalize cnt s = B2 at *
  have H2 := Lib.hid h2
  clear h2
  cases B2 with
  | false =>
    have HF := Lib.hid (HF0.out (by rw [HBI.out]; rfl))
    clear HF0 HTr HIK HE HBI
    rw [HF.out.1, HF.out.2]
    clear HF
    go_enter Try.func14, Try.ntmps14
    go_wp2_with fail
    refine (H2.out _).mono ?_
    rintro e w1 ⟨rfl, rfl⟩
    go_wp2_with fail
    go_ret2
    exact ⟨rfl, (Kept.refl _).alloc _⟩
  | true =>
  by_cases hk1 : k < 1
  · have d1 : decide (k < 1) = true := decide_eq_true hk1
    have hly : decide (k = 1 ∨ k = 2 ∨ k = 3) = false := decide_eq_false (by omega)
    have HF := Lib.hid (HF0.out (by rw [HBI.out]; rw [hly]; rfl))
    clear HF0 HTr HIK HE HBI
    rw [HF.out.1, HF.out.2]
    clear HF
    go_enter Try.func14, Try.ntmps14
    go_wp2_with fail
    refine (H2.out _).mono ?_
    rintro e w1 ⟨rfl, rfl⟩
    go_wp2_with fail
    go_ret2
    exact ⟨rfl, (Kept.refl _).alloc _⟩
  by_cases hk2 : 3 < k
  · have d1 : decide (k < 1) = false := decide_eq_false hk1
    have d2 : decide (3 < k) = true := decide_eq_true hk2
    have hly : decide (k = 1 ∨ k = 2 ∨ k = 3) = false := decide_eq_false (by omega)
    have HF := Lib.hid (HF0.out (by rw [HBI.out]; rw [hly]; rfl))
    clear HF0 HTr HIK HE HBI
    rw [HF.out.1, HF.out.2]
    clear HF
    go_enter Try.func14, Try.ntmps14
    go_wp2_with fail
    refine (H2.out _).mono ?_
    rintro e w1 ⟨rfl, rfl⟩
    go_wp2_with fail
    go_ret2
    exact ⟨rfl, (Kept.refl _).alloc _⟩
  have d1 : decide (k < 1) = false := decide_eq_false hk1
  have d2 : decide (3 < k) = false := decide_eq_false hk2
  have hB : B = true := by
    rw [HBI.out, show decide (k = 1 ∨ k = 2 ∨ k = 3) = true from decide_eq_true (by omega)]; rfl
  obtain ⟨e1, e2⟩ := HTr.out hB
  obtain ⟨⟨q3, q4⟩, q5⟩ := HIK.out.1 hB
  rw [e1, e2]
  have hs1 := rshort_any (s : Int) (by omega) (by omega)
  rw [Int.toNat_natCast] at hs1
  have HU := Lib.hid (u8_of_k (k := k) (by omega))
  have hw8 := HU.out.1
  have z1 : (bs [k.toNat.toUInt8]).size = 1 := by rw [clbs_size]; rfl
  have z2 : (bs (Nm.short s)).size ≤ 6 := by rw [clbs_size]; exact (sz_six q4).2
  have HRE := Lib.hid (show bs [k.toNat.toUInt8] ++ bs (Nm.short s) = bs rEn from by
    rw [HE.out]; exact bs_of (by simp [bs, ByteArray.data_append]))
  obtain ⟨T1, hT1⟩ : ∃ T, T = bs [k.toNat.toUInt8] := ⟨_, rfl⟩
  have HT1 := Lib.hid hT1
  rw [← hT1] at z1 HRE
  generalize bs (Nm.short s) = T2 at *
  have r1 : ∀ W, (Op.stringOp .add T1 T2).run Try.prog W = .ok (.string (T1 ++ T2)) W := fun W => run_string_add_sum W _ _ (by omega)
  have HS1 := Lib.hid hs1
  have I1 := Lib.hid (KX.new w #[.int .u64 (s : Nat), .int .i64 k] 26).drew
  clear e1 e2 hs1 q3 q4 q5 z1 z2 HF0 HTr HIK HE HBI hB hT1
  go_enter Try.func14, Try.ntmps14
  go_wp2_with fail
  refine (H2.out _).mono ?_
  rintro e w1 ⟨rfl, rfl⟩
  go_upto_region 3 with fail
  refine wp_region_held_drew (S := fun W => KX w w.heap.size #[.int .u64 (s : Nat), .int .i64 k] 26 W) (by kernel_rfl) I1.out (fun hHeld => ?_)
  generalize (w.alloc (.cells #[.int .u64 (s : Nat), .int .i64 k] 26)).drew = v1 at hHeld ⊢
  refine wpAnyH_take (i := 0) (v := (.pointer (some ⟨w.heap.size, 1, none⟩))) (List.getElem?_toArray.trans rfl) (by kernel_rfl) (by kernel_rfl) (by kernel_rfl) (fun _ _ _ h => h) (Or.inl ⟨by rfl, ?_⟩) (by assumption) ?_
  · intro W hSw
    first | rfl | (go_simp; done) | (go_simp; rfl)
  simp only [Act.put, List.setIfInBounds_toArray, List.set_cons_zero, List.set_cons_succ]
  refine wpAnyH_take (i := 1) (v := (.int .i64 k)) (List.getElem?_toArray.trans rfl) (by kernel_rfl) (by kernel_rfl) (by kernel_rfl) (fun _ _ _ h => h) (Or.inl ⟨by rfl, ?_⟩) (by assumption) ?_
  · intro W hSw
    obtain ⟨q0, q1⟩ := hSw.c2
    first | (go_simp; done) | (go_simp; rfl)
  simp only [Act.put, List.setIfInBounds_toArray, List.set_cons_zero, List.set_cons_succ]
  refine wpAnyH_take (i := 2) (v := (.int .u8 k)) (List.getElem?_toArray.trans rfl) (by kernel_rfl) (by kernel_rfl) (by kernel_rfl) (fun _ _ _ h => h) (Or.inl ⟨by rfl, ?_⟩) (by assumption) ?_
  · intro W hSw
    first | rfl | (go_simp; done) | (go_simp; rfl)
  simp only [Act.put, List.setIfInBounds_toArray, List.set_cons_zero, List.set_cons_succ]
  refine wpAnyH_take (i := 5) (v := (.pointer (some ⟨w.heap.size, 0, none⟩))) (List.getElem?_toArray.trans rfl) (by kernel_rfl) (by kernel_rfl) (by kernel_rfl) (fun _ _ _ h => h) (Or.inl ⟨by rfl, ?_⟩) (by assumption) ?_
  · intro W hSw
    first | rfl | (go_simp; done) | (go_simp; rfl)
  simp only [Act.put, List.setIfInBounds_toArray, List.set_cons_zero, List.set_cons_succ]
  refine wpAnyH_take (i := 6) (v := (.int .u64 (s : Nat))) (List.getElem?_toArray.trans rfl) (by kernel_rfl) (by kernel_rfl) (by kernel_rfl) (fun _ _ _ h => h) (Or.inl ⟨by rfl, ?_⟩) (by assumption) ?_
  · intro W hSw
    obtain ⟨q0, q1⟩ := hSw.c2
    first | (go_simp; done) | (go_simp; rfl)
  simp only [Act.put, List.setIfInBounds_toArray, List.set_cons_zero, List.set_cons_succ]
  refine wpAnyH_ready (rs := [3, 7]) (by kernel_rfl) (by simp) ?_
  refine (AllReadyH.cons (List.getElem?_toArray.trans rfl) (fun K hK => ?_) (AllReadyH.cons (List.getElem?_toArray.trans rfl) (fun K hK => ?_) AllReadyH.nil))
  · go_simp
    obtain ⟨wd, b3, hwd, hb3, HS, H3⟩ := alloc_kx hHeld (.cells #[.int .u8 k] 5)
    try simp only [World.heap_drew] at hb3
    rw [← hwd, ← hb3]
    clear hwd hb3
    go_wp2_with fail
    refine hK.out _ _ HS (fun hHeld => ?_)
    clear hK K
    refine wpAnyH_ready (rs := [4, 7]) (by kernel_rfl) (by simp) ?_
    refine (AllReadyH.cons (List.getElem?_toArray.trans rfl) (fun K hK => ?_) (AllReadyH.cons (List.getElem?_toArray.trans rfl) (fun K hK => ?_) AllReadyH.nil))
    · have hcv := conv_u8 HU.out.2 H3
      rw [← HT1.out] at hcv
      go_simp
      clear hcv
      refine hK.out _ _ hHeld (fun hHeld => ?_)
      clear hK K
      try dsimp only [Act.put]
      refine wpAnyH_ready (rs := [7]) (by kernel_rfl) (by simp) ?_
      refine (AllReadyH.cons (List.getElem?_toArray.trans rfl) (fun K hK => ?_) AllReadyH.nil)
      go_simp
      refine (HS1.out _).mono ?_
      rintro e wa ⟨rfl, ga⟩
      have HS := hHeld.kept ga
      have H3 := clhp H3 ga
      clear ga
      go_wp2_with fail
      refine hK.out _ _ HS (fun hHeld => ?_)
      clear hK K
      refine wpAnyH_take (i := 8) (v := (.string (T1 ++ T2))) (List.getElem?_toArray.trans rfl) (by kernel_rfl) (by kernel_rfl) (by kernel_rfl) (fun _ _ _ h => h) (Or.inl ⟨by rfl, ?_⟩) (by assumption) ?_
      · intro W hSw
        first | rfl | (go_simp; done) | (go_simp; rfl)
      simp only [Act.put, List.setIfInBounds_toArray, List.set_cons_zero, List.set_cons_succ]
      refine wpAnyH_take (i := 9) (v := (.string (T1 ++ T2))) (List.getElem?_toArray.trans rfl) (by kernel_rfl) (by kernel_rfl) (by kernel_rfl) (fun _ _ _ h => h) (Or.inl ⟨by rfl, ?_⟩) (by assumption) ?_
      · intro W hSw
        first | rfl | (go_simp; done) | (go_simp; rfl)
      simp only [Act.put, List.setIfInBounds_toArray, List.set_cons_zero, List.set_cons_succ]
      refine wpAnyH_take (i := 10) (v := (.int .i64 0)) (List.getElem?_toArray.trans rfl) (by kernel_rfl) (by kernel_rfl) (by kernel_rfl) (fun _ _ _ h => h) (Or.inl ⟨by rfl, ?_⟩) (by assumption) ?_
      · intro W hSw
        first | rfl | (go_simp; done) | (go_simp; rfl)
      simp only [Act.put, List.setIfInBounds_toArray, List.set_cons_zero, List.set_cons_succ]
      refine wpAnyH_done (by kernel_rfl) ?_ _
      have hk6 := hHeld.k
      go_wp2_with fail
      go_ret2
      exact ⟨by rw [HRE.out] <;> rfl, hk6⟩
    · go_simp
      refine (HS1.out _).mono ?_
      rintro e wa ⟨rfl, ga⟩
      have HS := hHeld.kept ga
      have H3 := clhp H3 ga
      clear ga
      go_wp2_with fail
      refine hK.out _ _ HS (fun hHeld => ?_)
      clear hK K
      refine wpAnyH_ready (rs := [4]) (by kernel_rfl) (by simp) ?_
      refine (AllReadyH.cons (List.getElem?_toArray.trans rfl) (fun K hK => ?_) AllReadyH.nil)
      have hcv := conv_u8 HU.out.2 H3
      rw [← HT1.out] at hcv
      go_simp
      clear hcv
      refine hK.out _ _ hHeld (fun hHeld => ?_)
      clear hK K
      try dsimp only [Act.put]
      refine wpAnyH_take (i := 8) (v := (.string (T1 ++ T2))) (List.getElem?_toArray.trans rfl) (by kernel_rfl) (by kernel_rfl) (by kernel_rfl) (fun _ _ _ h => h) (Or.inl ⟨by rfl, ?_⟩) (by assumption) ?_
      · intro W hSw
        first | rfl | (go_simp; done) | (go_simp; rfl)
      simp only [Act.put, List.setIfInBounds_toArray, List.set_cons_zero, List.set_cons_succ]
      refine wpAnyH_take (i := 9) (v := (.string (T1 ++ T2))) (List.getElem?_toArray.trans rfl) (by kernel_rfl) (by kernel_rfl) (by kernel_rfl) (fun _ _ _ h => h) (Or.inl ⟨by rfl, ?_⟩) (by assumption) ?_
      · intro W hSw
        first | rfl | (go_simp; done) | (go_simp; rfl)
      simp only [Act.put, List.setIfInBounds_toArray, List.set_cons_zero, List.set_cons_succ]
      refine wpAnyH_take (i := 10) (v := (.int .i64 0)) (List.getElem?_toArray.trans rfl) (by kernel_rfl) (by kernel_rfl) (by kernel_rfl) (fun _ _ _ h => h) (Or.inl ⟨by rfl, ?_⟩) (by assumption) ?_
      · intro W hSw
        first | rfl | (go_simp; done) | (go_simp; rfl)
      simp only [Act.put, List.setIfInBounds_toArray, List.set_cons_zero, List.set_cons_succ]
      refine wpAnyH_done (by kernel_rfl) ?_ _
      have hk6 := hHeld.k
      go_wp2_with fail
      go_ret2
      exact ⟨by rw [HRE.out] <;> rfl, hk6⟩
  · go_simp
    refine (HS1.out _).mono ?_
    rintro e wa ⟨rfl, ga⟩
    have HS := hHeld.kept ga
    clear ga
    go_wp2_with fail
    refine hK.out _ _ HS (fun hHeld => ?_)
    clear hK K
    refine wpAnyH_ready (rs := [3]) (by kernel_rfl) (by simp) ?_
    refine (AllReadyH.cons (List.getElem?_toArray.trans rfl) (fun K hK => ?_) AllReadyH.nil)
    go_simp
    obtain ⟨wd, b3, hwd, hb3, HS, H3⟩ := alloc_kx hHeld (.cells #[.int .u8 k] 5)
    try simp only [World.heap_drew] at hb3
    rw [← hwd, ← hb3]
    clear hwd hb3
    go_wp2_with fail
    refine hK.out _ _ HS (fun hHeld => ?_)
    clear hK K
    refine wpAnyH_ready (rs := [4]) (by kernel_rfl) (by simp) ?_
    refine (AllReadyH.cons (List.getElem?_toArray.trans rfl) (fun K hK => ?_) AllReadyH.nil)
    have hcv := conv_u8 HU.out.2 H3
    rw [← HT1.out] at hcv
    go_simp
    clear hcv
    refine hK.out _ _ hHeld (fun hHeld => ?_)
    clear hK K
    try dsimp only [Act.put]
    refine wpAnyH_take (i := 8) (v := (.string (T1 ++ T2))) (List.getElem?_toArray.trans rfl) (by kernel_rfl) (by kernel_rfl) (by kernel_rfl) (fun _ _ _ h => h) (Or.inl ⟨by rfl, ?_⟩) (by assumption) ?_
    · intro W hSw
      first | rfl | (go_simp; done) | (go_simp; rfl)
    simp only [Act.put, List.setIfInBounds_toArray, List.set_cons_zero, List.set_cons_succ]
    refine wpAnyH_take (i := 9) (v := (.string (T1 ++ T2))) (List.getElem?_toArray.trans rfl) (by kernel_rfl) (by kernel_rfl) (by kernel_rfl) (fun _ _ _ h => h) (Or.inl ⟨by rfl, ?_⟩) (by assumption) ?_
    · intro W hSw
      first | rfl | (go_simp; done) | (go_simp; rfl)
    simp only [Act.put, List.setIfInBounds_toArray, List.set_cons_zero, List.set_cons_succ]
    refine wpAnyH_take (i := 10) (v := (.int .i64 0)) (List.getElem?_toArray.trans rfl) (by kernel_rfl) (by kernel_rfl) (by kernel_rfl) (fun _ _ _ h => h) (Or.inl ⟨by rfl, ?_⟩) (by assumption) ?_
    · intro W hSw
      first | rfl | (go_simp; done) | (go_simp; rfl)
    simp only [Act.put, List.setIfInBounds_toArray, List.set_cons_zero, List.set_cons_succ]
    refine wpAnyH_done (by kernel_rfl) ?_ _
    have hk6 := hHeld.k
    go_wp2_with fail
    go_ret2
    exact ⟨by rw [HRE.out] <;> rfl, hk6⟩
end Go.Proofs.Ytdmnmbomijnjeaa
