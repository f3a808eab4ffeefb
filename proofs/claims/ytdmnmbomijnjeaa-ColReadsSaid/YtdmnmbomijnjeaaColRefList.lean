/-
  The document's own leases as bytes.
-/
import Derived.Test.YtdmnmbomijnjeaaColRef
namespace Go.Proofs.Ytdmnmbomijnjeaa
open Go.ChangeShapes Go.WideShapes Go.ChangeAt Go.RowKit
set_option linter.unusedVariables false
set_option maxRecDepth 100000
set_option maxHeartbeats 8000000
open Co
theorem isL_no {l : List Ls} (h : isL l = false) : bs (encLS l) = ⟨#[]⟩ ∧ encLC l = 2 := by unfold encLS encLC; rw [h]; exact ⟨rfl, rfl⟩
theorem isL_long {l : List Ls} (h : 5 < l.length) : isL l = false := by unfold isL; rw [decide_eq_false (by omega)]; rfl
theorem isL_bad {l : List Ls} (k : Nat) (h : ris 0 (l.take k) = false) : isL l = false := by unfold isL; rw [ris_bad 0 h]; simp
theorem clrleases_any {A : Option Addr} {l : List Ls} {w : World} (hA : Lss w A l) (hl : l.length ≤ 1000) (c : Nat) :
    Calls Try.prog 16 #[.slice A l.length c] w fun e w' => e = .returned (.tuple #[.string (bs (encLS l)), .int .i64 (encLC l)]) ∧ Kept w w' := by
  have HA := Lib.hid (fun W (hW : Kept w W) => hA.kept hW)
  have HN := Lib.hid (@isL_no l)
  have HLG := Lib.hid (@isL_long l)
  have HBD := Lib.hid (fun k => @isL_bad l k)
  have HTr := Lib.hid (show isL l = true → encLS l = encL l ∧ encLC l = 0 from fun h => by unfold encLS encLC; rw [h]; exact ⟨rfl, rfl⟩)
  have HYES := Lib.hid (show l.length ≤ 5 → ris 0 l = true → isL l = true from fun h1 h2 => by unfold isL; rw [decide_eq_true h1, h2]; rfl)
  have HLE := Lib.hid (fun k => @encL_len (l.take k) 0)
  have HT := Lib.hid (fun W n (h1 : 0 ≤ n) => clrtime_any n h1 W)
  generalize encLS l = rSt at *
  generalize encLC l = rCo at *
  generalize isL l = B at *
  clear hA
  go_enter Try.func16, Try.ntmps16
  go_wp2_with fail
  go_loopw [4, 5] (fun s t wr => ∃ (k : Nat), k ≤ l.length ∧ k ≤ 5 ∧ t = .int .i64 k ∧ s = .string (bs (encL (l.take k))) ∧ Hid (ris 0 (l.take k) = true) ∧ Hid (Kept w wr)) (fun _ t _ => l.length - (intOf t).toNat)
  case atStart => exact ⟨0, Nat.zero_le _, by omega, rfl, rfl, Lib.hid rfl, Lib.hid (Kept.refl _)⟩
  case round =>
    obtain ⟨k, hk, hk5, rfl, rfl, HR, HK⟩ := hrel
    by_cases hlt : k < l.length
    · have d0 : decide ((k : Int) < (l.length : Int)) = true := decide_eq_true (by omega)
      obtain ⟨x, hx⟩ : ∃ x, l[k]? = some x := ⟨_, List.getElem?_eq_getElem hlt⟩
      obtain ⟨b, o, rfl, hb, c0, c1, c2⟩ := HA.out w (Kept.refl _) k x hx
      have p0 := (kept_cell HK.out (p := ⟨b, o + k * 3, none⟩) hb).trans c0
      have p1 := (kept_cell HK.out (p := ⟨b, o + k * 3 + 1, none⟩) hb).trans c1
      have p2 := (kept_cell HK.out (p := ⟨b, o + k * 3 + 2, none⟩) hb).trans c2
      have HSN := Lib.hid (ris_snoc hx 0)
      have HLA := Lib.hid (fun y m (h : k = m + 1) (hy : l[m]? = some y) => (show ((l.take k).getLast?.map (·.i)).getD 0 = y.i from by subst h; exact last_snoc hy))
      rw [HR.out, Bool.true_and] at HSN
      have HEN := Lib.hid (encL_snoc hx)
      have HSZ := Lib.hid (HLE.out k HR.out).2
      have I0 := Lib.hid (KX.new wr #[.int .u64 (x.i : Nat), .int .u64 (x.t : Nat), .int .u64 (x.u : Nat)] 68)
      have ht1 := HT.out (wr.alloc (.cells #[.int .u64 (x.i : Nat), .int .u64 (x.t : Nat), .int .u64 (x.u : Nat)] 68)) (x.i : Int) (by omega)
      have ht2 := HT.out (wr.alloc (.cells #[.int .u64 (x.i : Nat), .int .u64 (x.t : Nat), .int .u64 (x.u : Nat)] 68)) (x.t : Int) (by omega)
      have HTI := Lib.hid (fun W => HT.out W (x.i : Int) (by omega))
      have HTT := Lib.hid (fun W => HT.out W (x.t : Int) (by omega))
      rw [Int.toNat_natCast] at HTI HTT
      have HI1 := Lib.hid (show is1 x = (cnt x.i && (cnt x.t && decide (x.u ≤ 1099511627776))) from rfl)
      rw [HI1.out] at HSN
      have HCI := Lib.hid (@cnt_iff x.i); have HCT := Lib.hid (@cnt_iff x.t)
      have HE1 := Lib.hid (show enc1 x = Nm.short x.i ++ (Nm.short x.t ++ Nm.short x.u) from rfl)
      clear c0 c1 c2 ht1 ht2
      obtain ⟨xi, hxi⟩ : ∃ xi, xi = x.i := ⟨_, rfl⟩
      obtain ⟨xt, hxt⟩ : ∃ xt, xt = x.t := ⟨_, rfl⟩
      obtain ⟨xu, hxu⟩ : ∃ xu, xu = x.u := ⟨_, rfl⟩
      rw [← hxi] at p0; rw [← hxt] at p1; rw [← hxu] at p2
      rw [← hxi, ← hxt, ← hxu] at I0 HE1
      rw [← hxi, ← hxt, ← hxu] at HSN
      rw [← hxi] at HTI HCI
      rw [← hxt] at HTT HCT
      generalize enc1 x = enx at *
      clear hxi hxt hxu HI1
      generalize hbI : cnt xi = bI at *
      generalize hbT : cnt xt = bT at *
      by_cases h4 : 4 < k
      · have d1 : decide ((4 : Int) < (k : Int)) = true := decide_eq_true (by omega)
        have d1n : decide (4 < k) = true := decide_eq_true h4
        have HB0 := Lib.hid (show B = false from HLG.out (by omega))
        have K9 := Lib.hid (kept_trans HK.out I0.out.k)
        have HE9 := Lib.hid (HN.out HB0.out)
        clear HLE HSZ HEN HCI HCT HE1 HA HLA HBD HLG HTr HYES HN HSN
        go_upto_region 6 with fail
        go_quiet ((first | (go_at_call_of 29 (Value.int .u64 (xi : Int)); exact quiet_l (HTI.out _)) | (go_at_call_of 29 (Value.int .u64 (xt : Int)); exact quiet_l (HTT.out _))))
        go_wp2_with fail
        go_ret2
        exact ⟨by rw [HE9.out.1, HE9.out.2] <;> rfl, kept_trans K9.out (kept_drewN _ _)⟩
      have d1 : decide ((4 : Int) < (k : Int)) = false := decide_eq_false (by omega)
      have d1n : decide (4 < k) = false := decide_eq_false h4
      cases bI with
      | false =>
        have HB0 := Lib.hid (show B = false from HBD.out (k + 1) (by rw [HSN.out]; rfl))
        have K9 := Lib.hid (kept_trans HK.out I0.out.k)
        have HE9 := Lib.hid (HN.out HB0.out)
        clear HLE HSZ HEN HCI HCT HE1 HA HLA HBD HLG HTr HYES HN HSN
        go_upto_region 6 with fail
        go_quiet ((first | (go_at_call_of 29 (Value.int .u64 (xi : Int)); exact quiet_l (HTI.out _)) | (go_at_call_of 29 (Value.int .u64 (xt : Int)); exact quiet_l (HTT.out _))))
        go_wp2_with fail
        go_ret2
        exact ⟨by rw [HE9.out.1, HE9.out.2] <;> rfl, kept_trans K9.out (kept_drewN _ _)⟩
      | true =>
      cases bT with
      | false =>
        have HB0 := Lib.hid (show B = false from HBD.out (k + 1) (by rw [HSN.out]; rfl))
        have K9 := Lib.hid (kept_trans HK.out I0.out.k)
        have HE9 := Lib.hid (HN.out HB0.out)
        clear HLE HSZ HEN HCI HCT HE1 HA HLA HBD HLG HTr HYES HN HSN
        go_upto_region 6 with fail
        go_quiet ((first | (go_at_call_of 29 (Value.int .u64 (xi : Int)); exact quiet_l (HTI.out _)) | (go_at_call_of 29 (Value.int .u64 (xt : Int)); exact quiet_l (HTT.out _))))
        go_wp2_with fail
        go_ret2
        exact ⟨by rw [HE9.out.1, HE9.out.2] <;> rfl, kept_trans K9.out (kept_drewN _ _)⟩
      | true =>
      by_cases hu : 1099511627776 < xu
      · have d2 : decide ((1099511627776 : Int) < (xu : Int)) = true := decide_eq_true (by omega)
        have d2n : decide (1099511627776 < xu) = true := decide_eq_true hu
        have HB0 := Lib.hid (show B = false from HBD.out (k + 1) (by rw [HSN.out, show decide (xu ≤ 1099511627776) = false from decide_eq_false (by omega)]; rfl))
        have K9 := Lib.hid (kept_trans HK.out I0.out.k)
        have HE9 := Lib.hid (HN.out HB0.out)
        clear HLE HSZ HEN HCI HCT HE1 HA HLA HBD HLG HTr HYES HN HSN
        go_upto_region 6 with fail
        go_quiet ((first | (go_at_call_of 29 (Value.int .u64 (xi : Int)); exact quiet_l (HTI.out _)) | (go_at_call_of 29 (Value.int .u64 (xt : Int)); exact quiet_l (HTT.out _))))
        go_wp2_with fail
        go_ret2
        exact ⟨by rw [HE9.out.1, HE9.out.2] <;> rfl, kept_trans K9.out (kept_drewN _ _)⟩
      have d2 : decide ((1099511627776 : Int) < (xu : Int)) = false := decide_eq_false (by omega)
      have d2n : decide (1099511627776 < xu) = false := decide_eq_false hu
      have hu2 : decide (xu ≤ 1099511627776) = true := decide_eq_true (by omega)
      cases k with
      | zero =>
        rw [Nat.zero_mul, Nat.add_zero] at p0 p1 p2
        obtain ⟨q1, _⟩ := HCI.out.1 rfl
        have hq : decide (((l.take 0).getLast?.map (·.i)).getD 0 < xi) = true := decide_eq_true (show 0 < xi from q1)
        have HRN := Lib.hid (show ris 0 (l.take (0 + 1)) = true from by rw [HSN.out]; rw [hu2, hq]; rfl)
        obtain ⟨q1, q2⟩ := HCI.out.1 rfl
        obtain ⟨q3, q4⟩ := HCT.out.1 rfl
        have hs1 := rshort_any (xi : Int) (by omega) (by omega)
        have hs2 := rshort_any (xt : Int) (by omega) (by omega)
        have hs3 := rshort_any (xu : Int) (by omega) (by omega)
        rw [Int.toNat_natCast] at hs1 hs2 hs3
        have z1 : (bs (Nm.short xi)).size ≤ 6 := by rw [clbs_size]; exact (sz_six q2).2
        have z2 : (bs (Nm.short xt)).size ≤ 6 := by rw [clbs_size]; exact (sz_six q4).2
        have z3 : (bs (Nm.short xu)).size ≤ 6 := by rw [clbs_size]; exact (sz_six (by omega)).2
        have z4 : (bs (encL (l.take 0))).size ≤ 18 * 5 := by rw [clbs_size]; have := HSZ.out; rw [List.length_take] at this; omega
        have HRE := Lib.hid (show bs (encL (l.take 0)) ++ (bs (Nm.short xi) ++ bs (Nm.short xt) ++ bs (Nm.short xu)) = bs (encL (l.take (0 + 1))) from by
          rw [HEN.out, HE1.out]; exact bs_of (by simp [bs, ByteArray.data_append]))
        obtain ⟨TN, hTN⟩ : ∃ TN, TN = bs (encL (l.take (0 + 1))) := ⟨_, rfl⟩
        have HTN := Lib.hid hTN
        rw [← hTN] at HRE
        clear hTN
        generalize bs (encL (l.take 0)) = T0 at *
        generalize bs (Nm.short xi) = T1 at *
        generalize bs (Nm.short xt) = T2 at *
        generalize bs (Nm.short xu) = T3 at *
        have a1 : (T1 ++ T2).size ≤ 12 := by rw [ByteArray.size_append]; omega
        have a2 : (T1 ++ T2 ++ T3).size ≤ 18 := by rw [ByteArray.size_append]; omega
        have r1 : ∀ W, (Op.stringOp .add T1 T2).run Try.prog W = .ok (.string (T1 ++ T2)) W := fun W => run_string_add_sum W _ _ (by omega)
        have r2 : ∀ W, (Op.stringOp .add (T1 ++ T2) T3).run Try.prog W = .ok (.string (T1 ++ T2 ++ T3)) W := fun W => run_string_add_sum W _ _ (by omega)
        have r3 : ∀ W, (Op.stringOp .add T0 (T1 ++ T2 ++ T3)).run Try.prog W = .ok (.string (T0 ++ (T1 ++ T2 ++ T3))) W := fun W => run_string_add_sum W _ _ (by omega)
        have HS1 := Lib.hid (KX.inv (w0 := wr) (b := wr.heap.size) (c := #[.int .u64 (xi : Nat), .int .u64 (xt : Nat), .int .u64 (xu : Nat)]) (t := 68) hs1)
        have HS2 := Lib.hid (KX.inv (w0 := wr) (b := wr.heap.size) (c := #[.int .u64 (xi : Nat), .int .u64 (xt : Nat), .int .u64 (xu : Nat)]) (t := 68) hs2)
        have HS3 := Lib.hid (KX.inv (w0 := wr) (b := wr.heap.size) (c := #[.int .u64 (xi : Nat), .int .u64 (xt : Nat), .int .u64 (xu : Nat)]) (t := 68) hs3)
        clear hs1 hs2 hs3 z1 z2 z3 z4 a1 a2 HSZ HEN HCI HCT HE1 HA HLA HBD HLG HTr HYES HN HSN hx
        go_upto_region 6 with fail
        go_quiet ((first | (go_at_call_of 29 (Value.int .u64 (xi : Int)); exact quiet_l (HTI.out _)) | (go_at_call_of 29 (Value.int .u64 (xt : Int)); exact quiet_l (HTT.out _))))
        rename_i nq
        have I1 := Lib.hid ((I0.out.kept (kept_drewN _ nq)).drew)
        go_upto_region 8 with fail
        go_region_held3 (fun w' => w'.cell? ⟨wr.heap.size, 0, none⟩ = some (.int .u64 (xi : Nat)) ∧ w'.cell? ⟨wr.heap.size, 1, none⟩ = some (.int .u64 (xt : Nat)) ∧ w'.cell? ⟨wr.heap.size, 2, none⟩ = some (.int .u64 (xu : Nat))) (first | exact KX.c3 (by assumption) | exact KX.c3 I1.out)
          (first
          | (go_at_call_of 30 (Value.int .u64 (xi : Int)); refine (HS1.out _ (by first | assumption | exact I1.out)).mono ?_; rintro e w6 ⟨rfl, i6⟩)
          | (go_at_call_of 30 (Value.int .u64 (xt : Int)); refine (HS2.out _ (by first | assumption | exact I1.out)).mono ?_; rintro e w6 ⟨rfl, i6⟩)
          | (go_at_call_of 30 (Value.int .u64 (xu : Int)); refine (HS3.out _ (by first | assumption | exact I1.out)).mono ?_; rintro e w6 ⟨rfl, i6⟩))
        all_goals
          have K9 := Lib.hid (kept_trans HK.out i6.k)
          clear i6 HS1 HS2 HS3 I1 r1 r2 r3
          go_wp2_with fail
          go_roundw
          case rel => exact ⟨0 + 1, by omega, by omega, by go_num, by rw [HRE.out, HTN.out], HRN, K9⟩
          case measure => simp [intOf]; omega
      | succ m =>
        obtain ⟨y, hy⟩ : ∃ y, l[m]? = some y := ⟨_, List.getElem?_eq_getElem (by omega)⟩
        obtain ⟨b', o', hbo, hb', s0, _, _⟩ := HA.out w (Kept.refl _) m y hy
        obtain ⟨rfl, rfl⟩ : b' = b ∧ o' = o := by injection hbo with e; injection e with e1 e2; exact ⟨e1.symm, e2.symm⟩
        have hla := HLA.out y m rfl hy
        have y0 := (kept_cell HK.out (p := ⟨b', o' + m * 3, none⟩) hb').trans s0
        have y1 := (kept_cell I0.out.k (p := ⟨b', o' + m * 3, none⟩) (Nat.lt_of_lt_of_le hb' HK.out.size)).trans y0
        have hm1 : ((m + 1 : Nat) : Int) - 1 = (m : Int) := by omega
        have hm2 : IntKind.i64.wrap (m : Int) = (m : Int) := IntWalk.i64_in _ (by omega)
        have hm3 : (m : Int) + 1 - 1 = (m : Int) := by omega
        have hm4 : (0 : Int) < (m : Int) + 1 := by omega
        have hm5 : decide ((4 : Int) < (m : Int) + 1) = false := decide_eq_false (by omega)
        have hm6 : ¬ ((4 : Int) < (m : Int) + 1) := by omega
        clear s0 hbo hb' hy
        generalize y.i = yi at *
        rw [hla] at HSN
        by_cases hyx : xi ≤ yi
        · have d3 : decide ((xi : Int) ≤ (yi : Int)) = true := decide_eq_true (by omega)
          have d3n : decide (xi ≤ yi) = true := decide_eq_true hyx
          have HB0 := Lib.hid (show B = false from HBD.out (m + 1 + 1) (by rw [HSN.out, hu2, show decide (yi < xi) = false from decide_eq_false (by omega)]; rfl))
          have K9 := Lib.hid (kept_trans HK.out I0.out.k)
          have HE9 := Lib.hid (HN.out HB0.out)
          clear HLE HSZ HEN HCI HCT HE1 HA HLA HBD HLG HTr HYES HN HSN
          go_upto_region 6 with fail
          go_quiet ((first | (go_at_call_of 29 (Value.int .u64 (xi : Int)); exact quiet_l (HTI.out _)) | (go_at_call_of 29 (Value.int .u64 (xt : Int)); exact quiet_l (HTT.out _))))
          go_wp2_with fail
          go_ret2
          exact ⟨by rw [HE9.out.1, HE9.out.2] <;> rfl, kept_trans K9.out (kept_drewN _ _)⟩
        have d3 : decide ((xi : Int) ≤ (yi : Int)) = false := decide_eq_false (by omega)
        have d3n : decide (xi ≤ yi) = false := decide_eq_false hyx
        have hq : decide (yi < xi) = true := decide_eq_true (by omega)
        have HRN := Lib.hid (show ris 0 (l.take (m + 1 + 1)) = true from by rw [HSN.out]; rw [hu2, hq]; rfl)
        obtain ⟨q1, q2⟩ := HCI.out.1 rfl
        obtain ⟨q3, q4⟩ := HCT.out.1 rfl
        have hs1 := rshort_any (xi : Int) (by omega) (by omega)
        have hs2 := rshort_any (xt : Int) (by omega) (by omega)
        have hs3 := rshort_any (xu : Int) (by omega) (by omega)
        rw [Int.toNat_natCast] at hs1 hs2 hs3
        have z1 : (bs (Nm.short xi)).size ≤ 6 := by rw [clbs_size]; exact (sz_six q2).2
        have z2 : (bs (Nm.short xt)).size ≤ 6 := by rw [clbs_size]; exact (sz_six q4).2
        have z3 : (bs (Nm.short xu)).size ≤ 6 := by rw [clbs_size]; exact (sz_six (by omega)).2
        have z4 : (bs (encL (l.take (m + 1)))).size ≤ 18 * 5 := by rw [clbs_size]; have := HSZ.out; rw [List.length_take] at this; omega
        have HRE := Lib.hid (show bs (encL (l.take (m + 1))) ++ (bs (Nm.short xi) ++ bs (Nm.short xt) ++ bs (Nm.short xu)) = bs (encL (l.take (m + 1 + 1))) from by
          rw [HEN.out, HE1.out]; exact bs_of (by simp [bs, ByteArray.data_append]))
        obtain ⟨TN, hTN⟩ : ∃ TN, TN = bs (encL (l.take (m + 1 + 1))) := ⟨_, rfl⟩
        have HTN := Lib.hid hTN
        rw [← hTN] at HRE
        clear hTN
        generalize bs (encL (l.take (m + 1))) = T0 at *
        generalize bs (Nm.short xi) = T1 at *
        generalize bs (Nm.short xt) = T2 at *
        generalize bs (Nm.short xu) = T3 at *
        have a1 : (T1 ++ T2).size ≤ 12 := by rw [ByteArray.size_append]; omega
        have a2 : (T1 ++ T2 ++ T3).size ≤ 18 := by rw [ByteArray.size_append]; omega
        have r1 : ∀ W, (Op.stringOp .add T1 T2).run Try.prog W = .ok (.string (T1 ++ T2)) W := fun W => run_string_add_sum W _ _ (by omega)
        have r2 : ∀ W, (Op.stringOp .add (T1 ++ T2) T3).run Try.prog W = .ok (.string (T1 ++ T2 ++ T3)) W := fun W => run_string_add_sum W _ _ (by omega)
        have r3 : ∀ W, (Op.stringOp .add T0 (T1 ++ T2 ++ T3)).run Try.prog W = .ok (.string (T0 ++ (T1 ++ T2 ++ T3))) W := fun W => run_string_add_sum W _ _ (by omega)
        have HS1 := Lib.hid (KX.inv (w0 := wr) (b := wr.heap.size) (c := #[.int .u64 (xi : Nat), .int .u64 (xt : Nat), .int .u64 (xu : Nat)]) (t := 68) hs1)
        have HS2 := Lib.hid (KX.inv (w0 := wr) (b := wr.heap.size) (c := #[.int .u64 (xi : Nat), .int .u64 (xt : Nat), .int .u64 (xu : Nat)]) (t := 68) hs2)
        have HS3 := Lib.hid (KX.inv (w0 := wr) (b := wr.heap.size) (c := #[.int .u64 (xi : Nat), .int .u64 (xt : Nat), .int .u64 (xu : Nat)]) (t := 68) hs3)
        clear hs1 hs2 hs3 z1 z2 z3 z4 a1 a2 HSZ HEN HCI HCT HE1 HA HLA HBD HLG HTr HYES HN HSN hx
        go_upto_region 6 with fail
        go_quiet ((first | (go_at_call_of 29 (Value.int .u64 (xi : Int)); exact quiet_l (HTI.out _)) | (go_at_call_of 29 (Value.int .u64 (xt : Int)); exact quiet_l (HTT.out _))))
        rename_i nq
        have I1 := Lib.hid ((I0.out.kept (kept_drewN _ nq)).drew)
        go_upto_region 8 with fail
        go_region_held3 (fun w' => w'.cell? ⟨wr.heap.size, 0, none⟩ = some (.int .u64 (xi : Nat)) ∧ w'.cell? ⟨wr.heap.size, 1, none⟩ = some (.int .u64 (xt : Nat)) ∧ w'.cell? ⟨wr.heap.size, 2, none⟩ = some (.int .u64 (xu : Nat))) (first | exact KX.c3 (by assumption) | exact KX.c3 I1.out)
          (first
          | (go_at_call_of 30 (Value.int .u64 (xi : Int)); refine (HS1.out _ (by first | assumption | exact I1.out)).mono ?_; rintro e w6 ⟨rfl, i6⟩)
          | (go_at_call_of 30 (Value.int .u64 (xt : Int)); refine (HS2.out _ (by first | assumption | exact I1.out)).mono ?_; rintro e w6 ⟨rfl, i6⟩)
          | (go_at_call_of 30 (Value.int .u64 (xu : Int)); refine (HS3.out _ (by first | assumption | exact I1.out)).mono ?_; rintro e w6 ⟨rfl, i6⟩))
        all_goals
          have K9 := Lib.hid (kept_trans HK.out i6.k)
          clear i6 HS1 HS2 HS3 I1 r1 r2 r3
          go_wp2_with fail
          go_roundw
          case rel => exact ⟨m + 1 + 1, by omega, by omega, by go_num, by rw [HRE.out, HTN.out], HRN, K9⟩
          case measure => simp [intOf]; omega
    · obtain rfl : k = l.length := by omega
      rw [List.take_length] at HR
      have d0 : decide ((l.length : Int) < (l.length : Int)) = false := decide_eq_false (by omega)
      obtain ⟨e1, e2⟩ := HTr.out (HYES.out hk5 HR.out)
      have HTL := Lib.hid (show l.take l.length = l from List.take_length)
      have HE9 := Lib.hid (And.intro e1 e2)
      clear e1 e2
      go_wp2_with fail
      go_ret2
      exact ⟨by rw [HE9.out.1, HE9.out.2, HTL.out] <;> rfl, HK.out⟩
end Go.Proofs.Ytdmnmbomijnjeaa
