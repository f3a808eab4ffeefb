/-
  The document's own Row of layer 8, Text of layer 5, Shared and Encode of layer 9: the same as the program's.
-/
import Derived.Test.YtecjnebfhbdnaaaBlockArgs
import Derived.Test.YtecjnebfhbdnaaaNumRefTake
import Derived.StillTailTactics
namespace Go.Proofs.Ytecjnebfhbdnaaa
open Go.ChangeShapes Go.WideShapes Go.ChangeAt Go.RowKit
set_option linter.unusedVariables false
set_option maxRecDepth 100000
set_option maxHeartbeats 4000000

theorem krshared_q (a b : List UInt8) (ha : a.length ≤ maxLen) (hb : b.length ≤ maxLen) (w : World) :
    Calls Try.prog 65 #[.string (bs a), .string (bs b)] w fun e w' => e = .returned (.int .i64 (Bk.sh a b : Nat)) ∧ ∃ q, w' = w.drewN q := by
  have e1 := fbs_size a
  have e2 := fbs_size b
  unfold maxLen at ha hb
  have z1 : (bs a).size ≤ 9223372036854775807 := by omega
  have z2 : (bs b).size ≤ 9223372036854775807 := by omega
  have E1 := Lib.hid e1; have E2 := Lib.hid e2
  clear e1 e2
  go_enter Try.func65, Try.ntmps65
  go_wp2_with fail
  go_loopw [5] (fun t wr => ∃ k : Nat, k ≤ (bs a).size ∧ k ≤ (bs b).size ∧ t = .int .i64 k ∧ Hid (∀ j, j < k → a[j]? = b[j]?) ∧ Hid (∃ q, wr = w.drewN q)) (fun t _ => (bs a).size - (intOf t).toNat)
  case atStart => exact ⟨0, Nat.zero_le _, Nat.zero_le _, rfl, Lib.hid (fun j hj => absurd hj (by omega)), Lib.hid ⟨0, rfl⟩⟩
  case round =>
    obtain ⟨k, hk, hk2, rfl, HE, hkr⟩ := hrel
    by_cases hka : k < (bs a).size
    · have d0 : decide ((k : Int) < ((bs a).size : Int)) = true := decide_eq_true (by omega)
      by_cases hkb : k < (bs b).size
      · have d2 : decide ((k : Int) < ((bs b).size : Int)) = true := decide_eq_true (by omega)
        have hq1 : a[k]? = some (bs a)[k] := List.getElem?_eq_getElem (show k < a.length by have := E1.out; omega)
        have hq2 : b[k]? = some (bs b)[k] := List.getElem?_eq_getElem (show k < b.length by have := E2.out; omega)
        have HQ1 := Lib.hid hq1; have HQ2 := Lib.hid hq2
        clear hq1 hq2
        by_cases he : (bs a)[k] = (bs b)[k]
        · have HN := Lib.hid (show ∀ j, j < k + 1 → a[j]? = b[j]? from fun j hj => by
            by_cases e : j = k
            · subst e; rw [HQ1.out, HQ2.out, he]
            · exact HE.out j (by omega))
          have d1 : (((bs a)[k].toNat : Int) == ((bs b)[k].toNat : Int)) = true := by rw [he]; simp
          clear he
          go_wp2_with fail
          go_quiet (fail)
          go_wp2_with fail
          go_roundw
          case rel => exact ⟨k + 1, by omega, by omega, by go_num, HN, Lib.hid (drew_more hkr.out _)⟩
          case measure => simp [intOf]; omega
        · have HS := Lib.hid (show Bk.sh a b = k from Bk.sh_at HE.out (by have := E1.out; omega) (by have := E2.out; omega) (.inr (.inr (fun q => he (by rw [HQ1.out, HQ2.out] at q; injection q)))))
          have d1 : (((bs a)[k].toNat : Int) == ((bs b)[k].toNat : Int)) = false := by
            rw [beq_eq_false_iff_ne]; intro q; exact he (UInt8.toNat_inj.1 (by omega))
          clear he
          go_wp2_with fail
          go_quiet (fail)
          go_wp2_with fail
          go_ret
          exact ⟨ret_int (by rw [HS.out]), drew_more hkr.out _⟩
      · have d2 : decide ((k : Int) < ((bs b).size : Int)) = false := decide_eq_false (by omega)
        have HS := Lib.hid (show Bk.sh a b = k from Bk.sh_at HE.out (by have := E1.out; omega) (by have := E2.out; omega) (.inr (.inl (by have := E2.out; omega))))
        go_wp2_with fail
        go_quiet (fail)
        go_wp2_with fail
        go_ret
        exact ⟨ret_int (by rw [HS.out]), drew_more hkr.out _⟩
    · have d0 : decide ((k : Int) < ((bs a).size : Int)) = false := decide_eq_false (by omega)
      have HS := Lib.hid (show Bk.sh a b = k from Bk.sh_at HE.out (by have := E1.out; omega) (by have := E2.out; omega) (.inl (by have := E1.out; omega)))
      go_wp2_with fail
      go_quiet (fail)
      go_wp2_with fail
      go_ret
      exact ⟨ret_int (by rw [HS.out]), drew_more hkr.out _⟩
theorem kbox_new (w : World) (x : Mm.Ent) : KBox w w.heap.size x (w.alloc (.cells #[.string (bs x.key), .int .u64 (x.seq : Nat), .bool x.del, .string (bs x.val)] 37)) :=
  ⟨(Kept.refl _).alloc _, malloc_new w _⟩
theorem krah_n (x y : Mm.Ent) (W : World) (n : Nat) :
    Calls Try.prog 51 #[.string (bs x.key), .int .u64 (x.seq : Nat), .string (bs y.key), .int .u64 (y.seq : Nat)] (W.drewN n) fun e w' => e = .returned (.bool (Mg.ab x y)) ∧ ∃ q, w' = W.drewN q :=
  (rahead_any x.key x.seq y.key y.seq (W.drewN n)).mono fun e w' ⟨h1, h2⟩ => ⟨h1, n, h2.symm⟩
theorem krrow_any {w : World} {A : Option Addr} {l : List Mm.Ent} (c : Nat) (h : Els w A l) (hl : l.length ≤ 4000) :
    Calls Try.prog 35 #[.slice A l.length c] w fun e w' => e = .returned (.bool (Mg.row l)) ∧ Kept w w' := by
  have HE := Lib.hid h
  clear h
  go_enter Try.func35, Try.ntmps35
  go_wp2_with fail
  go_loopw [3] (fun t wi => ∃ i : Nat, i ≤ l.length ∧ t = .int .i64 (i : Int) ∧ Hid (∀ j x y, j < i → l[j]? = some x → l[j + 1]? = some y → Mg.ab x y = true) ∧ Hid (Kept w wi)) (fun t _ => l.length - (intOf t).toNat)
  case atStart => exact ⟨0, Nat.zero_le _, rfl, Lib.hid (fun i x y hi => absurd hi (by omega)), Lib.hid (Kept.refl _)⟩
  case round =>
    obtain ⟨i, hi, rfl, HA, HK⟩ := hrel
    by_cases hlt : i + 1 < l.length
    · have hx : l[i]? = some l[i] := List.getElem?_eq_getElem (by omega)
      have hy : l[i + 1]? = some l[i + 1] := List.getElem?_eq_getElem hlt
      generalize l[i] = x at hx
      generalize l[i + 1] = y at hy
      obtain ⟨b, o, rfl, hb, ⟨c0, c1, c2, c3⟩, d0, d1, d2, d3⟩ := (HE.out.kept HK.out).two hx hy
      have HAH := Lib.hid (krah_n x y wr)
      have HX := Lib.hid hx; have HY := Lib.hid hy
      obtain ⟨i1, hi1⟩ : ∃ i1, i1 = i + 1 := ⟨_, rfl⟩
      rw [← hi1] at d0 d1 d2 d3
      have u1 : IntKind.i64.wrap ((i : Int) + 1) = (i1 : Int) := by rw [IntKind.wrap_i64]; omega
      have u2 : (i : Int) + 1 = (i1 : Int) := by omega
      have hil : i < l.length := by omega
      have hil1 : i1 < l.length := by omega
      have HI1 := Lib.hid hi1
      clear hi1 hlt
      clear hx hy
      cases hv : Mg.ab x y with
      | true =>
        have HV := Lib.hid hv
        rw [hv] at HAH
        clear hv
        go_wp2_with fail
        go_quiet ((go_at_call 51; exact HAH.out _))
        go_wp2_with fail
        go_roundw
        case rel => exact ⟨i1, by omega, rfl, Lib.hid (fun q u v hq hu hv => by
          by_cases e : q = i
          · subst e; rw [HX.out] at hu; rw [HY.out] at hv; cases hu; cases hv; exact HV.out
          · exact HA.out q u v (by have := HI1.out; omega) hu hv), Lib.hid (kept_trans HK.out (kept_drewN _ _))⟩
        case measure => have := HI1.out; simp [intOf]; omega
      | false =>
        have HV := Lib.hid (Mg.row_not (l := l) HX.out HY.out hv)
        rw [hv] at HAH
        clear hv
        go_wp2_with fail
        go_quiet ((go_at_call 51; exact HAH.out _))
        go_wp2_with fail
        go_ret
        exact ⟨by rw [HV.out]; rfl, kept_trans HK.out (kept_drewN _ _)⟩
    · have HR := Lib.hid (show Mg.row l = true from Mg.row_adj.2 fun j x y hx hy => HA.out j x y (by have := (List.getElem?_eq_some_iff.1 hy).1; omega) hx hy)
      go_wp2_with fail
      go_ret
      exact ⟨by rw [HR.out]; rfl, HK.out⟩
theorem krtext_any (t : List UInt8) (ht : t.length ≤ 100) (w : World) :
    Calls Try.prog 37 #[.string (bs t)] w fun e w' => e = .returned (.string (bs (Bt.sized t))) ∧ Kept w w' := by
  have hz := fbs_size t
  have hsh := rshort_any ((bs t).size : Int) (by omega) (by omega)
  have e1 : bs (Nm.short t.length) ++ bs t = bs (Bt.sized t) := fbs_app _ _
  have z1 : (bs (Nm.short t.length)).size = 1 := by rw [fbs_size, Nm.short_len _ (by omega), Nm.sz_small _ (by omega)]
  rw [Int.toNat_natCast, hz] at hsh
  have hz2 : (bs t).size ≤ 100 := by omega
  have HZ := Lib.hid hz; have HE := Lib.hid e1
  clear hz e1
  go_enter Try.func37, Try.ntmps37
  go_wp2_with fail
  rw [HZ.out]
  refine (hsh _).mono ?_
  rintro e w1 ⟨rfl, g1⟩
  go_wp2_with fail
  go_ret
  exact ⟨by rw [← HE.out]; rfl, g1⟩
theorem krshared_n (a b : List UInt8) (ha : a.length ≤ maxLen) (hb : b.length ≤ maxLen) (W : World) (n : Nat) :
    Calls Try.prog 65 #[.string (bs a), .string (bs b)] (W.drewN n) fun e w' => e = .returned (.int .i64 (Bk.sh a b : Nat)) ∧ ∃ q, w' = W.drewN q :=
  (krshared_q a b ha hb (W.drewN n)).mono fun e w' ⟨h1, q, h2⟩ => ⟨h1, by rw [h2]; exact drew_more ⟨n, rfl⟩ q⟩
theorem E_len2 {l : List Mm.Ent} : ∀ (k : Nat), (∀ x ∈ l.take k, Mm.may x = true) → (Bk.E l k).length ≤ 210 * k
  | 0, _ => by simp [Bk.E]
  | k + 1, h => by
    have h1 := E_len2 (l := l) k (fun x hx => h x (by rw [List.take_add_one, List.mem_append]; exact .inl hx))
    rw [Bk.E_succ, List.length_append]
    unfold Bk.piece
    cases hx : l[k]? with
    | none => simp; omega
    | some x =>
      have hm := h x (by rw [List.take_add_one, List.mem_append, hx]; exact .inr (by simp))
      have := (Bk.encE_len hm (Bk.shr_le hx)).1
      obtain ⟨k1, k2, k3, k4, k5, k6⟩ := Mm.may_iff.1 hm
      simp only
      omega
theorem take_may {l : List Mm.Ent} {k : Nat} {x : Mm.Ent} (hx : l[k]? = some x) (h : ∀ y ∈ l.take k, Mm.may y = true) (hm : Mm.may x = true) : ∀ y ∈ l.take (k + 1), Mm.may y = true := fun y hy => by
  rw [List.take_add_one, hx, List.mem_append] at hy
  rcases hy with hy | hy
  · exact h y hy
  · simp at hy; rw [hy]; exact hm
theorem shr_two' {l : List Mm.Ent} {j : Nat} {x y : Mm.Ent} (h : (j + 1) % 4 ≠ 0) (hx : l[j]? = some x) (hy : l[j + 1]? = some y) : Bk.shr l (j + 1) = Bk.sh x.key y.key := by
  unfold Bk.shr
  rw [if_neg h, Nat.add_sub_cancel, Bk.keyAt_some hx, Bk.keyAt_some hy]
theorem krencode_any {w : World} {A : Option Addr} {l : List Mm.Ent} (c : Nat) (h : Els w A l) (hl : l.length ≤ maxLen) (ho : OkEl l) :
    Calls Try.prog 36 #[.slice A l.length c] w fun e w' => e = .returned (.tuple #[.string (bs (Bk.encS l)), .int .i64 (Bk.encC l)]) ∧ Kept w w' := by
  have HE := Lib.hid h; have HO := Lib.hid ho
  have HNO := Lib.hid (fun (q : Bk.isB l = false) => Bk.enc_no q)
  have HYES := Lib.hid (fun (q : Bk.isB l = true) => Bk.enc_yes q)
  have hlm := hl
  unfold maxLen at hlm
  clear h ho
  by_cases h1 : l.length < 1
  · have d1 : decide ((l.length : Int) < 1) = true := decide_eq_true (by omega)
    rw [(HNO.out (kisb_no (fun q => by omega))).1, (HNO.out (kisb_no (fun q => by omega))).2]
    go_enter Try.func36, Try.ntmps36
    go_wp2_with fail
    go_ret2
    exact ⟨rfl, Kept.refl _⟩
  · have d1 : decide ((l.length : Int) < 1) = false := decide_eq_false (by omega)
    by_cases h2 : 32 < l.length
    · have d2 : decide ((32 : Int) < (l.length : Int)) = true := decide_eq_true (by omega)
      rw [(HNO.out (kisb_no (fun q => by omega))).1, (HNO.out (kisb_no (fun q => by omega))).2]
      go_enter Try.func36, Try.ntmps36
      go_wp2_with fail
      go_ret2
      exact ⟨rfl, Kept.refl _⟩
    · have d2 : decide ((32 : Int) < (l.length : Int)) = false := decide_eq_false (by omega)
      have hrw := krrow_any c HE.out (by omega)
      cases hv : Mg.row l with
      | false =>
        rw [hv] at hrw
        have hno := HNO.out (kisb_no (fun q => by have := q.2.2.2; rw [hv] at this; cases this))
        rw [hno.1, hno.2]
        have HRW := Lib.hid hrw
        clear hrw hno hv
        go_enter Try.func36, Try.ntmps36
        go_wp2_with fail
        refine HRW.out.mono ?_
        rintro e w1 ⟨rfl, g1⟩
        go_wp2_with fail
        go_ret2
        exact ⟨rfl, g1⟩
      | true =>
        rw [hv] at hrw
        have HRW := Lib.hid hrw; have HROW := Lib.hid hv
        have hlg := rlong_any (l.length : Int) (by omega) (by omega)
        rw [Int.toNat_natCast] at hlg
        have HLG := Lib.hid hlg
        clear hrw hv hlg
        go_enter Try.func36, Try.ntmps36
        go_wp2_with fail
        refine HRW.out.mono ?_
        rintro e w1 ⟨rfl, g1⟩
        have G1 := Lib.hid g1
        clear g1
        go_wp2_with fail
        go_loopw [4, 5, 6] (fun a b t wr => ∃ k : Nat, k ≤ l.length ∧ t = .int .i64 k ∧ a = .string (bs (Bk.E l k)) ∧ b = .string (bs (Bk.P l k)) ∧ Hid (∀ x ∈ l.take k, Mm.may x = true) ∧ Hid (Kept w wr)) (fun _ _ t _ => l.length - (intOf t).toNat)
        case atStart => exact ⟨0, Nat.zero_le _, rfl, rfl, rfl, Lib.hid (fun x hx => by simp at hx), G1⟩
        case round =>
          obtain ⟨k, hk, rfl, rfl, rfl, HF, HK⟩ := hrel
          have hE := E_len2 k HF.out
          have hP := Bk.P_len l k
          by_cases hlt : k < l.length
          · obtain ⟨x, hx⟩ : ∃ x, l[k]? = some x := ⟨_, List.getElem?_eq_getElem hlt⟩
            have hEl := HE.out.kept HK.out
            obtain ⟨b, o, rfl, hb, c0, c1, c2, c3⟩ := hEl k x hx
            have hz := HO.out x (List.mem_of_getElem? hx)
            have HM := Lib.hid (rmmay_any x hz.1 hz.2)
            unfold entV at HM
            cases hmay : Mm.may x with
            | false =>
              have hno := HNO.out (kisb_no (fun q => by have := q.2.2.1 x (List.mem_of_getElem? hx); rw [hmay] at this; cases this))
              have HNN := Lib.hid hno
              rw [hmay] at HM
              clear hx hz hmay hno hEl
              go_wp2_with fail
              refine (HM.out _).mono ?_
              rintro e w2 ⟨rfl, g2⟩
              go_wp2_with fail
              go_ret2
              exact ⟨by rw [HNN.out.1, HNN.out.2]; rfl, kept_trans HK.out (kept_trans ((Kept.refl _).alloc _) g2)⟩
            | true =>
              rw [hmay] at HM
              have HN := Lib.hid (take_may hx HF.out hmay)
              have HX := Lib.hid hx; have HMAY := Lib.hid hmay
              obtain ⟨k1, k2, k3, k4, k5, k6⟩ := Mm.may_iff.1 hmay
              clear k4
              have hshl := Bk.shr_le hx
              have HES := Lib.hid (show Bk.E l (k + 1) = Bk.E l k ++ Bk.encE (Bk.shr l k) x by rw [Bk.E_succ, Bk.piece_is hx])
              clear hx hz hmay
              obtain ⟨ky, sq, d, vl⟩ := x
              simp only at c0 c1 c2 c3 k1 k2 k3 k5 k6 hshl
              have ze : (bs (Bk.E l k)).size ≤ 7000 := by rw [fbs_size]; omega
              by_cases h4 : k % 4 = 0
              · have d4 : (((k : Int) % 4) == 0) = true := by simp; omega
                have HPS := Lib.hid (Bk.P_yes (l := l) h4)
                have hsz : Bk.shr l k = 0 := by unfold Bk.shr; rw [if_pos h4]
                have hlg2 := rlong_any ((Bk.E l k).length : Int) (by omega) (by omega)
                rw [Int.toNat_natCast] at hlg2
                have HLG2 := Lib.hid hlg2
                have z8 : (bs (Nm.long (Bk.E l k).length)).size = 8 := by rw [fbs_size, Nm.long_len]
                have zp : (bs (Bk.P l k)).size ≤ 100 := by rw [fbs_size]; omega
                have HPP := Lib.hid (show bs (Bk.P l k) ++ bs (Nm.long (Bk.E l k).length) = bs (Bk.P l (k + 1)) by rw [HPS.out, fbs_app])
                have hel : (bs (Bk.E l k)).size = (Bk.E l k).length := fbs_size _
                have hw1 : IntKind.u64.wrap ((bs (Bk.E l k)).size : Int) = ((Bk.E l k).length : Int) := by rw [hel, IntKind.wrap_u64]; omega
                have hw2 : ((bs (Bk.E l k)).size : Int) = ((Bk.E l k).length : Int) := by rw [hel]
                rw [hsz] at HES hshl
                clear hlg2 h4 hel hsz hP hE
                have HW2 := Lib.hid hw2
                clear hw1 hw2
                go_wp2_with fail
                refine (HM.out _).mono ?_
                rintro e w2 ⟨rfl, g2⟩
                have hw1 := HW2.out
                go_wp2_with fail
                refine (HLG2.out _).mono ?_
                rintro e w3 ⟨rfl, g3⟩
                clear hw1
                have ib : KBox wr wr.heap.size ⟨ky, sq, d, vl⟩ w3 := (kbox_new wr ⟨ky, sq, d, vl⟩).kept (kept_trans g2 g3)
                clear g2 g3 HM HLG2
                have hw : IntKind.u64.wrap (0 : Int) = 0 := rfl
                have hs1 := rshort_any (0 : Int) (by omega) (by omega)
                have hs2 := rshort_any (sq : Int) (by omega) (by omega)
                rw [Int.toNat_natCast] at hs2
                rw [show (0 : Int).toNat = 0 from rfl] at hs1
                have hkk := krtext_any ky k2
                have hvv := krtext_any vl k3
                have z1 : (bs (Nm.short 0)).size = 1 := by rw [fbs_size, Nm.short_len _ (by omega), Nm.sz_small _ (by omega)]
                have z2 : (bs (Nm.short sq)).size ≤ 10 := by rw [fbs_size, Nm.short_len _ (by omega)]; exact (Nm.sz_le _ (by omega)).2
                have z3 : (bs (Bt.sized ky)).size ≤ 101 := by rw [fbs_size]; exact (Bt.sized_len k2).2
                have z4 : (bs (Bt.sized vl)).size ≤ 101 := by rw [fbs_size]; exact (Bt.sized_len k3).2
                have zk := fbs_size ky
                have zk2 : 0 ≤ (bs ky).size := by omega
                have hx : (bs ky).extract 0 (bs ky).size = bs ky := by rw [extract_drop]; rfl
                have I0 := Lib.hid (ib.kept (kept_drewN _ 1))
                have HS1 := Lib.hid (kbox_inv (w0 := wr) (bx := wr.heap.size) (x := ⟨ky, sq, d, vl⟩) hs1)
                have HS2 := Lib.hid (kbox_inv (w0 := wr) (bx := wr.heap.size) (x := ⟨ky, sq, d, vl⟩) hs2)
                have HKK := Lib.hid (kbox_inv (w0 := wr) (bx := wr.heap.size) (x := ⟨ky, sq, d, vl⟩) hkk)
                have HVV := Lib.hid (kbox_inv (w0 := wr) (bx := wr.heap.size) (x := ⟨ky, sq, d, vl⟩) hvv)
                have e0 := blk_cell ib.bk 0; have e1 := blk_cell ib.bk 1; have e2 := blk_cell ib.bk 2; have e3 := blk_cell ib.bk 3
                simp only [List.getElem?_toArray, List.getElem?_cons_zero, List.getElem?_cons_succ] at e0 e1 e2 e3
                clear hs1 hs2 hkk hvv ib zk
                cases d with
                | false =>
                  have m1 : (⟨#[0]⟩ : ByteArray).size = 1 := rfl
                  have a1 : (bs (Nm.short 0) ++ bs (Bt.sized ky)).size ≤ 102 := by rw [ByteArray.size_append]; omega
                  have a2 : (bs (Nm.short 0) ++ bs (Bt.sized ky) ++ bs (Nm.short sq)).size ≤ 112 := by rw [ByteArray.size_append]; omega
                  have a3 : (bs (Nm.short 0) ++ bs (Bt.sized ky) ++ bs (Nm.short sq) ++ (⟨#[0]⟩ : ByteArray)).size ≤ 113 := by rw [ByteArray.size_append]; omega
                  have a4 : (bs (Nm.short 0) ++ bs (Bt.sized ky) ++ bs (Nm.short sq) ++ (⟨#[0]⟩ : ByteArray) ++ bs (Bt.sized vl)).size ≤ 214 := by rw [ByteArray.size_append]; omega
                  have r1 : ∀ W, (Op.stringOp .add (bs (Nm.short 0)) (bs (Bt.sized ky))).run Try.prog W = .ok (.string (bs (Nm.short 0) ++ bs (Bt.sized ky))) W := fun W => run_string_add_sum W _ _ (by omega)
                  have r2 : ∀ W, (Op.stringOp .add (bs (Nm.short 0) ++ bs (Bt.sized ky)) (bs (Nm.short sq))).run Try.prog W = .ok (.string (bs (Nm.short 0) ++ bs (Bt.sized ky) ++ bs (Nm.short sq))) W := fun W => run_string_add_sum W _ _ (by omega)
                  have r3 : ∀ W, (Op.stringOp .add (bs (Nm.short 0) ++ bs (Bt.sized ky) ++ bs (Nm.short sq)) ((⟨#[0]⟩ : ByteArray))).run Try.prog W = .ok (.string (bs (Nm.short 0) ++ bs (Bt.sized ky) ++ bs (Nm.short sq) ++ (⟨#[0]⟩ : ByteArray))) W := fun W => run_string_add_sum W _ _ (by omega)
                  have r4 : ∀ W, (Op.stringOp .add (bs (Nm.short 0) ++ bs (Bt.sized ky) ++ bs (Nm.short sq) ++ (⟨#[0]⟩ : ByteArray)) (bs (Bt.sized vl))).run Try.prog W = .ok (.string (bs (Nm.short 0) ++ bs (Bt.sized ky) ++ bs (Nm.short sq) ++ (⟨#[0]⟩ : ByteArray) ++ bs (Bt.sized vl))) W := fun W => run_string_add_sum W _ _ (by omega)
                  have r5 : ∀ W, (Op.stringOp .add (bs (Bk.E l k)) (bs (Nm.short 0) ++ bs (Bt.sized ky) ++ bs (Nm.short sq) ++ (⟨#[0]⟩ : ByteArray) ++ bs (Bt.sized vl))).run Try.prog W = .ok (.string (bs (Bk.E l k) ++ (bs (Nm.short 0) ++ bs (Bt.sized ky) ++ bs (Nm.short sq) ++ (⟨#[0]⟩ : ByteArray) ++ bs (Bt.sized vl)))) W := fun W => run_string_add_sum W _ _ (by omega)
                  have HEE := Lib.hid (show bs (Bk.E l k) ++ (bs (Nm.short 0) ++ bs (Bt.sized ky) ++ bs (Nm.short sq) ++ (⟨#[0]⟩ : ByteArray) ++ bs (Bt.sized vl)) = bs (Bk.E l k ++ Bk.encE 0 ⟨ky, sq, false, vl⟩) from bs_of (by simp [Bk.encE, Bk.mk, bs, ByteArray.data_append]))
                  clear a1 a2 a3 a4 m1
                  go_wp2_with fail
                  go_region_held3 (fun w' => w'.cell? ⟨wr.heap.size, 0, none⟩ = some (.string (bs ky)) ∧ w'.cell? ⟨wr.heap.size, 1, none⟩ = some (.int .u64 (sq : Nat)) ∧ w'.cell? ⟨wr.heap.size, 3, none⟩ = some (.string (bs vl))) (first | exact KBox.cc (by assumption) | exact KBox.cc I0.out)
                    (first
                    | (go_at_call_of 38 (Value.int .u64 0); refine (HS1.out _ (by first | assumption | exact I0.out)).mono ?_; rintro e w6 ⟨rfl, i6⟩)
                    | (go_at_call_of 38 (Value.int .u64 (sq : Int)); refine (HS2.out _ (by first | assumption | exact I0.out)).mono ?_; rintro e w6 ⟨rfl, i6⟩)
                    | (go_at_call_of 37 (Value.string (bs ky)); refine (HKK.out _ (by first | assumption | exact I0.out)).mono ?_; rintro e w6 ⟨rfl, i6⟩)
                    | (go_at_call_of 37 (Value.string (bs vl)); refine (HVV.out _ (by first | assumption | exact I0.out)).mono ?_; rintro e w6 ⟨rfl, i6⟩))
                  all_goals
                    have hk6 := i6.kp
                    clear i6 HS1 HS2 HKK HVV I0 r1 r2 r3 r4 r5
                    go_wp2_with fail
                    go_roundw
                    case rel => exact ⟨k + 1, by omega, by go_num, by rw [HES.out, ← HEE.out], by rw [← HPP.out], HN, Lib.hid (kept_trans HK.out hk6)⟩
                    case measure => simp [intOf]; omega
                | true =>
                  have m1 : (⟨#[1]⟩ : ByteArray).size = 1 := rfl
                  have a1 : (bs (Nm.short 0) ++ bs (Bt.sized ky)).size ≤ 102 := by rw [ByteArray.size_append]; omega
                  have a2 : (bs (Nm.short 0) ++ bs (Bt.sized ky) ++ bs (Nm.short sq)).size ≤ 112 := by rw [ByteArray.size_append]; omega
                  have a3 : (bs (Nm.short 0) ++ bs (Bt.sized ky) ++ bs (Nm.short sq) ++ (⟨#[1]⟩ : ByteArray)).size ≤ 113 := by rw [ByteArray.size_append]; omega
                  have a4 : (bs (Nm.short 0) ++ bs (Bt.sized ky) ++ bs (Nm.short sq) ++ (⟨#[1]⟩ : ByteArray) ++ bs (Bt.sized vl)).size ≤ 214 := by rw [ByteArray.size_append]; omega
                  have r1 : ∀ W, (Op.stringOp .add (bs (Nm.short 0)) (bs (Bt.sized ky))).run Try.prog W = .ok (.string (bs (Nm.short 0) ++ bs (Bt.sized ky))) W := fun W => run_string_add_sum W _ _ (by omega)
                  have r2 : ∀ W, (Op.stringOp .add (bs (Nm.short 0) ++ bs (Bt.sized ky)) (bs (Nm.short sq))).run Try.prog W = .ok (.string (bs (Nm.short 0) ++ bs (Bt.sized ky) ++ bs (Nm.short sq))) W := fun W => run_string_add_sum W _ _ (by omega)
                  have r3 : ∀ W, (Op.stringOp .add (bs (Nm.short 0) ++ bs (Bt.sized ky) ++ bs (Nm.short sq)) ((⟨#[1]⟩ : ByteArray))).run Try.prog W = .ok (.string (bs (Nm.short 0) ++ bs (Bt.sized ky) ++ bs (Nm.short sq) ++ (⟨#[1]⟩ : ByteArray))) W := fun W => run_string_add_sum W _ _ (by omega)
                  have r4 : ∀ W, (Op.stringOp .add (bs (Nm.short 0) ++ bs (Bt.sized ky) ++ bs (Nm.short sq) ++ (⟨#[1]⟩ : ByteArray)) (bs (Bt.sized vl))).run Try.prog W = .ok (.string (bs (Nm.short 0) ++ bs (Bt.sized ky) ++ bs (Nm.short sq) ++ (⟨#[1]⟩ : ByteArray) ++ bs (Bt.sized vl))) W := fun W => run_string_add_sum W _ _ (by omega)
                  have r5 : ∀ W, (Op.stringOp .add (bs (Bk.E l k)) (bs (Nm.short 0) ++ bs (Bt.sized ky) ++ bs (Nm.short sq) ++ (⟨#[1]⟩ : ByteArray) ++ bs (Bt.sized vl))).run Try.prog W = .ok (.string (bs (Bk.E l k) ++ (bs (Nm.short 0) ++ bs (Bt.sized ky) ++ bs (Nm.short sq) ++ (⟨#[1]⟩ : ByteArray) ++ bs (Bt.sized vl)))) W := fun W => run_string_add_sum W _ _ (by omega)
                  have HEE := Lib.hid (show bs (Bk.E l k) ++ (bs (Nm.short 0) ++ bs (Bt.sized ky) ++ bs (Nm.short sq) ++ (⟨#[1]⟩ : ByteArray) ++ bs (Bt.sized vl)) = bs (Bk.E l k ++ Bk.encE 0 ⟨ky, sq, true, vl⟩) from bs_of (by simp [Bk.encE, Bk.mk, bs, ByteArray.data_append]))
                  clear a1 a2 a3 a4 m1
                  go_wp2_with fail
                  go_region_held3 (fun w' => w'.cell? ⟨wr.heap.size, 0, none⟩ = some (.string (bs ky)) ∧ w'.cell? ⟨wr.heap.size, 1, none⟩ = some (.int .u64 (sq : Nat)) ∧ w'.cell? ⟨wr.heap.size, 3, none⟩ = some (.string (bs vl))) (first | exact KBox.cc (by assumption) | exact KBox.cc I0.out)
                    (first
                    | (go_at_call_of 38 (Value.int .u64 0); refine (HS1.out _ (by first | assumption | exact I0.out)).mono ?_; rintro e w6 ⟨rfl, i6⟩)
                    | (go_at_call_of 38 (Value.int .u64 (sq : Int)); refine (HS2.out _ (by first | assumption | exact I0.out)).mono ?_; rintro e w6 ⟨rfl, i6⟩)
                    | (go_at_call_of 37 (Value.string (bs ky)); refine (HKK.out _ (by first | assumption | exact I0.out)).mono ?_; rintro e w6 ⟨rfl, i6⟩)
                    | (go_at_call_of 37 (Value.string (bs vl)); refine (HVV.out _ (by first | assumption | exact I0.out)).mono ?_; rintro e w6 ⟨rfl, i6⟩))
                  all_goals
                    have hk6 := i6.kp
                    clear i6 HS1 HS2 HKK HVV I0 r1 r2 r3 r4 r5
                    go_wp2_with fail
                    go_roundw
                    case rel => exact ⟨k + 1, by omega, by go_num, by rw [HES.out, ← HEE.out], by rw [← HPP.out], HN, Lib.hid (kept_trans HK.out hk6)⟩
                    case measure => simp [intOf]; omega
              · have d4 : (((k : Int) % 4) == 0) = false := by simp; omega
                have HPS := Lib.hid (Bk.P_no (l := l) h4)
                obtain ⟨j, hj⟩ : ∃ j, j + 1 = k := ⟨k - 1, by omega⟩
                have hjl : j < l.length := by omega
                obtain ⟨z, hz⟩ : ∃ z, l[j]? = some z := ⟨_, List.getElem?_eq_getElem hjl⟩
                have hmz := (HO.out z (List.mem_of_getElem? hz)).1
                obtain ⟨b', o', eA, hbb, y0, _, _, _⟩ := hEl j z hz
                cases eA
                have hs2 : Bk.sh z.key ky = Bk.shr l k := by
                  have := shr_two' (l := l) (j := j) (x := z) (by omega) hz (by rw [hj]; exact HX.out)
                  rw [hj] at this; exact this.symm
                have hsh := krshared_n z.key ky hmz (by unfold maxLen; omega)
                rw [hs2] at hsh
                have HSH := Lib.hid hsh
                have u1 : (k : Int) - 1 = (j : Int) := by omega
                have u2 : IntKind.i64.wrap (j : Int) = (j : Int) := wrap_nat (by omega)
                have HJ := Lib.hid hj
                clear h4 hj hz hmz hs2 hsh hP hE
                go_wp2_with fail
                refine (HM.out _).mono ?_
                rintro e w2 ⟨rfl, g2⟩
                have ib0 : KBox wr wr.heap.size ⟨ky, sq, d, vl⟩ w2 := (kbox_new wr ⟨ky, sq, d, vl⟩).kept g2
                have f0 := blk_cell ib0.bk 0
                simp only [List.getElem?_toArray, List.getElem?_cons_zero] at f0
                have hkw : Kept wr w2 := ib0.kp
                have y1 := (kept_cell hkw (p := ⟨b, o + j * 4, none⟩) hbb).trans y0
                have HSH2 := Lib.hid (HSH.out w2)
                generalize Bk.shr l k = n at *
                clear g2 HM
                go_wp2_with fail
                go_quiet ((go_at_call 65; exact HSH2.out _))
                have ib := ib0.kept (kept_drewN w2 nq)
                have hw : IntKind.u64.wrap (n : Int) = (n : Int) := by rw [IntKind.wrap_u64]; omega
                clear ib0 f0 hkw y1 y0 u1 u2 HSH2 HSH
                have hs1 := rshort_any (n : Int) (by omega) (by omega)
                have hs2 := rshort_any (sq : Int) (by omega) (by omega)
                rw [Int.toNat_natCast] at hs2
                rw [Int.toNat_natCast] at hs1
                have hkk := krtext_any (ky.drop n) (by rw [List.length_drop]; omega)
                have hvv := krtext_any vl k3
                have z1 : (bs (Nm.short n)).size = 1 := by rw [fbs_size, Nm.short_len _ (by omega), Nm.sz_small _ (by omega)]
                have z2 : (bs (Nm.short sq)).size ≤ 10 := by rw [fbs_size, Nm.short_len _ (by omega)]; exact (Nm.sz_le _ (by omega)).2
                have z3 : (bs (Bt.sized (ky.drop n))).size ≤ 101 := by rw [fbs_size]; exact (Bt.sized_len (by rw [List.length_drop]; omega)).2
                have z4 : (bs (Bt.sized vl)).size ≤ 101 := by rw [fbs_size]; exact (Bt.sized_len k3).2
                have zk := fbs_size ky
                have zk2 : n ≤ (bs ky).size := by omega
                have hx : (bs ky).extract n (bs ky).size = bs (ky.drop n) := extract_drop ky n
                have I0 := Lib.hid (ib.kept (kept_drewN _ 1))
                have HS1 := Lib.hid (kbox_inv (w0 := wr) (bx := wr.heap.size) (x := ⟨ky, sq, d, vl⟩) hs1)
                have HS2 := Lib.hid (kbox_inv (w0 := wr) (bx := wr.heap.size) (x := ⟨ky, sq, d, vl⟩) hs2)
                have HKK := Lib.hid (kbox_inv (w0 := wr) (bx := wr.heap.size) (x := ⟨ky, sq, d, vl⟩) hkk)
                have HVV := Lib.hid (kbox_inv (w0 := wr) (bx := wr.heap.size) (x := ⟨ky, sq, d, vl⟩) hvv)
                have e0 := blk_cell ib.bk 0; have e1 := blk_cell ib.bk 1; have e2 := blk_cell ib.bk 2; have e3 := blk_cell ib.bk 3
                simp only [List.getElem?_toArray, List.getElem?_cons_zero, List.getElem?_cons_succ] at e0 e1 e2 e3
                clear hs1 hs2 hkk hvv ib zk
                cases d with
                | false =>
                  have m1 : (⟨#[0]⟩ : ByteArray).size = 1 := rfl
                  have a1 : (bs (Nm.short n) ++ bs (Bt.sized (ky.drop n))).size ≤ 102 := by rw [ByteArray.size_append]; omega
                  have a2 : (bs (Nm.short n) ++ bs (Bt.sized (ky.drop n)) ++ bs (Nm.short sq)).size ≤ 112 := by rw [ByteArray.size_append]; omega
                  have a3 : (bs (Nm.short n) ++ bs (Bt.sized (ky.drop n)) ++ bs (Nm.short sq) ++ (⟨#[0]⟩ : ByteArray)).size ≤ 113 := by rw [ByteArray.size_append]; omega
                  have a4 : (bs (Nm.short n) ++ bs (Bt.sized (ky.drop n)) ++ bs (Nm.short sq) ++ (⟨#[0]⟩ : ByteArray) ++ bs (Bt.sized vl)).size ≤ 214 := by rw [ByteArray.size_append]; omega
                  have r1 : ∀ W, (Op.stringOp .add (bs (Nm.short n)) (bs (Bt.sized (ky.drop n)))).run Try.prog W = .ok (.string (bs (Nm.short n) ++ bs (Bt.sized (ky.drop n)))) W := fun W => run_string_add_sum W _ _ (by omega)
                  have r2 : ∀ W, (Op.stringOp .add (bs (Nm.short n) ++ bs (Bt.sized (ky.drop n))) (bs (Nm.short sq))).run Try.prog W = .ok (.string (bs (Nm.short n) ++ bs (Bt.sized (ky.drop n)) ++ bs (Nm.short sq))) W := fun W => run_string_add_sum W _ _ (by omega)
                  have r3 : ∀ W, (Op.stringOp .add (bs (Nm.short n) ++ bs (Bt.sized (ky.drop n)) ++ bs (Nm.short sq)) ((⟨#[0]⟩ : ByteArray))).run Try.prog W = .ok (.string (bs (Nm.short n) ++ bs (Bt.sized (ky.drop n)) ++ bs (Nm.short sq) ++ (⟨#[0]⟩ : ByteArray))) W := fun W => run_string_add_sum W _ _ (by omega)
                  have r4 : ∀ W, (Op.stringOp .add (bs (Nm.short n) ++ bs (Bt.sized (ky.drop n)) ++ bs (Nm.short sq) ++ (⟨#[0]⟩ : ByteArray)) (bs (Bt.sized vl))).run Try.prog W = .ok (.string (bs (Nm.short n) ++ bs (Bt.sized (ky.drop n)) ++ bs (Nm.short sq) ++ (⟨#[0]⟩ : ByteArray) ++ bs (Bt.sized vl))) W := fun W => run_string_add_sum W _ _ (by omega)
                  have r5 : ∀ W, (Op.stringOp .add (bs (Bk.E l k)) (bs (Nm.short n) ++ bs (Bt.sized (ky.drop n)) ++ bs (Nm.short sq) ++ (⟨#[0]⟩ : ByteArray) ++ bs (Bt.sized vl))).run Try.prog W = .ok (.string (bs (Bk.E l k) ++ (bs (Nm.short n) ++ bs (Bt.sized (ky.drop n)) ++ bs (Nm.short sq) ++ (⟨#[0]⟩ : ByteArray) ++ bs (Bt.sized vl)))) W := fun W => run_string_add_sum W _ _ (by omega)
                  have HEE := Lib.hid (show bs (Bk.E l k) ++ (bs (Nm.short n) ++ bs (Bt.sized (ky.drop n)) ++ bs (Nm.short sq) ++ (⟨#[0]⟩ : ByteArray) ++ bs (Bt.sized vl)) = bs (Bk.E l k ++ Bk.encE n ⟨ky, sq, false, vl⟩) from bs_of (by simp [Bk.encE, Bk.mk, bs, ByteArray.data_append]))
                  clear a1 a2 a3 a4 m1
                  go_wp2_with fail
                  go_region_held3 (fun w' => w'.cell? ⟨wr.heap.size, 0, none⟩ = some (.string (bs ky)) ∧ w'.cell? ⟨wr.heap.size, 1, none⟩ = some (.int .u64 (sq : Nat)) ∧ w'.cell? ⟨wr.heap.size, 3, none⟩ = some (.string (bs vl))) (first | exact KBox.cc (by assumption) | exact KBox.cc I0.out)
                    (first
                    | (go_at_call_of 38 (Value.int .u64 (n : Int)); refine (HS1.out _ (by first | assumption | exact I0.out)).mono ?_; rintro e w6 ⟨rfl, i6⟩)
                    | (go_at_call_of 38 (Value.int .u64 (sq : Int)); refine (HS2.out _ (by first | assumption | exact I0.out)).mono ?_; rintro e w6 ⟨rfl, i6⟩)
                    | (go_at_call_of 37 (Value.string (bs (ky.drop n))); refine (HKK.out _ (by first | assumption | exact I0.out)).mono ?_; rintro e w6 ⟨rfl, i6⟩)
                    | (go_at_call_of 37 (Value.string (bs vl)); refine (HVV.out _ (by first | assumption | exact I0.out)).mono ?_; rintro e w6 ⟨rfl, i6⟩))
                  all_goals
                    have hk6 := i6.kp
                    clear i6 HS1 HS2 HKK HVV I0 r1 r2 r3 r4 r5
                    go_wp2_with fail
                    go_roundw
                    case rel => exact ⟨k + 1, by omega, by go_num, by rw [HES.out, ← HEE.out], by rw [HPS.out], HN, Lib.hid (kept_trans HK.out hk6)⟩
                    case measure => simp [intOf]; omega
                | true =>
                  have m1 : (⟨#[1]⟩ : ByteArray).size = 1 := rfl
                  have a1 : (bs (Nm.short n) ++ bs (Bt.sized (ky.drop n))).size ≤ 102 := by rw [ByteArray.size_append]; omega
                  have a2 : (bs (Nm.short n) ++ bs (Bt.sized (ky.drop n)) ++ bs (Nm.short sq)).size ≤ 112 := by rw [ByteArray.size_append]; omega
                  have a3 : (bs (Nm.short n) ++ bs (Bt.sized (ky.drop n)) ++ bs (Nm.short sq) ++ (⟨#[1]⟩ : ByteArray)).size ≤ 113 := by rw [ByteArray.size_append]; omega
                  have a4 : (bs (Nm.short n) ++ bs (Bt.sized (ky.drop n)) ++ bs (Nm.short sq) ++ (⟨#[1]⟩ : ByteArray) ++ bs (Bt.sized vl)).size ≤ 214 := by rw [ByteArray.size_append]; omega
                  have r1 : ∀ W, (Op.stringOp .add (bs (Nm.short n)) (bs (Bt.sized (ky.drop n)))).run Try.prog W = .ok (.string (bs (Nm.short n) ++ bs (Bt.sized (ky.drop n)))) W := fun W => run_string_add_sum W _ _ (by omega)
                  have r2 : ∀ W, (Op.stringOp .add (bs (Nm.short n) ++ bs (Bt.sized (ky.drop n))) (bs (Nm.short sq))).run Try.prog W = .ok (.string (bs (Nm.short n) ++ bs (Bt.sized (ky.drop n)) ++ bs (Nm.short sq))) W := fun W => run_string_add_sum W _ _ (by omega)
                  have r3 : ∀ W, (Op.stringOp .add (bs (Nm.short n) ++ bs (Bt.sized (ky.drop n)) ++ bs (Nm.short sq)) ((⟨#[1]⟩ : ByteArray))).run Try.prog W = .ok (.string (bs (Nm.short n) ++ bs (Bt.sized (ky.drop n)) ++ bs (Nm.short sq) ++ (⟨#[1]⟩ : ByteArray))) W := fun W => run_string_add_sum W _ _ (by omega)
                  have r4 : ∀ W, (Op.stringOp .add (bs (Nm.short n) ++ bs (Bt.sized (ky.drop n)) ++ bs (Nm.short sq) ++ (⟨#[1]⟩ : ByteArray)) (bs (Bt.sized vl))).run Try.prog W = .ok (.string (bs (Nm.short n) ++ bs (Bt.sized (ky.drop n)) ++ bs (Nm.short sq) ++ (⟨#[1]⟩ : ByteArray) ++ bs (Bt.sized vl))) W := fun W => run_string_add_sum W _ _ (by omega)
                  have r5 : ∀ W, (Op.stringOp .add (bs (Bk.E l k)) (bs (Nm.short n) ++ bs (Bt.sized (ky.drop n)) ++ bs (Nm.short sq) ++ (⟨#[1]⟩ : ByteArray) ++ bs (Bt.sized vl))).run Try.prog W = .ok (.string (bs (Bk.E l k) ++ (bs (Nm.short n) ++ bs (Bt.sized (ky.drop n)) ++ bs (Nm.short sq) ++ (⟨#[1]⟩ : ByteArray) ++ bs (Bt.sized vl)))) W := fun W => run_string_add_sum W _ _ (by omega)
                  have HEE := Lib.hid (show bs (Bk.E l k) ++ (bs (Nm.short n) ++ bs (Bt.sized (ky.drop n)) ++ bs (Nm.short sq) ++ (⟨#[1]⟩ : ByteArray) ++ bs (Bt.sized vl)) = bs (Bk.E l k ++ Bk.encE n ⟨ky, sq, true, vl⟩) from bs_of (by simp [Bk.encE, Bk.mk, bs, ByteArray.data_append]))
                  clear a1 a2 a3 a4 m1
                  go_wp2_with fail
                  go_region_held3 (fun w' => w'.cell? ⟨wr.heap.size, 0, none⟩ = some (.string (bs ky)) ∧ w'.cell? ⟨wr.heap.size, 1, none⟩ = some (.int .u64 (sq : Nat)) ∧ w'.cell? ⟨wr.heap.size, 3, none⟩ = some (.string (bs vl))) (first | exact KBox.cc (by assumption) | exact KBox.cc I0.out)
                    (first
                    | (go_at_call_of 38 (Value.int .u64 (n : Int)); refine (HS1.out _ (by first | assumption | exact I0.out)).mono ?_; rintro e w6 ⟨rfl, i6⟩)
                    | (go_at_call_of 38 (Value.int .u64 (sq : Int)); refine (HS2.out _ (by first | assumption | exact I0.out)).mono ?_; rintro e w6 ⟨rfl, i6⟩)
                    | (go_at_call_of 37 (Value.string (bs (ky.drop n))); refine (HKK.out _ (by first | assumption | exact I0.out)).mono ?_; rintro e w6 ⟨rfl, i6⟩)
                    | (go_at_call_of 37 (Value.string (bs vl)); refine (HVV.out _ (by first | assumption | exact I0.out)).mono ?_; rintro e w6 ⟨rfl, i6⟩))
                  all_goals
                    have hk6 := i6.kp
                    clear i6 HS1 HS2 HKK HVV I0 r1 r2 r3 r4 r5
                    go_wp2_with fail
                    go_roundw
                    case rel => exact ⟨k + 1, by omega, by go_num, by rw [HES.out, ← HEE.out], by rw [HPS.out], HN, Lib.hid (kept_trans HK.out hk6)⟩
                    case measure => simp [intOf]; omega
          · have e : k = l.length := by omega
            subst e
            have hall : ∀ x ∈ l, Mm.may x = true := by have := HF.out; rw [List.take_length] at this; exact this
            have HYY := Lib.hid (HYES.out (Bk.isB_iff.2 ⟨by omega, by omega, hall, HROW.out⟩))
            have z1 : (bs (Bk.E l l.length)).size ≤ 7000 := by rw [fbs_size]; omega
            have z2 : (bs (Bk.P l l.length)).size ≤ 100 := by rw [fbs_size]; omega
            have z3 : (bs (Nm.long l.length)).size = 8 := by rw [fbs_size, Nm.long_len]
            have z4 : (bs (Bk.E l l.length) ++ bs (Bk.P l l.length)).size ≤ 7100 := by rw [ByteArray.size_append]; omega
            have HENC := Lib.hid (show bs (Bk.E l l.length) ++ bs (Bk.P l l.length) ++ bs (Nm.long l.length) = bs (Bk.enc l) from bs_of (by simp [Bk.enc, bs, ByteArray.data_append]))
            have hw : IntKind.u64.wrap (l.length : Int) = (l.length : Int) := by rw [IntKind.wrap_u64]; omega
            clear hall hE hP
            go_wp2_with fail
            refine (HLG.out _).mono ?_
            rintro e w4 ⟨rfl, g4⟩
            go_wp2_with fail
            go_ret2
            exact ⟨by rw [HYY.out.1, HYY.out.2, ← HENC.out]; rfl, kept_trans HK.out g4⟩
end Go.Proofs.Ytecjnebfhbdnaaa
