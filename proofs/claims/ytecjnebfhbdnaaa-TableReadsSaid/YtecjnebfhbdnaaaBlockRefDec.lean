/-
  The document's own Decode and Seek of layer 9: the same as the program's.
-/
import Derived.Test.YtecjnebfhbdnaaaBlockRef
namespace Go.Proofs.Ytecjnebfhbdnaaa
open Go.ChangeShapes Go.WideShapes Go.ChangeAt Go.RowKit
set_option linter.unusedVariables false
set_option maxRecDepth 100000
set_option maxHeartbeats 4000000

namespace Bk
/-- an entry that is read strictly behind a key, and what is left -/
def rdR (A R : List UInt8) : Option (Mm.Ent × List UInt8) := match Nm.take R with
  | none => none
  | some (n, R1) => if A.length < n then none else match Bt.takeT R1 with
    | none => none
    | some (t, R2) => match Nm.take R2 with
      | none => none
      | some (sq, R3) => match R3 with
        | [] => none
        | c :: R4 => match Bt.takeT R4 with
          | none => none
          | some (v, R5) => some (⟨A.take n ++ t, sq, decide (c = 1), v⟩, R5)
def rdL : Nat → List UInt8 → List UInt8 → Option (List Mm.Ent)
  | 0, _, _ => some []
  | c + 1, A, R => match rdR A R with
    | none => none
    | some (x, R') => (rdL c x.key R').map (x :: ·)
theorem rdR_enc {A T : List UInt8} {n : Nat} {x : Mm.Ent} (hx : Mm.may x = true) (h1 : n ≤ A.length) (h2 : n ≤ x.key.length) (h3 : A.take n = x.key.take n) : rdR A (encE n x ++ T) = some (x, T) := by
  obtain ⟨k1, k2, k3, k4, k5, k6⟩ := Mm.may_iff.1 hx
  have hk : (x.key.drop n).length < 18446744073709551616 := by rw [List.length_drop]; omega
  unfold rdR encE
  simp only [List.append_assoc, List.cons_append]
  rw [Nm.take_short _ _ (by omega)]
  simp only
  rw [if_neg (by omega), Bt.takeT_sized _ _ hk]
  simp only
  rw [Nm.take_short _ _ (by omega)]
  simp only
  rw [Bt.takeT_sized _ _ (by omega)]
  simp only
  rw [h3, List.take_append_drop]
  obtain ⟨k, s, d, v⟩ := x
  cases d <;> simp [mk]
theorem rdL_enc {l : List Mm.Ent} (hl : ∀ x ∈ l, Mm.may x = true) (T : List UInt8) : ∀ (c k : Nat), k + c = l.length → rdL c (pre l k) (F l k c ++ T) = some (l.drop k)
  | 0, k, h => by rw [rdL, List.drop_of_length_le (by omega)]
  | c + 1, k, h => by
    have hk : k < l.length := by omega
    have hx : l[k]? = some l[k] := List.getElem?_eq_getElem hk
    have hm : l[k] ∈ l := List.getElem_mem hk
    rw [List.drop_eq_getElem_cons hk]
    generalize l[k] = x at hx hm
    obtain ⟨s1, s2⟩ := shr_take hx
    rw [rdL, F, piece_is hx, List.append_assoc, rdR_enc (hl x hm) s1 (shr_le hx) s2]
    simp only
    rw [← pre_succ hx, rdL_enc hl T c (k + 1) (by omega)]
    rfl
/-- what is told by the bytes of a row is that row -/
theorem rdL_dec {s : List UInt8} {l : List Mm.Ent} (h : dec s = some l) : rdL (count s) [] s = some l := by
  obtain ⟨hb, rfl⟩ := dec_back h
  obtain ⟨h1, h2, h3, h4⟩ := isB_iff.1 hb
  rw [count_enc h2]
  have := rdL_enc h3 (P l l.length ++ Nm.long l.length) l.length 0 (by omega)
  rw [F_all] at this
  unfold enc
  simpa [pre] using this
theorem dec_of {s : List UInt8} {L : List Mm.Ent} (h : rdL (count s) [] s = some L) : (isB L = true ∧ enc L = s ∧ dec s = some L) ∨ (isB L = false ∧ dec s = none) ∨ (isB L = true ∧ enc L ≠ s ∧ dec s = none) := by
  cases hd : dec s with
  | some l =>
    have := rdL_dec hd
    rw [h] at this
    injection this with this
    subst this
    obtain ⟨h1, h2⟩ := dec_back hd
    exact .inl ⟨h1, h2, rfl⟩
  | none =>
    right
    cases hb : isB L with
    | false => exact .inl ⟨rfl, rfl⟩
    | true => exact .inr ⟨rfl, fun e => dec_none hd ⟨hb, e⟩, rfl⟩
theorem dec_no {s : List UInt8} (h : rdL (count s) [] s = none) : dec s = none := by
  cases hd : dec s with
  | none => rfl
  | some l => have := rdL_dec hd; rw [h] at this; cases this
end Bk
theorem takeT_le {R t r : List UInt8} (h : Bt.takeT R = some (t, r)) : t.length + r.length ≤ R.length := by
  have := congrArg List.length (Bt.takeT_back h).1
  unfold Bt.sized at this
  simp only [List.length_append] at this
  omega
theorem ntake_le {R r : List UInt8} {n : Nat} (h : Nm.take R = some (n, r)) : r.length ≤ R.length ∧ n < 18446744073709551616 := by
  obtain ⟨h1, h2⟩ := Nm.take_back _ _ _ h
  have := congrArg List.length h1
  rw [List.length_append] at this
  exact ⟨by omega, h2⟩
theorem rnum_some {R r : List UInt8} {n : Nat} (hs : R.length ≤ 16777216) (h : Nm.take R = some (n, r)) (w : World) :
    Calls Try.prog 91 #[.string (bs R)] w fun e w' => e = .returned (.tuple #[.int .u64 n, .string (bs r), .bool true]) ∧ Kept w w' := by
  have := rtake_any (bs R) (by rw [fbs_size]; unfold maxLen; omega) w
  unfold Nm.takeN Nm.takeR Nm.takeB at this
  rw [bs_data, h] at this
  exact this
theorem rnum_none {R : List UInt8} (hs : R.length ≤ 16777216) (h : Nm.take R = none) (w : World) :
    Calls Try.prog 91 #[.string (bs R)] w fun e w' => e = .returned (.tuple #[.int .u64 0, .string (bs []), .bool false]) ∧ Kept w w' := by
  have := rtake_any (bs R) (by rw [fbs_size]; unfold maxLen; omega) w
  unfold Nm.takeN Nm.takeR Nm.takeB at this
  rw [bs_data, h] at this
  exact this
theorem krtaken_some {R t r : List UInt8} (hs : R.length ≤ 16777216) (h : Bt.takeT R = some (t, r)) (w : World) :
    Calls Try.prog 92 #[.string (bs R)] w fun e w' => e = .returned (.tuple #[.string (bs t), .string (bs r), .bool true]) ∧ Kept w w' := by
  obtain ⟨n, q, hq, hle, rfl, rfl⟩ : ∃ n q, Nm.take R = some (n, q) ∧ n ≤ q.length ∧ t = q.take n ∧ r = q.drop n := by
    unfold Bt.takeT at h
    split at h
    · cases h
    · rename_i n q hq
      split at h
      · injection h with h
        injection h with h1 h2
        exact ⟨n, q, hq, by assumption, h1.symm, h2.symm⟩
      · cases h
  have hb := ntake_le hq
  have HT := Lib.hid (rnum_some hs hq)
  have hz := fbs_size q
  have hz2 : n ≤ (bs q).size := by omega
  have hz3 : (bs q).size ≤ 16777216 := by omega
  have hx : (bs q).extract 0 n = bs (q.take n) := extract_take q n
  have hy : (bs q).extract n (bs q).size = bs (q.drop n) := extract_drop q n
  have d1 : decide (((bs q).size : Int) < (n : Int)) = false := decide_eq_false (by omega)
  have hw : IntKind.u64.wrap ((bs q).size : Int) = ((bs q).size : Int) := by rw [IntKind.wrap_u64]; omega
  have hw2 : IntKind.i64.wrap (n : Int) = (n : Int) := wrap_nat (by omega)
  clear h hq hz hle
  go_enter Try.func92, Try.ntmps92
  go_wp2_with fail
  refine (HT.out _).mono ?_
  rintro e w1 ⟨rfl, g1⟩
  go_wp2_with fail
  go_quiet (fail)
  go_wp2_with fail
  go_ret3
  exact ⟨rfl, kept_trans g1 (kept_drewN _ _)⟩
theorem krtaken_none {R : List UInt8} (hs : R.length ≤ 16777216) (h : Bt.takeT R = none) (w : World) :
    Calls Try.prog 92 #[.string (bs R)] w fun e w' => e = .returned (.tuple #[.string (bs []), .string (bs []), .bool false]) ∧ Kept w w' := by
  cases hq : Nm.take R with
  | none =>
    have HT := Lib.hid (rnum_none hs hq)
    clear h hq
    go_enter Try.func92, Try.ntmps92
    go_wp2_with fail
    refine (HT.out _).mono ?_
    rintro e w1 ⟨rfl, g1⟩
    go_wp2_with fail
    go_ret3
    exact ⟨rfl, g1⟩
  | some x =>
    obtain ⟨n, q⟩ := x
    have hlt : q.length < n := by
      unfold Bt.takeT at h
      rw [hq] at h
      simp only at h
      split at h
      · cases h
      · omega
    have hb := ntake_le hq
    have hz := fbs_size q
    have HT := Lib.hid (rnum_some hs hq)
    have d1 : decide (((bs q).size : Int) < (n : Int)) = true := decide_eq_true (by omega)
    have hz3 : (bs q).size ≤ 16777216 := by omega
    have hw : IntKind.u64.wrap ((bs q).size : Int) = ((bs q).size : Int) := by rw [IntKind.wrap_u64]; omega
    clear h hq hz
    go_enter Try.func92, Try.ntmps92
    go_wp2_with fail
    refine (HT.out _).mono ?_
    rintro e w1 ⟨rfl, g1⟩
    go_wp2_with fail
    go_ret3
    exact ⟨rfl, g1⟩
/-- what is told of a list and what follows: a list with more behind it, or none -/
def moreE (L : List Mm.Ent) (o : Option (List Mm.Ent)) : Option (List Mm.Ent) := o.map (L ++ ·)
theorem moreE_step {L : List Mm.Ent} {c : Nat} {A R R' : List UInt8} {x : Mm.Ent} (h : Bk.rdR A R = some (x, R')) : moreE L (Bk.rdL (c + 1) A R) = moreE (L ++ [x]) (Bk.rdL c x.key R') := by
  unfold moreE
  rw [Bk.rdL, h]
  simp only
  cases Bk.rdL c x.key R' <;> simp
theorem moreE_stop {L : List Mm.Ent} {c : Nat} {A R : List UInt8} (h : Bk.rdR A R = none) : moreE L (Bk.rdL (c + 1) A R) = none := by
  unfold moreE
  rw [Bk.rdL, h]
  rfl
theorem krdecode_any (s : List UInt8) (hs : s.length ≤ 262144) (w : World) :
    Calls Try.prog 71 #[.string (bs s)] w (KDec w (Bk.dec s)) := by
  obtain ⟨i0, hi, hz0, hz1, hz2⟩ := info_parts mentInfo
  have HI := Lib.hid hi; have HZ0 := Lib.hid hz0; have HZ1 := Lib.hid hz1; have HZ2 := Lib.hid hz2
  have hC32 := Bk.count_le s
  have HCT := Lib.hid (krcount_any s (by omega))
  obtain ⟨O, hO⟩ : ∃ O, O = Bk.rdL (Bk.count s) [] s := ⟨_, rfl⟩
  have HNO := Lib.hid (fun (h : O = none) => Bk.dec_no (s := s) (hO.symm.trans h))
  have HOF := Lib.hid (fun L (h : O = some L) => Bk.dec_of (s := s) (L := L) (hO.symm.trans h))
  have HRD := Lib.hid (show O = moreE [] (Bk.rdL (Bk.count s - 0) [] s) by rw [hO]; unfold moreE; rw [Nat.sub_zero]; cases Bk.rdL (Bk.count s) [] s <;> simp)
  clear hO
  generalize Bk.count s = C at *
  generalize Bk.dec s = D at *
  have HO0 := Lib.hid (World.ownsRow_lit (base := w.heap.size) (e := 37) (size := 4) w #[] 0 (Nat.le_refl _) (by unfold maxLen; omega) rfl)
  clear hi hz0 hz1 hz2
  go_enter Try.func71, Try.ntmps71
  go_wp2_with fail
  go_loopw [4, 5, 6, 7] (fun r v a t wr => ∃ (k : Nat) (L : List Mm.Ent) (R A : List UInt8), k ≤ C ∧ t = .int .i64 k ∧ r = .string (bs R) ∧ a = .string (bs A) ∧ L.length = k ∧ Hid (O = moreE L (Bk.rdL (C - k) A R)) ∧ R.length ≤ 262144 ∧ A.length ≤ 262144 * k ∧ Hid (OkEl L) ∧ Hid (wr.ownsRow w.heap.size 37 4 v k (elc L)) ∧ Hid (Kept w wr)) (fun _ _ _ t _ => C - (intOf t).toNat)
  case atStart => exact ⟨0, [], s, [], Nat.zero_le _, rfl, rfl, rfl, rfl, HRD, hs, by simp, Lib.hid (fun x hx => by simp at hx), HO0, Lib.hid ((Kept.refl _).alloc _)⟩
  case round =>
    obtain ⟨k, L, R, A, hk, rfl, rfl, rfl, hL, HL, hR, hA, HOK, HO, HK⟩ := hrel
    by_cases hlt : k < C
    · obtain ⟨c, hc⟩ : ∃ c, C - k = c + 1 := ⟨C - k - 1, by omega⟩
      have HST := Lib.hid (fun x R' (h : Bk.rdR A R = some (x, R')) => show O = moreE (L ++ [x]) (Bk.rdL (C - (k + 1)) x.key R') by rw [HL.out, hc, moreE_step h, show C - (k + 1) = c by omega])
      have HSP := Lib.hid (fun (h : Bk.rdR A R = none) => HNO.out (show O = none by rw [HL.out, hc, moreE_stop h]))
      have hAz := fbs_size A
      have hAz1 : (bs A).size ≤ 16777216 := by omega
      have hwA : IntKind.u64.wrap ((bs A).size : Int) = ((bs A).size : Int) := by rw [IntKind.wrap_u64]; omega
      clear hc HL
      cases h1 : Nm.take R with
      | none =>
        have HD := Lib.hid (HSP.out (by unfold Bk.rdR; rw [h1]))
        have HT := Lib.hid (rnum_none (by omega) h1)
        clear h1 hAz
        go_wp2_with fail
        refine (HCT.out _).mono ?_
        rintro e w1 ⟨rfl, rfl⟩
        go_wp2_with fail
        refine (HT.out _).mono ?_
        rintro e w1 ⟨rfl, g1⟩
        go_wp2_with fail
        go_ret2
        exact .inr ⟨HD.out, rfl, kept_trans HK.out g1⟩
      | some p1 =>
        obtain ⟨n, R1⟩ := p1
        obtain ⟨l1, n1⟩ := ntake_le h1
        have HT1 := Lib.hid (rnum_some (by omega) h1)
        by_cases hn : A.length < n
        · have HD := Lib.hid (HSP.out (by unfold Bk.rdR; rw [h1]; simp only; rw [if_pos hn]))
          have d1 : decide (((bs A).size : Int) < (n : Int)) = true := decide_eq_true (by omega)
          clear h1 hAz
          go_wp2_with fail
          refine (HCT.out _).mono ?_
          rintro e w1 ⟨rfl, rfl⟩
          go_wp2_with fail
          refine (HT1.out _).mono ?_
          rintro e w1 ⟨rfl, g1⟩
          go_wp2_with fail
          go_ret2
          exact .inr ⟨HD.out, rfl, kept_trans HK.out g1⟩
        · have d1 : decide (((bs A).size : Int) < (n : Int)) = false := decide_eq_false (by omega)
          cases h2 : Bt.takeT R1 with
          | none =>
            have HD := Lib.hid (HSP.out (by unfold Bk.rdR; rw [h1]; simp only; rw [if_neg hn, h2]))
            have HT2 := Lib.hid (krtaken_none (by omega) h2)
            clear h1 h2 hAz
            go_wp2_with fail
            refine (HCT.out _).mono ?_
            rintro e w1 ⟨rfl, rfl⟩
            go_wp2_with fail
            refine (HT1.out _).mono ?_
            rintro e w1 ⟨rfl, g1⟩
            go_wp2_with fail
            refine (HT2.out _).mono ?_
            rintro e w2 ⟨rfl, g2⟩
            go_wp2_with fail
            go_ret2
            exact .inr ⟨HD.out, rfl, kept_trans HK.out (kept_trans g1 g2)⟩
          | some p2 =>
            obtain ⟨t, R2⟩ := p2
            have l2 := takeT_le h2
            have HT2 := Lib.hid (krtaken_some (by omega) h2)
            have hnA : n ≤ (bs A).size := by omega
            have hwn : IntKind.i64.wrap (n : Int) = (n : Int) := wrap_nat (by omega)
            have hxA : (bs A).extract 0 n = bs (A.take n) := extract_take A n
            have zA : (bs (A.take n)).size ≤ 16777216 := by rw [fbs_size, List.length_take]; omega
            have zt : (bs t).size ≤ 262144 := by rw [fbs_size]; omega
            have hsum : ∀ W, (Op.stringOp .add (bs (A.take n)) (bs t)).run Try.prog W = .ok (.string (bs (A.take n ++ t))) W := fun W => by
              have := run_string_add_sum (P := Try.prog) W (bs (A.take n)) (bs t) (by omega)
              rw [fbs_app] at this
              exact this
            have hKl : (A.take n ++ t).length ≤ 262144 * (k + 1) := by rw [List.length_append, List.length_take]; omega
            cases h3 : Nm.take R2 with
            | none =>
              have HD := Lib.hid (HSP.out (by unfold Bk.rdR; rw [h1]; simp only; rw [if_neg hn, h2]; simp only; rw [h3]))
              have HT3 := Lib.hid (rnum_none (by omega) h3)
              clear h1 h2 h3 hAz
              generalize A.take n ++ t = K1 at *
              go_wp2_with fail
              refine (HCT.out _).mono ?_
              rintro e w1 ⟨rfl, rfl⟩
              go_wp2_with fail
              refine (HT1.out _).mono ?_
              rintro e w1 ⟨rfl, g1⟩
              go_wp2_with fail
              refine (HT2.out _).mono ?_
              rintro e w2 ⟨rfl, g2⟩
              go_wp2_with fail
              refine (HT3.out _).mono ?_
              rintro e w3 ⟨rfl, g3⟩
              go_wp2_with fail
              go_ret2
              exact .inr ⟨HD.out, rfl, kept_trans HK.out (kept_trans g1 (kept_trans g2 g3))⟩
            | some p3 =>
              obtain ⟨sq, R3⟩ := p3
              obtain ⟨l3, n3⟩ := ntake_le h3
              have HT3 := Lib.hid (rnum_some (by omega) h3)
              cases R3 with
              | nil =>
                have HD := Lib.hid (HSP.out (by unfold Bk.rdR; rw [h1]; simp only; rw [if_neg hn, h2]; simp only; rw [h3]))
                have e0 : (bs ([] : List UInt8)).size = 0 := rfl
                clear h1 h2 h3 hAz
                generalize A.take n ++ t = K1 at *
                go_wp2_with fail
                refine (HCT.out _).mono ?_
                rintro e w1 ⟨rfl, rfl⟩
                go_wp2_with fail
                refine (HT1.out _).mono ?_
                rintro e w1 ⟨rfl, g1⟩
                go_wp2_with fail
                refine (HT2.out _).mono ?_
                rintro e w2 ⟨rfl, g2⟩
                go_wp2_with fail
                refine (HT3.out _).mono ?_
                rintro e w3 ⟨rfl, g3⟩
                go_wp2_with fail
                go_ret2
                exact .inr ⟨HD.out, rfl, kept_trans HK.out (kept_trans g1 (kept_trans g2 g3))⟩
              | cons ch R4 =>
                have hR3 := fbs_size (ch :: R4)
                simp only [List.length_cons] at l3 hR3
                have z3 : 1 ≤ (bs (ch :: R4)).size := by omega
                have z3b : (bs (ch :: R4)).size ≤ 16777216 := by omega
                have z3c : 0 < (bs (ch :: R4)).size := by omega
                have hx3 : (bs (ch :: R4)).extract 1 (bs (ch :: R4)).size = bs R4 := extract_drop (ch :: R4) 1
                have hch : (bs (ch :: R4))[0] = ch := rfl
                have d3 : decide (((bs (ch :: R4)).size : Int) = 0) = false := decide_eq_false (by omega)
                have d3b : (((bs (ch :: R4)).size : Int) == 0) = false := by rw [beq_eq_false_iff_ne]; omega
                cases h4 : Bt.takeT R4 with
                | none =>
                  have HD := Lib.hid (HSP.out (by unfold Bk.rdR; rw [h1]; simp only; rw [if_neg hn, h2]; simp only; rw [h3]; simp only; rw [h4]))
                  have HT4 := Lib.hid (krtaken_none (by omega) h4)
                  clear h1 h2 h3 h4 hAz hR3
                  generalize A.take n ++ t = K1 at *
                  go_wp2_with fail
                  refine (HCT.out _).mono ?_
                  rintro e w1 ⟨rfl, rfl⟩
                  go_wp2_with fail
                  refine (HT1.out _).mono ?_
                  rintro e w1 ⟨rfl, g1⟩
                  go_wp2_with fail
                  refine (HT2.out _).mono ?_
                  rintro e w2 ⟨rfl, g2⟩
                  go_wp2_with fail
                  refine (HT3.out _).mono ?_
                  rintro e w3 ⟨rfl, g3⟩
                  go_wp2_with fail
                  refine (HT4.out _).mono ?_
                  rintro e w4 ⟨rfl, g4⟩
                  go_wp2_with fail
                  go_ret2
                  exact .inr ⟨HD.out, rfl, kept_trans HK.out (kept_trans g1 (kept_trans g2 (kept_trans g3 g4)))⟩
                | some p4 =>
                  obtain ⟨v4, R5⟩ := p4
                  have l4 := takeT_le h4
                  have HT4 := Lib.hid (krtaken_some (by omega) h4)
                  have HN := Lib.hid (HST.out ⟨A.take n ++ t, sq, decide (ch = 1), v4⟩ R5 (by unfold Bk.rdR; rw [h1]; simp only; rw [if_neg hn, h2]; simp only; rw [h3]; simp only; rw [h4]))
                  have hdb : ((ch.toNat : Int) == 1) = decide (ch = 1) := by
                    rw [Bool.eq_iff_iff, beq_iff_eq, decide_eq_true_iff]
                    constructor
                    · intro q; exact UInt8.toNat_inj.1 (show ch.toNat = 1 by omega)
                    · intro q; rw [q]; rfl
                  clear h1 h2 h3 h4 hAz hR3
                  generalize decide (ch = 1) = D1 at *
                  have HES := Lib.hid (elc_snoc L ⟨A.take n ++ t, sq, D1, v4⟩)
                  unfold ecs at HES
                  have HOK2 := Lib.hid (show OkEl (L ++ [⟨A.take n ++ t, sq, D1, v4⟩]) from fun x hx => by
                    rw [List.mem_append] at hx
                    rcases hx with hx | hx
                    · exact HOK.out x hx
                    · rw [List.mem_singleton] at hx; subst hx; refine ⟨?_, ?_⟩ <;> (unfold maxLen; simp only [List.length_append, List.length_take] at hKl ⊢; omega))
                  have HLE := Lib.hid hL
                  clear hL HOK
                  generalize A.take n ++ t = K1 at *
                  go_wp2_with fail
                  refine (HCT.out _).mono ?_
                  rintro e w1 ⟨rfl, rfl⟩
                  go_wp2_with fail
                  refine (HT1.out _).mono ?_
                  rintro e w1 ⟨rfl, g1⟩
                  go_wp2_with fail
                  refine (HT2.out _).mono ?_
                  rintro e w2 ⟨rfl, g2⟩
                  go_wp2_with fail
                  refine (HT3.out _).mono ?_
                  rintro e w3 ⟨rfl, g3⟩
                  go_wp2_with fail
                  refine (HT4.out _).mono ?_
                  rintro e w4 ⟨rfl, g4⟩
                  have G4 := Lib.hid (kept_trans g1 (kept_trans g2 (kept_trans g3 g4)))
                  have hown2 := own_kept HO.out G4.out
                  have hsz2 : w.heap.size ≤ w4.heap.size := Below.size (kept_trans HK.out G4.out)
                  clear g1 g2 g3 g4 HO hsum hxA hx3
                  go_wp2_with (at_builtin; refine wpList_append_own _ rfl _ _ 22 rfl w.heap.size 37 i0 zentV 4 48 Try.underlying22 HI.out HZ0.out HZ1.out HZ2.out rfl (by decide) _ k (elc L) rfl (hown2.alloc _) ⟨w4.heap.size, 0, none⟩ 1 1 [.string (bs K1), .int .u64 (sq : Nat), .bool D1, .string (bs v4)] rfl rfl (mcells_new4 _ _ _ _ _ _ _ rfl) (by simp [Value.oneCell']) (by unfold maxLen; omega) (by omega) (by simp; omega) ?_)
                  intro v' w5 hown5 hg _
                  have hrow := fun b hb => (hown2.lt b hb).1
                  have HK5 := Lib.hid (show Kept w w5 from Below.grown ((kept_trans HK.out G4.out).alloc _) hg (by simp; omega) (fun b hb => hrow b hb))
                  rw [← HES.out] at hown5
                  have HO5 := Lib.hid hown5
                  clear hown5 hown2 hg hrow
                  go_wp2_with fail
                  go_roundw
                  case rel => exact ⟨k + 1, _, R5, K1, by omega, by go_num, rfl, rfl, by rw [List.length_append, HLE.out]; rfl, HN, by omega, hKl, HOK2, HO5, HK5⟩
                  case measure => simp [intOf]; omega
    · have e : k = C := by omega
      subst e
      have hO : O = some L := by have := HL.out; rw [Nat.sub_self, Bk.rdL] at this; simpa [moreE] using this
      obtain ⟨B, c, rfl, _, hel⟩ := els_own HO.out
      have HEL := Lib.hid hel
      have HW := Lib.hid (HOF.out L hO)
      have HENC := Lib.hid (fun W (h : Els W B L) => krencode_any c h (by unfold maxLen; omega) HOK.out)
      clear HL HO hR hL hel HRD hO
      rcases HW.out with ⟨hb, he, hD⟩ | ⟨hb, hD⟩ | ⟨hb, he, hD⟩
      · have h1 := Bk.enc_yes hb
        rw [h1.1, h1.2, he] at HENC
        have HOO := Lib.hid hD
        clear h1 hb he hD HW
        go_wp2_with fail
        refine (HCT.out _).mono ?_
        rintro e w1 ⟨rfl, rfl⟩
        go_wp2_with fail
        refine (HENC.out _ HEL.out.els).mono ?_
        rintro e w2 ⟨rfl, g2⟩
        go_wp2_with fail
        go_ret2
        exact .inl ⟨L, B, c, HOO.out, rfl, HEL.out.kept g2, kept_trans HK.out g2⟩
      · have h1 := Bk.enc_no hb
        rw [h1.1, h1.2] at HENC
        have HOO := Lib.hid hD
        clear h1 hb hD HW
        go_wp2_with fail
        refine (HCT.out _).mono ?_
        rintro e w1 ⟨rfl, rfl⟩
        go_wp2_with fail
        refine (HENC.out _ HEL.out.els).mono ?_
        rintro e w2 ⟨rfl, g2⟩
        go_wp2_with fail
        go_ret2
        exact .inr ⟨HOO.out, rfl, kept_trans HK.out g2⟩
      · have h1 := Bk.enc_yes hb
        rw [h1.1, h1.2] at HENC
        have HOO := Lib.hid hD
        have t1 : ((bs (Bk.enc L)).toList == (bs s).toList) = false := by rw [mbs_eq, decide_eq_false he]
        clear h1 hb he hD HW
        generalize Bk.enc L = X at *
        go_wp2_with fail
        refine (HCT.out _).mono ?_
        rintro e w1 ⟨rfl, rfl⟩
        go_wp2_with fail
        refine (HENC.out _ HEL.out.els).mono ?_
        rintro e w2 ⟨rfl, g2⟩
        go_wp2_with fail
        go_ret2
        exact .inr ⟨HOO.out, rfl, kept_trans HK.out g2⟩
theorem krdecode_some {s : List UInt8} {l : List Mm.Ent} (hs : s.length ≤ 262144) (h : Bk.dec s = some l) (w : World) :
    Calls Try.prog 71 #[.string (bs s)] w fun e w' => ∃ B c, e = .returned (.tuple #[.slice B l.length c, .int .i64 0]) ∧ Elr w.heap.size w' B c l ∧ Kept w w' := by
  refine (krdecode_any s hs w).mono fun e w' ht => ?_
  rcases ht with ⟨l', B, c, hO, rfl, h1, h2⟩ | ⟨hO, _⟩
  · rw [h] at hO
    injection hO with hO
    subst hO
    exact ⟨B, c, rfl, h1, h2⟩
  · rw [h] at hO; cases hO
theorem krdecode_none {s : List UInt8} (hs : s.length ≤ 262144) (h : Bk.dec s = none) (w : World) :
    Calls Try.prog 71 #[.string (bs s)] w fun e w' => e = .returned (.tuple #[.slice none 0 0, .int .i64 2]) ∧ Kept w w' := by
  refine (krdecode_any s hs w).mono fun e w' ht => ?_
  rcases ht with ⟨l', B, c, hO, _⟩ | ⟨_, rfl, h2⟩
  · rw [h] at hO; cases hO
  · exact ⟨rfl, h2⟩
theorem rah_m (x : Mm.Ent) (k : List UInt8) (s : Nat) (W : World) (n : Nat) :
    Calls Try.prog 51 #[.string (bs x.key), .int .u64 (x.seq : Nat), .string (bs k), .int .u64 (s : Nat)] (W.drewN n) fun e w' => e = .returned (.bool (x.ah k s)) ∧ ∃ q, w' = W.drewN q :=
  (rahead_any x.key x.seq k s (W.drewN n)).mono fun e w' ⟨h1, h2⟩ => ⟨h1, n, h2.symm⟩
end Go.Proofs.Ytecjnebfhbdnaaa
