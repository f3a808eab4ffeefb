/-
  Package col: which locks, writes and leases may be, as the code tells it; a kind's byte.
-/
import Derived.Test.YtdmnmbomijnjeaaColMem
import Derived.Test.YtdmnmbomijnjeaaKeyFns
import Derived.Test.YtdmnmbomijnjeaaBuilder
import Derived.RegionTactic
import Derived.BigRegion
import Derived.BigQuiet
import Derived.Deep.QuietTactic
import Derived.Deep.RegionHeld3
import Derived.Deep.CutRange
import Derived.Lib.Hide
namespace Go.Proofs.Ytdmnmbomijnjeaa
open Go.ChangeShapes Go.WideShapes Go.ChangeAt Go.RowKit
set_option linter.unusedVariables false
set_option maxRecDepth 100000
set_option maxHeartbeats 4000000
open Co
theorem clcnt_any (n : Int) (h : 0 ≤ n) (w : World) :
    Calls Try.prog 42 #[.int .u64 n] w fun e w' => e = .returned (.bool (cnt n.toNat)) ∧ w = w' := by
  have HM := Lib.hid (show cnt n.toNat = decide (1 ≤ n ∧ n ≤ 1099511627776) from by unfold cnt; rw [decide_eq_decide]; omega)
  by_cases h1 : 1 ≤ n
  · by_cases h2 : n ≤ 1099511627776
    · go_enter Try.func42, Try.ntmps42
      go_wp2
      go_ret
      exact ⟨ret_bool (by rw [HM.out, Bool.eq_iff_iff]; simp <;> omega), rfl⟩
    · go_enter Try.func42, Try.ntmps42
      go_wp2
      go_ret
      exact ⟨ret_bool (by rw [HM.out, Bool.eq_iff_iff]; simp <;> omega), rfl⟩
  · go_enter Try.func42, Try.ntmps42
    go_wp2
    go_ret
    exact ⟨ret_bool (by rw [HM.out, Bool.eq_iff_iff]; simp <;> omega), rfl⟩
theorem cllays_any (k : Int) (w : World) :
    Calls Try.prog 43 #[.int .i64 k] w fun e w' => e = .returned (.bool (lays k)) ∧ w = w' := by
  have HM := Lib.hid (show lays k = decide (k = 1 ∨ k = 2) from rfl)
  by_cases h1 : k = 1
  · have d1 : (k == 1) = true := by simp [h1]
    have H1 := Lib.hid h1
    clear h1
    go_enter Try.func43, Try.ntmps43
    go_wp2
    go_ret
    exact ⟨ret_bool (by rw [HM.out, decide_eq_true (.inl H1.out)]), rfl⟩
  · have d1 : (k == 1) = false := by simp [h1]
    have H1 := Lib.hid h1
    have H2 := Lib.hid (show (k == 2) = decide (k = 1 ∨ k = 2) from by rw [Bool.eq_iff_iff]; simp [h1])
    clear h1
    go_enter Try.func43, Try.ntmps43
    go_wp2
    go_ret
    exact ⟨ret_bool (by rw [HM.out, H2.out]), rfl⟩
theorem clmayK_any (l : Lk) (hp : l.p.length ≤ maxLen) (ha : l.a ≤ 18446744073709551615) (w : World) :
    Calls Try.prog 25 #[.agg #[.string (bs l.p), .int .u64 (l.s : Nat), .int .i64 l.k, .int .u64 (l.a : Nat)]] w fun e w' => e = .returned (.bool (isK l)) ∧ Kept w w' := by
  obtain ⟨p, s, k, a⟩ := l
  dsimp only at *
  have h1 := kmay_any (bs p) (by rw [clbs_size]; exact hp)
  rw [bs_data] at h1
  have h2 := clcnt_any (s : Int) (by omega)
  rw [Int.toNat_natCast] at h2
  have h3 := cllays_any k
  have HI := Lib.hid (show isK ⟨p, s, k, a⟩ = (Ky.may p && (cnt s && (lays k && decide ((a : Int) ≤ 1099511627776)))) from by
    unfold isK Ky.may; dsimp only
    rw [show decide ((a : Int) ≤ 1099511627776) = decide (a ≤ 1099511627776) from decide_eq_decide.2 (by omega)])
  generalize isK ⟨p, s, k, a⟩ = R at *
  generalize Ky.may p = B1 at *
  generalize cnt s = B2 at *
  generalize lays k = B3 at *
  have H1 := Lib.hid h1; have H2 := Lib.hid h2; have H3 := Lib.hid h3
  clear h1 h2 h3
  cases B1 with
  | false =>
    go_enter Try.func25, Try.ntmps25
    go_wp2_with fail
    refine (H1.out _).mono ?_
    rintro e w1 ⟨rfl, rfl⟩
    go_wp2_with fail
    go_ret
    exact ⟨by rw [HI.out]; rfl, (Kept.refl _).alloc _⟩
  | true =>
  cases B2 with
  | false =>
    go_enter Try.func25, Try.ntmps25
    go_wp2_with fail
    refine (H1.out _).mono ?_
    rintro e w1 ⟨rfl, rfl⟩
    go_wp2_with fail
    refine (H2.out _).mono ?_
    rintro e w1 ⟨rfl, rfl⟩
    go_wp2_with fail
    go_ret
    exact ⟨by rw [HI.out]; rfl, (Kept.refl _).alloc _⟩
  | true =>
  cases B3 with
  | false =>
    go_enter Try.func25, Try.ntmps25
    go_wp2_with fail
    refine (H1.out _).mono ?_
    rintro e w1 ⟨rfl, rfl⟩
    go_wp2_with fail
    refine (H2.out _).mono ?_
    rintro e w1 ⟨rfl, rfl⟩
    go_wp2_with fail
    refine (H3.out _).mono ?_
    rintro e w1 ⟨rfl, rfl⟩
    go_wp2_with fail
    go_ret
    exact ⟨by rw [HI.out]; rfl, (Kept.refl _).alloc _⟩
  | true =>
    go_enter Try.func25, Try.ntmps25
    go_wp2_with fail
    refine (H1.out _).mono ?_
    rintro e w1 ⟨rfl, rfl⟩
    go_wp2_with fail
    refine (H2.out _).mono ?_
    rintro e w1 ⟨rfl, rfl⟩
    go_wp2_with fail
    refine (H3.out _).mono ?_
    rintro e w1 ⟨rfl, rfl⟩
    go_wp2_with fail
    go_ret
    exact ⟨by rw [HI.out]; rfl, (Kept.refl _).alloc _⟩
theorem clmayW_any (l : Wr) (w : World) :
    Calls Try.prog 31 #[.agg #[.int .u64 (l.s : Nat), .int .i64 l.k]] w fun e w' => e = .returned (.bool (isW l)) ∧ Kept w w' := by
  obtain ⟨s, k⟩ := l
  dsimp only at *
  have h2 := clcnt_any (s : Int) (by omega)
  rw [Int.toNat_natCast] at h2
  have h3 := cllays_any k
  have HI := Lib.hid (show isW ⟨s, k⟩ = (cnt s && (lays k || (k == 3))) from by
    unfold isW lays; dsimp only
    congr 1
    rw [Bool.eq_iff_iff]
    simp
    omega)
  generalize isW ⟨s, k⟩ = R at *
  generalize cnt s = B2 at *
  generalize lays k = B3 at *
  have H2 := Lib.hid h2; have H3 := Lib.hid h3
  clear h2 h3
  cases B2 with
  | false =>
    go_enter Try.func31, Try.ntmps31
    go_wp2_with fail
    refine (H2.out _).mono ?_
    rintro e w1 ⟨rfl, rfl⟩
    go_wp2_with fail
    go_ret
    exact ⟨by rw [HI.out]; rfl, (Kept.refl _).alloc _⟩
  | true =>
  cases B3 with
  | true =>
    go_enter Try.func31, Try.ntmps31
    go_wp2_with fail
    refine (H2.out _).mono ?_
    rintro e w1 ⟨rfl, rfl⟩
    go_wp2_with fail
    refine (H3.out _).mono ?_
    rintro e w1 ⟨rfl, rfl⟩
    go_wp2_with fail
    go_ret
    exact ⟨by rw [HI.out]; rfl, (Kept.refl _).alloc _⟩
  | false =>
    go_enter Try.func31, Try.ntmps31
    go_wp2_with fail
    refine (H2.out _).mono ?_
    rintro e w1 ⟨rfl, rfl⟩
    go_wp2_with fail
    refine (H3.out _).mono ?_
    rintro e w1 ⟨rfl, rfl⟩
    go_wp2_with fail
    go_ret
    exact ⟨by rw [HI.out]; rfl, (Kept.refl _).alloc _⟩
theorem clmay1_any (x : Ls) (w : World) :
    Calls Try.prog 45 #[.agg #[.int .u64 (x.i : Nat), .int .u64 (x.t : Nat), .int .u64 (x.u : Nat)]] w fun e w' => e = .returned (.bool (is1 x)) ∧ Kept w w' := by
  obtain ⟨i, t, u⟩ := x
  dsimp only at *
  have h1 := clcnt_any (i : Int) (by omega)
  rw [Int.toNat_natCast] at h1
  have h2 := clcnt_any (t : Int) (by omega)
  rw [Int.toNat_natCast] at h2
  have HI := Lib.hid (show is1 ⟨i, t, u⟩ = (cnt i && (cnt t && decide ((u : Int) ≤ 1099511627776))) from by
    unfold is1; dsimp only
    rw [show decide ((u : Int) ≤ 1099511627776) = decide (u ≤ 1099511627776) from decide_eq_decide.2 (by omega)])
  generalize is1 ⟨i, t, u⟩ = R at *
  generalize cnt i = B1 at *
  generalize cnt t = B2 at *
  have H1 := Lib.hid h1; have H2 := Lib.hid h2
  clear h1 h2
  cases B1 with
  | false =>
    go_enter Try.func45, Try.ntmps45
    go_wp2_with fail
    refine (H1.out _).mono ?_
    rintro e w1 ⟨rfl, rfl⟩
    go_wp2_with fail
    go_ret
    exact ⟨by rw [HI.out]; rfl, (Kept.refl _).alloc _⟩
  | true =>
  cases B2 with
  | false =>
    go_enter Try.func45, Try.ntmps45
    go_wp2_with fail
    refine (H1.out _).mono ?_
    rintro e w1 ⟨rfl, rfl⟩
    go_wp2_with fail
    refine (H2.out _).mono ?_
    rintro e w1 ⟨rfl, rfl⟩
    go_wp2_with fail
    go_ret
    exact ⟨by rw [HI.out]; rfl, (Kept.refl _).alloc _⟩
  | true =>
    go_enter Try.func45, Try.ntmps45
    go_wp2_with fail
    refine (H1.out _).mono ?_
    rintro e w1 ⟨rfl, rfl⟩
    go_wp2_with fail
    refine (H2.out _).mono ?_
    rintro e w1 ⟨rfl, rfl⟩
    go_wp2_with fail
    go_ret
    exact ⟨by rw [HI.out]; rfl, (Kept.refl _).alloc _⟩
theorem ris_snoc {l : List Ls} {k : Nat} {x : Ls} (hx : l[k]? = some x) (n : Nat) : ris n (l.take (k + 1)) = (ris n (l.take k) && (is1 x && decide (((l.take k).getLast?.map (·.i)).getD n < x.i))) := by
  rw [List.take_add_one, hx]
  show ris n (l.take k ++ [x]) = _
  rw [ris_app]
  simp [ris]
theorem last_snoc {l : List Ls} {k : Nat} {x : Ls} (hx : l[k]? = some x) : ((l.take (k + 1)).getLast?.map (·.i)).getD 0 = x.i := by
  rw [List.take_add_one, hx]
  simp
theorem ris_bad {l : List Ls} {k : Nat} (n : Nat) (h : ris n (l.take k) = false) : ris n l = false := by
  rw [Bool.eq_false_iff]
  intro hc
  rw [ris_take k hc] at h
  cases h
theorem clmayL_any {A : Option Addr} {l : List Ls} {w : World} (hA : Lss w A l) (hl : l.length ≤ maxLen) (c : Nat) :
    Calls Try.prog 32 #[.slice A l.length c] w fun e w' => e = .returned (.bool (isL l)) ∧ Kept w w' := by
  unfold maxLen at hl
  have HA := Lib.hid (fun W (hW : Kept w W) => hA.kept hW)
  clear hA
  by_cases h0 : 5 < l.length
  · have HI := Lib.hid (show isL l = false from by unfold isL; rw [decide_eq_false (by omega)]; rfl)
    generalize isL l = R at *
    have d0 : decide ((5 : Int) < (l.length : Int)) = true := decide_eq_true (by omega)
    go_enter Try.func32, Try.ntmps32
    go_wp2_with fail
    go_ret
    exact ⟨by rw [HI.out] <;> rfl, Kept.refl _⟩
  · have HI := Lib.hid (show isL l = ris 0 l from by unfold isL; rw [decide_eq_true (by omega)]; rfl)
    generalize isL l = R at *
    have d0 : decide ((5 : Int) < (l.length : Int)) = false := decide_eq_false (by omega)
    have h5 : l.length ≤ 5 := by omega
    go_enter Try.func32, Try.ntmps32
    go_wp2_with fail
    go_loopw [3, 11] (fun s t wr => ∃ (k m : Nat), k ≤ l.length ∧ t = .int .i64 k ∧ s = .int .u64 m ∧ Hid (m = ((l.take k).getLast?.map (·.i)).getD 0) ∧ Hid (ris 0 (l.take k) = true) ∧ Hid (Kept w wr)) (fun _ t _ => l.length - (intOf t).toNat)
    case atStart => exact ⟨0, 0, Nat.zero_le _, rfl, rfl, Lib.hid rfl, Lib.hid rfl, Lib.hid (Kept.refl _)⟩
    case round =>
      obtain ⟨k, m, hk, rfl, rfl, HM, HT, HK⟩ := hrel
      by_cases hlt : k < l.length
      · obtain ⟨x, hx⟩ : ∃ x, l[k]? = some x := ⟨_, List.getElem?_eq_getElem hlt⟩
        obtain ⟨b, o, rfl, hb, c0, c1, c2⟩ := HA.out _ HK.out k x hx
        have HS := Lib.hid (ris_snoc hx 0)
        have HL := Lib.hid (last_snoc hx)
        have HC := Lib.hid (clmay1_any x)
        have HX := Lib.hid (HK.out)
        rw [HT.out, ← HM.out, Bool.true_and] at HS
        obtain ⟨xi, hxi⟩ : ∃ xi, xi = x.i := ⟨_, rfl⟩
        rw [← hxi] at HS HL HC c0
        generalize x.t = xt at *
        generalize x.u = xu at *
        generalize is1 x = B at *
        clear hx hxi
        cases B with
        | false =>
          go_wp2_with fail
          refine (HC.out _).mono ?_
          rintro e w1 ⟨rfl, g1⟩
          go_wp2_with fail
          go_ret
          exact ⟨by rw [HI.out, ris_bad (k := k + 1) 0 (by rw [HS.out]; rfl)] <;> rfl, kept_trans (HX.out.alloc _) g1⟩
        | true =>
          by_cases hmx : m < xi
          · have d1 : decide ((xi : Int) ≤ (m : Int)) = false := decide_eq_false (by omega)
            have q1 : decide (m < xi) = true := decide_eq_true hmx
            have HR := Lib.hid (show ris 0 (l.take (k + 1)) = true from by rw [HS.out, q1]; rfl)
            clear q1
            have hbx : (wr.alloc (.cells #[.int .u64 (xi : Nat), .int .u64 (xt : Nat), .int .u64 (xu : Nat)] 51)).heap[wr.heap.size]? = some (.cells #[.int .u64 (xi : Nat), .int .u64 (xt : Nat), .int .u64 (xu : Nat)] 51 (0, 0)) := clnew _ _
            have HB := Lib.hid hbx
            clear hbx
            go_wp2_with fail
            refine (HC.out _).mono ?_
            rintro e w1 ⟨rfl, g1⟩
            have z0 := clcell (clhp HB.out g1) 0 (v := .int .u64 (xi : Nat)) rfl
            have K1 := Lib.hid (kept_trans (HX.out.alloc (.cells #[.int .u64 (xi : Nat), .int .u64 (xt : Nat), .int .u64 (xu : Nat)] 51)) g1)
            clear g1 c0 c1 c2
            go_wp2_with fail
            go_roundw
            case rel => exact ⟨k + 1, xi, by omega, by go_num, rfl, Lib.hid HL.out.symm, HR, K1⟩
            case measure => simp [intOf]; omega
          · have d1 : decide ((xi : Int) ≤ (m : Int)) = true := decide_eq_true (by omega)
            have q1 : decide (m < xi) = false := decide_eq_false hmx
            have HR := Lib.hid (show ris 0 l = false from ris_bad (k := k + 1) 0 (by rw [HS.out, q1]; rfl))
            clear q1
            have hbx : (wr.alloc (.cells #[.int .u64 (xi : Nat), .int .u64 (xt : Nat), .int .u64 (xu : Nat)] 51)).heap[wr.heap.size]? = some (.cells #[.int .u64 (xi : Nat), .int .u64 (xt : Nat), .int .u64 (xu : Nat)] 51 (0, 0)) := clnew _ _
            have HB := Lib.hid hbx
            clear hbx
            go_wp2_with fail
            refine (HC.out _).mono ?_
            rintro e w1 ⟨rfl, g1⟩
            have z0 := clcell (clhp HB.out g1) 0 (v := .int .u64 (xi : Nat)) rfl
            have K1 := Lib.hid (kept_trans (HX.out.alloc (.cells #[.int .u64 (xi : Nat), .int .u64 (xt : Nat), .int .u64 (xu : Nat)] 51)) g1)
            clear g1 c0 c1 c2
            go_wp2_with fail
            go_ret
            exact ⟨by rw [HI.out, HR.out] <;> rfl, K1.out⟩
      · obtain rfl : k = l.length := by omega
        rw [List.take_length] at HT
        go_wp2_with fail
        go_ret
        exact ⟨by rw [HI.out, HT.out] <;> rfl, HK.out⟩
theorem clkb_any (k : Int) (h : k = 1 ∨ k = 2 ∨ k = 3) (w : World) :
    Calls Try.prog 26 #[.int .i64 k] w fun e w' => e = .returned (.string (bs [k.toNat.toUInt8])) ∧ Kept w w' := by
  have HC1 := Lib.hid (fun W : World => conv_row W [(1 : UInt8)] #[.int .u8 1] 5 1 1 rfl rfl)
  have HC2 := Lib.hid (fun W : World => conv_row W [(2 : UInt8)] #[.int .u8 2] 5 1 1 rfl rfl)
  have HC3 := Lib.hid (fun W : World => conv_row W [(3 : UInt8)] #[.int .u8 3] 5 1 1 rfl rfl)
  rcases h with rfl | rfl | rfl
  · have hcv := HC1.out w
    go_enter Try.func26, Try.ntmps26
    go_wp2_with fail
    go_ret
    exact ⟨rfl, (Kept.refl _).alloc _⟩
  · have hcv := HC2.out w
    go_enter Try.func26, Try.ntmps26
    go_wp2_with fail
    go_ret
    exact ⟨rfl, (Kept.refl _).alloc _⟩
  · have hcv := HC3.out w
    go_enter Try.func26, Try.ntmps26
    go_wp2_with fail
    go_ret
    exact ⟨rfl, (Kept.refl _).alloc _⟩
theorem cltk_any (s : List UInt8) (hs : s.length ≤ maxLen) (w : World) :
    Calls Try.prog 35 #[.string (bs s)] w fun e w' => e = .returned (.tuple #[.int .i64 (kd s : Nat), .string (bs (s.drop 1))]) ∧ Kept w w' := by
  unfold maxLen at hs
  cases s with
  | nil =>
    have d0 : ((bs []).toList == []) = true := by rw [clbs_list]; rfl
    go_enter Try.func35, Try.ntmps35
    go_wp2_with fail
    go_ret2
    exact ⟨rfl, Kept.refl _⟩
  | cons c s =>
    have d0 : ((bs (c :: s)).toList == []) = false := by rw [clbs_list]; rfl
    have hz : (bs (c :: s)).size = s.length + 1 := by rw [clbs_size]; rfl
    have hz1 : 0 < (bs (c :: s)).size := by omega
    have hz2 : 1 ≤ (bs (c :: s)).size := by omega
    have hz3 : (1 : Int) ≤ ((bs (c :: s)).size : Int) := by omega
    have hz4 : (0 : Int) < ((bs (c :: s)).size : Int) := by omega
    have HX := Lib.hid (show (bs (c :: s)).extract 1 (bs (c :: s)).size = bs s from by rw [extract_end]; rfl)
    have HC := Lib.hid (show (bs (c :: s))[0]'hz1 = c from rfl)
    have hcl := c.toNat_lt
    have hw : IntKind.i64.wrap (((bs (c :: s))[0]'hz1).toNat : Int) = (c.toNat : Int) := by rw [HC.out, IntKind.wrap_i64]; omega
    have HKD := Lib.hid (show kd (c :: s) = c.toNat ∧ (c :: s).drop 1 = s from ⟨rfl, rfl⟩)
    rw [HKD.out.1, HKD.out.2]
    generalize bs (c :: s) = S at *
    clear hz
    go_enter Try.func35, Try.ntmps35
    go_wp2_with fail
    go_quiet (fail)
    go_wp2_with fail
    go_ret2
    exact ⟨by rw [HX.out] <;> rfl, kept_drewN _ _⟩
end Go.Proofs.Ytdmnmbomijnjeaa
