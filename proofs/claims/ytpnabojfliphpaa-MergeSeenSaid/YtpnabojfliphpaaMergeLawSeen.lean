/-
  The walk of screelaw08.MergeSeen.
-/
import Derived.Test.YtpnabojfliphpaaMergeSMap
namespace Go.Proofs.Ytpnabojfliphpaa
open Go.ChangeShapes Go.WideShapes Go.ChangeAt Go.RowKit Go.Maps
set_option linter.unusedVariables false
set_option maxRecDepth 100000
set_option maxHeartbeats 8000000

theorem seen_mem {l : List Mm.Ent} {M : Nat} {y : Mm.Ent} (h : y ∈ Mg.seen l M) : y ∈ l ∧ y.del = false ∧ y.seq ≤ M ∧ ∀ z ∈ l, z.key = y.key → y.seq < z.seq → M < z.seq := by
  obtain ⟨h1, h2⟩ := List.mem_filter.1 h
  unfold Mg.seenP at h2
  rw [Bool.and_eq_true, Mg.first_iff] at h2
  exact ⟨h1, by simpa using h2.2, h2.1.1, h2.1.2⟩
theorem seen_rise {l : List Mm.Ent} (h : Mg.Rw l) {M i j : Nat} {x y : Mm.Ent} (hy : (Mg.seen l M)[j]? = some y) (hx : (Mg.seen l M)[i]? = some x) (hij : j < i) : y.key < x.key := by
  have hr : Mg.Rw (Mg.seen l M) := h.filter _
  obtain ⟨y1, _, y3, _⟩ := seen_mem (List.mem_of_getElem? hy)
  obtain ⟨x1, _, x3, x4⟩ := seen_mem (List.mem_of_getElem? hx)
  rcases Mg.ab_iff.1 (hr.lt hy hx hij) with e | ⟨e1, e2⟩
  · exact e
  · have := x4 y y1 e1 e2; omega
theorem seen_take {l : List Mm.Ent} (h : Mg.Rw l) {M i : Nat} {x : Mm.Ent} (hx : (Mg.seen l M)[i]? = some x) : ∀ y ∈ (Mg.seen l M).take i, y.key ≠ x.key := fun y hy e => by
  obtain ⟨j, hj⟩ := List.getElem?_of_mem hy
  rw [List.getElem?_take] at hj
  split at hj
  · rename_i hlt
    have := seen_rise h hj hx hlt
    rw [e] at this; exact Mm.lt_irrefl _ this
  · cases hj
theorem seen_later {l : List Mm.Ent} {m M : Nat} (hm : m ≤ M) {x y : Mm.Ent} (hx : x ∈ Mg.seen l m) (hy : y ∈ Mg.seen l M) (e : y.key = x.key) : x.seq ≤ y.seq := by
  obtain ⟨x1, _, x3, _⟩ := seen_mem hx
  obtain ⟨_, _, _, y4⟩ := seen_mem hy
  by_cases hc : x.seq ≤ y.seq
  · exact hc
  · have := y4 x x1 e.symm (by omega); omega
theorem kept_store {w wr w8 w9 : World} {q : Nat} (h : Kept w wr) (k : Kept wr w8) (g : w8.grownBy w9 (some q)) (hq : q = w.heap.size := by rfl) : Kept w w9 := by
  have h8 := kept_trans h k
  refine Below.trans h8 ⟨g.os, g.tape, g.output, g.size, fun i hi => g.block i (by have := Below.size h8; omega) (fun e => by cases e; omega)⟩
theorem seen_lt (A : Option Addr) (cap : Nat) (l : List Mm.Ent) (s1 s2 : Nat) (hs : s1 < s2) {w : World} (ha : Els w A l) (hl : l.length ≤ cap ∧ cap ≤ maxLen ∧ OkEs l) :
    Calls Try.prog 13 #[.slice A l.length cap, .int .u64 (s1 : Nat), .int .u64 (s2 : Nat)] w fun e w' => e = .returned (.bool true) ∧ Kept w w' := by
  obtain ⟨hc, hm, ho⟩ := hl
  have m1 : ¬ (s2 : Int) < (s1 : Int) := by omega
  have m2 : ¬ s2 < s1 := by omega
  have m3 : (s1 : Int) ≤ (s2 : Int) := by omega
  have m4 : s1 ≤ s2 := by omega
  have m5 : (s1 : Int) < (s2 : Int) := by omega
  have HE := Lib.hid ha; have HO := Lib.hid ho; have HC := Lib.hid hc; have HM := Lib.hid hm
  clear ha ho hc hm
  go_enter Try.func13, Try.ntmps13
  go_wp2_with fail
  refine (gmawake_any w).mono ?_
  rintro e w1 ⟨rfl, g1⟩
  have k2 : Kept w1 (w1.alloc (.cells #[.slice A l.length cap] 22)) := (Kept.refl _).alloc _
  have HL := Lib.hid (show Calls Try.prog 45 #[.slice (some ⟨w1.heap.size, 0, none⟩) 1 1] (w1.alloc (.cells #[.slice A l.length cap] 22)) (LgOne (w1.alloc (.cells #[.slice A l.length cap] 22)) l) from glarge_one ((HE.out.kept g1).kept k2) HC.out HM.out HO.out (malloc_new w1 _))
  have G2 := Lib.hid (kept_trans g1 k2)
  clear g1 k2
  go_wp2_with fail
  refine HL.out.mono ?_
  rintro e w2 ⟨B, rfl, g2, hB⟩
  have G := Lib.hid (kept_trans G2.out g2)
  clear g2 HL
  cases B with
  | true =>
    go_wp2_with fail
    go_ret
    exact ⟨rfl, G.out⟩
  | false =>
    have h300 := hB rfl
    clear hB
    have HSE := Lib.hid (fun W (K : Kept w2 W) s => gseen_any cap ((HE.out.kept G.out).kept K) (by omega) s)
    cases hv : Mg.row l with
    | false =>
      have n1 := rS_no (m := Mg.seen l s1) hv; have n2 := rS_no (m := Mg.seen l s2) hv
      have HS1 := Lib.hid (fun W K => HSE.out W K s1); have HS2 := Lib.hid (fun W K => HSE.out W K s2)
      rw [n1.1, n1.2] at HS1; rw [n2.1, n2.2] at HS2
      clear n1 n2 hv
      go_wp2_with fail
      refine (HS1.out w2 (Kept.refl _)).mono ?_
      rintro e w3 ⟨B3, c3, rfl, _, g3⟩
      have G3 := Lib.hid g3
      clear g3
      go_wp2_with fail
      refine (HS2.out w3 G3.out).mono ?_
      rintro e w4 ⟨B4, c4, rfl, _, g4⟩
      go_wp2_with fail
      go_ret
      exact ⟨rfl, kept_trans G.out (kept_trans G3.out g4)⟩
    | true =>
      have n1 := rS_yes (m := Mg.seen l s1) hv; have n2 := rS_yes (m := Mg.seen l s2) hv
      have HS1 := Lib.hid (fun W K => HSE.out W K s1); have HS2 := Lib.hid (fun W K => HSE.out W K s2)
      rw [n1.1, n1.2] at HS1; rw [n2.1, n2.2] at HS2
      obtain ⟨V, hV⟩ : ∃ V, V = Mg.seen l s2 := ⟨_, rfl⟩
      rw [← hV] at HS2
      have HRW := Mg.row_iff.1 hv
      have q1 : (Mg.seen l s1).length ≤ 300 := Nat.le_trans (List.length_filter_le _ _) h300
      have q2 : V.length ≤ 300 := by rw [hV]; exact Nat.le_trans (List.length_filter_le _ _) h300
      have HUM := Lib.hid (fun (x : Mm.Ent) (hx : x ∈ Mg.seen l s1) => show x.del = false ∧ x.seq ≤ s1 ∧ x.key.length ≤ maxLen ∧ x.seq ≤ 18446744073709551615 from by obtain ⟨z1, z2, z3, _⟩ := seen_mem hx; have := HO.out x z1; exact ⟨z2, z3, this.1, this.2.2⟩)
      have HVM := Lib.hid (fun (x : Mm.Ent) (hx : x ∈ V) => show x.del = false ∧ x.seq ≤ s2 ∧ x.key.length ≤ maxLen ∧ x.seq ≤ 18446744073709551615 from by rw [hV] at hx; obtain ⟨z1, z2, z3, _⟩ := seen_mem hx; have := HO.out x z1; exact ⟨z2, z3, this.1, this.2.2⟩)
      have HUR := Lib.hid (fun j i (y x : Mm.Ent) (hy : (Mg.seen l s1)[j]? = some y) (hx : (Mg.seen l s1)[i]? = some x) (h : j < i) => seen_rise HRW hy hx h)
      have HVR := Lib.hid (fun j i (y x : Mm.Ent) (hy : V[j]? = some y) (hx : V[i]? = some x) (h : j < i) => show y.key < x.key from by rw [hV] at hy hx; exact seen_rise HRW hy hx h)
      have HVN := Lib.hid (fun i (x : Mm.Ent) (hx : V[i]? = some x) => show ∀ y ∈ V.take i, y.key ≠ x.key from by rw [hV] at hx ⊢; exact seen_take HRW hx)
      have HUV := Lib.hid (fun (x z : Mm.Ent) (hx : x ∈ Mg.seen l s1) (hz : z ∈ V) (e : z.key = x.key) => show x.seq ≤ z.seq from by rw [hV] at hz; exact seen_later (m := s1) (M := s2) (by omega) hx hz e)
      clear n1 n2 hv HRW HSE hV
      generalize Mg.seen l s1 = U at *
      go_wp2_with fail
      refine (HS1.out w2 (Kept.refl _)).mono ?_
      rintro e w3 ⟨B3, c3, rfl, hel3, g3⟩
      have G3 := Lib.hid g3; have HE3 := Lib.hid hel3.els
      clear g3 hel3
      go_wp2_with fail
      refine (HS2.out w3 G3.out).mono ?_
      rintro e w4 ⟨B4, c4, rfl, hel4, g4⟩
      have G4 := Lib.hid (kept_trans G3.out g4); have HVE := Lib.hid hel4.els; have HUE := Lib.hid (HE3.out.kept g4)
      clear g4 hel4 HS1 HS2
      have hmk : ∀ W : World, (Instr.makeMap 74 none).run Try.prog W = .ok (.map (some W.heap.size)) (W.alloc (.map #[] 0)) := fun _ => rfl
      go_wp2_with fail
      clear hmk
      go_loopw [52] (fun t wr => ∃ i : Nat, i ≤ V.length ∧ t = .int .i64 (i : Nat) ∧ Hid (SqIs wr w4.heap.size (V.take i)) ∧ Hid (Kept w4 wr)) (fun t _ => V.length - (intOf t).toNat)
      case atStart => exact ⟨0, Nat.zero_le _, rfl, Lib.hid (sqIs_new w4), Lib.hid ((Kept.refl _).alloc _)⟩
      case round =>
        obtain ⟨i, hi, rfl, HQ, HK⟩ := hrel
        by_cases hlt : i < V.length
        · obtain ⟨x, hx⟩ : ∃ x, V[i]? = some x := ⟨_, List.getElem?_eq_getElem hlt⟩
          obtain ⟨q1, q2, q3⟩ := HVM.out x (List.mem_of_getElem? hx)
          have HXX := Lib.hid hx
          obtain ⟨b, o, rfl, hb, p0, p1, p2, p3⟩ := (HVE.out.kept HK.out) i x hx
          have HEL := Lib.hid (HVE.out.kept HK.out)
          have k7 : Kept wr (wr.alloc (.cells #[.string (bs x.key), .int .u64 (x.seq : Nat), .bool x.del, .string (bs x.val)] 35)) := (Kept.refl _).alloc _
          have rx := malloc_new wr (.cells #[.string (bs x.key), .int .u64 (x.seq : Nat), .bool x.del, .string (bs x.val)] 35)
          rw [q1] at p2 rx k7
          have t1 : decide ((s2 : Int) < (x.seq : Int)) = false := decide_eq_false (by omega)
          have t2 : decide (s2 < x.seq) = false := decide_eq_false (by omega)
          clear hx
          go_upto_region 13 with fail
          generalize wr.alloc (.cells #[.string (bs x.key), .int .u64 (x.seq : Nat), .bool false, .string (bs x.val)] 35) = w7 at *
          have u1 := mcell (v := .string (bs x.key)) rx 0 rfl; have u2 := mcell (v := .int .u64 (x.seq : Nat)) rx 1 rfl; have u3 := mcell (v := .bool false) rx 2 rfl
          have hrl := mheap_lt rx
          have HRX := Lib.hid rx
          have K7 := Lib.hid k7
          have HB7 := Lib.hid (Nat.lt_of_lt_of_le hb (Below.size k7))
          clear p0 p1 p2 p3 rx
          by_cases hi0 : 0 < i
          · obtain ⟨j, hji⟩ : ∃ j, j + 1 = i := ⟨i - 1, by omega⟩
            obtain ⟨y, hy⟩ : ∃ y, V[j]? = some y := ⟨_, List.getElem?_eq_getElem (by omega)⟩
            have hyx := HVR.out j i y x hy HXX.out (by omega)
            obtain ⟨b', o', e', _, r0, _, _, _⟩ := (HEL.out.kept K7.out) j y hy
            cases e'
            have n1 := mbs_less y.key x.key
            rw [decide_eq_true hyx] at n1
            clear hy hyx
            have e1 : (i : Int) - 1 = (j : Int) := by omega
            have e2 : IntKind.i64.wrap (j : Int) = (j : Int) := wrap_nat (by omega)
            have e3 : (0 : Int) < (i : Int) := by omega
            have e4 : 0 < i := by omega
            have i5 : j < V.length := by omega
            have HJI := Lib.hid hji
            clear hji
            go_quiet (fail)
            have K8 := Lib.hid (kept_trans k7 (kept_drewN w7 nq))
            have rx8 := (Below.block (kept_drewN w7 nq) _ hrl).trans HRX.out
            generalize w7.drewN nq = w8 at *
            have v1 := mcell (v := .string (bs x.key)) rx8 0 rfl; have v2 := mcell (v := .int .u64 (x.seq : Nat)) rx8 1 rfl
            obtain ⟨w9, hrun, sq9, g9, z9⟩ := (HQ.out.kept K8.out).store (Nat.le_trans (List.length_take_le _ _) (by omega)) x q3.1 q3.2 (HVN.out _ x HXX.out)
            have HQ9 := Lib.hid (show SqIs w9 w4.heap.size (V.take (_ + 1)) by rw [List.take_add_one, HXX.out]; exact sq9)
            have K9 := Lib.hid (kept_store HK.out K8.out g9)
            clear sq9 g9 rx8 u1 u2 u3 k7
            go_wp2_with fail
            go_roundw
            case rel => exact ⟨_, by omega, by go_num, HQ9, K9⟩
            case measure => simp [intOf]; omega
          · have e3 : ¬ (0 : Int) < (i : Int) := by omega
            have e4 : decide ((0 : Int) < (i : Int)) = false := decide_eq_false e3
            have e5 : decide (0 < i) = false := decide_eq_false hi0
            clear hi0 e3
            go_quiet (fail)
            have K8 := Lib.hid (kept_trans k7 (kept_drewN w7 nq))
            have rx8 := (Below.block (kept_drewN w7 nq) _ hrl).trans HRX.out
            generalize w7.drewN nq = w8 at *
            have v1 := mcell (v := .string (bs x.key)) rx8 0 rfl; have v2 := mcell (v := .int .u64 (x.seq : Nat)) rx8 1 rfl
            obtain ⟨w9, hrun, sq9, g9, z9⟩ := (HQ.out.kept K8.out).store (Nat.le_trans (List.length_take_le _ _) (by omega)) x q3.1 q3.2 (HVN.out _ x HXX.out)
            have HQ9 := Lib.hid (show SqIs w9 w4.heap.size (V.take (_ + 1)) by rw [List.take_add_one, HXX.out]; exact sq9)
            have K9 := Lib.hid (kept_store HK.out K8.out g9)
            clear sq9 g9 rx8 u1 u2 u3 k7
            go_wp2_with fail
            go_roundw
            case rel => exact ⟨_, by omega, by go_num, HQ9, K9⟩
            case measure => simp [intOf]; omega
        · have e : i = V.length := by omega
          subst e
          rw [List.take_length] at HQ
          have HQ1 := HQ; have HK1 := HK
          go_wp2_with fail
          go_loopw [90] (fun t wr => ∃ i : Nat, i ≤ U.length ∧ t = .int .i64 (i : Nat) ∧ Hid (SqIs wr w4.heap.size V) ∧ Hid (Kept w4 wr)) (fun t _ => U.length - (intOf t).toNat)
          case atStart => exact ⟨0, Nat.zero_le _, rfl, HQ1, HK1⟩
          case round =>
            obtain ⟨i, hi, rfl, HQ, HK⟩ := hrel
            by_cases hlt : i < U.length
            · obtain ⟨x, hx⟩ : ∃ x, U[i]? = some x := ⟨_, List.getElem?_eq_getElem hlt⟩
              obtain ⟨q1, q2, q3⟩ := HUM.out x (List.mem_of_getElem? hx)
              have HXX := Lib.hid hx
              obtain ⟨b, o, rfl, hb, p0, p1, p2, p3⟩ := (HUE.out.kept HK.out) i x hx
              have HEL := Lib.hid (HUE.out.kept HK.out)
              have k7 : Kept wr (wr.alloc (.cells #[.string (bs x.key), .int .u64 (x.seq : Nat), .bool x.del, .string (bs x.val)] 35)) := (Kept.refl _).alloc _
              have rx := malloc_new wr (.cells #[.string (bs x.key), .int .u64 (x.seq : Nat), .bool x.del, .string (bs x.val)] 35)
              rw [q1] at p2 rx k7
              have t1 : decide ((s1 : Int) < (x.seq : Int)) = false := decide_eq_false (by omega)
              have t2 : decide (s1 < x.seq) = false := decide_eq_false (by omega)
              clear hx
              go_upto_region 20 with fail
              generalize wr.alloc (.cells #[.string (bs x.key), .int .u64 (x.seq : Nat), .bool false, .string (bs x.val)] 35) = w7 at *
              have u1 := mcell (v := .string (bs x.key)) rx 0 rfl; have u2 := mcell (v := .int .u64 (x.seq : Nat)) rx 1 rfl; have u3 := mcell (v := .bool false) rx 2 rfl
              have hrl := mheap_lt rx
              have HRX := Lib.hid rx
              have K7 := Lib.hid k7
              have HB7 := Lib.hid (Nat.lt_of_lt_of_le hb (Below.size k7))
              clear p0 p1 p2 p3 rx
              by_cases hi0 : 0 < i
              · obtain ⟨j, hji⟩ : ∃ j, j + 1 = i := ⟨i - 1, by omega⟩
                obtain ⟨y, hy⟩ : ∃ y, U[j]? = some y := ⟨_, List.getElem?_eq_getElem (by omega)⟩
                have hyx := HUR.out j i y x hy HXX.out (by omega)
                obtain ⟨b', o', e', _, r0, _, _, _⟩ := (HEL.out.kept K7.out) j y hy
                cases e'
                have n1 := mbs_less y.key x.key
                rw [decide_eq_true hyx] at n1
                clear hy hyx
                have e1 : (i : Int) - 1 = (j : Int) := by omega
                have e2 : IntKind.i64.wrap (j : Int) = (j : Int) := wrap_nat (by omega)
                have e3 : (0 : Int) < (i : Int) := by omega
                have e4 : 0 < i := by omega
                have i5 : j < U.length := by omega
                have HJI := Lib.hid hji
                clear hji
                go_quiet (fail)
                have K8 := Lib.hid (kept_trans k7 (kept_drewN w7 nq))
                have rx8 := (Below.block (kept_drewN w7 nq) _ hrl).trans HRX.out
                generalize w7.drewN nq = w8 at *
                have v1 := mcell (v := .string (bs x.key)) rx8 0 rfl; have v2 := mcell (v := .int .u64 (x.seq : Nat)) rx8 1 rfl
                obtain ⟨v, B, hrun, hv1, hv2⟩ := (HQ.out.kept K8.out).look q3.1
                have HQ9 := Lib.hid (HQ.out.kept K8.out)
                have K9 := Lib.hid (kept_trans HK.out K8.out)
                clear rx8 u1 u2 u3 k7
                by_cases hex : ∃ z, z ∈ V ∧ z.key = x.key
                · obtain ⟨z, hz1, hz2⟩ := hex
                  have := hv1 z hz1 hz2
                  subst this
                  have hz3 := HUV.out x z (List.mem_of_getElem? HXX.out) hz1 hz2
                  have t3 : decide ((z.seq : Int) < (x.seq : Int)) = false := decide_eq_false (by omega)
                  have t4 : decide (z.seq < x.seq) = false := decide_eq_false (by omega)
                  clear hv1 hv2 hz1 hz2
                  cases B with
                  | true =>
                    go_wp2_with fail
                    go_roundw
                    case rel => exact ⟨i + 1, by omega, by go_num, HQ9, K9⟩
                    case measure => simp [intOf]; omega
                  | false =>
                    go_wp2_with fail
                    go_roundw
                    case rel => exact ⟨i + 1, by omega, by go_num, HQ9, K9⟩
                    case measure => simp [intOf]; omega
                · have hB := hv2 (fun z hz1 hz2 => hex ⟨z, hz1, hz2⟩)
                  subst hB
                  clear hv1 hv2 hex
                  go_wp2_with fail
                  go_roundw
                  case rel => exact ⟨i + 1, by omega, by go_num, HQ9, K9⟩
                  case measure => simp [intOf]; omega
              · have e3 : ¬ (0 : Int) < (i : Int) := by omega
                have e4 : decide ((0 : Int) < (i : Int)) = false := decide_eq_false e3
                have e5 : decide (0 < i) = false := decide_eq_false hi0
                clear hi0 e3
                go_quiet (fail)
                have K8 := Lib.hid (kept_trans k7 (kept_drewN w7 nq))
                have rx8 := (Below.block (kept_drewN w7 nq) _ hrl).trans HRX.out
                generalize w7.drewN nq = w8 at *
                have v1 := mcell (v := .string (bs x.key)) rx8 0 rfl; have v2 := mcell (v := .int .u64 (x.seq : Nat)) rx8 1 rfl
                obtain ⟨v, B, hrun, hv1, hv2⟩ := (HQ.out.kept K8.out).look q3.1
                have HQ9 := Lib.hid (HQ.out.kept K8.out)
                have K9 := Lib.hid (kept_trans HK.out K8.out)
                clear rx8 u1 u2 u3 k7
                by_cases hex : ∃ z, z ∈ V ∧ z.key = x.key
                · obtain ⟨z, hz1, hz2⟩ := hex
                  have := hv1 z hz1 hz2
                  subst this
                  have hz3 := HUV.out x z (List.mem_of_getElem? HXX.out) hz1 hz2
                  have t3 : decide ((z.seq : Int) < (x.seq : Int)) = false := decide_eq_false (by omega)
                  have t4 : decide (z.seq < x.seq) = false := decide_eq_false (by omega)
                  clear hv1 hv2 hz1 hz2
                  cases B with
                  | true =>
                    go_wp2_with fail
                    go_roundw
                    case rel => exact ⟨i + 1, by omega, by go_num, HQ9, K9⟩
                    case measure => simp [intOf]; omega
                  | false =>
                    go_wp2_with fail
                    go_roundw
                    case rel => exact ⟨i + 1, by omega, by go_num, HQ9, K9⟩
                    case measure => simp [intOf]; omega
                · have hB := hv2 (fun z hz1 hz2 => hex ⟨z, hz1, hz2⟩)
                  subst hB
                  clear hv1 hv2 hex
                  go_wp2_with fail
                  go_roundw
                  case rel => exact ⟨i + 1, by omega, by go_num, HQ9, K9⟩
                  case measure => simp [intOf]; omega
            · have e : i = U.length := by omega
              subst e
              go_wp2_with fail
              go_ret
              exact ⟨rfl, kept_trans G.out (kept_trans G4.out HK.out)⟩
theorem seen_eq (A : Option Addr) (cap : Nat) (l : List Mm.Ent) (s1 : Nat) {w : World} (ha : Els w A l) (hl : l.length ≤ cap ∧ cap ≤ maxLen ∧ OkEs l) :
    Calls Try.prog 13 #[.slice A l.length cap, .int .u64 (s1 : Nat), .int .u64 (s1 : Nat)] w fun e w' => e = .returned (.bool true) ∧ Kept w w' := by
  obtain ⟨hc, hm, ho⟩ := hl
  have m1 : ¬ (s1 : Int) < (s1 : Int) := by omega
  have HE := Lib.hid ha; have HO := Lib.hid ho; have HC := Lib.hid hc; have HM := Lib.hid hm
  clear ha ho hc hm
  go_enter Try.func13, Try.ntmps13
  go_wp2_with fail
  refine (gmawake_any w).mono ?_
  rintro e w1 ⟨rfl, g1⟩
  have k2 : Kept w1 (w1.alloc (.cells #[.slice A l.length cap] 22)) := (Kept.refl _).alloc _
  have HL := Lib.hid (show Calls Try.prog 45 #[.slice (some ⟨w1.heap.size, 0, none⟩) 1 1] (w1.alloc (.cells #[.slice A l.length cap] 22)) (LgOne (w1.alloc (.cells #[.slice A l.length cap] 22)) l) from glarge_one ((HE.out.kept g1).kept k2) HC.out HM.out HO.out (malloc_new w1 _))
  have G2 := Lib.hid (kept_trans g1 k2)
  clear g1 k2
  go_wp2_with fail
  refine HL.out.mono ?_
  rintro e w2 ⟨B, rfl, g2, hB⟩
  have G := Lib.hid (kept_trans G2.out g2)
  clear g2 HL
  cases B with
  | true =>
    go_wp2_with fail
    go_ret
    exact ⟨rfl, G.out⟩
  | false =>
    have h300 := hB rfl
    clear hB
    have HSE := Lib.hid (fun W (K : Kept w2 W) s => gseen_any cap ((HE.out.kept G.out).kept K) (by omega) s)
    cases hv : Mg.row l with
    | false =>
      have n1 := rS_no (m := Mg.seen l s1) hv; have n2 := rS_no (m := Mg.seen l s1) hv
      have HS1 := Lib.hid (fun W K => HSE.out W K s1); have HS2 := Lib.hid (fun W K => HSE.out W K s1)
      rw [n1.1, n1.2] at HS1; rw [n2.1, n2.2] at HS2
      clear n1 n2 hv
      go_wp2_with fail
      refine (HS1.out w2 (Kept.refl _)).mono ?_
      rintro e w3 ⟨B3, c3, rfl, _, g3⟩
      have G3 := Lib.hid g3
      clear g3
      go_wp2_with fail
      refine (HS2.out w3 G3.out).mono ?_
      rintro e w4 ⟨B4, c4, rfl, _, g4⟩
      go_wp2_with fail
      go_ret
      exact ⟨rfl, kept_trans G.out (kept_trans G3.out g4)⟩
    | true =>
      have n1 := rS_yes (m := Mg.seen l s1) hv; have n2 := rS_yes (m := Mg.seen l s1) hv
      have HS1 := Lib.hid (fun W K => HSE.out W K s1); have HS2 := Lib.hid (fun W K => HSE.out W K s1)
      rw [n1.1, n1.2] at HS1; rw [n2.1, n2.2] at HS2
      obtain ⟨V, hV⟩ : ∃ V, V = Mg.seen l s1 := ⟨_, rfl⟩
      rw [← hV] at HS2
      have HRW := Mg.row_iff.1 hv
      have q1 : (Mg.seen l s1).length ≤ 300 := Nat.le_trans (List.length_filter_le _ _) h300
      have q2 : V.length ≤ 300 := by rw [hV]; exact Nat.le_trans (List.length_filter_le _ _) h300
      have HUM := Lib.hid (fun (x : Mm.Ent) (hx : x ∈ Mg.seen l s1) => show x.del = false ∧ x.seq ≤ s1 ∧ x.key.length ≤ maxLen ∧ x.seq ≤ 18446744073709551615 from by obtain ⟨z1, z2, z3, _⟩ := seen_mem hx; have := HO.out x z1; exact ⟨z2, z3, this.1, this.2.2⟩)
      have HVM := Lib.hid (fun (x : Mm.Ent) (hx : x ∈ V) => show x.del = false ∧ x.seq ≤ s1 ∧ x.key.length ≤ maxLen ∧ x.seq ≤ 18446744073709551615 from by rw [hV] at hx; obtain ⟨z1, z2, z3, _⟩ := seen_mem hx; have := HO.out x z1; exact ⟨z2, z3, this.1, this.2.2⟩)
      have HUR := Lib.hid (fun j i (y x : Mm.Ent) (hy : (Mg.seen l s1)[j]? = some y) (hx : (Mg.seen l s1)[i]? = some x) (h : j < i) => seen_rise HRW hy hx h)
      have HVR := Lib.hid (fun j i (y x : Mm.Ent) (hy : V[j]? = some y) (hx : V[i]? = some x) (h : j < i) => show y.key < x.key from by rw [hV] at hy hx; exact seen_rise HRW hy hx h)
      have HVN := Lib.hid (fun i (x : Mm.Ent) (hx : V[i]? = some x) => show ∀ y ∈ V.take i, y.key ≠ x.key from by rw [hV] at hx ⊢; exact seen_take HRW hx)
      have HUV := Lib.hid (fun (x z : Mm.Ent) (hx : x ∈ Mg.seen l s1) (hz : z ∈ V) (e : z.key = x.key) => show x.seq ≤ z.seq from by rw [hV] at hz; exact seen_later (m := s1) (M := s1) (by omega) hx hz e)
      clear n1 n2 hv HRW HSE hV
      generalize Mg.seen l s1 = U at *
      go_wp2_with fail
      refine (HS1.out w2 (Kept.refl _)).mono ?_
      rintro e w3 ⟨B3, c3, rfl, hel3, g3⟩
      have G3 := Lib.hid g3; have HE3 := Lib.hid hel3.els
      clear g3 hel3
      go_wp2_with fail
      refine (HS2.out w3 G3.out).mono ?_
      rintro e w4 ⟨B4, c4, rfl, hel4, g4⟩
      have G4 := Lib.hid (kept_trans G3.out g4); have HVE := Lib.hid hel4.els; have HUE := Lib.hid (HE3.out.kept g4)
      clear g4 hel4 HS1 HS2
      have hmk : ∀ W : World, (Instr.makeMap 74 none).run Try.prog W = .ok (.map (some W.heap.size)) (W.alloc (.map #[] 0)) := fun _ => rfl
      go_wp2_with fail
      clear hmk
      go_loopw [52] (fun t wr => ∃ i : Nat, i ≤ V.length ∧ t = .int .i64 (i : Nat) ∧ Hid (SqIs wr w4.heap.size (V.take i)) ∧ Hid (Kept w4 wr)) (fun t _ => V.length - (intOf t).toNat)
      case atStart => exact ⟨0, Nat.zero_le _, rfl, Lib.hid (sqIs_new w4), Lib.hid ((Kept.refl _).alloc _)⟩
      case round =>
        obtain ⟨i, hi, rfl, HQ, HK⟩ := hrel
        by_cases hlt : i < V.length
        · obtain ⟨x, hx⟩ : ∃ x, V[i]? = some x := ⟨_, List.getElem?_eq_getElem hlt⟩
          obtain ⟨q1, q2, q3⟩ := HVM.out x (List.mem_of_getElem? hx)
          have HXX := Lib.hid hx
          obtain ⟨b, o, rfl, hb, p0, p1, p2, p3⟩ := (HVE.out.kept HK.out) i x hx
          have HEL := Lib.hid (HVE.out.kept HK.out)
          have k7 : Kept wr (wr.alloc (.cells #[.string (bs x.key), .int .u64 (x.seq : Nat), .bool x.del, .string (bs x.val)] 35)) := (Kept.refl _).alloc _
          have rx := malloc_new wr (.cells #[.string (bs x.key), .int .u64 (x.seq : Nat), .bool x.del, .string (bs x.val)] 35)
          rw [q1] at p2 rx k7
          have t1 : decide ((s1 : Int) < (x.seq : Int)) = false := decide_eq_false (by omega)
          have t2 : decide (s1 < x.seq) = false := decide_eq_false (by omega)
          clear hx
          go_upto_region 13 with fail
          generalize wr.alloc (.cells #[.string (bs x.key), .int .u64 (x.seq : Nat), .bool false, .string (bs x.val)] 35) = w7 at *
          have u1 := mcell (v := .string (bs x.key)) rx 0 rfl; have u2 := mcell (v := .int .u64 (x.seq : Nat)) rx 1 rfl; have u3 := mcell (v := .bool false) rx 2 rfl
          have hrl := mheap_lt rx
          have HRX := Lib.hid rx
          have K7 := Lib.hid k7
          have HB7 := Lib.hid (Nat.lt_of_lt_of_le hb (Below.size k7))
          clear p0 p1 p2 p3 rx
          by_cases hi0 : 0 < i
          · obtain ⟨j, hji⟩ : ∃ j, j + 1 = i := ⟨i - 1, by omega⟩
            obtain ⟨y, hy⟩ : ∃ y, V[j]? = some y := ⟨_, List.getElem?_eq_getElem (by omega)⟩
            have hyx := HVR.out j i y x hy HXX.out (by omega)
            obtain ⟨b', o', e', _, r0, _, _, _⟩ := (HEL.out.kept K7.out) j y hy
            cases e'
            have n1 := mbs_less y.key x.key
            rw [decide_eq_true hyx] at n1
            clear hy hyx
            have e1 : (i : Int) - 1 = (j : Int) := by omega
            have e2 : IntKind.i64.wrap (j : Int) = (j : Int) := wrap_nat (by omega)
            have e3 : (0 : Int) < (i : Int) := by omega
            have e4 : 0 < i := by omega
            have i5 : j < V.length := by omega
            have HJI := Lib.hid hji
            clear hji
            go_quiet (fail)
            have K8 := Lib.hid (kept_trans k7 (kept_drewN w7 nq))
            have rx8 := (Below.block (kept_drewN w7 nq) _ hrl).trans HRX.out
            generalize w7.drewN nq = w8 at *
            have v1 := mcell (v := .string (bs x.key)) rx8 0 rfl; have v2 := mcell (v := .int .u64 (x.seq : Nat)) rx8 1 rfl
            obtain ⟨w9, hrun, sq9, g9, z9⟩ := (HQ.out.kept K8.out).store (Nat.le_trans (List.length_take_le _ _) (by omega)) x q3.1 q3.2 (HVN.out _ x HXX.out)
            have HQ9 := Lib.hid (show SqIs w9 w4.heap.size (V.take (_ + 1)) by rw [List.take_add_one, HXX.out]; exact sq9)
            have K9 := Lib.hid (kept_store HK.out K8.out g9)
            clear sq9 g9 rx8 u1 u2 u3 k7
            go_wp2_with fail
            go_roundw
            case rel => exact ⟨_, by omega, by go_num, HQ9, K9⟩
            case measure => simp [intOf]; omega
          · have e3 : ¬ (0 : Int) < (i : Int) := by omega
            have e4 : decide ((0 : Int) < (i : Int)) = false := decide_eq_false e3
            have e5 : decide (0 < i) = false := decide_eq_false hi0
            clear hi0 e3
            go_quiet (fail)
            have K8 := Lib.hid (kept_trans k7 (kept_drewN w7 nq))
            have rx8 := (Below.block (kept_drewN w7 nq) _ hrl).trans HRX.out
            generalize w7.drewN nq = w8 at *
            have v1 := mcell (v := .string (bs x.key)) rx8 0 rfl; have v2 := mcell (v := .int .u64 (x.seq : Nat)) rx8 1 rfl
            obtain ⟨w9, hrun, sq9, g9, z9⟩ := (HQ.out.kept K8.out).store (Nat.le_trans (List.length_take_le _ _) (by omega)) x q3.1 q3.2 (HVN.out _ x HXX.out)
            have HQ9 := Lib.hid (show SqIs w9 w4.heap.size (V.take (_ + 1)) by rw [List.take_add_one, HXX.out]; exact sq9)
            have K9 := Lib.hid (kept_store HK.out K8.out g9)
            clear sq9 g9 rx8 u1 u2 u3 k7
            go_wp2_with fail
            go_roundw
            case rel => exact ⟨_, by omega, by go_num, HQ9, K9⟩
            case measure => simp [intOf]; omega
        · have e : i = V.length := by omega
          subst e
          rw [List.take_length] at HQ
          have HQ1 := HQ; have HK1 := HK
          go_wp2_with fail
          go_loopw [90] (fun t wr => ∃ i : Nat, i ≤ U.length ∧ t = .int .i64 (i : Nat) ∧ Hid (SqIs wr w4.heap.size V) ∧ Hid (Kept w4 wr)) (fun t _ => U.length - (intOf t).toNat)
          case atStart => exact ⟨0, Nat.zero_le _, rfl, HQ1, HK1⟩
          case round =>
            obtain ⟨i, hi, rfl, HQ, HK⟩ := hrel
            by_cases hlt : i < U.length
            · obtain ⟨x, hx⟩ : ∃ x, U[i]? = some x := ⟨_, List.getElem?_eq_getElem hlt⟩
              obtain ⟨q1, q2, q3⟩ := HUM.out x (List.mem_of_getElem? hx)
              have HXX := Lib.hid hx
              obtain ⟨b, o, rfl, hb, p0, p1, p2, p3⟩ := (HUE.out.kept HK.out) i x hx
              have HEL := Lib.hid (HUE.out.kept HK.out)
              have k7 : Kept wr (wr.alloc (.cells #[.string (bs x.key), .int .u64 (x.seq : Nat), .bool x.del, .string (bs x.val)] 35)) := (Kept.refl _).alloc _
              have rx := malloc_new wr (.cells #[.string (bs x.key), .int .u64 (x.seq : Nat), .bool x.del, .string (bs x.val)] 35)
              rw [q1] at p2 rx k7
              have t1 : decide ((s1 : Int) < (x.seq : Int)) = false := decide_eq_false (by omega)
              have t2 : decide (s1 < x.seq) = false := decide_eq_false (by omega)
              clear hx
              go_upto_region 20 with fail
              generalize wr.alloc (.cells #[.string (bs x.key), .int .u64 (x.seq : Nat), .bool false, .string (bs x.val)] 35) = w7 at *
              have u1 := mcell (v := .string (bs x.key)) rx 0 rfl; have u2 := mcell (v := .int .u64 (x.seq : Nat)) rx 1 rfl; have u3 := mcell (v := .bool false) rx 2 rfl
              have hrl := mheap_lt rx
              have HRX := Lib.hid rx
              have K7 := Lib.hid k7
              have HB7 := Lib.hid (Nat.lt_of_lt_of_le hb (Below.size k7))
              clear p0 p1 p2 p3 rx
              by_cases hi0 : 0 < i
              · obtain ⟨j, hji⟩ : ∃ j, j + 1 = i := ⟨i - 1, by omega⟩
                obtain ⟨y, hy⟩ : ∃ y, U[j]? = some y := ⟨_, List.getElem?_eq_getElem (by omega)⟩
                have hyx := HUR.out j i y x hy HXX.out (by omega)
                obtain ⟨b', o', e', _, r0, _, _, _⟩ := (HEL.out.kept K7.out) j y hy
                cases e'
                have n1 := mbs_less y.key x.key
                rw [decide_eq_true hyx] at n1
                clear hy hyx
                have e1 : (i : Int) - 1 = (j : Int) := by omega
                have e2 : IntKind.i64.wrap (j : Int) = (j : Int) := wrap_nat (by omega)
                have e3 : (0 : Int) < (i : Int) := by omega
                have e4 : 0 < i := by omega
                have i5 : j < U.length := by omega
                have HJI := Lib.hid hji
                clear hji
                go_quiet (fail)
                have K8 := Lib.hid (kept_trans k7 (kept_drewN w7 nq))
                have rx8 := (Below.block (kept_drewN w7 nq) _ hrl).trans HRX.out
                generalize w7.drewN nq = w8 at *
                have v1 := mcell (v := .string (bs x.key)) rx8 0 rfl; have v2 := mcell (v := .int .u64 (x.seq : Nat)) rx8 1 rfl
                obtain ⟨v, B, hrun, hv1, hv2⟩ := (HQ.out.kept K8.out).look q3.1
                have HQ9 := Lib.hid (HQ.out.kept K8.out)
                have K9 := Lib.hid (kept_trans HK.out K8.out)
                clear rx8 u1 u2 u3 k7
                by_cases hex : ∃ z, z ∈ V ∧ z.key = x.key
                · obtain ⟨z, hz1, hz2⟩ := hex
                  have := hv1 z hz1 hz2
                  subst this
                  have hz3 := HUV.out x z (List.mem_of_getElem? HXX.out) hz1 hz2
                  have t3 : decide ((z.seq : Int) < (x.seq : Int)) = false := decide_eq_false (by omega)
                  have t4 : decide (z.seq < x.seq) = false := decide_eq_false (by omega)
                  clear hv1 hv2 hz1 hz2
                  cases B with
                  | true =>
                    go_wp2_with fail
                    go_roundw
                    case rel => exact ⟨i + 1, by omega, by go_num, HQ9, K9⟩
                    case measure => simp [intOf]; omega
                  | false =>
                    go_wp2_with fail
                    go_roundw
                    case rel => exact ⟨i + 1, by omega, by go_num, HQ9, K9⟩
                    case measure => simp [intOf]; omega
                · have hB := hv2 (fun z hz1 hz2 => hex ⟨z, hz1, hz2⟩)
                  subst hB
                  clear hv1 hv2 hex
                  go_wp2_with fail
                  go_roundw
                  case rel => exact ⟨i + 1, by omega, by go_num, HQ9, K9⟩
                  case measure => simp [intOf]; omega
              · have e3 : ¬ (0 : Int) < (i : Int) := by omega
                have e4 : decide ((0 : Int) < (i : Int)) = false := decide_eq_false e3
                have e5 : decide (0 < i) = false := decide_eq_false hi0
                clear hi0 e3
                go_quiet (fail)
                have K8 := Lib.hid (kept_trans k7 (kept_drewN w7 nq))
                have rx8 := (Below.block (kept_drewN w7 nq) _ hrl).trans HRX.out
                generalize w7.drewN nq = w8 at *
                have v1 := mcell (v := .string (bs x.key)) rx8 0 rfl; have v2 := mcell (v := .int .u64 (x.seq : Nat)) rx8 1 rfl
                obtain ⟨v, B, hrun, hv1, hv2⟩ := (HQ.out.kept K8.out).look q3.1
                have HQ9 := Lib.hid (HQ.out.kept K8.out)
                have K9 := Lib.hid (kept_trans HK.out K8.out)
                clear rx8 u1 u2 u3 k7
                by_cases hex : ∃ z, z ∈ V ∧ z.key = x.key
                · obtain ⟨z, hz1, hz2⟩ := hex
                  have := hv1 z hz1 hz2
                  subst this
                  have hz3 := HUV.out x z (List.mem_of_getElem? HXX.out) hz1 hz2
                  have t3 : decide ((z.seq : Int) < (x.seq : Int)) = false := decide_eq_false (by omega)
                  have t4 : decide (z.seq < x.seq) = false := decide_eq_false (by omega)
                  clear hv1 hv2 hz1 hz2
                  cases B with
                  | true =>
                    go_wp2_with fail
                    go_roundw
                    case rel => exact ⟨i + 1, by omega, by go_num, HQ9, K9⟩
                    case measure => simp [intOf]; omega
                  | false =>
                    go_wp2_with fail
                    go_roundw
                    case rel => exact ⟨i + 1, by omega, by go_num, HQ9, K9⟩
                    case measure => simp [intOf]; omega
                · have hB := hv2 (fun z hz1 hz2 => hex ⟨z, hz1, hz2⟩)
                  subst hB
                  clear hv1 hv2 hex
                  go_wp2_with fail
                  go_roundw
                  case rel => exact ⟨i + 1, by omega, by go_num, HQ9, K9⟩
                  case measure => simp [intOf]; omega
            · have e : i = U.length := by omega
              subst e
              go_wp2_with fail
              go_ret
              exact ⟨rfl, kept_trans G.out (kept_trans G4.out HK.out)⟩
theorem seen_gt (A : Option Addr) (cap : Nat) (l : List Mm.Ent) (s1 s2 : Nat) (hs : s2 < s1) {w : World} (ha : Els w A l) (hl : l.length ≤ cap ∧ cap ≤ maxLen ∧ OkEs l) :
    Calls Try.prog 13 #[.slice A l.length cap, .int .u64 (s1 : Nat), .int .u64 (s2 : Nat)] w fun e w' => e = .returned (.bool true) ∧ Kept w w' := by
  obtain ⟨hc, hm, ho⟩ := hl
  have m1 : (s2 : Int) < (s1 : Int) := by omega
  have m3 : ¬ (s1 : Int) ≤ (s2 : Int) := by omega
  have m4 : (s2 : Int) ≤ (s1 : Int) := by omega
  have m5 : s2 ≤ s1 := by omega
  have m6 : ¬ s1 < s2 := by omega
  have m7 : ¬ (s1 : Int) < (s2 : Int) := by omega
  have HE := Lib.hid ha; have HO := Lib.hid ho; have HC := Lib.hid hc; have HM := Lib.hid hm
  clear ha ho hc hm
  go_enter Try.func13, Try.ntmps13
  go_wp2_with fail
  refine (gmawake_any w).mono ?_
  rintro e w1 ⟨rfl, g1⟩
  have k2 : Kept w1 (w1.alloc (.cells #[.slice A l.length cap] 22)) := (Kept.refl _).alloc _
  have HL := Lib.hid (show Calls Try.prog 45 #[.slice (some ⟨w1.heap.size, 0, none⟩) 1 1] (w1.alloc (.cells #[.slice A l.length cap] 22)) (LgOne (w1.alloc (.cells #[.slice A l.length cap] 22)) l) from glarge_one ((HE.out.kept g1).kept k2) HC.out HM.out HO.out (malloc_new w1 _))
  have G2 := Lib.hid (kept_trans g1 k2)
  clear g1 k2
  go_wp2_with fail
  refine HL.out.mono ?_
  rintro e w2 ⟨B, rfl, g2, hB⟩
  have G := Lib.hid (kept_trans G2.out g2)
  clear g2 HL
  cases B with
  | true =>
    go_wp2_with fail
    go_ret
    exact ⟨rfl, G.out⟩
  | false =>
    have h300 := hB rfl
    clear hB
    have HSE := Lib.hid (fun W (K : Kept w2 W) s => gseen_any cap ((HE.out.kept G.out).kept K) (by omega) s)
    cases hv : Mg.row l with
    | false =>
      have n1 := rS_no (m := Mg.seen l s2) hv; have n2 := rS_no (m := Mg.seen l s1) hv
      have HS1 := Lib.hid (fun W K => HSE.out W K s2); have HS2 := Lib.hid (fun W K => HSE.out W K s1)
      rw [n1.1, n1.2] at HS1; rw [n2.1, n2.2] at HS2
      clear n1 n2 hv
      go_wp2_with fail
      refine (HS1.out w2 (Kept.refl _)).mono ?_
      rintro e w3 ⟨B3, c3, rfl, _, g3⟩
      have G3 := Lib.hid g3
      clear g3
      go_wp2_with fail
      refine (HS2.out w3 G3.out).mono ?_
      rintro e w4 ⟨B4, c4, rfl, _, g4⟩
      go_wp2_with fail
      go_ret
      exact ⟨rfl, kept_trans G.out (kept_trans G3.out g4)⟩
    | true =>
      have n1 := rS_yes (m := Mg.seen l s2) hv; have n2 := rS_yes (m := Mg.seen l s1) hv
      have HS1 := Lib.hid (fun W K => HSE.out W K s2); have HS2 := Lib.hid (fun W K => HSE.out W K s1)
      rw [n1.1, n1.2] at HS1; rw [n2.1, n2.2] at HS2
      obtain ⟨V, hV⟩ : ∃ V, V = Mg.seen l s1 := ⟨_, rfl⟩
      rw [← hV] at HS2
      have HRW := Mg.row_iff.1 hv
      have q1 : (Mg.seen l s2).length ≤ 300 := Nat.le_trans (List.length_filter_le _ _) h300
      have q2 : V.length ≤ 300 := by rw [hV]; exact Nat.le_trans (List.length_filter_le _ _) h300
      have HUM := Lib.hid (fun (x : Mm.Ent) (hx : x ∈ Mg.seen l s2) => show x.del = false ∧ x.seq ≤ s2 ∧ x.key.length ≤ maxLen ∧ x.seq ≤ 18446744073709551615 from by obtain ⟨z1, z2, z3, _⟩ := seen_mem hx; have := HO.out x z1; exact ⟨z2, z3, this.1, this.2.2⟩)
      have HVM := Lib.hid (fun (x : Mm.Ent) (hx : x ∈ V) => show x.del = false ∧ x.seq ≤ s1 ∧ x.key.length ≤ maxLen ∧ x.seq ≤ 18446744073709551615 from by rw [hV] at hx; obtain ⟨z1, z2, z3, _⟩ := seen_mem hx; have := HO.out x z1; exact ⟨z2, z3, this.1, this.2.2⟩)
      have HUR := Lib.hid (fun j i (y x : Mm.Ent) (hy : (Mg.seen l s2)[j]? = some y) (hx : (Mg.seen l s2)[i]? = some x) (h : j < i) => seen_rise HRW hy hx h)
      have HVR := Lib.hid (fun j i (y x : Mm.Ent) (hy : V[j]? = some y) (hx : V[i]? = some x) (h : j < i) => show y.key < x.key from by rw [hV] at hy hx; exact seen_rise HRW hy hx h)
      have HVN := Lib.hid (fun i (x : Mm.Ent) (hx : V[i]? = some x) => show ∀ y ∈ V.take i, y.key ≠ x.key from by rw [hV] at hx ⊢; exact seen_take HRW hx)
      have HUV := Lib.hid (fun (x z : Mm.Ent) (hx : x ∈ Mg.seen l s2) (hz : z ∈ V) (e : z.key = x.key) => show x.seq ≤ z.seq from by rw [hV] at hz; exact seen_later (m := s2) (M := s1) (by omega) hx hz e)
      clear n1 n2 hv HRW HSE hV
      generalize Mg.seen l s2 = U at *
      go_wp2_with fail
      refine (HS1.out w2 (Kept.refl _)).mono ?_
      rintro e w3 ⟨B3, c3, rfl, hel3, g3⟩
      have G3 := Lib.hid g3; have HE3 := Lib.hid hel3.els
      clear g3 hel3
      go_wp2_with fail
      refine (HS2.out w3 G3.out).mono ?_
      rintro e w4 ⟨B4, c4, rfl, hel4, g4⟩
      have G4 := Lib.hid (kept_trans G3.out g4); have HVE := Lib.hid hel4.els; have HUE := Lib.hid (HE3.out.kept g4)
      clear g4 hel4 HS1 HS2
      have hmk : ∀ W : World, (Instr.makeMap 74 none).run Try.prog W = .ok (.map (some W.heap.size)) (W.alloc (.map #[] 0)) := fun _ => rfl
      go_wp2_with fail
      clear hmk
      go_loopw [52] (fun t wr => ∃ i : Nat, i ≤ V.length ∧ t = .int .i64 (i : Nat) ∧ Hid (SqIs wr w4.heap.size (V.take i)) ∧ Hid (Kept w4 wr)) (fun t _ => V.length - (intOf t).toNat)
      case atStart => exact ⟨0, Nat.zero_le _, rfl, Lib.hid (sqIs_new w4), Lib.hid ((Kept.refl _).alloc _)⟩
      case round =>
        obtain ⟨i, hi, rfl, HQ, HK⟩ := hrel
        by_cases hlt : i < V.length
        · obtain ⟨x, hx⟩ : ∃ x, V[i]? = some x := ⟨_, List.getElem?_eq_getElem hlt⟩
          obtain ⟨q1, q2, q3⟩ := HVM.out x (List.mem_of_getElem? hx)
          have HXX := Lib.hid hx
          obtain ⟨b, o, rfl, hb, p0, p1, p2, p3⟩ := (HVE.out.kept HK.out) i x hx
          have HEL := Lib.hid (HVE.out.kept HK.out)
          have k7 : Kept wr (wr.alloc (.cells #[.string (bs x.key), .int .u64 (x.seq : Nat), .bool x.del, .string (bs x.val)] 35)) := (Kept.refl _).alloc _
          have rx := malloc_new wr (.cells #[.string (bs x.key), .int .u64 (x.seq : Nat), .bool x.del, .string (bs x.val)] 35)
          rw [q1] at p2 rx k7
          have t1 : decide ((s1 : Int) < (x.seq : Int)) = false := decide_eq_false (by omega)
          have t2 : decide (s1 < x.seq) = false := decide_eq_false (by omega)
          clear hx
          go_upto_region 13 with fail
          generalize wr.alloc (.cells #[.string (bs x.key), .int .u64 (x.seq : Nat), .bool false, .string (bs x.val)] 35) = w7 at *
          have u1 := mcell (v := .string (bs x.key)) rx 0 rfl; have u2 := mcell (v := .int .u64 (x.seq : Nat)) rx 1 rfl; have u3 := mcell (v := .bool false) rx 2 rfl
          have hrl := mheap_lt rx
          have HRX := Lib.hid rx
          have K7 := Lib.hid k7
          have HB7 := Lib.hid (Nat.lt_of_lt_of_le hb (Below.size k7))
          clear p0 p1 p2 p3 rx
          by_cases hi0 : 0 < i
          · obtain ⟨j, hji⟩ : ∃ j, j + 1 = i := ⟨i - 1, by omega⟩
            obtain ⟨y, hy⟩ : ∃ y, V[j]? = some y := ⟨_, List.getElem?_eq_getElem (by omega)⟩
            have hyx := HVR.out j i y x hy HXX.out (by omega)
            obtain ⟨b', o', e', _, r0, _, _, _⟩ := (HEL.out.kept K7.out) j y hy
            cases e'
            have n1 := mbs_less y.key x.key
            rw [decide_eq_true hyx] at n1
            clear hy hyx
            have e1 : (i : Int) - 1 = (j : Int) := by omega
            have e2 : IntKind.i64.wrap (j : Int) = (j : Int) := wrap_nat (by omega)
            have e3 : (0 : Int) < (i : Int) := by omega
            have e4 : 0 < i := by omega
            have i5 : j < V.length := by omega
            have HJI := Lib.hid hji
            clear hji
            go_quiet (fail)
            have K8 := Lib.hid (kept_trans k7 (kept_drewN w7 nq))
            have rx8 := (Below.block (kept_drewN w7 nq) _ hrl).trans HRX.out
            generalize w7.drewN nq = w8 at *
            have v1 := mcell (v := .string (bs x.key)) rx8 0 rfl; have v2 := mcell (v := .int .u64 (x.seq : Nat)) rx8 1 rfl
            obtain ⟨w9, hrun, sq9, g9, z9⟩ := (HQ.out.kept K8.out).store (Nat.le_trans (List.length_take_le _ _) (by omega)) x q3.1 q3.2 (HVN.out _ x HXX.out)
            have HQ9 := Lib.hid (show SqIs w9 w4.heap.size (V.take (_ + 1)) by rw [List.take_add_one, HXX.out]; exact sq9)
            have K9 := Lib.hid (kept_store HK.out K8.out g9)
            clear sq9 g9 rx8 u1 u2 u3 k7
            go_wp2_with fail
            go_roundw
            case rel => exact ⟨_, by omega, by go_num, HQ9, K9⟩
            case measure => simp [intOf]; omega
          · have e3 : ¬ (0 : Int) < (i : Int) := by omega
            have e4 : decide ((0 : Int) < (i : Int)) = false := decide_eq_false e3
            have e5 : decide (0 < i) = false := decide_eq_false hi0
            clear hi0 e3
            go_quiet (fail)
            have K8 := Lib.hid (kept_trans k7 (kept_drewN w7 nq))
            have rx8 := (Below.block (kept_drewN w7 nq) _ hrl).trans HRX.out
            generalize w7.drewN nq = w8 at *
            have v1 := mcell (v := .string (bs x.key)) rx8 0 rfl; have v2 := mcell (v := .int .u64 (x.seq : Nat)) rx8 1 rfl
            obtain ⟨w9, hrun, sq9, g9, z9⟩ := (HQ.out.kept K8.out).store (Nat.le_trans (List.length_take_le _ _) (by omega)) x q3.1 q3.2 (HVN.out _ x HXX.out)
            have HQ9 := Lib.hid (show SqIs w9 w4.heap.size (V.take (_ + 1)) by rw [List.take_add_one, HXX.out]; exact sq9)
            have K9 := Lib.hid (kept_store HK.out K8.out g9)
            clear sq9 g9 rx8 u1 u2 u3 k7
            go_wp2_with fail
            go_roundw
            case rel => exact ⟨_, by omega, by go_num, HQ9, K9⟩
            case measure => simp [intOf]; omega
        · have e : i = V.length := by omega
          subst e
          rw [List.take_length] at HQ
          have HQ1 := HQ; have HK1 := HK
          go_wp2_with fail
          go_loopw [90] (fun t wr => ∃ i : Nat, i ≤ U.length ∧ t = .int .i64 (i : Nat) ∧ Hid (SqIs wr w4.heap.size V) ∧ Hid (Kept w4 wr)) (fun t _ => U.length - (intOf t).toNat)
          case atStart => exact ⟨0, Nat.zero_le _, rfl, HQ1, HK1⟩
          case round =>
            obtain ⟨i, hi, rfl, HQ, HK⟩ := hrel
            by_cases hlt : i < U.length
            · obtain ⟨x, hx⟩ : ∃ x, U[i]? = some x := ⟨_, List.getElem?_eq_getElem hlt⟩
              obtain ⟨q1, q2, q3⟩ := HUM.out x (List.mem_of_getElem? hx)
              have HXX := Lib.hid hx
              obtain ⟨b, o, rfl, hb, p0, p1, p2, p3⟩ := (HUE.out.kept HK.out) i x hx
              have HEL := Lib.hid (HUE.out.kept HK.out)
              have k7 : Kept wr (wr.alloc (.cells #[.string (bs x.key), .int .u64 (x.seq : Nat), .bool x.del, .string (bs x.val)] 35)) := (Kept.refl _).alloc _
              have rx := malloc_new wr (.cells #[.string (bs x.key), .int .u64 (x.seq : Nat), .bool x.del, .string (bs x.val)] 35)
              rw [q1] at p2 rx k7
              have t1 : decide ((s2 : Int) < (x.seq : Int)) = false := decide_eq_false (by omega)
              have t2 : decide (s2 < x.seq) = false := decide_eq_false (by omega)
              clear hx
              go_upto_region 20 with fail
              generalize wr.alloc (.cells #[.string (bs x.key), .int .u64 (x.seq : Nat), .bool false, .string (bs x.val)] 35) = w7 at *
              have u1 := mcell (v := .string (bs x.key)) rx 0 rfl; have u2 := mcell (v := .int .u64 (x.seq : Nat)) rx 1 rfl; have u3 := mcell (v := .bool false) rx 2 rfl
              have hrl := mheap_lt rx
              have HRX := Lib.hid rx
              have K7 := Lib.hid k7
              have HB7 := Lib.hid (Nat.lt_of_lt_of_le hb (Below.size k7))
              clear p0 p1 p2 p3 rx
              by_cases hi0 : 0 < i
              · obtain ⟨j, hji⟩ : ∃ j, j + 1 = i := ⟨i - 1, by omega⟩
                obtain ⟨y, hy⟩ : ∃ y, U[j]? = some y := ⟨_, List.getElem?_eq_getElem (by omega)⟩
                have hyx := HUR.out j i y x hy HXX.out (by omega)
                obtain ⟨b', o', e', _, r0, _, _, _⟩ := (HEL.out.kept K7.out) j y hy
                cases e'
                have n1 := mbs_less y.key x.key
                rw [decide_eq_true hyx] at n1
                clear hy hyx
                have e1 : (i : Int) - 1 = (j : Int) := by omega
                have e2 : IntKind.i64.wrap (j : Int) = (j : Int) := wrap_nat (by omega)
                have e3 : (0 : Int) < (i : Int) := by omega
                have e4 : 0 < i := by omega
                have i5 : j < U.length := by omega
                have HJI := Lib.hid hji
                clear hji
                go_quiet (fail)
                have K8 := Lib.hid (kept_trans k7 (kept_drewN w7 nq))
                have rx8 := (Below.block (kept_drewN w7 nq) _ hrl).trans HRX.out
                generalize w7.drewN nq = w8 at *
                have v1 := mcell (v := .string (bs x.key)) rx8 0 rfl; have v2 := mcell (v := .int .u64 (x.seq : Nat)) rx8 1 rfl
                obtain ⟨v, B, hrun, hv1, hv2⟩ := (HQ.out.kept K8.out).look q3.1
                have HQ9 := Lib.hid (HQ.out.kept K8.out)
                have K9 := Lib.hid (kept_trans HK.out K8.out)
                clear rx8 u1 u2 u3 k7
                by_cases hex : ∃ z, z ∈ V ∧ z.key = x.key
                · obtain ⟨z, hz1, hz2⟩ := hex
                  have := hv1 z hz1 hz2
                  subst this
                  have hz3 := HUV.out x z (List.mem_of_getElem? HXX.out) hz1 hz2
                  have t3 : decide ((z.seq : Int) < (x.seq : Int)) = false := decide_eq_false (by omega)
                  have t4 : decide (z.seq < x.seq) = false := decide_eq_false (by omega)
                  clear hv1 hv2 hz1 hz2
                  cases B with
                  | true =>
                    go_wp2_with fail
                    go_roundw
                    case rel => exact ⟨i + 1, by omega, by go_num, HQ9, K9⟩
                    case measure => simp [intOf]; omega
                  | false =>
                    go_wp2_with fail
                    go_roundw
                    case rel => exact ⟨i + 1, by omega, by go_num, HQ9, K9⟩
                    case measure => simp [intOf]; omega
                · have hB := hv2 (fun z hz1 hz2 => hex ⟨z, hz1, hz2⟩)
                  subst hB
                  clear hv1 hv2 hex
                  go_wp2_with fail
                  go_roundw
                  case rel => exact ⟨i + 1, by omega, by go_num, HQ9, K9⟩
                  case measure => simp [intOf]; omega
              · have e3 : ¬ (0 : Int) < (i : Int) := by omega
                have e4 : decide ((0 : Int) < (i : Int)) = false := decide_eq_false e3
                have e5 : decide (0 < i) = false := decide_eq_false hi0
                clear hi0 e3
                go_quiet (fail)
                have K8 := Lib.hid (kept_trans k7 (kept_drewN w7 nq))
                have rx8 := (Below.block (kept_drewN w7 nq) _ hrl).trans HRX.out
                generalize w7.drewN nq = w8 at *
                have v1 := mcell (v := .string (bs x.key)) rx8 0 rfl; have v2 := mcell (v := .int .u64 (x.seq : Nat)) rx8 1 rfl
                obtain ⟨v, B, hrun, hv1, hv2⟩ := (HQ.out.kept K8.out).look q3.1
                have HQ9 := Lib.hid (HQ.out.kept K8.out)
                have K9 := Lib.hid (kept_trans HK.out K8.out)
                clear rx8 u1 u2 u3 k7
                by_cases hex : ∃ z, z ∈ V ∧ z.key = x.key
                · obtain ⟨z, hz1, hz2⟩ := hex
                  have := hv1 z hz1 hz2
                  subst this
                  have hz3 := HUV.out x z (List.mem_of_getElem? HXX.out) hz1 hz2
                  have t3 : decide ((z.seq : Int) < (x.seq : Int)) = false := decide_eq_false (by omega)
                  have t4 : decide (z.seq < x.seq) = false := decide_eq_false (by omega)
                  clear hv1 hv2 hz1 hz2
                  cases B with
                  | true =>
                    go_wp2_with fail
                    go_roundw
                    case rel => exact ⟨i + 1, by omega, by go_num, HQ9, K9⟩
                    case measure => simp [intOf]; omega
                  | false =>
                    go_wp2_with fail
                    go_roundw
                    case rel => exact ⟨i + 1, by omega, by go_num, HQ9, K9⟩
                    case measure => simp [intOf]; omega
                · have hB := hv2 (fun z hz1 hz2 => hex ⟨z, hz1, hz2⟩)
                  subst hB
                  clear hv1 hv2 hex
                  go_wp2_with fail
                  go_roundw
                  case rel => exact ⟨i + 1, by omega, by go_num, HQ9, K9⟩
                  case measure => simp [intOf]; omega
            · have e : i = U.length := by omega
              subst e
              go_wp2_with fail
              go_ret
              exact ⟨rfl, kept_trans G.out (kept_trans G4.out HK.out)⟩
theorem MergeSeen_walk (A : Option Addr) (cap : Nat) (l : List Mm.Ent) (a1 a2 : Int) {w : World} (ha : Els w A l) (hl : l.length ≤ cap ∧ cap ≤ maxLen ∧ OkEs l) (h1 : (Lit.int .u64 a1).wf = true) (h2 : (Lit.int .u64 a2).wf = true) :
    Calls Try.prog 13 #[.slice A l.length cap, .int .u64 a1, .int .u64 a2] w fun e w' => e = .returned (.bool true) ∧ Kept w w' := by
  have b1 := bounds_u64 h1; have b2 := bounds_u64 h2
  obtain ⟨s1, rfl⟩ : ∃ s : Nat, a1 = (s : Int) := ⟨a1.toNat, by omega⟩
  obtain ⟨s2, rfl⟩ : ∃ s : Nat, a2 = (s : Int) := ⟨a2.toNat, by omega⟩
  rcases Nat.lt_trichotomy s1 s2 with hs | hs | hs
  · exact seen_lt A cap l s1 s2 hs ha hl
  · subst hs; exact seen_eq A cap l s1 ha hl
  · exact seen_gt A cap l s1 s2 hs ha hl
end Go.Proofs.Ytpnabojfliphpaa
