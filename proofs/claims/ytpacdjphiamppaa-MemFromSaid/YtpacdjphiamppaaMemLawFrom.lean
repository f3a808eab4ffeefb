/-
  The walk of MemFrom.
-/
import Derived.Test.YtpacdjphiamppaaMemWake
import Derived.Test.YtpacdjphiamppaaMemLawMath
import Derived.Deep.RegionHeld3
namespace Go.Proofs.Ytpacdjphiamppaa
open Go.ChangeShapes Go.WideShapes Go.ChangeAt Go.RowKit
set_option linter.unusedVariables false
set_option maxRecDepth 100000
set_option maxHeartbeats 4000000

theorem Els.drop {w : World} {b o : Nat} {l : List Mm.Ent} (h : Els w (some ⟨b, o, none⟩) l) (i : Nat) : Els w (some ⟨b, o + i * 4, none⟩) (l.drop i) := fun j x hx => by
  rw [List.getElem?_drop] at hx
  obtain ⟨b', o', e, hb, h0, h1, h2, h3⟩ := h (i + j) x hx
  cases e
  have e1 : o + (i + j) * 4 = o + i * 4 + j * 4 := by omega
  rw [e1] at h0 h1 h2 h3
  exact ⟨b, o + i * 4, rfl, hb, h0, h1, h2, h3⟩
theorem Els.take {w : World} {A : Option Addr} {l : List Mm.Ent} (h : Els w A l) (i : Nat) : Els w A (l.take i) := fun j x hx => by
  rw [List.getElem?_take] at hx
  split at hx
  · exact h j x hx
  · cases hx
theorem msame_of {A1 A2 : Option Addr} {a b c1 c2 : Nat} {l m : List Mm.Ent} {w : World} (h1 : Els w A1 l) (h2 : Els w A2 m) (ha : l.length = a) (hb : m.length = b) (hl : l.length ≤ 1000) (he : l = m) :
    Calls Try.prog 23 #[.slice A1 a c1, .slice A2 b c2] w fun e w' => e = .returned (.bool true) ∧ Kept w w' := by
  subst ha hb he
  have := msame_any A1 A2 c1 c2 l l hl hl w h1 h2
  rw [decide_eq_true rfl] at this
  exact this.mono fun e w' ⟨q1, q, q2⟩ => ⟨q1, by rw [q2]; exact kept_drewN w q⟩
theorem MemFrom_walk {w : World} (A : Option Addr) (cap : Nat) (l : List Pt) (key : ByteArray) (n : Int) (hA : Puts w A l) (hL : l.length ≤ maxLen ∧ PutsOk l) (hkey : key.size ≤ maxLen) (hn : (Lit.int .i64 n).wf = true) :
    Calls Try.prog 7 #[.slice A l.length cap, .string key, .int .i64 n] w fun e w' => e = .returned (.bool true) ∧ Kept w w' := by
  obtain ⟨hlen, hok⟩ := hL
  obtain ⟨hn1, hn2⟩ := bounds_i64 hn
  obtain ⟨K, rfl⟩ : ∃ K, key = bs K := ⟨_, (mbs_self key).symm⟩
  clear hn
  unfold maxLen at hlen hkey
  have HOK := Lib.hid hok
  clear hok
  by_cases h300 : 300 < (bs K).size
  · have d1 : decide ((300 : Int) < ((bs K).size : Int)) = true := by simp; omega
    go_enter Try.func7, Try.ntmps7
    go_wp2_with fail
    refine (mawake_any _).mono ?_
    rintro e w1 ⟨rfl, g1⟩
    go_wp2_with fail
    go_ret
    exact ⟨rfl, g1⟩
  · have d1 : decide ((300 : Int) < ((bs K).size : Int)) = false := by simp; omega
    clear h300 hkey
    go_enter Try.func7, Try.ntmps7
    go_wp2_with fail
    refine (mawake_any _).mono ?_
    rintro e w1 ⟨rfl, g1⟩
    go_wp2_with fail
    refine (ts_new (W := w) g1).mono ?_
    rintro e w2 ⟨rfl, t2⟩
    have T2 := Lib.hid t2
    clear t2
    generalize w1.heap.size = p at *
    go_wp2_with fail
    go_loopw [8] (fun t wr => ∃ (k : Nat) (T : List Mm.Tv), k ≤ l.length ∧ k ≤ 200 ∧ t = .int .i64 k ∧ T.length ≤ k ∧ Hid (Ts w wr p T)) (fun t _ => l.length - (intOf t).toNat)
    case atStart => exact ⟨0, [], Nat.zero_le _, Nat.zero_le _, rfl, Nat.le_refl _, T2⟩
    case round =>
      clear T2
      obtain ⟨k, T, hk, hk2, rfl, hTk, HT⟩ := hrel
      by_cases hlt : k < l.length ∧ k < 200
      · obtain ⟨hlt1, hlt2⟩ := hlt
        have d2 : decide ((k : Int) < (l.length : Int)) = true := by simp; omega
        have d3 : decide ((k : Int) < 200) = true := by simp; omega
        obtain ⟨x, hx⟩ : ∃ x, l[k]? = some x := ⟨_, List.getElem?_eq_getElem hlt1⟩
        obtain ⟨q1, q2, q3, q4⟩ := HOK.out x (List.mem_of_getElem? hx)
        obtain ⟨b, o, rfl, hb, c0, c1, c2, c3, c4⟩ := (hA.kept HT.out.kept) k x hx
        have hcl := fun W => mlarge_any x.e W q1 q2
        have HPUT := Lib.hid (fun W (h : Ts w W p T) => h.put (by omega) x.e x.h q1 q2)
        unfold entV at hcl HPUT
        clear hx
        cases hlg : (decide (300 < x.e.key.length) || decide (300 < x.e.val.length)) with
        | true =>
          rw [hlg] at hcl
          clear hlg
          go_wp2_with fail
          refine (hcl _).mono ?_
          rintro e w3 ⟨rfl, g3⟩
          have kk := kept_trans HT.out.kept g3
          go_wp2_with fail
          go_ret
          exact ⟨rfl, kk⟩
        | false =>
          rw [hlg] at hcl
          clear hlg
          go_wp2_with fail
          refine (hcl _).mono ?_
          rintro e w3 ⟨rfl, g3⟩
          have T3 := Lib.hid (HT.out.more g3)
          have z0 := (kept_cell g3 (p := ⟨b, o + k * 5, none⟩) hb).trans c0
          have z1 := (kept_cell g3 (p := ⟨b, o + k * 5 + 1, none⟩) hb).trans c1
          have z2 := (kept_cell g3 (p := ⟨b, o + k * 5 + 2, none⟩) hb).trans c2
          have z3 := (kept_cell g3 (p := ⟨b, o + k * 5 + 3, none⟩) hb).trans c3
          have z4 := (kept_cell g3 (p := ⟨b, o + k * 5 + 4, none⟩) hb).trans c4
          clear c0 c1 c2 c3 c4 hcl HT
          go_wp2_with fail
          go_region_with (go_at_call 13; refine (HPUT.out _ (T3.out.more (kept_drewN _ 1))).mono ?_; rintro e w4 ⟨rfl, t4⟩)
          all_goals
            have HT4 := Lib.hid t4
            have hpl := Mm.put_len_le T x.e x.h
            clear t4
            go_wp2_with fail
            go_roundw
            case rel => exact ⟨k + 1, _, by omega, by omega, by go_num, by omega, HT4⟩
            case measure => simp [intOf]; omega
      · have hT := HT.out
        have hgood := hT.tab.good
        have HG := Lib.hid hgood
        have hT200 : T.length ≤ 200 := by omega
        have HEL := Lib.hid (Mm.ents_len T)
        have hcase : k = l.length ∨ (k = 200 ∧ decide ((200 : Int) < (l.length : Int)) = true ∧ 200 < l.length) := by
          by_cases h1 : k < l.length
          · exact .inr ⟨by omega, by simp; omega, by omega⟩
          · exact .inl (by omega)
        clear hlt
        have HALL := Lib.hid (fun W (h : Ts w W p T) => mall_any h.tab)
        have HFROM := Lib.hid (fun W (h : Ts w W p T) => mfrom_any h.tab K n hn1 hn2)
        have HGF := Lib.hid (hgood.from K)
        clear hT hgood
        rcases hcase with rfl | ⟨rfl, d2, d3⟩
        all_goals
          go_wp2_with fail
          refine (HALL.out _ HT.out).mono ?_
          rintro e w3 ⟨B, c, rfl, l3, g3⟩
          have T3 := Lib.hid (HT.out.more g3)
          have L3 := Lib.hid l3.els
          have hcap := l3.cap
          have hmost := l3.most
          unfold maxLen at hmost
          rw [HEL.out] at hcap
          clear l3 g3 HT
          go_wp2_with fail
          go_loopw [10] (fun t wi => ∃ i : Nat, i ≤ T.length ∧ t = .int .i64 i ∧ Hid (∀ j y, j < i → (Mm.ents T)[j]? = some y → decide (y.key < K) = true) ∧ w3 = wi) (fun t _ => T.length - (intOf t).toNat)
          case atStart => exact ⟨0, Nat.zero_le _, rfl, Lib.hid (fun j y hj => by omega), rfl⟩
          case round =>
            obtain ⟨i, hi, rfl, HJ, rfl⟩ := hrel
            by_cases hit : i < T.length
            · obtain ⟨y, hy⟩ : ∃ y, (Mm.ents T)[i]? = some y := ⟨_, List.getElem?_eq_getElem (by rw [HEL.out]; exact hit)⟩
              obtain ⟨b, o, rfl, hb, c0, c1, c2, c3⟩ := L3.out i y hy
              have e0 := mbs_less y.key K
              by_cases hyk : y.key < K
              · have HJ2 : Hid (∀ j z, j < i + 1 → (Mm.ents T)[j]? = some z → decide (z.key < K) = true) := Lib.hid (fun j z hj hz => by
                  rcases Nat.lt_or_ge j i with h | h
                  · exact HJ.out j z h hz
                  · have : j = i := by omega
                    subst this
                    rw [hy] at hz
                    cases hz
                    exact decide_eq_true hyk)
                rw [decide_eq_true hyk] at e0
                clear hy hyk
                go_wp2_with fail
                go_roundw
                case rel => exact ⟨i + 1, by omega, by go_num, HJ2, by trivial⟩
                case measure => simp [intOf]; omega
              · have hdf : (Mm.ents T).dropWhile (fun e => decide (e.key < K)) = (Mm.ents T).drop i := Mm.drop_first HJ.out (fun z hz => by rw [hy] at hz; cases hz; exact decide_eq_false hyk)
                have hff := HFROM.out
                rw [HGF.out, hdf] at hff
                rw [decide_eq_false hyk] at e0
                have L3d := L3.out.drop i
                generalize hDD : (Mm.ents T).drop i = DD at hff L3d
                have hDl : DD.length = T.length - i := by rw [← hDD, List.length_drop, HEL.out]
                clear hy hyk hdf HFROM hDD c1 c2 c3
                have HTK := Lib.hid hTk
                have HHI := Lib.hid hi
                clear hi hTk HEL HG HGF HJ
                generalize T.length = TL at *
                obtain ⟨D, rfl⟩ : ∃ D, TL = i + D := ⟨TL - i, by omega⟩
                obtain ⟨E, rfl⟩ : ∃ E, c = i + E := ⟨c - i, by omega⟩
                have hDl : DD.length = D := by omega
                have hci : ¬ E = 0 := by omega
                have hDE : D ≤ E := by omega
                obtain ⟨a, m, ha, hm, hmD, hm1⟩ : ∃ (a : Int) (m : Nat), (if n < 0 then 0 else n) = a ∧ (if (D : Int) < a then (D : Int) else a) = (m : Int) ∧ m ≤ D ∧ DD.take m = DD.take n.toNat := by
                  by_cases h1 : n < 0
                  · exact ⟨0, 0, by rw [if_pos h1], by rw [if_neg (by omega)]; rfl, Nat.zero_le _, by rw [show n.toNat = 0 by omega]⟩
                  · by_cases h2 : n.toNat ≤ D
                    · exact ⟨n, n.toNat, by rw [if_neg h1], by rw [if_neg (by omega)]; omega, h2, rfl⟩
                    · exact ⟨n, D, by rw [if_neg h1], by rw [if_pos (by omega)], Nat.le_refl _, by rw [List.take_of_length_le (by omega), List.take_of_length_le (by omega)]⟩
                have b1 : (0 : Int) ≤ (m : Int) := by omega
                have b2 : (m : Int) ≤ (E : Int) := by omega
                have HSAME := Lib.hid (fun W B4 c4 (h4 : Els W B4 (DD.take n.toNat)) (K : Kept w3 W) => msame_of (c1 := c4) (c2 := E) h4 ((L3d.kept K).take m) rfl (show _ = m by rw [List.length_take]; omega) (by rw [List.length_take]; omega) hm1.symm)
                generalize DD.take n.toNat = F at *
                have HFF := Lib.hid hff
                have HK3 := Lib.hid T3.out.kept
                clear hff hm1 L3d hDl
                all_goals
                  go_wp2_with fail
                  go_region_held3 (fun w' => w3.heap.size ≤ w'.heap.size) (first | exact Nat.le_refl _ | exact Below.size g4 | exact Below.size (kept_trans g4 g5) | exact Below.size (kept_trans (kept_drewN w3 1) (kept_trans g4 g5)) | exact Below.size (kept_trans (kept_drewN w3 1) g4))
                    (first | (go_at_call 25; refine (HFF.out _ (T3.out.more (kept_drewN _ 1))).mono ?_; rintro e w4 ⟨B4, c4, rfl, l4, g4⟩) | (go_at_call 23; refine (HSAME.out _ _ _ l4.els (kept_trans (kept_drewN _ 1) g4)).mono ?_; rintro e w5 ⟨rfl, g5⟩))
                  all_goals
                    have kk := kept_trans HK3.out (kept_trans (kept_drewN _ 1) (kept_trans g4 g5))
                    go_wp2_with fail
                    go_ret
                    exact ⟨rfl, kk⟩
            · have e : i = T.length := by omega
              have hdf : (Mm.ents T).dropWhile (fun e => decide (e.key < K)) = (Mm.ents T).drop i := Mm.drop_first HJ.out (fun z hz => by
                have := (List.getElem?_eq_some_iff.1 hz).1
                rw [HEL.out] at this
                omega)
              have hff := HFROM.out
              rw [HGF.out, hdf, List.drop_of_length_le (by rw [HEL.out]; omega), List.take_nil, show ([] : List Mm.Ent).length = 0 from rfl] at hff
              have HFF := Lib.hid hff
              have HK3 := Lib.hid T3.out.kept
              have HSAME := Lib.hid (fun W B4 c4 B5 c5 => msame_of (A1 := B4) (A2 := B5) (c1 := c4) (c2 := c5) (a := 0) (b := 0) (l := []) (m := []) (w := W) (fun j x hx => by simp at hx) (fun j x hx => by simp at hx) rfl rfl (by simp) rfl)
              have hnil : B = none → T.length = 0 := fun hB => by
                rcases Nat.eq_zero_or_pos T.length with h | h
                · exact h
                · obtain ⟨y, hy⟩ : ∃ y, (Mm.ents T)[0]? = some y := ⟨_, List.getElem?_eq_getElem (by rw [HEL.out]; exact h)⟩
                  obtain ⟨b, o, e, _⟩ := L3.out 0 y hy
                  rw [hB] at e; cases e
              subst e
              have HTK := Lib.hid hTk
              have HHI := Lib.hid hi
              clear hi hTk HEL HG HGF HJ hff hdf HFROM L3 hit
              generalize T.length = TL at *
              obtain ⟨E, rfl⟩ : ∃ E, c = TL + E := ⟨c - TL, by omega⟩
              obtain ⟨a, ha, hm⟩ : ∃ a : Int, (if n < 0 then 0 else n) = a ∧ (if (0 : Int) < a then (0 : Int) else a) = 0 := by
                refine ⟨_, rfl, ?_⟩
                split <;> split <;> omega
              cases B with
              | none =>
                have := hnil rfl
                subst this
                clear hnil
                all_goals
                  go_wp2_with fail
                  go_region_held3 (fun w' => w3.heap.size ≤ w'.heap.size) (first | exact Nat.le_refl _ | exact Below.size g4 | exact Below.size (kept_trans g4 g5) | exact Below.size (kept_trans (kept_drewN w3 1) (kept_trans g4 g5)) | exact Below.size (kept_trans (kept_drewN w3 1) g4))
                    (first | (go_at_call 25; refine (HFF.out _ (T3.out.more (kept_drewN _ 1))).mono ?_; rintro e w4 ⟨B4, c4, rfl, l4, g4⟩) | (go_at_call 23; refine (HSAME.out _ _ _ _ _).mono ?_; rintro e w5 ⟨rfl, g5⟩))
                  all_goals
                    have kk := kept_trans HK3.out (kept_trans (kept_drewN _ 1) (kept_trans g4 g5))
                    go_wp2_with fail
                    go_ret
                    exact ⟨rfl, kk⟩
              | some a =>
                clear hnil
                by_cases hE : E = 0
                · subst hE
                  all_goals
                    go_wp2_with fail
                    go_region_held3 (fun w' => w3.heap.size ≤ w'.heap.size) (first | exact Nat.le_refl _ | exact Below.size g4 | exact Below.size (kept_trans g4 g5) | exact Below.size (kept_trans (kept_drewN w3 1) (kept_trans g4 g5)) | exact Below.size (kept_trans (kept_drewN w3 1) g4))
                      (first | (go_at_call 25; refine (HFF.out _ (T3.out.more (kept_drewN _ 1))).mono ?_; rintro e w4 ⟨B4, c4, rfl, l4, g4⟩) | (go_at_call 23; refine (HSAME.out _ _ _ _ _).mono ?_; rintro e w5 ⟨rfl, g5⟩))
                    all_goals
                      have kk := kept_trans HK3.out (kept_trans (kept_drewN _ 1) (kept_trans g4 g5))
                      go_wp2_with fail
                      go_ret
                      exact ⟨rfl, kk⟩
                · all_goals
                    go_wp2_with fail
                    go_region_held3 (fun w' => w3.heap.size ≤ w'.heap.size) (first | exact Nat.le_refl _ | exact Below.size g4 | exact Below.size (kept_trans g4 g5) | exact Below.size (kept_trans (kept_drewN w3 1) (kept_trans g4 g5)) | exact Below.size (kept_trans (kept_drewN w3 1) g4))
                      (first | (go_at_call 25; refine (HFF.out _ (T3.out.more (kept_drewN _ 1))).mono ?_; rintro e w4 ⟨B4, c4, rfl, l4, g4⟩) | (go_at_call 23; refine (HSAME.out _ _ _ _ _).mono ?_; rintro e w5 ⟨rfl, g5⟩))
                    all_goals
                      have kk := kept_trans HK3.out (kept_trans (kept_drewN _ 1) (kept_trans g4 g5))
                      go_wp2_with fail
                      go_ret
                      exact ⟨rfl, kk⟩
end Go.Proofs.Ytpacdjphiamppaa
