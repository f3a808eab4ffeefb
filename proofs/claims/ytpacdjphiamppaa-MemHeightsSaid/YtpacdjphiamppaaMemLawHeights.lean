/-
  The walk of MemHeights.
-/
import Derived.Test.YtpacdjphiamppaaMemWake
import Derived.Test.YtpacdjphiamppaaMemLawMath
import Derived.Test.YtpacdjphiamppaaMemTwo
import Derived.Deep.RegionHeld3
namespace Go.Proofs.Ytpacdjphiamppaa
open Go.ChangeShapes Go.WideShapes Go.ChangeAt Go.RowKit
set_option linter.unusedVariables false
set_option maxRecDepth 100000
set_option maxHeartbeats 4000000

theorem MemHeights_walk {w : World} (A : Option Addr) (cap : Nat) (l : List Pt) (key : ByteArray) (seq : Int) (hA : Puts w A l) (hL : l.length ≤ maxLen ∧ PutsOk l) (hkey : key.size ≤ maxLen) (hseq : (Lit.int .u64 seq).wf = true) :
    Calls Try.prog 5 #[.slice A l.length cap, .string key, .int .u64 seq] w fun e w' => e = .returned (.bool true) ∧ Kept w w' := by
  obtain ⟨hlen, hok⟩ := hL
  obtain ⟨hs1, hs2⟩ := bounds_u64 hseq
  obtain ⟨K, rfl⟩ : ∃ K, key = bs K := ⟨_, (mbs_self key).symm⟩
  obtain ⟨S, rfl⟩ : ∃ S : Nat, seq = (S : Int) := ⟨seq.toNat, by omega⟩
  clear hseq
  unfold maxLen at hlen hkey
  have HOK := Lib.hid hok
  clear hok
  by_cases h300 : 300 < (bs K).size
  · have d1 : decide ((300 : Int) < ((bs K).size : Int)) = true := by simp; omega
    go_enter Try.func5, Try.ntmps5
    go_wp2_with fail
    refine (mawake_any _).mono ?_
    rintro e w1 ⟨rfl, g1⟩
    go_wp2_with fail
    go_ret
    exact ⟨rfl, g1⟩
  · have d1 : decide ((300 : Int) < ((bs K).size : Int)) = false := by simp; omega
    clear h300 hkey
    go_enter Try.func5, Try.ntmps5
    go_wp2_with fail
    refine (mawake_any _).mono ?_
    rintro e w1 ⟨rfl, g1⟩
    have g1s := Below.size g1
    go_wp2_with fail
    refine (mnew_any _).mono ?_
    rintro e w2 ⟨rfl, t2, s2, g2⟩
    go_wp2_with fail
    refine (tw_new t2 g1s (kept_trans g1 g2)).mono ?_
    rintro e w3 ⟨rfl, t3⟩
    have T3 := Lib.hid t3
    clear t3 t2 g2 s2 g1 g1s
    generalize w1.heap.size = p at *
    generalize w2.heap.size = q at *
    go_wp2_with fail
    go_loopw [9] (fun t wr => ∃ (k : Nat) (T U : List Mm.Tv), k ≤ l.length ∧ k ≤ 200 ∧ t = .int .i64 k ∧ T.length ≤ k ∧ U.length ≤ k ∧ Hid (Mm.ents T = Mm.ents U ∧ ∀ z ∈ U, z.2 = 1) ∧ Hid (Tw w wr p q T U)) (fun t _ => l.length - (intOf t).toNat)
    case atStart => exact ⟨0, [], [], Nat.zero_le _, Nat.zero_le _, rfl, Nat.le_refl _, Nat.le_refl _, Lib.hid ⟨rfl, by simp⟩, T3⟩
    case round =>
      clear T3
      obtain ⟨k, T, U, hk, hk2, rfl, hTk, hUk, HR, HT⟩ := hrel
      by_cases hlt : k < l.length ∧ k < 200
      · obtain ⟨hlt1, hlt2⟩ := hlt
        have d2 : decide ((k : Int) < (l.length : Int)) = true := by simp; omega
        have d3 : decide ((k : Int) < 200) = true := by simp; omega
        obtain ⟨x, hx⟩ : ∃ x, l[k]? = some x := ⟨_, List.getElem?_eq_getElem hlt1⟩
        obtain ⟨q1, q2, q3, q4⟩ := HOK.out x (List.mem_of_getElem? hx)
        obtain ⟨b, o, rfl, hb, r0, r1, r2, r3, r4⟩ := hA k x hx
        have HC := Lib.hid (fun W (K : Kept w W) => (show W.cell? ⟨b, o + k * 5, none⟩ = some (.string (bs x.e.key)) ∧ W.cell? ⟨b, o + k * 5 + 1, none⟩ = some (.int .u64 (x.e.seq : Nat)) ∧ W.cell? ⟨b, o + k * 5 + 2, none⟩ = some (.bool x.e.del) ∧ W.cell? ⟨b, o + k * 5 + 3, none⟩ = some (.string (bs x.e.val)) ∧ W.cell? ⟨b, o + k * 5 + 4, none⟩ = some (.int .i64 x.h) from ⟨(kept_cell K hb).trans r0, (kept_cell K hb).trans r1, (kept_cell K hb).trans r2, (kept_cell K hb).trans r3, (kept_cell K hb).trans r4⟩))
        obtain ⟨c0, c1, c2, c3, c4⟩ := HC.out _ HT.out.kept
        have hcl := fun W => mlarge_any x.e W q1 q2
        have HPUT := Lib.hid (fun W T U z (hz : T.length < 1000) (h : Tw w W p q T U) => h.put hz x.e z q1 q2)
        have HPUT2 := Lib.hid (fun W T U z (hz : U.length < 1000) (h : Tw w W p q T U) => h.put2 hz x.e z q1 q2)
        unfold entV at hcl HPUT HPUT2
        clear hx r0 r1 r2 r3 r4
        cases hlg : (decide (300 < x.e.key.length) || decide (300 < x.e.val.length)) with
        | true =>
          rw [hlg] at hcl
          clear hlg
          go_wp2_with fail
          refine (hcl _).mono ?_
          rintro e w3 ⟨rfl, g3⟩
          have kk := kept_trans HT.out.kept g3
          go_wp2_with fail
          go_ret
          exact ⟨rfl, kk⟩
        | false =>
          rw [hlg] at hcl
          clear hlg
          obtain ⟨a, n, ha, hb', hn1, hn2⟩ : ∃ (a : Int) (n : Nat), (if x.h < 1 then 1 else x.h) = a ∧ (if 8 < a then 8 else a) = (n : Int) ∧ 1 ≤ n ∧ n ≤ 8 := by
            refine ⟨_, (if 8 < (if x.h < 1 then 1 else x.h) then 8 else (if x.h < 1 then 1 else x.h)).toNat, rfl, ?_, ?_, ?_⟩
            all_goals (split <;> split <;> omega)
          have hce : Mm.code T x.e (n : Nat) = Mm.code U x.e 1 := Mm.code_ents HR.out.1 x.e (by omega) (by omega)
          have HR2 : Hid (Mm.ents (Mm.put T x.e (n : Nat)) = Mm.ents (Mm.put U x.e 1) ∧ ∀ z ∈ Mm.put U x.e 1, z.2 = 1) := Lib.hid ⟨Mm.put_ents HR.out.1 x.e (by omega) (by omega), Mm.put_high (c := 1) HR.out.2 x.e⟩
          have l1 := Mm.put_len_le T x.e (n : Nat)
          have l2 := Mm.put_len_le U x.e 1
          have P1 := Lib.hid (fun W (h : Tw w W p q T U) => HPUT.out W T U (n : Nat) (by omega) h)
          have P2 := Lib.hid (fun W (h : Tw w W p q (Mm.put T x.e (n : Nat)) U) => HPUT2.out W _ U 1 (by omega) h)
          rw [hce] at P1
          have HCE := Lib.hid hce
          clear hce HPUT HPUT2 HR
          generalize Mm.code U x.e 1 = cd at *
          go_wp2_with fail
          refine (hcl _).mono ?_
          rintro e w3 ⟨rfl, g3⟩
          have T3 := Lib.hid (HT.out.more g3)
          have T3d := Lib.hid (T3.out.more (kept_drewN _ 1))
          obtain ⟨z0, z1, z2, z3, z4⟩ := HC.out _ T3.out.kept
          clear c0 c1 c2 c3 c4 hcl HT
          go_wp2_with fail
          go_region_held3 (fun w' => w'.cell? ⟨b, o + k * 5, none⟩ = some (.string (bs x.e.key)) ∧ w'.cell? ⟨b, o + k * 5 + 1, none⟩ = some (.int .u64 (x.e.seq : Nat)) ∧ w'.cell? ⟨b, o + k * 5 + 2, none⟩ = some (.bool x.e.del) ∧ w'.cell? ⟨b, o + k * 5 + 3, none⟩ = some (.string (bs x.e.val)) ∧ w'.cell? ⟨b, o + k * 5 + 4, none⟩ = some (.int .i64 x.h)) (first | exact HC.out _ T3d.out.kept | exact HC.out _ (Tw.kept t4) | exact HC.out _ (Tw.kept t5))
            (first
            | (go_at_call_of 13 (Value.pointer (some (⟨p, 0, none⟩ : Addr))); refine (P1.out _ T3d.out).mono ?_; rintro e w4 ⟨rfl, t4⟩)
            | (go_at_call_of 13 (Value.pointer (some (⟨q, 0, none⟩ : Addr))); refine (P2.out _ t4).mono ?_; rintro e w5 ⟨rfl, t5⟩))
          all_goals
            have T5 := Lib.hid t5
            clear t5 t4 z0 z1 z2 z3 z4
            go_wp2_with fail
            go_roundw
            case rel => exact ⟨k + 1, _, _, by omega, by omega, by go_num, by omega, by omega, HR2, T5⟩
            case measure => simp [intOf]; omega
      · have hTs := HT.out.left
        have hUs := HT.out.right
        have hT200 : T.length ≤ 200 := by omega
        have hU200 : U.length ≤ 200 := by omega
        have hcase : k = l.length ∨ (k = 200 ∧ decide ((200 : Int) < (l.length : Int)) = true ∧ 200 < l.length) := by
          by_cases h1 : k < l.length
          · exact .inr ⟨by omega, by simp; omega, by omega⟩
          · exact .inl (by omega)
        clear hlt
        have hgT := hTs.tab.good
        have hgU := hUs.tab.good
        have heq := HR.out.1
        have hget := Mm.get_ents hgT hgU heq K S
        have HG1 := Lib.hid (fun W (h : Tw w W p q T U) => mget_any h.left.tab K S)
        have HG2 := Lib.hid (fun W (h : Tw w W p q T U) => mget_any h.right.tab K S)
        have HS1 := Lib.hid (fun W (h : Tw w W p q T U) => msteps_any h.left.tab K S)
        have HS2 := Lib.hid (fun W (h : Tw w W p q T U) => msteps_any h.right.tab K S)
        have HA1 := Lib.hid (fun W (h : Tw w W p q T U) => mall_any h.left.tab)
        have HA2 := Lib.hid (fun W (h : Tw w W p q T U) => mall_any h.right.tab)
        have HL1 := Lib.hid (fun W (h : Tw w W p q T U) => mlen_any h.left.tab)
        have HL2 := Lib.hid (fun W (h : Tw w W p q T U) => mlen_any h.right.tab)
        have HZ1 := Lib.hid (fun W (h : Tw w W p q T U) => msize_any h.left.tab)
        have HZ2 := Lib.hid (fun W (h : Tw w W p q T U) => msize_any h.right.tab)
        have hst : Mm.stp 0 (Mm.hts (Mm.A T K S)) ≤ Mm.stp 0 (Mm.hts (Mm.A U K S)) := by
          rw [Mm.steps_all (Nat.le_refl 1) HR.out.2 K S, ← Mm.A_ents heq]
          exact Mm.steps_le T K S
        have hlenTU := Mm.len_ents heq
        unfold getV entV at HG1 HG2
        rw [hget] at HG1
        rw [Mm.size_ents heq] at HZ1
        rw [hlenTU] at HL1 HA1
        rw [heq] at HA1
        have hel : (Mm.ents U).length = U.length := Mm.ents_len U
        have HSAME := Lib.hid (fun W B1 c1 B2 c2 (h1 : Els W B1 (Mm.ents U)) (h2 : Els W B2 (Mm.ents U)) => msame_eq (c1 := c1) (c2 := c2) h1 h2 hel hel (by omega) rfl)
        generalize Mm.stp 0 (Mm.hts (Mm.A T K S)) = s1 at *
        generalize Mm.stp 0 (Mm.hts (Mm.A U K S)) = s2 at *
        generalize (Mm.get U K S).getD Mm.zent = X at *
        generalize (Mm.get U K S).isSome = I at *
        generalize Mm.ents U = EU at *
        generalize Mm.size U = SU at *
        have d5 : decide ((s2 : Int) < (s1 : Int)) = false := by simp; omega
        clear hgT hgU heq hget HR hel hTs hUs hlenTU
        rcases hcase with rfl | ⟨rfl, d2, d3⟩
        all_goals
          go_wp2_with fail
          refine (HG1.out _ HT.out).mono ?_
          rintro e w3 ⟨rfl, g3⟩
          have T3 := Lib.hid (HT.out.more g3)
          go_wp2_with fail
          refine (HG2.out _ (T3.out.more ((Kept.refl _).alloc _))).mono ?_
          rintro e w4 ⟨rfl, g4⟩
          obtain ⟨x0, x1, x2, x3, _, hx, k4⟩ := box4 g4
          have T4 := Lib.hid (T3.out.more k4)
          clear g3 g4 HT T3 HG1 HG2
          go_wp2_with fail
          refine (HS1.out _ (T4.out.more ((Kept.refl _).alloc _))).mono ?_
          rintro e w5 ⟨rfl, g5⟩
          have k5 := kept_trans ((Kept.refl w4).alloc _) g5
          have T5 := Lib.hid (T4.out.more k5)
          obtain ⟨y0, y1, y2, y3, _, hy, _⟩ := box4 g5
          go_wp2_with fail
          refine (HS2.out _ T5.out).mono ?_
          rintro e w6 ⟨rfl, g6⟩
          have T6 := Lib.hid (T5.out.more g6)
          have a0 := (kept_cell (kept_trans k5 g6) (p := ⟨w3.heap.size, 0, none⟩) hx).trans x0
          have a1 := (kept_cell (kept_trans k5 g6) (p := ⟨w3.heap.size, 1, none⟩) hx).trans x1
          have a2 := (kept_cell (kept_trans k5 g6) (p := ⟨w3.heap.size, 2, none⟩) hx).trans x2
          have a3 := (kept_cell (kept_trans k5 g6) (p := ⟨w3.heap.size, 3, none⟩) hx).trans x3
          have b0 := (kept_cell g6 (p := ⟨w4.heap.size, 0, none⟩) hy).trans y0
          have b1 := (kept_cell g6 (p := ⟨w4.heap.size, 1, none⟩) hy).trans y1
          have b2 := (kept_cell g6 (p := ⟨w4.heap.size, 2, none⟩) hy).trans y2
          have b3 := (kept_cell g6 (p := ⟨w4.heap.size, 3, none⟩) hy).trans y3
          clear x0 x1 x2 x3 y0 y1 y2 y3 T4 T5 HS1 HS2 g5
          go_wp2_with fail
          refine (HA1.out _ T6.out).mono ?_
          rintro e w7 ⟨B7, c7, rfl, l7, g7⟩
          have T7 := Lib.hid (T6.out.more g7)
          clear a0 a1 a2 a3 b0 b1 b2 b3 T6
          go_wp2_with fail
          refine (HA2.out _ T7.out).mono ?_
          rintro e w8 ⟨B8, c8, rfl, l8, g8⟩
          have T8 := Lib.hid (T7.out.more g8)
          go_wp2_with fail
          refine (HSAME.out _ _ _ _ _ (l7.els.kept g8) l8.els).mono ?_
          rintro e w9 ⟨rfl, g9⟩
          have T9 := Lib.hid (T8.out.more g9)
          clear T7 T8 l7 l8
          go_wp2_with fail
          refine (HL1.out _ T9.out).mono ?_
          rintro e w10 ⟨rfl, rfl⟩
          go_wp2_with fail
          refine (HL2.out _ T9.out).mono ?_
          rintro e w11 ⟨rfl, rfl⟩
          go_wp2_with fail
          refine (HZ1.out _ T9.out).mono ?_
          rintro e w12 ⟨rfl, rfl⟩
          go_wp2_with fail
          refine (HZ2.out _ T9.out).mono ?_
          rintro e w13 ⟨rfl, rfl⟩
          go_wp2_with fail
          go_ret
          exact ⟨rfl, T9.out.kept⟩
end Go.Proofs.Ytpacdjphiamppaa
