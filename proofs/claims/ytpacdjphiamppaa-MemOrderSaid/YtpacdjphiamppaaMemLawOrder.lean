/-
  The walk of MemOrder.
-/
import Derived.Test.YtpacdjphiamppaaMemWake
import Derived.Test.YtpacdjphiamppaaMemLawMath
import Derived.Test.YtpacdjphiamppaaMemBeside
import Derived.Deep.RegionHeld3
namespace Go.Proofs.Ytpacdjphiamppaa
open Go.ChangeShapes Go.WideShapes Go.ChangeAt Go.RowKit Go.Maps
set_option linter.unusedVariables false
set_option maxRecDepth 100000
set_option maxHeartbeats 4000000

theorem mquiet_l {P : Program} {f : FuncId} {args : Array Value} {w : World} {n : Nat} {v : Value} (h : Calls P f args (w.drewN n) fun e w' => e = .returned v ∧ w.drewN n = w') :
    Calls P f args (w.drewN n) fun e w'' => e = .returned v ∧ ∃ m, w'' = w.drewN m := h.mono fun _ _ k => ⟨k.1, n, k.2.symm⟩
def bVal : Nat → DataW Unit := fun _ => .lit (.bool true)
theorem bElem : plainElem Try.prog 4 (.bool true) = some ((.lit (.bool true) : DataW Unit), []) := plainElem_bool Try.underlying4 true
theorem bElem0 : plainElem Try.prog 4 (.bool false) = some ((.lit (.bool false) : DataW Unit), []) := plainElem_bool Try.underlying4 false
theorem bElem_inv {v : Value} {ps : List MemPlace} (h : plainElem Try.prog 4 v = some ((.lit (.bool true) : DataW Unit), ps)) : v = .bool true := by
  unfold plainElem at h
  rw [Try.underlying4] at h
  cases v <;> simp at h
  rw [h.1]
theorem zeroB (w : World) : (zeroValue 4).run Try.prog w = .ok (.bool false) w := by kernel_rfl
theorem MemOrder_walk {w : World} (A : Option Addr) (cap : Nat) (l : List Pt) (hA : Puts w A l) (hL : l.length ≤ maxLen ∧ PutsOk l) :
    Calls Try.prog 4 #[.slice A l.length cap] w fun e w' => e = .returned (.bool true) ∧ Kept w w' := by
  obtain ⟨hlen, hok⟩ := hL
  unfold maxLen at hlen
  have HOK := Lib.hid hok
  clear hok
  go_enter Try.func4, Try.ntmps4
  go_wp2_with fail
  refine (mawake_any _).mono ?_
  rintro e w1 ⟨rfl, g1⟩
  have g1s := Below.size g1
  go_wp2_with fail
  refine (mnew_any _).mono ?_
  rintro e w2 ⟨rfl, t2, s2, g2⟩
  have t3 := tm_new t2 g1s (kept_trans g1 g2) 4 bVal
  have T3 := Lib.hid t3
  have hmm := @run_makeMap Try.prog
  clear t3 t2 s2 g1s
  generalize w1.heap.size = p at *
  go_wp2_with fail
  clear hmm
  generalize w2.heap.size = q at *
  go_loopw [5] (fun t wr => ∃ (k : Nat) (T : List Mm.Tv), k ≤ l.length ∧ k ≤ 200 ∧ t = .int .i64 k ∧ T.length ≤ k ∧ Hid (Tm w wr p q 4 T T bVal)) (fun t _ => l.length - (intOf t).toNat)
  case atStart => exact ⟨0, [], Nat.zero_le _, Nat.zero_le _, rfl, Nat.le_refl _, T3⟩
  case round =>
    clear T3 g1 g2
    obtain ⟨k, T, hk, hk2, rfl, hTk, HT⟩ := hrel
    by_cases hlt : k < l.length ∧ k < 200
    · obtain ⟨hlt1, hlt2⟩ := hlt
      have d2 : decide ((k : Int) < (l.length : Int)) = true := by simp; omega
      have d3 : decide ((k : Int) < 200) = true := by simp; omega
      obtain ⟨x, hx⟩ : ∃ x, l[k]? = some x := ⟨_, List.getElem?_eq_getElem hlt1⟩
      obtain ⟨q1, q2, q3, q4⟩ := HOK.out x (List.mem_of_getElem? hx)
      obtain ⟨b, o, rfl, hb, r0, r1, r2, r3, r4⟩ := hA k x hx
      have HC := Lib.hid (fun W (K : Kept w W) => (show W.cell? ⟨b, o + k * 5, none⟩ = some (.string (bs x.e.key)) ∧ W.cell? ⟨b, o + k * 5 + 1, none⟩ = some (.int .u64 (x.e.seq : Nat)) ∧ W.cell? ⟨b, o + k * 5 + 2, none⟩ = some (.bool x.e.del) ∧ W.cell? ⟨b, o + k * 5 + 3, none⟩ = some (.string (bs x.e.val)) ∧ W.cell? ⟨b, o + k * 5 + 4, none⟩ = some (.int .i64 x.h) from ⟨(kept_cell K hb).trans r0, (kept_cell K hb).trans r1, (kept_cell K hb).trans r2, (kept_cell K hb).trans r3, (kept_cell K hb).trans r4⟩))
      obtain ⟨c0, c1, c2, c3, c4⟩ := HC.out _ HT.out.kept
      have hcl := fun W => mlarge_any x.e W q1 q2
      have hgood := HT.out.left.tab.good
      have HG := Lib.hid hgood
      have P1 := Lib.hid (fun W (h : Tm w W p q 4 T T bVal) => h.put (by omega) x.e x.h q1 q2)
      have l1 := Mm.put_len_le T x.e x.h
      unfold entV at hcl P1
      clear hx r0 r1 r2 r3 r4 hgood
      cases hlg : (decide (300 < x.e.key.length) || decide (300 < x.e.val.length)) with
      | true =>
        rw [hlg] at hcl
        clear hlg
        go_wp2_with fail
        refine (hcl _).mono ?_
        rintro e w3 ⟨rfl, g3⟩
        have kk := kept_trans HT.out.kept g3
        go_wp2_with fail
        go_ret
        exact ⟨rfl, kk⟩
      | false =>
        rw [hlg] at hcl
        clear hlg
        go_wp2_with fail
        refine (hcl _).mono ?_
        rintro e w3 ⟨rfl, g3⟩
        have T3 := Lib.hid (HT.out.more g3)
        have T3d := Lib.hid (T3.out.more (kept_drewN _ 1))
        obtain ⟨z0, z1, z2, z3, z4⟩ := HC.out _ T3.out.kept
        clear c0 c1 c2 c3 c4 hcl HT
        by_cases hcd : Mm.code T x.e x.h = 0
        · rw [hcd] at P1
          go_wp2_with fail
          go_region_held3 (fun w' => w'.cell? ⟨b, o + k * 5, none⟩ = some (.string (bs x.e.key)) ∧ w'.cell? ⟨b, o + k * 5 + 1, none⟩ = some (.int .u64 (x.e.seq : Nat)) ∧ w'.cell? ⟨b, o + k * 5 + 2, none⟩ = some (.bool x.e.del) ∧ w'.cell? ⟨b, o + k * 5 + 3, none⟩ = some (.string (bs x.e.val)) ∧ w'.cell? ⟨b, o + k * 5 + 4, none⟩ = some (.int .i64 x.h)) (first | exact HC.out _ T3d.out.kept | exact HC.out _ (Tm.kept t4))
            ((go_at_call 13; refine (P1.out _ T3d.out).mono ?_; rintro e w4 ⟨rfl, t4⟩))
          all_goals
            obtain ⟨w5, hrun, t5⟩ := Tm.store t4 HG.out (by omega) Try.underlying48 hcd bElem
            obtain ⟨y0, y1, y2, y3, y4⟩ := HC.out _ t4.kept
            unfold entV at hrun
            have T5 := Lib.hid t5
            clear t4 t5 z0 z1 z2 z3 z4
            go_wp2_with fail
            go_roundw
            case rel => exact ⟨k + 1, _, by omega, by omega, by go_num, by omega, T5⟩
            case measure => simp [intOf]; omega
        · have hno := Mm.put_no hcd
          rw [hno] at P1
          have e0 : (Mm.code T x.e x.h == 0) = false := by simpa using hcd
          have HCD := Lib.hid hcd
          clear hno hcd
          generalize Mm.code T x.e x.h = cd at *
          go_wp2_with fail
          go_region_held3 (fun w' => w'.cell? ⟨b, o + k * 5, none⟩ = some (.string (bs x.e.key)) ∧ w'.cell? ⟨b, o + k * 5 + 1, none⟩ = some (.int .u64 (x.e.seq : Nat)) ∧ w'.cell? ⟨b, o + k * 5 + 2, none⟩ = some (.bool x.e.del) ∧ w'.cell? ⟨b, o + k * 5 + 3, none⟩ = some (.string (bs x.e.val)) ∧ w'.cell? ⟨b, o + k * 5 + 4, none⟩ = some (.int .i64 x.h)) (first | exact HC.out _ T3d.out.kept | exact HC.out _ (Tm.kept t4))
            ((go_at_call 13; refine (P1.out _ T3d.out).mono ?_; rintro e w4 ⟨rfl, t4⟩))
          all_goals
            have T4 := Lib.hid t4
            have hcd := HCD.out
            clear t4 z0 z1 z2 z3 z4
            go_wp2_with fail
            go_roundw
            case rel => exact ⟨k + 1, T, by omega, by omega, by go_num, by omega, T4⟩
            case measure => simp [intOf]; omega
    · have hgood := HT.out.left.tab.good
      have HG := Lib.hid hgood
      have hT200 : T.length ≤ 200 := by omega
      have HEL := Lib.hid (Mm.ents_len T)
      have HALL := Lib.hid (fun W (h : Tm w W p q 4 T T bVal) => mall_any h.left.tab)
      have hcase : k = l.length ∨ (k = 200 ∧ decide ((200 : Int) < (l.length : Int)) = true ∧ 200 < l.length) := by
        by_cases h1 : k < l.length
        · exact .inr ⟨by omega, by simp; omega, by omega⟩
        · exact .inl (by omega)
      clear hlt hgood
      rcases hcase with rfl | ⟨rfl, d2, d3⟩
      all_goals
        go_wp2_with fail
        refine (HALL.out _ HT.out).mono ?_
        rintro e w3 ⟨B, c, rfl, l3, g3⟩
        have T3 := Lib.hid (HT.out.more g3)
        have L3 := Lib.hid l3.els
        have hln := fun ty => T3.out.map.len Try.underlying48 ty
        have HLK := Lib.hid (fun (W : World) (K : Kept w3 W) (x : Mm.Tv) (hx : x ∈ T) => show (Instr.lookup 48 (.map (some q)) (entV x.1) false).run Try.prog W = .ok (.bool true) W from by
          obtain ⟨v, ps, hr, hv⟩ := (T3.out.more K).map.look HG.out Try.underlying48 (zeroB _) bElem0 hx
          rw [hr, bElem_inv hv])
        have HK3 := Lib.hid T3.out.kept
        clear l3 g3 HT HALL
        go_wp2_with fail
        clear hln
        go_loopw [56] (fun t wi => ∃ i : Nat, i ≤ T.length ∧ t = .int .i64 i ∧ Kept w3 wi) (fun t _ => T.length - (intOf t).toNat)
        case atStart => exact ⟨0, Nat.zero_le _, rfl, Kept.refl _⟩
        case round =>
          obtain ⟨i, hi, rfl, ki⟩ := hrel
          by_cases hit : i < T.length
          · obtain ⟨z, hz⟩ : ∃ z, T[i]? = some z := ⟨_, List.getElem?_eq_getElem hit⟩
            have hy := Mm.ents_at hz
            have hlk := fun m => HLK.out (wr.drewN m) (kept_trans ki (kept_drewN _ m)) z (List.mem_of_getElem? hz)
            obtain ⟨b, o, rfl, hb, c0, c1, c2, c3⟩ := (L3.out.kept ki) i z.1 hy
            unfold entV at hlk
            rcases Nat.eq_zero_or_pos i with rfl | hi0
            · simp only [Nat.zero_mul, Nat.add_zero] at c0 c1 c2 c3
              clear hy hz
              go_wp2_with fail
              go_quiet (fail)
              go_wp2_with fail
              go_roundw
              case rel => exact ⟨0 + 1, by omega, by go_num, kept_trans ki (kept_drewN _ _)⟩
              case measure => simp [intOf]; omega
            · obtain ⟨j, hj⟩ : ∃ j, i = j + 1 := ⟨i - 1, by omega⟩
              obtain ⟨u, hu⟩ : ∃ u, T[j]? = some u := ⟨_, List.getElem?_eq_getElem (by omega)⟩
              have hv := Mm.ents_at hu
              have hah := HG.out.before (show j < i by omega) hv hy
              obtain ⟨b', o', e', _, v0, v1, v2, v3⟩ := (L3.out.kept ki) j u.1 hv
              cases e'
              have hca := rahead_any u.1.key u.1.seq z.1.key z.1.seq
              rw [hah] at hca
              have HCA := Lib.hid hca
              have ej : ((i : Int) - 1) = (j : Int) := by omega
              have hjl : (j : Int) < (T.length : Int) := by omega
              have ew : IntKind.i64.wrap (j : Int) = (j : Int) := IntWalk.i64_in (j : Int) ⟨by omega, by omega⟩
              have hj2 : j < T.length := by omega
              have d7 : decide ((0 : Int) < (i : Int)) = true := by simp; omega
              clear hy hz hv hu hah hca hj
              go_wp2_with fail
              go_quiet ((go_at_call 27; exact mquiet_l (HCA.out _)))
              go_wp2_with fail
              go_roundw
              case rel => exact ⟨i + 1, by omega, by go_num, kept_trans ki (kept_drewN _ _)⟩
              case measure => simp [intOf]; omega
          · have e : i = T.length := by omega
            subst e
            have kk := kept_trans HK3.out ki
            go_wp2_with fail
            go_ret
            exact ⟨rfl, kk⟩
end Go.Proofs.Ytpacdjphiamppaa
