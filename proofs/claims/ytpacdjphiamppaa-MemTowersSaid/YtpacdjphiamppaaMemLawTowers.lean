/-
  The walk of MemTowers.
-/
import Derived.Test.YtpacdjphiamppaaMemWake
import Derived.Test.YtpacdjphiamppaaMemLawMath
import Derived.Test.YtpacdjphiamppaaMemBeside
import Derived.Deep.RegionHeld3
namespace Go.Proofs.Ytpacdjphiamppaa
open Go.ChangeShapes Go.WideShapes Go.ChangeAt Go.RowKit Go.Maps
set_option linter.unusedVariables false
set_option maxRecDepth 100000
set_option maxHeartbeats 4000000

def iVal : Nat → DataW Unit := fun h => .lit (.int .i64 (h : Nat))
theorem wf_i64 {n : Int} (h1 : 1 ≤ n) (h2 : n ≤ 8) : (Lit.int .i64 n).wf = true := by
  show (decide (IntKind.i64.min ≤ n) && decide (n ≤ IntKind.i64.max)) = true
  rw [show IntKind.i64.min = -9223372036854775808 from rfl, show IntKind.i64.max = 9223372036854775807 from rfl, Bool.and_eq_true, decide_eq_true_iff, decide_eq_true_iff]
  omega
theorem iElem {n : Int} (h1 : 1 ≤ n) (h2 : n ≤ 8) : plainElem Try.prog 3 (.int .i64 n) = some (iVal n.toNat, []) := by
  rw [plainElem_int Try.underlying3 (wf_i64 h1 h2)]
  unfold iVal
  rw [show ((n.toNat : Nat) : Int) = n by omega]
theorem iElem0 : plainElem Try.prog 3 (.int .i64 0) = some ((.lit (.int .i64 0) : DataW Unit), []) := plainElem_int Try.underlying3 rfl
theorem iElem_inv {v : Value} {ps : List MemPlace} {h : Nat} (hv : plainElem Try.prog 3 v = some (iVal h, ps)) : v = .int .i64 (h : Nat) := by
  obtain ⟨a, rfl, e, _⟩ := plainElem_int_inv Try.underlying3 hv
  simp only [iVal, Prod.mk.injEq, DataW.lit.injEq, Lit.int.injEq, true_and] at e
  rw [e.1]
theorem zeroI (w : World) : (zeroValue 3).run Try.prog w = .ok (.int .i64 0) w := by kernel_rfl
def sizeTo (T : List Mm.Tv) (i : Nat) : Nat := (((Mm.ents T).take i).map Mm.sizeE).sum
theorem sizeTo_step {T : List Mm.Tv} {i : Nat} {x : Mm.Ent} (h : (Mm.ents T)[i]? = some x) : sizeTo T (i + 1) = sizeTo T i + Mm.sizeE x := by
  unfold sizeTo
  rw [List.take_add_one, h]
  simp
theorem sizeTo_end (T : List Mm.Tv) : sizeTo T T.length = Mm.size T := by
  unfold sizeTo
  rw [List.take_of_length_le (by rw [Mm.ents_len]; omega)]
  simp [Mm.size, Mm.ents, Function.comp_def]
theorem sizeTo_le {T : List Mm.Tv} (g : Mm.Good T) (i : Nat) : sizeTo T i ≤ 200 * i := by
  induction i with
  | zero => simp [sizeTo]
  | succ i ih =>
    cases h : (Mm.ents T)[i]? with
    | some x =>
      rw [sizeTo_step h]
      obtain ⟨z, hz, rfl⟩ := Mm.at_ents h
      have := Mm.may_iff.1 (g.may z (List.mem_of_getElem? hz))
      unfold Mm.sizeE; omega
    | none =>
      unfold sizeTo at *
      rw [List.take_add_one, h]
      simp only [Option.toList_none, List.append_nil]
      omega
theorem MemTowers_walk {w : World} (A : Option Addr) (cap : Nat) (l : List Pt) (hA : Puts w A l) (hL : l.length ≤ maxLen ∧ PutsOk l) :
    Calls Try.prog 9 #[.slice A l.length cap] w fun e w' => e = .returned (.bool true) ∧ Kept w w' := by
  obtain ⟨hlen, hok⟩ := hL
  unfold maxLen at hlen
  have HOK := Lib.hid hok
  clear hok
  go_enter Try.func9, Try.ntmps9
  go_wp2_with fail
  refine (mawake_any _).mono ?_
  rintro e w1 ⟨rfl, g1⟩
  have g1s := Below.size g1
  go_wp2_with fail
  refine (mnew_any _).mono ?_
  rintro e w2 ⟨rfl, t2, s2, g2⟩
  have t3 := tm_new t2 g1s (kept_trans g1 g2) 3 iVal
  have T3 := Lib.hid t3
  have hmm := @run_makeMap Try.prog
  clear t3 t2 s2 g1s
  generalize w1.heap.size = p at *
  go_wp2_with fail
  clear hmm
  generalize w2.heap.size = q at *
  go_loopw [5] (fun t wr => ∃ (k : Nat) (T : List Mm.Tv), k ≤ l.length ∧ k ≤ 200 ∧ t = .int .i64 k ∧ T.length ≤ k ∧ Hid (Tm w wr p q 3 T T iVal)) (fun t _ => l.length - (intOf t).toNat)
  case atStart => exact ⟨0, [], Nat.zero_le _, Nat.zero_le _, rfl, Nat.le_refl _, T3⟩
  case round =>
    clear T3 g1 g2
    obtain ⟨k, T, hk, hk2, rfl, hTk, HT⟩ := hrel
    by_cases hlt : k < l.length ∧ k < 200
    · obtain ⟨hlt1, hlt2⟩ := hlt
      have d2 : decide ((k : Int) < (l.length : Int)) = true := by simp; omega
      have d3 : decide ((k : Int) < 200) = true := by simp; omega
      obtain ⟨x, hx⟩ : ∃ x, l[k]? = some x := ⟨_, List.getElem?_eq_getElem hlt1⟩
      obtain ⟨q1, q2, q3, q4⟩ := HOK.out x (List.mem_of_getElem? hx)
      obtain ⟨b, o, rfl, hb, r0, r1, r2, r3, r4⟩ := hA k x hx
      have HC := Lib.hid (fun W (K : Kept w W) => (show W.cell? ⟨b, o + k * 5, none⟩ = some (.string (bs x.e.key)) ∧ W.cell? ⟨b, o + k * 5 + 1, none⟩ = some (.int .u64 (x.e.seq : Nat)) ∧ W.cell? ⟨b, o + k * 5 + 2, none⟩ = some (.bool x.e.del) ∧ W.cell? ⟨b, o + k * 5 + 3, none⟩ = some (.string (bs x.e.val)) ∧ W.cell? ⟨b, o + k * 5 + 4, none⟩ = some (.int .i64 x.h) from ⟨(kept_cell K hb).trans r0, (kept_cell K hb).trans r1, (kept_cell K hb).trans r2, (kept_cell K hb).trans r3, (kept_cell K hb).trans r4⟩))
      obtain ⟨c0, c1, c2, c3, c4⟩ := HC.out _ HT.out.kept
      have hcl := fun W => mlarge_any x.e W q1 q2
      have hgood := HT.out.left.tab.good
      have HG := Lib.hid hgood
      have P1 := Lib.hid (fun W (h : Tm w W p q 3 T T iVal) => h.put (by omega) x.e x.h q1 q2)
      have l1 := Mm.put_len_le T x.e x.h
      unfold entV at hcl P1
      clear hx r0 r1 r2 r3 r4 hgood
      cases hlg : (decide (300 < x.e.key.length) || decide (300 < x.e.val.length)) with
      | true =>
        rw [hlg] at hcl
        clear hlg
        go_wp2_with fail
        refine (hcl _).mono ?_
        rintro e w3 ⟨rfl, g3⟩
        have kk := kept_trans HT.out.kept g3
        go_wp2_with fail
        go_ret
        exact ⟨rfl, kk⟩
      | false =>
        rw [hlg] at hcl
        clear hlg
        go_wp2_with fail
        refine (hcl _).mono ?_
        rintro e w3 ⟨rfl, g3⟩
        have T3 := Lib.hid (HT.out.more g3)
        have T3d := Lib.hid (T3.out.more (kept_drewN _ 1))
        obtain ⟨z0, z1, z2, z3, z4⟩ := HC.out _ T3.out.kept
        clear c0 c1 c2 c3 c4 hcl HT
        by_cases hcd : Mm.code T x.e x.h = 0
        · rw [hcd] at P1
          have HH : Hid (1 ≤ x.h ∧ x.h ≤ 8) := Lib.hid ⟨(Mm.code_zero.1 hcd).2.1, (Mm.code_zero.1 hcd).2.2.1⟩
          go_wp2_with fail
          go_region_held3 (fun w' => w'.cell? ⟨b, o + k * 5, none⟩ = some (.string (bs x.e.key)) ∧ w'.cell? ⟨b, o + k * 5 + 1, none⟩ = some (.int .u64 (x.e.seq : Nat)) ∧ w'.cell? ⟨b, o + k * 5 + 2, none⟩ = some (.bool x.e.del) ∧ w'.cell? ⟨b, o + k * 5 + 3, none⟩ = some (.string (bs x.e.val)) ∧ w'.cell? ⟨b, o + k * 5 + 4, none⟩ = some (.int .i64 x.h)) (first | exact HC.out _ T3d.out.kept | exact HC.out _ (Tm.kept t4))
            ((go_at_call 13; refine (P1.out _ T3d.out).mono ?_; rintro e w4 ⟨rfl, t4⟩))
          all_goals
            have t4d := Tm.more t4 (kept_drewN w4 1)
            obtain ⟨w5, hrun, t5⟩ := Tm.store t4d HG.out (by omega) Try.underlying55 hcd (iElem HH.out.1 HH.out.2)
            obtain ⟨y0, y1, y2, y3, y4⟩ := HC.out _ t4.kept
            unfold entV at hrun
            have hrun2 : _ = Result.ok () w5 := hrun
            change (Instr.mapUpdate 55 (.map (some q)) (.agg #[.string (bs x.e.key), .int .u64 (x.e.seq : Nat), .bool x.e.del, .string (bs x.e.val)]) (.int .i64 x.h)).run Try.prog w4.drew = .ok () w5 at hrun
            have T5 := Lib.hid t5
            clear t4 t5 t4d z0 z1 z2 z3 z4 hrun2
            go_wp2_with fail
            go_region
            go_wp2_with fail
            go_roundw
            case rel => exact ⟨k + 1, _, by omega, by omega, by go_num, by omega, T5⟩
            case measure => simp [intOf]; omega
        · have hno := Mm.put_no hcd
          rw [hno] at P1
          have e0 : (Mm.code T x.e x.h == 0) = false := by simpa using hcd
          have HCD := Lib.hid hcd
          clear hno hcd
          generalize Mm.code T x.e x.h = cd at *
          go_wp2_with fail
          go_region_held3 (fun w' => w'.cell? ⟨b, o + k * 5, none⟩ = some (.string (bs x.e.key)) ∧ w'.cell? ⟨b, o + k * 5 + 1, none⟩ = some (.int .u64 (x.e.seq : Nat)) ∧ w'.cell? ⟨b, o + k * 5 + 2, none⟩ = some (.bool x.e.del) ∧ w'.cell? ⟨b, o + k * 5 + 3, none⟩ = some (.string (bs x.e.val)) ∧ w'.cell? ⟨b, o + k * 5 + 4, none⟩ = some (.int .i64 x.h)) (first | exact HC.out _ T3d.out.kept | exact HC.out _ (Tm.kept t4))
            ((go_at_call 13; refine (P1.out _ T3d.out).mono ?_; rintro e w4 ⟨rfl, t4⟩))
          all_goals
            have T4 := Lib.hid t4
            have hcd := HCD.out
            clear t4 z0 z1 z2 z3 z4
            go_wp2_with fail
            go_roundw
            case rel => exact ⟨k + 1, T, by omega, by omega, by go_num, by omega, T4⟩
            case measure => simp [intOf]; omega
    · have hgood := HT.out.left.tab.good
      have HG := Lib.hid hgood
      have hT200 : T.length ≤ 200 := by omega
      have HEL := Lib.hid (Mm.ents_len T)
      have HALL := Lib.hid (fun W (h : Tm w W p q 3 T T iVal) => mall_any h.left.tab)
      have HTOW := Lib.hid (fun W (h : Tm w W p q 3 T T iVal) => mtowers_any h.left.tab)
      have HLEN := Lib.hid (fun W (h : Tm w W p q 3 T T iVal) => mlen_any h.left.tab)
      have HSIZ := Lib.hid (fun W (h : Tm w W p q 3 T T iVal) => msize_any h.left.tab)
      have hcase : k = l.length ∨ (k = 200 ∧ decide ((200 : Int) < (l.length : Int)) = true ∧ 200 < l.length) := by
        by_cases h1 : k < l.length
        · exact .inr ⟨by omega, by simp; omega, by omega⟩
        · exact .inl (by omega)
      clear hlt hgood
      rcases hcase with rfl | ⟨rfl, d2, d3⟩
      all_goals
        go_wp2_with fail
        refine (HALL.out _ HT.out).mono ?_
        rintro e w3 ⟨B, c, rfl, l3, g3⟩
        have T3 := Lib.hid (HT.out.more g3)
        go_wp2_with fail
        refine (HTOW.out _ T3.out).mono ?_
        rintro e w4 ⟨B4, c4, rfl, l4, g4⟩
        have T4 := Lib.hid (T3.out.more g4)
        have L3 := Lib.hid (l3.els.kept g4)
        have L4 := Lib.hid l4
        have HLK := Lib.hid (fun (W : World) (K : Kept w4 W) (x : Mm.Tv) (hx : x ∈ T) => show (Instr.lookup 55 (.map (some q)) (entV x.1) false).run Try.prog W = .ok (.int .i64 (x.2 : Nat)) W from by
          obtain ⟨v, ps, hr, hv⟩ := (T4.out.more K).map.look HG.out Try.underlying55 (zeroI _) iElem0 hx
          rw [hr, iElem_inv hv])
        clear l3 g3 HT HALL HTOW l4
        go_wp2_with fail
        refine (HLEN.out _ T4.out).mono ?_
        rintro e w5 ⟨rfl, rfl⟩
        go_wp2_with fail
        go_loopw [8, 72] (fun s t wi => ∃ i : Nat, i ≤ T.length ∧ t = .int .i64 i ∧ s = .int .i64 (sizeTo T i : Nat) ∧ Kept w4 wi) (fun _ t _ => T.length - (intOf t).toNat)
        case atStart => exact ⟨0, Nat.zero_le _, rfl, rfl, Kept.refl _⟩
        case round =>
          obtain ⟨i, hi, rfl, rfl, ki⟩ := hrel
          by_cases hit : i < T.length
          · obtain ⟨z, hz⟩ : ∃ z, T[i]? = some z := ⟨_, List.getElem?_eq_getElem hit⟩
            have hy := Mm.ents_at hz
            have hh : (Mm.hts T)[i]? = some z.2 := by unfold Mm.hts; rw [List.getElem?_map, hz]; rfl
            have HLK2 := Lib.hid (fun W (K : Kept w4 W) => HLK.out W K z (List.mem_of_getElem? hz))
            have hst := sizeTo_step hy
            have hle := sizeTo_le HG.out i
            have hmy := Mm.may_iff.1 (HG.out.may z (List.mem_of_getElem? hz))
            obtain ⟨b, o, rfl, hb, c0, c1, c2, c3⟩ := (L3.out.kept ki) i z.1 hy
            obtain ⟨b', o', rfl, hb', a0⟩ := (L4.out.kept ki) i z.2 hh
            unfold entV at HLK2
            have s1 : (bs z.1.key).size ≤ 100 := by rw [mbs_size]; omega
            have s2 : (bs z.1.val).size ≤ 100 := by rw [mbs_size]; omega
            have hst2 : ((sizeTo T (i + 1) : Nat) : Int) = (sizeTo T i : Int) + (((bs z.1.key).size : Int) + ((bs z.1.val).size : Int)) := by rw [hst, mbs_size, mbs_size]; unfold Mm.sizeE; omega
            have HST := Lib.hid hst2
            have hw1 : IntKind.i64.wrap (((bs z.1.key).size : Int) + ((bs z.1.val).size : Int)) = ((bs z.1.key).size : Int) + ((bs z.1.val).size : Int) := IntWalk.i64_in _ ⟨by omega, by omega⟩
            have hw2 : IntKind.i64.wrap ((sizeTo T i : Int) + (((bs z.1.key).size : Int) + ((bs z.1.val).size : Int))) = (sizeTo T i : Int) + (((bs z.1.key).size : Int) + ((bs z.1.val).size : Int)) := IntWalk.i64_in _ ⟨by omega, by omega⟩
            clear hy hz hh hst hst2 hmy
            generalize hS : sizeTo T i = S at *
            go_wp2_with fail
            go_quiet (fail)
            go_wp2_with fail
            have hlk := fun m => HLK2.out (wr.drewN m) (kept_trans ki (kept_drewN _ m))
            clear hw1 hw2
            go_quiet (fail)
            go_wp2_with fail
            go_roundw
            case rel => exact ⟨i + 1, by omega, by go_num, by rw [HST.out], by first | exact kept_trans ki (kept_trans (kept_drewN _ _) (kept_drewN _ _)) | exact kept_trans ki (kept_drewN _ _)⟩
            case measure => simp [intOf]; omega
          · have e : i = T.length := by omega
            subst e
            rw [sizeTo_end]
            have T5 := Lib.hid (T4.out.more ki)
            go_wp2_with fail
            refine (HSIZ.out _ T5.out).mono ?_
            rintro e w6 ⟨rfl, rfl⟩
            have kk := T5.out.kept
            go_wp2_with fail
            go_ret
            exact ⟨rfl, kk⟩
end Go.Proofs.Ytpacdjphiamppaa
