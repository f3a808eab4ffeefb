/-
  The walk of screelaw08.MergeNewest.
-/
import Derived.Test.YtikknoojgeeflaaMergeArgs
import Derived.Test.YtikknoojgeeflaaMemTwo
namespace Go.Proofs.Ytikknoojgeeflaa
open Go.ChangeShapes Go.WideShapes Go.ChangeAt Go.RowKit
set_option linter.unusedVariables false
set_option maxRecDepth 100000
set_option maxHeartbeats 4000000

theorem first_sub {l : List Mm.Ent} {p : Mm.Ent → Bool} {s : Nat} {x : Mm.Ent} (h : Mg.first l s x = true) : Mg.first (l.filter p) s x = true := by
  rw [Mg.first_iff] at *
  exact ⟨h.1, fun y hy => h.2 y ((List.mem_filter.1 hy).1)⟩
theorem newest_twice (l : List Mm.Ent) (s : Nat) : Mg.newest (Mg.newest l s) s = Mg.newest l s := by
  unfold Mg.newest
  rw [List.filter_eq_self]
  intro x hx
  have h := (List.mem_filter.1 hx).2
  unfold Mg.newP at h ⊢
  rw [Bool.or_eq_true] at h ⊢
  exact h.imp id (fun h => first_sub h)
theorem seen_newest (l : List Mm.Ent) {s M : Nat} (hs : s ≤ M) : Mg.seen (Mg.newest l s) M = Mg.seen l M := by
  unfold Mg.seen Mg.newest
  rw [List.filter_filter]
  refine List.filter_congr fun x hx => ?_
  unfold Mg.seenP
  rw [Bool.eq_iff_iff, Bool.and_eq_true, Bool.and_eq_true, Bool.and_eq_true]
  constructor
  · rintro ⟨⟨h1, h2⟩, h3⟩
    refine ⟨?_, h2⟩
    rw [Mg.first_iff] at h1 ⊢
    refine ⟨h1.1, fun y hy e1 e2 => ?_⟩
    by_cases hM : M < y.seq
    · exact hM
    · refine h1.2 y (List.mem_filter.2 ⟨hy, ?_⟩) e1 e2
      unfold Mg.newP at h3 ⊢
      rw [Bool.or_eq_true, decide_eq_true_iff] at h3 ⊢
      rcases h3 with h3 | h3
      · left; omega
      · left; exact (Mg.first_iff.1 h3).2 y hy e1 e2
  · rintro ⟨h1, h2⟩
    refine ⟨⟨first_sub h1, h2⟩, ?_⟩
    rw [Mg.first_iff] at h1
    unfold Mg.newP
    rw [Bool.or_eq_true, decide_eq_true_iff]
    by_cases hx2 : s < x.seq
    · exact .inl hx2
    · right
      rw [Mg.first_iff]
      exact ⟨by omega, fun y hy e1 e2 => Nat.lt_of_le_of_lt hs (h1.2 y hy e1 e2)⟩
theorem newest_row {l : List Mm.Ent} (h : Mg.row l = true) (s : Nat) : Mg.row (Mg.newest l s) = true := Mg.row_iff.2 ((Mg.row_iff.1 h).filter _)
theorem newest_len (l : List Mm.Ent) (s : Nat) : (Mg.newest l s).length ≤ l.length := List.length_filter_le _ _
/-- a list alone is asked for its size -/
theorem glarge_one {w : World} {A : Option Addr} {l : List Mm.Ent} {c p : Nat} (h : Els w A l) (hc : l.length ≤ c) (hm : c ≤ maxLen) (ho : OkE l) (hp : w.heap[p]? = some (.cells #[.slice A l.length c] 28)) :
    Calls Try.prog 29 #[.slice (some ⟨p, 0, none⟩) 1 1] w fun e w' => ∃ B, e = .returned (.bool B) ∧ Kept w w' ∧ (B = false → l.length ≤ 300) := by
  have hx : Rwx w (some ⟨p, 0, none⟩) [⟨A, c, l, 0⟩] := by
    refine ⟨fun j x hx => ⟨p, 0, rfl, mheap_lt hp, ?_⟩, fun r hr => ?_, fun r hr => ?_, fun r hr => ?_, fun r hr => ?_⟩
    · rw [Nat.zero_add]
      match j, hx with
      | 0, hx => simp at hx; subst hx; exact mcell hp 0 rfl
      | j + 1, hx => simp at hx
    · rw [List.mem_singleton] at hr; subst hr; exact h
    · rw [List.mem_singleton] at hr; subst hr; exact hc
    · rw [List.mem_singleton] at hr; subst hr; exact hm
    · rw [List.mem_singleton] at hr; subst hr; exact ho
  exact (glarge_any 1 hx (by simp [maxLen])).mono fun e w' ⟨B, h1, h2, h3⟩ => ⟨B, h1, h2, fun e => by have := (h3 e).2; simpa using this⟩
/-- the answer of 'large' behind a name -/
def LgOne (w : World) (l : List Mm.Ent) (e : Ending) (w' : World) : Prop := ∃ B, e = .returned (.bool B) ∧ Kept w w' ∧ (B = false → l.length ≤ 300)
theorem MergeNewest_walk (A : Option Addr) (cap : Nat) (l : List Mm.Ent) (a1 a2 : Int) {w : World} (ha : Els w A l) (hl : l.length ≤ cap ∧ cap ≤ maxLen ∧ OkE l) (h1 : (Lit.int .u64 a1).wf = true) (h2 : (Lit.int .u64 a2).wf = true) :
    Calls Try.prog 7 #[.slice A l.length cap, .int .u64 a1, .int .u64 a2] w fun e w' => e = .returned (.bool true) ∧ Kept w w' := by
  have b1 := bounds_u64 h1; have b2 := bounds_u64 h2
  obtain ⟨s1, rfl⟩ : ∃ s : Nat, a1 = (s : Int) := ⟨a1.toNat, by omega⟩
  obtain ⟨s2, rfl⟩ : ∃ s : Nat, a2 = (s : Int) := ⟨a2.toNat, by omega⟩
  obtain ⟨hc, hm, ho⟩ := hl
  have HE := Lib.hid ha; have HO := Lib.hid ho; have HC := Lib.hid hc; have HM := Lib.hid hm
  clear h1 h2 ha ho hc hm
  go_enter Try.func7, Try.ntmps7
  go_wp2_with fail
  refine (gmawake_any w).mono ?_
  rintro e w1 ⟨rfl, g1⟩
  have k2 : Kept w1 (w1.alloc (.cells #[.slice A l.length cap] 28)) := (Kept.refl _).alloc _
  have HL := Lib.hid (show Calls Try.prog 29 #[.slice (some ⟨w1.heap.size, 0, none⟩) 1 1] (w1.alloc (.cells #[.slice A l.length cap] 28)) (LgOne (w1.alloc (.cells #[.slice A l.length cap] 28)) l) from glarge_one ((HE.out.kept g1).kept k2) HC.out HM.out HO.out (malloc_new w1 _))
  have G2 := Lib.hid (kept_trans g1 k2)
  clear g1 k2
  go_wp2_with fail
  refine HL.out.mono ?_
  rintro e w2 ⟨B, rfl, g2, hB⟩
  have G := Lib.hid (kept_trans G2.out g2)
  clear g2 HL
  cases B with
  | true =>
    go_wp2_with fail
    go_ret
    exact ⟨rfl, G.out⟩
  | false =>
    have h300 := hB rfl
    clear hB
    have HN := Lib.hid (gnewest_any cap (HE.out.kept G.out) (by omega) s1)
    cases hv : Mg.row l with
    | false =>
      have hno := rS_no (m := Mg.newest l s1) hv
      rw [hno.1, hno.2] at HN
      have hrw := grow_any A cap l (by omega)
      rw [hv] at hrw
      have HRW := Lib.hid hrw
      clear hno hv hrw
      go_wp2_with fail
      refine HN.out.mono ?_
      rintro e w3 ⟨B, c, rfl, _, g3⟩
      have HR3 := Lib.hid (HRW.out w3 ((HE.out.kept G.out).kept g3))
      have G3 := Lib.hid (kept_trans G.out g3)
      clear g3 HRW
      go_wp2_with fail
      refine HR3.out.mono ?_
      rintro e w4 ⟨rfl, g4⟩
      go_wp2_with fail
      go_ret
      exact ⟨rfl, kept_trans G3.out g4⟩
    | true =>
      have hyes := rS_yes (m := Mg.newest l s1) hv
      rw [hyes.1, hyes.2] at HN
      have HV := Lib.hid hv
      have hN300 : (Mg.newest l s1).length ≤ 300 := Nat.le_trans (newest_len _ _) h300
      have HNR := Lib.hid (newest_row hv s1)
      have HTW := Lib.hid (newest_twice l s1)
      have HSN := Lib.hid (fun M (h : s1 ≤ M) => seen_newest l h)
      generalize hNN : Mg.newest l s1 = NN at *
      have HNN := Lib.hid hNN
      clear hyes hv hNN
      go_wp2_with fail
      refine HN.out.mono ?_
      rintro e w3 ⟨B, c, rfl, hel, g3⟩
      have HE3 := Lib.hid hel.els
      have G3 := Lib.hid (kept_trans G.out g3)
      clear hel g3
      by_cases hs : s1 ≤ s2
      · have m1 : ¬ (s2 : Int) < (s1 : Int) := by omega
        have m2 : ¬ s2 < s1 := by omega
        have m3 : (s1 : Int) ≤ (s2 : Int) := by omega
        have HS1 := Lib.hid (gseen_any cap (HE.out.kept G3.out) (by omega) s2)
        have hyes2 := rS_yes (m := Mg.seen l s2) HV.out
        rw [hyes2.1, hyes2.2] at HS1
        have hyes3 := rS_yes (m := Mg.seen NN s2) HNR.out
        rw [HSN.out s2 hs] at hyes3
        have hyes4 := rS_yes (m := Mg.newest NN s1) HNR.out
        rw [HTW.out] at hyes4
        have hsl : (Mg.seen l s2).length ≤ 300 := Nat.le_trans (List.length_filter_le _ _) h300
        have HEQ := Lib.hid (show Mg.seen NN s2 = Mg.seen l s2 from HSN.out s2 hs)
        have HEQ2 := Lib.hid (show Mg.newest NN s1 = NN from HTW.out)
        generalize Mg.seen l s2 = SS at *
        clear hyes2
        go_wp2_with fail
        refine HS1.out.mono ?_
        rintro e w4 ⟨B4, c4, rfl, hel4, g4⟩
        have HE4 := Lib.hid hel4.els; have G4 := Lib.hid g4
        clear hel4 g4
        have HS2 := Lib.hid (gseen_any c (HE3.out.kept G4.out) (by omega) s2)
        rw [HEQ.out, hyes3.1, hyes3.2] at HS2
        go_wp2_with fail
        refine HS2.out.mono ?_
        rintro e w5 ⟨B5, c5, rfl, hel5, g5⟩
        have HE5 := Lib.hid hel5.els; have G5 := Lib.hid g5
        clear hel5 g5
        have HN6 := Lib.hid (gnewest_any c ((HE3.out.kept G4.out).kept G5.out) (by omega) s1)
        rw [HEQ2.out, hyes4.1, hyes4.2] at HN6
        clear hyes3 hyes4
        go_wp2_with fail
        refine HN6.out.mono ?_
        rintro e w6 ⟨B6, c6, rfl, hel6, g6⟩
        have HE6 := Lib.hid hel6.els; have G6 := Lib.hid g6
        clear hel6 g6
        have k56 := kept_trans G5.out G6.out
        have HA := Lib.hid (msame_eq (c1 := c4) (c2 := c5) (HE4.out.kept k56) (HE5.out.kept G6.out) rfl rfl (by omega) rfl)
        have HK := Lib.hid (kept_trans (kept_trans G3.out G4.out) k56)
        have K46 := Lib.hid (kept_trans G4.out k56)
        clear k56
        go_wp2_with fail
        refine HA.out.mono ?_
        rintro e w7 ⟨rfl, g7⟩
        have G7 := Lib.hid g7
        clear g7
        have HB := Lib.hid (msame_eq (c1 := c) (c2 := c6) ((HE3.out.kept K46.out).kept G7.out) (HE6.out.kept G7.out) rfl rfl (by omega) rfl)
        go_wp2_with fail
        refine HB.out.mono ?_
        rintro e w8 ⟨rfl, g8⟩
        have G8 := Lib.hid g8
        clear g8
        have hrw := grow_any B c NN (by omega) w8 (((HE3.out.kept K46.out).kept G7.out).kept G8.out)
        rw [HNR.out] at hrw
        have HRW := Lib.hid hrw
        clear hrw
        go_wp2_with fail
        refine HRW.out.mono ?_
        rintro e w9 ⟨rfl, g9⟩
        go_wp2_with fail
        go_ret
        exact ⟨rfl, kept_trans HK.out (kept_trans G7.out (kept_trans G8.out g9))⟩
      · have m1 : (s2 : Int) < (s1 : Int) := by omega
        have m2 : s2 < s1 := by omega
        have m3 : ¬ (s1 : Int) ≤ (s2 : Int) := by omega
        have HS1 := Lib.hid (gseen_any cap (HE.out.kept G3.out) (by omega) s1)
        have hyes2 := rS_yes (m := Mg.seen l s1) HV.out
        rw [hyes2.1, hyes2.2] at HS1
        have hyes3 := rS_yes (m := Mg.seen NN s1) HNR.out
        rw [HSN.out s1 (Nat.le_refl s1)] at hyes3
        have hyes4 := rS_yes (m := Mg.newest NN s1) HNR.out
        rw [HTW.out] at hyes4
        have hsl : (Mg.seen l s1).length ≤ 300 := Nat.le_trans (List.length_filter_le _ _) h300
        have HEQ := Lib.hid (show Mg.seen NN s1 = Mg.seen l s1 from HSN.out s1 (Nat.le_refl s1))
        have HEQ2 := Lib.hid (show Mg.newest NN s1 = NN from HTW.out)
        generalize Mg.seen l s1 = SS at *
        clear hyes2
        go_wp2_with fail
        refine HS1.out.mono ?_
        rintro e w4 ⟨B4, c4, rfl, hel4, g4⟩
        have HE4 := Lib.hid hel4.els; have G4 := Lib.hid g4
        clear hel4 g4
        have HS2 := Lib.hid (gseen_any c (HE3.out.kept G4.out) (by omega) s1)
        rw [HEQ.out, hyes3.1, hyes3.2] at HS2
        go_wp2_with fail
        refine HS2.out.mono ?_
        rintro e w5 ⟨B5, c5, rfl, hel5, g5⟩
        have HE5 := Lib.hid hel5.els; have G5 := Lib.hid g5
        clear hel5 g5
        have HN6 := Lib.hid (gnewest_any c ((HE3.out.kept G4.out).kept G5.out) (by omega) s1)
        rw [HEQ2.out, hyes4.1, hyes4.2] at HN6
        clear hyes3 hyes4
        go_wp2_with fail
        refine HN6.out.mono ?_
        rintro e w6 ⟨B6, c6, rfl, hel6, g6⟩
        have HE6 := Lib.hid hel6.els; have G6 := Lib.hid g6
        clear hel6 g6
        have k56 := kept_trans G5.out G6.out
        have HA := Lib.hid (msame_eq (c1 := c4) (c2 := c5) (HE4.out.kept k56) (HE5.out.kept G6.out) rfl rfl (by omega) rfl)
        have HK := Lib.hid (kept_trans (kept_trans G3.out G4.out) k56)
        have K46 := Lib.hid (kept_trans G4.out k56)
        clear k56
        go_wp2_with fail
        refine HA.out.mono ?_
        rintro e w7 ⟨rfl, g7⟩
        have G7 := Lib.hid g7
        clear g7
        have HB := Lib.hid (msame_eq (c1 := c) (c2 := c6) ((HE3.out.kept K46.out).kept G7.out) (HE6.out.kept G7.out) rfl rfl (by omega) rfl)
        go_wp2_with fail
        refine HB.out.mono ?_
        rintro e w8 ⟨rfl, g8⟩
        have G8 := Lib.hid g8
        clear g8
        have hrw := grow_any B c NN (by omega) w8 (((HE3.out.kept K46.out).kept G7.out).kept G8.out)
        rw [HNR.out] at hrw
        have HRW := Lib.hid hrw
        clear hrw
        go_wp2_with fail
        refine HRW.out.mono ?_
        rintro e w9 ⟨rfl, g9⟩
        go_wp2_with fail
        go_ret
        exact ⟨rfl, kept_trans HK.out (kept_trans G7.out (kept_trans G8.out g9))⟩
end Go.Proofs.Ytikknoojgeeflaa
