/-
  Statements of package level: an edit that changes nothing; a version's edit; one step of a law's loop.
-/
import Derived.Test.YtnnmalpnjlnnlaaGreatLevelAwake
import Derived.Test.YtnnmalpnjlnnlaaGreatPackLvS
import Derived.Deep.CutRange
namespace Go.Proofs.YtnnmalpnjlnnlaaGreat
open Go.ChangeShapes Go.WideShapes Go.ChangeAt Go.RowKit
set_option linter.unusedVariables false
set_option maxRecDepth 100000
set_option maxHeartbeats 8000000
open Lv
theorem ed_at {W : World} {b o q : Nat} {x : Ed} (h : ∃ b' o', (some ⟨b, o, none⟩ : Option Addr) = some ⟨b', o', none⟩ ∧ b' < W.heap.size ∧ EdAt W b' (o' + q) x ∧ x.Wk W) : EdAt W b (o + q) x := by
  obtain ⟨b', o', e, _, h, _⟩ := h
  cases e; exact h
theorem ed_wk {W : World} {A : Option Addr} {q : Nat} {x : Ed} (h : ∃ b' o', A = some ⟨b', o', none⟩ ∧ b' < W.heap.size ∧ EdAt W b' (o' + q) x ∧ x.Wk W) : x.Wk W := by
  obtain ⟨b', o', e, _, _, h⟩ := h
  exact h
theorem stay_nil (t : Nat → List Meta) (l : Nat) : stay t [] l = t l := by
  unfold stay
  rw [List.filter_eq_self]
  intro m _
  simp
def edN : Edt := ⟨[], fun l => (vT0 l).l, 0, 0, 0⟩
theorem res_nil (V : Ver) (l : Nat) : res V edN l = V.t l := by
  show tog (l == 0) (stay V.t [] l) [] = V.t l
  rw [stay_nil]; rfl
theorem code_nil {V : Ver} (g : Lv.Good V) : code V edN = 0 := by
  have h1 : all4 may edN.new = true := all4_iff.2 (fun l hl m hm => by simp [edN, vT0] at hm)
  have h2 : takes (fl V.t) edN.gone = true := by simp [takes, edN]
  have hs : stay V.t edN.gone = V.t := by funext l; exact stay_nil V.t l
  have hfn : fl edN.new = [] := by rfl
  have h3 : (fl (stay V.t edN.gone) ++ fl edN.new).Nodup := by rw [hs, hfn, List.append_nil]; exact g.once
  have h4 : okR V edN = true := by
    unfold okR
    rw [show chg V.nx edN.nx = V.nx from rfl, show chg V.lg edN.lg = V.lg from rfl, show chg V.sq edN.sq = V.sq from rfl]
    have a := g.nx.2; have b := g.lg; have c := g.sq
    rw [show all4 (fun m => decide (m.file < V.nx) && decide (m.seq ≤ V.sq)) edN.new = true from all4_iff.2 (fun l hl m hm => by simp [edN, vT0] at hm)]
    unfold okN
    simp [a, b, c]
  have h5 : manyL (stay V.t edN.gone) edN.new = false := by
    rw [hs, manyL_iff]
    intro l hl
    have := g.len l hl
    simpa [edN, vT0] using this
  have h6 : apart3 (res V edN) = true := by
    rw [apart3_iff]
    intro l hl h
    rw [res_nil]; exact g.apart l hl h
  unfold code
  rw [h1, h2, if_neg (by decide), if_neg (by decide), if_neg (not_not_intro h3), h4, if_neg (by decide), h5, if_neg (by decide), h6, if_neg (by decide)]
theorem sane_may {m : Meta} (h : Lv.may m = true) : Sane m := by
  obtain ⟨f1, z0, z1, l1, l2, s1, f2, s2⟩ := may_nums h
  refine ⟨by omega, by omega, by omega, ?_, ?_, by omega⟩ <;> (unfold maxLen; omega)
/-- a version's edit, as an edit in memory -/
theorem lvedit_any {w : World} {p nx lg sq : Nat} {T : Nat → Lvl} (h : IsV w p T nx lg sq) (g : Lv.Good (verV T nx lg sq)) :
    Calls Tryz.prog 31 #[.pointer (some ⟨p, 0, none⟩)] w fun e w' => ∃ d : Ed, e = .returned d.v ∧ d.In w' ∧ Lv.Alike d.edt ⟨[], fun l => (T l).l, nx, lg, sq⟩ ∧ Kept w w' := by
  refine (lvedit_raw h (fun l hl => Nat.le_trans (g.len l hl) (by omega))).mono ?_
  rintro e w' ⟨f, rfl, hF, k⟩
  obtain ⟨U, hU, hUl, hUt, hUf, _⟩ := hF.tin (fun l hl x hx => sane_may (g.may l hl x hx))
  obtain ⟨f0, f1, f2, f3⟩ := four_inj hU
  have a := g.nx.2; have b := g.lg; have c := g.sq
  dsimp only [verV] at a b c
  refine ⟨⟨none, 0, [], U, nx, lg, sq⟩, ?_, ⟨fun j x hx => by simp at hx, hUt, by simp, fun l hl => ?_, by simp only; omega, by simp only; omega, by simp only; omega⟩, ⟨rfl, fun l hl => hUl l hl, rfl, rfl, rfl⟩, k⟩
  · unfold Ed.v edv
    rw [f0, f1, f2, f3]
    rfl
  · simp only
    rw [hUl l hl]
    exact Nat.le_trans (g.len l hl) (by omega)
/-- what an applied edit leaves, for a law: a version that is good, or none -/
theorem apy_two {w : World} {p nx lg sq : Nat} {T : Nat → Lvl} (h : IsV w p T nx lg sq) (g : Lv.Good (verV T nx lg sq)) {e : Ed} (he : e.In w) :
    Calls Tryz.prog 16 #[.pointer (some ⟨p, 0, none⟩), e.v] w fun r w' =>
      ((∃ c : Int, c ≠ 0 ∧ c = ((code (verV T nx lg sq) e.edt : Nat) : Int) ∧ r = .returned (.tuple #[.pointer none, .int .i64 c])) ∨ (∃ p2 U, code (verV T nx lg sq) e.edt = 0 ∧ r = .returned (.tuple #[.pointer (some ⟨p2, 0, none⟩), .int .i64 0]) ∧ IsV w' p2 U (chg nx e.nx) (chg lg e.lg) (chg sq e.sq) ∧ Lv.Good (verV U (chg nx e.nx) (chg lg e.lg) (chg sq e.sq)) ∧ (∀ l, l < 4 → (U l).l = res (verV T nx lg sq) e.edt l))) ∧ Kept w w' := by
  refine (lvapply_any h g he).mono ?_
  rintro r w' ⟨h1, h2, k⟩
  refine ⟨?_, k⟩
  by_cases hc : code (verV T nx lg sq) e.edt = 0
  · obtain ⟨p2, U, e1, hv, hl, _⟩ := h1 hc
    exact .inr ⟨p2, U, hc, e1, hv, apy_good g hc hl, hl⟩
  · exact .inl ⟨_, by omega, rfl, h2 hc⟩
/-- the numbers never fall, and stay where an edit tells none -/
theorem code_nums {V : Ver} {E : Edt} (h : code V E = 0) : V.nx ≤ chg V.nx E.nx ∧ V.lg ≤ chg V.lg E.lg ∧ V.sq ≤ chg V.sq E.sq := by
  obtain ⟨h1, h2, h3, h4, h5, h6⟩ := code_ok h
  unfold okR at h4
  simp only [Bool.and_eq_true] at h4
  obtain ⟨⟨⟨n1, n2⟩, n3⟩, n4⟩ := h4
  unfold okN at n1 n2 n3
  simp only [Bool.and_eq_true, decide_eq_true_eq] at n1 n2 n3
  exact ⟨n1.1, n2.1, n3.1⟩
end Go.Proofs.YtnnmalpnjlnnlaaGreat
