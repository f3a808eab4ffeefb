/-
  Append of a list of entries that lies in memory, onto a row of the call's own.
-/
import Derived.Test.YtecjnebfhbdnaaaMergeEs
import Derived.Test.YtecjnebfhbdnaaaPackMem
import Derived.Maps.AppendAt
namespace Go.Proofs.Ytecjnebfhbdnaaa
open Go.ChangeShapes Go.WideShapes Go.ChangeAt Go.RowKit
set_option linter.unusedVariables false
set_option maxRecDepth 100000
set_option maxHeartbeats 4000000

theorem run_append_owned_nil {P : Program} {w : World} (base : Nat) (t ty e : TypeId) (i : TypeInfo) (size : Nat) (ht : P.underlying t = some (.slice e)) (hi : P.info? e = some i)
    (v : Value) (n : Nat) (xs : List Value) (hown : w.ownsRow base e size v n xs) (c : Nat) :
    (Builtin.append_ #[t, t] ty #[v, .slice none 0 c]).run P w = .ok v w := by
  rcases hown.2 with ⟨rfl, rfl⟩ | ⟨g, cap, cur, rfl, _, _, hnc, _⟩
  · simp [Builtin.append_, run_underlying ht, sizeOf, typeInfo, hi, Builtin.lenOf, Builtin.firstCells]
  · simp [Builtin.append_, run_underlying ht, sizeOf, typeInfo, hi, Builtin.lenOf, Builtin.firstCells, hnc, storeCells]
theorem els_news {wr : World} {ad : Addr} {Y : List Mm.Ent} (hA : Els wr (some ad) Y) : ∀ j u, (elc Y)[j]? = some u → wr.cell? (ad.add j) = some u := fun j u hj => by
  have hjl := (List.getElem?_eq_some_iff.1 hj).1
  rw [elc_len] at hjl
  have hy : Y[j / 4]? = some Y[j / 4] := List.getElem?_eq_getElem (by omega)
  generalize Y[j / 4] = y at hy
  have hg := elc_get hy
  obtain ⟨b, o', e, hb, c0, c1, c2, c3⟩ := hA (j / 4) y hy
  cases e
  rw [madd_at]
  have hm : j % 4 = 0 ∨ j % 4 = 1 ∨ j % 4 = 2 ∨ j % 4 = 3 := by omega
  rcases hm with hm | hm | hm | hm
  · have e : j = j / 4 * 4 + 0 := by omega
    have g := hg 0 _ rfl
    rw [← e] at g
    rw [Nat.add_zero] at e
    rw [← e] at c0
    rw [c0]; rw [g] at hj; exact hj
  · have e : j = j / 4 * 4 + 1 := by omega
    have g := hg 1 _ rfl
    rw [← e] at g
    rw [Nat.add_assoc, ← e] at c1
    rw [c1]; rw [g] at hj; exact hj
  · have e : j = j / 4 * 4 + 2 := by omega
    have g := hg 2 _ rfl
    rw [← e] at g
    rw [Nat.add_assoc, ← e] at c2
    rw [c2]; rw [g] at hj; exact hj
  · have e : j = j / 4 * 4 + 3 := by omega
    have g := hg 3 _ rfl
    rw [← e] at g
    rw [Nat.add_assoc, ← e] at c3
    rw [c3]; rw [g] at hj; exact hj
/-- append of a list of entries that lies in memory (nil of whatever room), onto a row of the call's own, as an operation that may be guarded -/
theorem app_es {ops : Array Oper} {rest : List Oper} {o : Oper} {a : Act} {Q : Exit → Act → World → Prop} {wr : World} {v : Value} (A : Option Addr) (c : Nat) (X Y : List Mm.Ent) (s x : Operand)
    (hw : Region.wanted o (yielded ops a.tmps) = true) (ho : o.op = .call { callee := .builtin .append, args := #[s, x], argTypes := #[22, 22] })
    (hs : a.eval s = v) (Bs : Nat) (hsz : Bs ≤ wr.heap.size) (hown : wr.ownsRow Bs 37 4 v X.length (elc X)) (n : Nat) (hn : n = Y.length) (hx : a.eval x = .slice A n c) (hA : Els wr A Y) (hlen : X.length + Y.length ≤ 4000)
    (h : ∀ v' w1, w1.ownsRow Bs 37 4 v' (X ++ Y).length (elc (X ++ Y)) → wr.grownBy w1 v.ownBlock → wpList Try.prog ops Q rest (a.put o.dst v') w1) :
    wpList Try.prog ops Q (o :: rest) a wr := by
  obtain ⟨i0, hi, hz0, hz1, hz2⟩ := info_parts mentInfo
  subst hn
  refine wpList_step fun K hK => ?_
  rw [if_pos hw]
  cases A with
  | none =>
    have hl : Y = [] := by
      cases Y with
      | nil => rfl
      | cons y l => obtain ⟨b, o', e, _⟩ := hA 0 y rfl; cases e
    subst hl
    have hrun := run_append_owned_nil (P := Try.prog) (w := wr) Bs 22 o.type 37 i0 4 Try.underlying22 hi v X.length (elc X) hown c
    unfold Oper.wp
    simp [execOp, ho, resolve, invoke, builtin, hs, hx, hrun, Result.andThen]
    exact hK _ _ (h v wr (by rw [List.append_nil]; exact hown) ⟨rfl, rfl, rfl, Nat.le_refl _, fun _ _ _ => rfl⟩)
  | some ad =>
    obtain ⟨v', w', hr, h2, h3, _⟩ := run_append_own_at (P := Try.prog) (w := wr) Bs 22 o.type 37 i0 zentV 4 48 Try.underlying22 hi hz0 hz1 hz2 rfl (by decide) v X.length (elc X) hown ad Y.length c (elc Y) (elc_len Y) (els_news hA) (elc_one Y) (by unfold maxLen; omega) (by omega) hsz
    rw [← elc_app, ← List.length_append] at h2
    unfold Oper.wp execOp
    simp only [ho, resolve, invoke, builtin, Sem.run_bind, Sem.run_pure, Result.andThen_ok, List.map_toArray, List.map_cons, List.map_nil, hs, hx, hr]
    exact hK _ _ (h v' w' h2 h3)
end Go.Proofs.Ytecjnebfhbdnaaa
