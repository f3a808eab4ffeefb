/-
  The walk of screelaw11.TableWrites.
-/
import Derived.Test.YtecjnebfhbdnaaaTableRef
import Derived.Test.YtecjnebfhbdnaaaTableAwake
import Derived.Test.YtecjnebfhbdnaaaMergeApp
import Derived.Test.YtecjnebfhbdnaaaPackMem
namespace Go.Proofs.Ytecjnebfhbdnaaa
open Go.ChangeShapes Go.WideShapes Go.ChangeAt Go.RowKit
set_option linter.unusedVariables false
set_option maxRecDepth 100000
set_option maxHeartbeats 4000000

/-- two lists that are the same, however long -/
theorem msame_long {w : World} {A1 A2 : Option Addr} {c1 c2 a b : Nat} {l : List Mm.Ent} (ha : l.length = a) (hb : l.length = b) (hl : l.length ≤ 4611686018427387904) (h1 : Els w A1 l) (h2 : Els w A2 l) :
    Calls Try.prog 11 #[.slice A1 a c1, .slice A2 b c2] w fun e w' => e = .returned (.bool true) ∧ Kept w w' := by
  subst hb
  subst ha
  obtain ⟨n, hn⟩ : ∃ n, n = l.length := ⟨_, rfl⟩
  rw [← hn] at hl ⊢
  have HN := Lib.hid hn
  have d : ((n : Int) != (n : Int)) = false := by simp
  clear hn
  go_enter Try.func11, Try.ntmps11
  go_wp2_with fail
  go_loopw [5] (fun t wr => ∃ (k : Nat), k ≤ n ∧ t = .int .i64 k ∧ ∃ q, wr = w.drewN q) (fun t _ => n - (intOf t).toNat)
  case atStart => exact ⟨0, Nat.zero_le _, rfl, 0, rfl⟩
  case round =>
    obtain ⟨k, hk, rfl, q, rfl⟩ := hrel
    by_cases hlt : k < n
    · obtain ⟨x, hx⟩ : ∃ x, l[k]? = some x := ⟨_, List.getElem?_eq_getElem (by have := HN.out; omega)⟩
      obtain ⟨b1, o1, rfl, hb1, p0, p1, p2, p3⟩ := h1 k x hx
      obtain ⟨b2, o2, rfl, hb2, q0, q1, q2, q3⟩ := h2 k x hx
      clear hx
      go_wp2_with fail
      go_quiet (fail)
      go_wp2_with fail
      go_roundw
      case rel => exact ⟨k + 1, by omega, by go_num, _, rfl⟩
      case measure => simp [intOf]; omega
    · go_wp2_with fail
      go_ret
      exact ⟨rfl, kept_drewN _ _⟩
/-- append of a list that lies in memory onto an empty one, however long it is -/
theorem app_long {ops : Array Oper} {rest : List Oper} {o : Oper} {a : Act} {Q : Exit → Act → World → Prop} {wr : World} {v : Value} (A : Option Addr) (c : Nat) (Y : List Mm.Ent) (s x : Operand)
    (hw : Region.wanted o (yielded ops a.tmps) = true) (ho : o.op = .call { callee := .builtin .append, args := #[s, x], argTypes := #[22, 22] })
    (hs : a.eval s = v) (Bs : Nat) (hsz : Bs ≤ wr.heap.size) (hown : wr.ownsRow Bs 37 4 v 0 (elc [])) (n : Nat) (hn : n = Y.length) (hx : a.eval x = .slice A n c) (hA : Els wr A Y) (hlen : Y.length * 48 ≤ 140737488355328)
    (h : ∀ v' w1, w1.ownsRow Bs 37 4 v' Y.length (elc Y) → wr.grownBy w1 v.ownBlock → wpList Try.prog ops Q rest (a.put o.dst v') w1) :
    wpList Try.prog ops Q (o :: rest) a wr := by
  obtain ⟨i0, hi, hz0, hz1, hz2⟩ := info_parts mentInfo
  subst hn
  refine wpList_step fun K hK => ?_
  rw [if_pos hw]
  cases A with
  | none =>
    have hl : Y = [] := by
      cases Y with
      | nil => rfl
      | cons y l => obtain ⟨b, o', e, _⟩ := hA 0 y rfl; cases e
    subst hl
    have hrun := run_append_owned_nil (P := Try.prog) (w := wr) Bs 22 o.type 37 i0 4 Try.underlying22 hi v 0 (elc []) hown c
    unfold Oper.wp
    simp [execOp, ho, resolve, invoke, builtin, hs, hx, hrun, Result.andThen]
    exact hK _ _ (h v wr hown ⟨rfl, rfl, rfl, Nat.le_refl _, fun _ _ _ => rfl⟩)
  | some ad =>
    obtain ⟨v', w', hr, h2, h3, _⟩ := run_append_own_at (P := Try.prog) (w := wr) Bs 22 o.type 37 i0 zentV 4 48 Try.underlying22 hi hz0 hz1 hz2 rfl (by decide) v 0 (elc []) hown ad Y.length c (elc Y) (elc_len Y) (els_news hA) (elc_one Y) (by unfold maxLen; omega) (by omega) hsz
    rw [← elc_app, Nat.zero_add, List.nil_append] at h2
    unfold Oper.wp execOp
    simp only [ho, resolve, invoke, builtin, Sem.run_bind, Sem.run_pure, Result.andThen_ok, List.map_toArray, List.map_cons, List.map_nil, hs, hx, hr]
    exact hK _ _ (h v' w' h2 h3)
theorem kown_lit2 (wr : World) {B : Nat} (hB : B ≤ wr.heap.size) : (wr.alloc (.cells #[] 37)).ownsRow B 37 4 (.slice (some ⟨wr.heap.size, 0, none⟩) 0 0) 0 (elc []) :=
  World.ownsRow_lit (base := B) (e := 37) (size := 4) wr #[] 0 hB (by unfold maxLen; omega) rfl
/-- an own row of entries, as a list in memory -/
theorem own_long {w : World} {B n : Nat} {v : Value} {l : List Mm.Ent} (h : w.ownsRow B 37 4 v n (elc l)) : ∃ A c, v = .slice A l.length c ∧ l.length ≤ c ∧ c ≤ maxLen ∧ Els w A l := by
  obtain ⟨A, c, e, _, hel⟩ := els_own h
  exact ⟨A, c, e, hel.cap, hel.most, hel.els⟩
/-- how much a list that comes in counts -/
theorem slice_reach {H : Type} {enc : TypeId × Value → H} {W : World} {fuel : Nat} {cs : List Value} {d : DataW H} {p : List MemPlace} (h : DataW.trod enc Try.prog W 0 (fun _ => true) true fuel 22 cs = some (d, p)) {A : Option Addr} {n c : Nat} (e : cs = [.slice A n c]) :
    n = 0 ∨ ∃ elems spare, d = .slice elems spare ∧ elems.length = n := by
  rcases Deep.open_slice Try.underlying22 h with ⟨e2, _⟩ | ⟨a, len, cap, m, q, D, Pl, e2, _, _, _, _, hx, _⟩
  · rw [e] at e2
    simp at e2
    exact Or.inl e2.2.1
  · rw [e] at e2
    simp at e2
    right
    have hx1 := congrArg Prod.fst hx
    simp only at hx1
    exact ⟨_, _, hx1, by rw [List.length_map, List.length_range]; exact e2.2.1.symm⟩
theorem entBytes : Try.prog.bytesOf 37 = 48 := by kernel_rfl
theorem TableWrites_walk (A : Option Addr) (cap : Nat) (l : List Mm.Ent) {w : World} (ha : Els w A l) (hl : l.length ≤ cap ∧ cap ≤ maxLen ∧ OkEs l) (hz : l.length * 48 ≤ 140737488355328) :
    Calls Try.prog 3 #[.slice A l.length cap] w fun e w' => e = .returned (.bool true) ∧ Kept w w' := by
  obtain ⟨hc, hm, ho⟩ := hl
  have ho2 : OkEl l := fun x hx => ⟨(ho x hx).1, (ho x hx).2.1⟩
  have HLG := Lib.hid (fun (W : World) (k : Kept w W) => tlarge_any cap (ha.kept k) (by omega) ho2)
  have HRB := Lib.hid (fun (W : World) (k : Kept w W) => rtbuild_any cap (ha.kept k) hc hm ho2)
  have HBD := Lib.hid (fun (W : World) (B : Option Addr) (c : Nat) (h : Els W B l) (q1 : l.length ≤ c) (q2 : c ≤ maxLen) => tbuild_any c h q1 q2 ho2)
  have HAW := Lib.hid (tawake_any w)
  have HELS := Lib.hid ha
  have HZ := Lib.hid hz
  have hlm : l.length ≤ 9223372036854775807 := by omega
  obtain ⟨n, hn⟩ : ∃ n, n = l.length := ⟨_, rfl⟩
  have HN := Lib.hid hn
  rw [← hn] at HLG HRB HBD hlm ⊢
  generalize bs (Tb.encS l) = RS at *
  generalize Tb.encC l = RC at *
  clear ho ho2 ha hz hn hc hm
  go_enter Try.func3, Try.ntmps3
  go_wp2_with fail
  refine HAW.out.mono ?_
  rintro e w1 ⟨rfl, g1⟩
  have HL1 := Lib.hid (HLG.out w1 g1)
  go_wp2_with fail
  refine HL1.out.mono ?_
  rintro e w2 ⟨B, rfl, g2⟩
  have K2 := Lib.hid (kept_trans g1 g2)
  clear g1 g2 HL1 HLG HAW
  cases B with
  | true =>
    go_wp2_with fail
    go_ret
    exact ⟨rfl, K2.out⟩
  | false =>
    have HEL := Lib.hid ((HELS.out.kept K2.out).kept ((Kept.refl _).alloc (.cells #[] 37)))
    have HO0 := Lib.hid (kown_lit2 w2 (Nat.le_refl _))
    go_wp2_with (at_builtin; refine app_long A cap l _ _ rfl rfl rfl w2.heap.size (by simp) HO0.out n HN.out rfl HEL.out HZ.out ?_)
    intro v' w3 hown hg
    have hk3 : Kept w2 w3 := Below.grown ((Kept.refl w2).alloc _) hg (by simp) (fun b hb => ((HO0.out.lt b hb).1))
    obtain ⟨B', c', rfl, q1, q2, hel⟩ := own_long hown
    rw [← HN.out] at q1
    have HBD2 := Lib.hid (HBD.out w3 B' c' hel q1 q2)
    have HOW := Lib.hid hel
    have K3 := Lib.hid (kept_trans K2.out hk3)
    rw [← HN.out]
    clear hown hg hk3 hel HEL HO0 q1 q2 HBD
    go_wp2_with fail
    refine HBD2.out.mono ?_
    rintro e w4 ⟨rfl, g4⟩
    have K4 := Lib.hid (kept_trans K3.out g4)
    have HRB2 := Lib.hid (HRB.out w4 K4.out)
    go_wp2_with fail
    refine HRB2.out.mono ?_
    rintro e w5 ⟨rfl, g5⟩
    have K5 := Lib.hid (kept_trans K4.out g5)
    have HSM := Lib.hid (msame_long (c1 := c') (c2 := cap) (a := n) (b := n) HN.out.symm HN.out.symm (by have := HZ.out; omega) (HOW.out.kept (kept_trans g4 g5)) (HELS.out.kept K5.out))
    clear g4 g5 HRB2 HRB HBD2
    go_wp2_with fail
    refine HSM.out.mono ?_
    rintro e w6 ⟨rfl, g6⟩
    go_wp2_with fail
    go_ret
    exact ⟨rfl, kept_trans K5.out g6⟩
end Go.Proofs.Ytecjnebfhbdnaaa
