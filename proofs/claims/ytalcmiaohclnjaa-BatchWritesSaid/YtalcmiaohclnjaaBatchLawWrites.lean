/-
  BatchWrites of the statements of layer 5 returns true, whatever the input.
-/
import Derived.Test.YtalcmiaohclnjaaBatchRefDec
import Derived.Laws.AppendOwnNone
namespace Go.Proofs.Ytalcmiaohclnjaa
open Go.ChangeShapes Go.WideShapes Go.ChangeAt Go.RowKit
set_option linter.unusedVariables false
set_option maxHeartbeats 1000000

/-- append of a list of operations that came in onto a list of the call's own -/
theorem app_ops {ops : Array Oper} {rest : List Oper} {o : Oper} {a : Act} {Q : Exit → Act → World → Prop} {w wr : World} {v : Value} (A : Option Addr) (c : Nat) (l : List Bt.Op) (s x : Operand)
    (hgd : o.guard = none) (ho : o.op = .call { callee := .builtin .append, args := #[s, x], argTypes := #[23, 23] })
    (hs : a.eval s = v) (hown : wr.ownsRow w.heap.size 34 3 v 0 []) (hk : Kept w wr) (hx : a.eval x = .slice A l.length c) (hA : Ops w A l) (hnil : A = none → c = 0) (hlen : l.length ≤ 4000000)
    (h : ∀ v' w1, w1.ownsRow w.heap.size 34 3 v' l.length (opc l) → Kept w w1 → wpList Try.prog ops Q rest (a.put o.dst v') w1) :
    wpList Try.prog ops Q (o :: rest) a wr := by
  obtain ⟨i0, hi, hz0, hz1, hz2⟩ := info_parts opInfo
  have hsz : w.heap.size ≤ wr.heap.size := Below.size hk
  cases A with
  | none =>
    obtain rfl := hnil rfl
    have hl : l = [] := by
      cases l with
      | nil => rfl
      | cons y l =>
        obtain ⟨b, o', e, _⟩ := hA 0 y rfl
        cases e
    subst hl
    refine wpList_append_own_none hgd s x 23 ho w.heap.size 34 i0 3 Try.underlying23 hi v 0 [] hs hown hx ?_
    exact h v wr hown hk
  | some ad =>
    have hnews : ∀ j u, (opc l)[j]? = some u → wr.cell? (ad.add j) = some u := fun j u hj => by
      have hjl := (List.getElem?_eq_some_iff.1 hj).1
      rw [opc_len] at hjl
      have hy : l[j / 3]? = some l[j / 3] := List.getElem?_eq_getElem (by omega)
      generalize l[j / 3] = y at hy
      obtain ⟨g0, g1, g2⟩ := opc_get hy
      obtain ⟨b, o', e, hb, c0, c1, c2⟩ := (hA.kept hk) (j / 3) y hy
      cases e
      rw [badd_at]
      have hm : j % 3 = 0 ∨ j % 3 = 1 ∨ j % 3 = 2 := by omega
      rcases hm with hm | hm | hm
      · have e : j = j / 3 * 3 := by omega
        rw [← e] at g0 c0
        rw [c0]; rw [g0] at hj; exact hj
      · have e : j = j / 3 * 3 + 1 := by omega
        rw [← e] at g1
        rw [Nat.add_assoc, ← e] at c1
        rw [c1]; rw [g1] at hj; exact hj
      · have e : j = j / 3 * 3 + 2 := by omega
        rw [← e] at g2
        rw [Nat.add_assoc, ← e] at c2
        rw [c2]; rw [g2] at hj; exact hj
    refine wpList_append_own _ hgd s x 23 ho w.heap.size 34 i0 zop 3 40 Try.underlying23 hi hz0 hz1 hz2 rfl (by decide) v 0 [] hs hown ad l.length c (opc l) hx (opc_len l) hnews (fun u hu => by
      unfold opc at hu
      rw [List.mem_flatMap] at hu
      obtain ⟨y, _, hu⟩ := hu
      simp at hu
      rcases hu with rfl | rfl | rfl <;> rfl) (by unfold maxLen; omega) (by omega) hsz ?_
    intro v' w1 ho1 hg _
    rw [Nat.zero_add, List.nil_append] at ho1
    exact h v' w1 ho1 (Below.grown hk hg hsz (fun b hb => (hown.lt b hb).1))
set_option maxHeartbeats 4000000 in
set_option maxRecDepth 100000 in
theorem BatchWrites_walk {w : World} (n : Int) (A : Option Addr) (c : Nat) (l : List Bt.Op) (hn : (Lit.int .u64 n).wf = true) (hA : Ops w A l) (hl : l.length ≤ maxLen ∧ Sane l ∧ l.length ≤ c ∧ c ≤ maxLen ∧ (A = none → c = 0)) :
    Calls Try.prog 3 #[.int .u64 n, .slice A l.length c] w fun e w' => e = .returned (.bool true) ∧ Kept w w' := by
  obtain ⟨hl1, hl2, _, _, hnil⟩ := hl
  obtain ⟨h1, h2⟩ := bounds_u64 hn
  have HS := Lib.hid hl2; have HNIL := Lib.hid hnil
  clear hl2 hn hnil
  go_enter Try.func3, Try.ntmps3
  go_wp2_with fail
  refine (bawake_any _).mono ?_
  rintro e w1 ⟨rfl, g1⟩
  go_wp2_with fail
  refine (blarge_any A c l hl1 HS.out _ (hA.kept g1)).mono ?_
  rintro e w2 ⟨B, rfl, hB, g2⟩
  have g12 := kept_trans g1 g2
  have A2 := Lib.hid (hA.kept g12)
  cases B with
  | true =>
    go_wp2_with fail
    go_ret
    exact ⟨rfl, g12⟩
  | false =>
    have hfew := hB rfl
    have h40 := hfew.1
    have FEW := Lib.hid hfew
    clear hB hl1 g1 g2 hfew
    go_wp2_with (at_builtin; refine app_ops (w := w2) A c l _ _ rfl rfl rfl (own_op0 w2) ((Kept.refl w2).alloc _) rfl A2.out HNIL.out (by omega) ?_)
    intro v3 w3 own3 g3
    obtain ⟨P, p, rfl, _, o3⟩ := ops_own own3
    have O3 := Lib.hid o3
    have A3 := Lib.hid (A2.out.kept g3)
    clear own3 o3
    have hmx : l.length ≤ maxLen := by unfold maxLen; omega
    have HMX := Lib.hid hmx
    clear hmx
    go_wp2_with fail
    refine (encode_any n P p l h1 h2 HMX.out HS.out _ O3.out).mono ?_
    rintro e w4 ⟨rfl, g4⟩
    go_wp2_with fail
    refine (rencode_any n A c l h1 h2 HMX.out HS.out _ (A3.out.kept g4)).mono ?_
    rintro e w5 ⟨rfl, g5⟩
    have g35 := kept_trans g4 g5
    go_wp2_with fail
    refine (entries_any n P p l h1 h2 (by omega) _ (O3.out.kept g35)).mono ?_
    rintro e w6 ⟨X, xc, rfl, ex, g6⟩
    have EX := Lib.hid ex; clear ex
    go_wp2_with fail
    refine (rentries_any n A c l h1 h2 (by omega) _ ((A3.out.kept g35).kept g6)).mono ?_
    rintro e w7 ⟨Y, yc, rfl, ey, g7⟩
    have EY := Lib.hid ey; clear ey
    have g37 := kept_trans g35 (kept_trans g6 g7)
    have EX7 := Lib.hid (EX.out.kept g7)
    generalize Bt.encS n.toNat l = S
    generalize Bt.encE n.toNat l = E
    have HSZ := Lib.hid (fun k x (hx : l[k]? = some x) => size_step hx)
    have HMOST := Lib.hid (fun k => size_le (l := l.take k) (fun x hx => FEW.out.2 x (List.mem_of_mem_take hx)))
    go_wp2_with fail
    refine (may_any P p l HMX.out HS.out _ (O3.out.kept g37)).mono ?_
    rintro e w8 ⟨rfl, g8⟩
    go_wp2_with fail
    refine (rbmay_any A c l HMX.out HS.out _ ((A3.out.kept g37).kept g8)).mono ?_
    rintro e w9 ⟨rfl, g9⟩
    have g79 := kept_trans g8 g9
    have g39 := kept_trans g37 g79
    have X9 := Lib.hid (EX7.out.kept g79)
    have Y9 := Lib.hid (EY.out.kept g79)
    have A9 := Lib.hid (A3.out.kept g39)
    have O9 := Lib.hid (O3.out.kept g39)
    have g19 := kept_trans g12 (kept_trans g3 g39)
    clear g8 g9 g79 EX EX7 EY g35 g4 g5 g6 g7 g37
    generalize Bt.may l = MM
    go_wp2_with fail
    go_loopw [12, 63] (fun z t wr => ∃ k : Nat, k ≤ l.length ∧ t = .int .i64 k ∧ z = .int .i64 (Bt.size (l.take k) : Nat) ∧ Kept w9 wr) (fun _ t _ => l.length - (intOf t).toNat)
    case atStart => exact ⟨0, Nat.zero_le _, rfl, rfl, Kept.refl _⟩
    case round =>
      obtain ⟨k, hk, rfl, rfl, hkr⟩ := hrel
      by_cases hlt : k < l.length
      · obtain ⟨x, hx⟩ : ∃ x, l[k]? = some x := ⟨_, List.getElem?_eq_getElem hlt⟩
        obtain ⟨b, o, rfl, hb, c0, c1, c2⟩ := (A9.out.kept hkr) k x hx
        obtain ⟨b2, o2, rfl, hb2, p0, p1, p2, p3⟩ := (X9.out.kept hkr) k x hx
        obtain ⟨b3, o3, rfl, hb3, q0, q1, q2, q3⟩ := (Y9.out.kept hkr) k x hx
        have hst := HSZ.out k x hx
        have hz := FEW.out.2 x (List.mem_of_getElem? hx)
        have hb1 := HMOST.out k
        rw [List.length_take] at hb1
        have z1 : (bs x.key).size ≤ 300 := by rw [fbs_size]; exact hz.1
        have z2 : (bs x.val).size ≤ 300 := by rw [fbs_size]; exact hz.2
        have hst2 : (Bt.size (l.take (k + 1)) : Int) = (Bt.size (l.take k) : Int) + (((bs x.key).size : Int) + ((bs x.val).size : Int)) := by rw [hst, fbs_size, fbs_size]; omega
        have hbd : Bt.size (l.take k) ≤ 24000 := by omega
        have HST := Lib.hid hst2
        clear hst hx hst2 hb1 hz
        generalize Bt.size (l.take k) = T at *
        generalize md (n.toNat + k) = M at *
        have y1 : IntKind.i64.wrap (((bs x.key).size : Int) + ((bs x.val).size : Int)) = ((bs x.key).size : Int) + ((bs x.val).size : Int) := by rw [IntKind.wrap_i64]; omega
        have y2 : IntKind.i64.wrap ((T : Int) + (((bs x.key).size : Int) + ((bs x.val).size : Int))) = (T : Int) + (((bs x.key).size : Int) + ((bs x.val).size : Int)) := by rw [IntKind.wrap_i64]; omega
        go_wp2_with fail
        go_quiet (fail)
        go_wp2_with fail
        go_quiet (fail)
        go_wp2_with fail
        go_roundw
        case rel => exact ⟨k + 1, by omega, by go_num, by rw [HST.out], kept_trans hkr (kept_drewN _ _)⟩
        case measure => simp [intOf]; omega
      · have e : k = l.length := by omega
        subst e
        rw [List.take_length]
        go_wp2_with fail
        refine (size_any P p l FEW.out _ (O9.out.kept hkr)).mono ?_
        rintro e w10 ⟨rfl, g10⟩
        go_wp2_with fail
        refine (same_self P A p c l HMX.out _ ((O9.out.kept hkr).kept g10) ((A9.out.kept hkr).kept g10)).mono ?_
        rintro e w11 ⟨rfl, g11⟩
        go_wp2_with fail
        go_ret
        exact ⟨rfl, kept_trans g19 (kept_trans hkr (kept_trans g10 g11))⟩
end Go.Proofs.Ytalcmiaohclnjaa
