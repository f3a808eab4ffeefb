/-
  The document's own table of layer 7: entries from a key on; a put.
-/
import Derived.Test.YtpbhbgoaaephgaaMemRefThree
import Derived.Laws.AppendOwnNone
namespace Go.Proofs.Ytpbhbgoaaephgaa
open Go.ChangeShapes Go.WideShapes Go.ChangeAt Go.RowKit
set_option linter.unusedVariables false
set_option maxRecDepth 100000
set_option maxHeartbeats 2000000

@[go_sem] theorem mgeq_texts (t : TypeId) (a b : ByteArray) : binOp .geq t (.string a) (.string b) = pure (.bool !(Op.bytesLess a.toList b.toList)) := by simp [binOp, Op.stringOp]
theorem elc_one (l : List Mm.Ent) : ∀ u ∈ elc l, u.oneCell' = true := by
  induction l with
  | nil => simp [elc]
  | cons x l ih =>
    intro u hu
    rw [elc, List.mem_append] at hu
    rcases hu with hu | hu
    · simp [ecs] at hu
      rcases hu with rfl | rfl | rfl | rfl <;> rfl
    · exact ih u hu
/-- append of a list of entries that lies in memory, onto a row of the call's own -/
theorem app_els {ops : Array Oper} {rest : List Oper} {o : Oper} {a : Act} {Q : Exit → Act → World → Prop} {wr : World} {v : Value} (A : Option Addr) (c : Nat) (X Y : List Mm.Ent) (s x : Operand)
    (hgd : o.guard = none) (ho : o.op = .call { callee := .builtin .append, args := #[s, x], argTypes := #[46, 46] })
    (hs : a.eval s = v) (Bs : Nat) (hsz : Bs ≤ wr.heap.size) (hown : wr.ownsRow Bs 51 4 v X.length (elc X)) (n : Nat) (hn : n = Y.length) (hx : a.eval x = .slice A n c) (hA : Els wr A Y) (hnil : A = none → c = 0) (hlen : X.length + Y.length ≤ 4000)
    (h : ∀ v' w1, w1.ownsRow Bs 51 4 v' (X ++ Y).length (elc (X ++ Y)) → wr.grownBy w1 v.ownBlock → wpList Try.prog ops Q rest (a.put o.dst v') w1) :
    wpList Try.prog ops Q (o :: rest) a wr := by
  obtain ⟨i0, hi, hz0, hz1, hz2⟩ := info_parts mentInfo
  subst hn
  cases A with
  | none =>
    obtain rfl := hnil rfl
    have hl : Y = [] := by
      cases Y with
      | nil => rfl
      | cons y l =>
        obtain ⟨b, o', e, _⟩ := hA 0 y rfl
        cases e
    subst hl
    refine wpList_append_own_none hgd s x 46 ho Bs 51 i0 4 Try.underlying46 hi v X.length (elc X) hs hown hx ?_
    have := h v wr (by rw [List.append_nil]; exact hown) ⟨rfl, rfl, rfl, Nat.le_refl _, fun _ _ _ => rfl⟩
    exact this
  | some ad =>
    have hnews : ∀ j u, (elc Y)[j]? = some u → wr.cell? (ad.add j) = some u := fun j u hj => by
      have hjl := (List.getElem?_eq_some_iff.1 hj).1
      rw [elc_len] at hjl
      have hy : Y[j / 4]? = some Y[j / 4] := List.getElem?_eq_getElem (by omega)
      generalize Y[j / 4] = y at hy
      have hg := elc_get hy
      obtain ⟨b, o', e, hb, c0, c1, c2, c3⟩ := hA (j / 4) y hy
      cases e
      rw [madd_at]
      have hm : j % 4 = 0 ∨ j % 4 = 1 ∨ j % 4 = 2 ∨ j % 4 = 3 := by omega
      rcases hm with hm | hm | hm | hm
      · have e : j = j / 4 * 4 + 0 := by omega
        have g := hg 0 _ rfl
        rw [← e] at g
        rw [Nat.add_zero] at e
        rw [← e] at c0
        rw [c0]; rw [g] at hj; exact hj
      · have e : j = j / 4 * 4 + 1 := by omega
        have g := hg 1 _ rfl
        rw [← e] at g
        rw [Nat.add_assoc, ← e] at c1
        rw [c1]; rw [g] at hj; exact hj
      · have e : j = j / 4 * 4 + 2 := by omega
        have g := hg 2 _ rfl
        rw [← e] at g
        rw [Nat.add_assoc, ← e] at c2
        rw [c2]; rw [g] at hj; exact hj
      · have e : j = j / 4 * 4 + 3 := by omega
        have g := hg 3 _ rfl
        rw [← e] at g
        rw [Nat.add_assoc, ← e] at c3
        rw [c3]; rw [g] at hj; exact hj
    refine wpList_append_own _ hgd s x 46 ho Bs 51 i0 zentV 4 48 Try.underlying46 hi hz0 hz1 hz2 rfl (by decide) v X.length (elc X) hs hown ad Y.length c (elc Y) hx (elc_len Y) hnews (elc_one Y) (by unfold maxLen; omega) (by omega) hsz ?_
    intro v' w1 ho1 hg _
    rw [← elc_app, ← List.length_append] at ho1
    exact h v' w1 ho1 hg
theorem hlc_len (l : List Nat) : (hlc l).length = l.length * 1 := by simp [hlc]
theorem app_hls {ops : Array Oper} {rest : List Oper} {o : Oper} {a : Act} {Q : Exit → Act → World → Prop} {wr : World} {v : Value} (A : Option Addr) (c : Nat) (X Y : List Nat) (s x : Operand)
    (hgd : o.guard = none) (ho : o.op = .call { callee := .builtin .append, args := #[s, x], argTypes := #[32, 32] })
    (hs : a.eval s = v) (Bs : Nat) (hsz : Bs ≤ wr.heap.size) (hown : wr.ownsRow Bs 3 1 v X.length (hlc X)) (n : Nat) (hn : n = Y.length) (hx : a.eval x = .slice A n c) (hA : Hls wr A Y) (hnil : A = none → c = 0) (hlen : X.length + Y.length ≤ 4000)
    (h : ∀ v' w1, w1.ownsRow Bs 3 1 v' (X ++ Y).length (hlc (X ++ Y)) → wr.grownBy w1 v.ownBlock → wpList Try.prog ops Q rest (a.put o.dst v') w1) :
    wpList Try.prog ops Q (o :: rest) a wr := by
  obtain ⟨i0, hi, hz0, hz1, hz2⟩ := info_parts mintInfo
  subst hn
  cases A with
  | none =>
    obtain rfl := hnil rfl
    have hl : Y = [] := by
      cases Y with
      | nil => rfl
      | cons y l =>
        obtain ⟨b, o', e, _⟩ := hA 0 y rfl
        cases e
    subst hl
    refine wpList_append_own_none hgd s x 32 ho Bs 3 i0 1 Try.underlying32 hi v X.length (hlc X) hs hown hx ?_
    have := h v wr (by rw [List.append_nil]; exact hown) ⟨rfl, rfl, rfl, Nat.le_refl _, fun _ _ _ => rfl⟩
    exact this
  | some ad =>
    have hnews : ∀ j u, (hlc Y)[j]? = some u → wr.cell? (ad.add j) = some u := fun j u hj => by
      have hjl := (List.getElem?_eq_some_iff.1 hj).1
      rw [hlc_len] at hjl
      have hy : Y[j]? = some Y[j] := List.getElem?_eq_getElem (by omega)
      generalize Y[j] = y at hy
      obtain ⟨b, o', e, hb, c0⟩ := hA j y hy
      cases e
      rw [madd_at, c0]
      unfold hlc at hj
      rw [List.getElem?_map, hy] at hj
      exact hj
    refine wpList_append_own _ hgd s x 32 ho Bs 3 i0 (.int .i64 0) 1 8 Try.underlying32 hi hz0 hz1 hz2 rfl (by decide) v X.length (hlc X) hs hown ad Y.length c (hlc Y) hx (hlc_len Y) hnews (fun u hu => by
      unfold hlc at hu
      rw [List.mem_map] at hu
      obtain ⟨y, _, rfl⟩ := hu
      rfl) (by unfold maxLen; omega) (by omega) hsz ?_
    intro v' w1 ho1 hg _
    rw [show hlc X ++ hlc Y = hlc (X ++ Y) by simp [hlc], ← List.length_append] at ho1
    exact h v' w1 ho1 hg
theorem own_ents0 (w : World) : (w.alloc (.cells #[] 51)).ownsRow w.heap.size 51 4 (.slice (some ⟨w.heap.size, 0, none⟩) 0 0) ([] : List Mm.Ent).length (elc []) :=
  World.ownsRow_lit (base := w.heap.size) (e := 51) (size := 4) w #[] 0 (Nat.le_refl _) (by unfold maxLen; omega) rfl
theorem own_ints0 (w : World) : (w.alloc (.cells #[] 3)).ownsRow w.heap.size 3 1 (.slice (some ⟨w.heap.size, 0, none⟩) 0 0) ([] : List Nat).length (hlc []) :=
  World.ownsRow_lit (base := w.heap.size) (e := 3) (size := 1) w #[] 0 (Nat.le_refl _) (by unfold maxLen; omega) rfl
theorem from_filter {T : List Mm.Tv} (g : Mm.Good T) (K : List UInt8) : (Mm.ents T).filter (fun e => !decide (e.key < K)) = Mm.ents (Mm.Z T K 1099511627776) := by
  have e : Mm.ents T = Mm.ents (Mm.A T K 1099511627776) ++ Mm.ents (Mm.Z T K 1099511627776) := by
    conv => lhs; rw [← Mm.AZ T K 1099511627776]
    simp [Mm.ents]
  rw [e, List.filter_append]
  have h1 : (Mm.ents (Mm.A T K 1099511627776)).filter (fun e => !decide (e.key < K)) = [] := by
    rw [List.filter_eq_nil_iff]
    intro x hx
    obtain ⟨y, hy, rfl⟩ := List.mem_map.1 hx
    have h2 := Mm.A_ah y hy
    rw [g.aht K (Mm.A_sub hy)] at h2
    simp [h2]
  have h3 : (Mm.ents (Mm.Z T K 1099511627776)).filter (fun e => !decide (e.key < K)) = Mm.ents (Mm.Z T K 1099511627776) := by
    rw [List.filter_eq_self]
    intro x hx
    obtain ⟨y, hy, rfl⟩ := List.mem_map.1 hx
    have h2 := g.Z_not y hy
    rw [g.aht K (by rw [← Mm.AZ T K 1099511627776]; exact List.mem_append.2 (.inr hy))] at h2
    simp [h2]
  rw [h1, h3]; rfl
section
variable {w w' : World} {r : Nat} {G F : Nat → Prop} {T : List Mm.Tv} {AL AH : Option Addr} {cL cH : Nat}
theorem rfrom_any (h : Rt w r G T) (K : List UInt8) (n : Int) (h1 : -9223372036854775808 ≤ n) (h2 : n ≤ 9223372036854775807) :
    Calls Try.prog 40 #[.pointer (some ⟨r, 0, none⟩), .string (bs K), .int .i64 n] w fun e w' => ∃ B c, e = .returned (.slice B ((Mm.ents (Mm.Z T K 1099511627776)).take n.toNat).length c) ∧ Els w' B ((Mm.ents (Mm.Z T K 1099511627776)).take n.toNat) ∧ Kept w w' := by
  obtain ⟨AL, cL, AH, cH, h⟩ := h
  have hf := h.few
  have hel := Mm.ents_len T
  obtain ⟨i0, hi, hz0, hz1, hz2⟩ := info_parts mentInfo
  have HI := Lib.hid hi; have HZ0 := Lib.hid hz0; have HZ1 := Lib.hid hz1; have HZ2 := Lib.hid hz2
  have HELS := Lib.hid (fun W (k : Kept w W) => (h.kept k).els)
  have HR := Lib.hid (fun W (k : Kept w W) => mcell (h.kept k).blk 0 rfl)
  rw [← from_filter h.good K]
  clear h hi hz0 hz1 hz2
  generalize Mm.ents T = E at *
  generalize T.length = TL at *
  have HEL := Lib.hid hel
  generalize hMM : (E.filter (fun e => !decide (e.key < K))).take n.toNat = M
  have HMM := Lib.hid hMM
  clear hel hMM
  go_enter Try.func40, Try.ntmps40
  go_wp2_with fail
  go_loopw [7, 8] (fun v t wi => ∃ (i : Nat) (O : List Mm.Ent), i ≤ TL ∧ t = .int .i64 i ∧ O.length ≤ i ∧ O.length ≤ n.toNat ∧ Hid (O = (E.take i).filter (fun e => !decide (e.key < K))) ∧ wi.ownsRow w.heap.size 51 4 v O.length (elc O) ∧ Kept w wi) (fun _ t _ => TL - (intOf t).toNat)
  case atStart => exact ⟨0, [], Nat.zero_le _, rfl, Nat.le_refl _, Nat.zero_le _, Lib.hid rfl, own_ents0 w, (Kept.refl _).alloc _⟩
  case round =>
    obtain ⟨i, O, hi, rfl, hOi, hOn, HO, hown, ki⟩ := hrel
    have r0 := HR.out wr ki
    have hbase : w.heap.size ≤ wr.heap.size := Below.size ki
    obtain ⟨A, c, rfl⟩ := own_slice hown
    have fin : ((O.length : Int) < n → i = TL) → ∃ B c', Value.slice A O.length c = .slice B M.length c' ∧ Els wr B M := fun hq => by
      have hM : M = O := by
        rw [← HMM.out]
        have e1 : E.filter (fun e => !decide (e.key < K)) = O ++ (E.drop i).filter (fun e => !decide (e.key < K)) := by
          rw [HO.out, ← List.filter_append, List.take_append_drop]
        rw [e1]
        by_cases hl : (O.length : Int) < n
        · have hi2 := hq hl
          rw [List.drop_of_length_le (by rw [HEL.out]; omega), List.filter_nil, List.append_nil]
          exact List.take_of_length_le (by omega)
        · rw [List.take_append_of_le_length (by omega)]
          exact List.take_of_length_le (by omega)
      rw [hM]
      obtain ⟨B, c', e2, _, ht⟩ := els_own hown
      exact ⟨B, c', e2, ht.els⟩
    by_cases hit : i < TL
    · obtain ⟨y, hy⟩ : ∃ y, E[i]? = some y := ⟨_, List.getElem?_eq_getElem (by rw [HEL.out]; exact hit)⟩
      obtain ⟨b, o, rfl, hb, c0, c1, c2, c3⟩ := (HELS.out wr ki) i y hy
      by_cases hn : (O.length : Int) < n
      · have d1 : decide ((O.length : Int) < n) = true := decide_eq_true hn
        have e0 := mbs_less y.key K
        have hfs : (E.take (i + 1)).filter (fun e => !decide (e.key < K)) = O ++ (if y.key < K then [] else [y]) := by
          rw [List.take_add_one, hy, List.filter_append, ← HO.out]
          by_cases q : y.key < K <;> simp [q]
        clear hy fin
        by_cases hyk : y.key < K
        · rw [decide_eq_true hyk] at e0
          rw [if_pos hyk, List.append_nil] at hfs
          have HO2 : Hid (O = (E.take (i + 1)).filter (fun e => !decide (e.key < K))) := Lib.hid hfs.symm
          clear hfs hyk
          go_wp2_with fail
          go_roundw
          case rel => exact ⟨i + 1, O, by omega, by go_num, by omega, hOn, HO2, hown, ki⟩
          case measure => simp [intOf]; omega
        · rw [decide_eq_false hyk] at e0
          rw [if_neg hyk] at hfs
          have HO2 : Hid (O ++ [y] = (E.take (i + 1)).filter (fun e => !decide (e.key < K))) := Lib.hid hfs.symm
          have HEC := Lib.hid (show elc (O ++ [y]) = elc O ++ [.string (bs y.key), .int .u64 (y.seq : Nat), .bool y.del, .string (bs y.val)] by rw [elc_app]; simp [elc, ecs])
          clear hfs hyk
          go_wp2_with (at_builtin; refine wpList_append_own _ rfl _ _ 46 rfl w.heap.size 51 i0 zentV 4 48 Try.underlying46 HI.out HZ0.out HZ1.out HZ2.out rfl (by decide) _ O.length (elc O) rfl (hown.alloc _) ⟨wr.heap.size, 0, none⟩ 1 1 [.string (bs y.key), .int .u64 (y.seq : Nat), .bool y.del, .string (bs y.val)] rfl rfl (mcells_new4 _ _ _ _ _ _ _ rfl) (by simp [Value.oneCell']) (by unfold maxLen; omega) (by omega) (by simp; omega) ?_)
          intro v' w2 hown2 hg _
          have g2 : Kept w w2 := Below.grown (ki.alloc _) hg (by simp; omega) (fun b hb => (hown.lt b hb).1)
          rw [← HEC.out] at hown2
          have hown3 : w2.ownsRow w.heap.size 51 4 v' (O ++ [y]).length (elc (O ++ [y])) := by rw [List.length_append]; exact hown2
          have H3 := Lib.hid hown3
          obtain ⟨A2, c2', rfl⟩ := own_slice hown2
          clear hown hown2 hown3 hg
          generalize hP : O ++ [y] = P at *
          have hPl : P.length = O.length + 1 := by rw [← hP]; simp
          clear hP
          go_wp2_with fail
          go_roundw
          case rel => exact ⟨i + 1, P, by omega, by go_num, by omega, by omega, HO2, H3.out, g2⟩
          case measure => simp [intOf]; omega
      · have d1 : decide ((O.length : Int) < n) = false := decide_eq_false hn
        obtain ⟨B, c', e2, ht⟩ := fin (fun q => absurd q hn)
        have E2 := Lib.hid e2
        clear e2 fin hy
        go_wp2_with fail
        go_ret
        exact ⟨B, ⟨c', congrArg Ending.returned E2.out⟩, ht, ki⟩
    · have e : i = TL := by omega
      obtain ⟨B, c', e2, ht⟩ := fin (fun _ => e)
      have E2 := Lib.hid e2
      subst e
      clear e2 fin
      go_wp2_with fail
      go_ret
      exact ⟨B, c', congrArg Ending.returned E2.out, ht, ki⟩
end
end Go.Proofs.Ytpbhbgoaaephgaa
