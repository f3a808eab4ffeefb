/-
  takeOps and Decode of package batch: which batch any bytes are, or that they are none.
-/
import Derived.Test.YtalcmiaohclnjaaBatchOp
namespace Go.Proofs.Ytalcmiaohclnjaa
open Go.ChangeShapes Go.WideShapes Go.ChangeAt Go.RowKit
set_option linter.unusedVariables false
set_option maxHeartbeats 1000000

def opc (l : List Bt.Op) : List Value := l.flatMap fun x => [.bool x.del, .string (bs x.key), .string (bs x.val)]
theorem opc_len (l : List Bt.Op) : (opc l).length = l.length * 3 := by
  induction l with
  | nil => rfl
  | cons x l ih => simp only [opc, List.flatMap_cons, List.length_append, List.length_cons, List.length_nil] at *; omega
theorem opc_snoc (l : List Bt.Op) (x : Bt.Op) : opc (l ++ [x]) = opc l ++ [.bool x.del, .string (bs x.key), .string (bs x.val)] := by simp [opc]
theorem opc_get : ∀ {l : List Bt.Op} {j : Nat} {x : Bt.Op}, l[j]? = some x → (opc l)[j * 3]? = some (.bool x.del) ∧ (opc l)[j * 3 + 1]? = some (.string (bs x.key)) ∧ (opc l)[j * 3 + 2]? = some (.string (bs x.val))
  | [], j, x, h => by simp at h
  | y :: l, 0, x, h => by simp at h; subst h; exact ⟨rfl, rfl, rfl⟩
  | y :: l, j + 1, x, h => by
    have := opc_get (l := l) (j := j) (x := x) (by simpa using h)
    have e : opc (y :: l) = [.bool y.del, .string (bs y.key), .string (bs y.val)] ++ opc l := rfl
    rw [e]
    refine ⟨?_, ?_, ?_⟩
    · rw [List.getElem?_append_right (by simp; omega)]; simp only [List.length_cons, List.length_nil]; rw [show (j + 1) * 3 - (0 + 1 + 1 + 1) = j * 3 by omega]; exact this.1
    · rw [List.getElem?_append_right (by simp; omega)]; simp only [List.length_cons, List.length_nil]; rw [show (j + 1) * 3 + 1 - (0 + 1 + 1 + 1) = j * 3 + 1 by omega]; exact this.2.1
    · rw [List.getElem?_append_right (by simp; omega)]; simp only [List.length_cons, List.length_nil]; rw [show (j + 1) * 3 + 2 - (0 + 1 + 1 + 1) = j * 3 + 2 by omega]; exact this.2.2
theorem ops_own {w : World} {base n : Nat} {v : Value} {l : List Bt.Op} (h : w.ownsRow base 34 3 v n (opc l)) : ∃ A c, v = .slice A l.length c ∧ n = l.length ∧ Ops w A l := by
  have hl : l.length = n := by have := h.1; rw [opc_len] at this; omega
  rcases h.2 with ⟨e, e0⟩ | ⟨r, cap, cur, e, hbs, hb, hnc, _, _, htk⟩
  · have : l = [] := List.eq_nil_of_length_eq_zero (by omega)
    subst this
    exact ⟨none, 0, e, by omega, fun j x hx => by simp at hx⟩
  · refine ⟨some ⟨r, 0, none⟩, cap, by rw [hl]; exact e, hl.symm, fun j x hx => ?_⟩
    have hj := (List.getElem?_eq_some_iff.1 hx).1
    have hcell : ∀ i u, i < n * 3 → (opc l)[i]? = some u → w.cell? ⟨r, i, none⟩ = some u := fun i u hi hu => by
      rw [blk_cell hb]
      rw [← htk, List.getElem?_take, if_pos hi] at hu
      simpa using hu
    obtain ⟨g0, g1, g2⟩ := opc_get hx
    refine ⟨r, 0, rfl, (Array.getElem?_eq_some_iff.1 hb).1, ?_, ?_, ?_⟩
    · rw [Nat.zero_add]; exact hcell _ _ (by omega) g0
    · rw [Nat.zero_add]; exact hcell _ _ (by omega) g1
    · rw [Nat.zero_add]; exact hcell _ _ (by omega) g2
theorem opInfo : (Try.prog.info? 34).map (fun i => (i.zero, i.size, i.bytes)) = some (some zop, 3, 40) := by kernel_rfl
theorem cells_new3 (w : World) (x y z : Value) (t : TypeId) (bl : Nat) (hb : bl = w.heap.size) : ∀ j u, [x, y, z][j]? = some u → (w.alloc (.cells #[x, y, z] t)).cell? ((⟨bl, 0, none⟩ : Addr).add j) = some u := by
  subst hb
  intro j u hj
  match j, hj with
  | 0, hj => simp at hj; subst hj; rw [addr_add]; simp
  | 1, hj => simp at hj; subst hj; rw [addr_add]; simp
  | 2, hj => simp at hj; subst hj; rw [addr_add]; simp
theorem own_but {w w' : World} {base b : Nat} {e : TypeId} {size : Nat} {v : Value} {n : Nat} {xs : List Value} (h : w.ownsRow base e size v n xs) (k : But b w w') (hb : b < base) : w'.ownsRow base e size v n xs := by
  refine ⟨h.1, ?_⟩
  rcases h.2 with h0 | ⟨g, cap, cur, hv, hg, hh, hr⟩
  · exact .inl h0
  · exact .inr ⟨g, cap, cur, hv, hg, (k.block g (Array.getElem?_eq_some_iff.1 hh).1 (by omega)).trans hh, hr⟩
theorem But.grown {b : Nat} {W w w' : World} {row : Option Nat} (h : But b W w) (hg : w.grownBy w' row) (hr : ∀ k, row = some k → W.heap.size ≤ k) : But b W w' :=
  ⟨hg.os.trans h.os, hg.tape.trans h.tape, hg.output.trans h.output, Nat.le_trans h.size hg.size, fun k hk hn => (hg.block k (Nat.lt_of_lt_of_le hk h.size) (fun e => by have := hr k e.symm; omega)).trans (h.block k hk hn)⟩
theorem Rest.grown {w w' : World} {b : Nat} {R : List UInt8} {row : Option Nat} (h : Rest w b R) (hg : w.grownBy w' row) (hr : ∀ k, row = some k → b ≠ k) : Rest w' b R :=
  (hg.block b h.lt (fun e => hr b e.symm rfl)).trans h
theorem Clo.grown {w w' : World} {b pn pp : Nat} {row : Option Nat} (h : Clo w b pn pp) (hg : w.grownBy w' row) (hr : ∀ k, row = some k → pn ≠ k ∧ pp ≠ k) : Clo w' b pn pp :=
  ⟨h.nn, h.np, (hg.block pn (Array.getElem?_eq_some_iff.1 h.hn).1 (fun e => (hr pn e.symm).1 rfl)).trans h.hn, (hg.block pp (Array.getElem?_eq_some_iff.1 h.hp).1 (fun e => (hr pp e.symm).2 rfl)).trans h.hp⟩
/-- what takeOps tells -/
def Told (W : World) (b : Nat) (O : Option (List Bt.Op × List UInt8)) (e : Ending) (w' : World) : Prop :=
  (∃ l r A c, O = some (l, r) ∧ e = .returned (.tuple #[.slice A l.length c, .bool true]) ∧ Ops w' A l ∧ Rest w' b r ∧ But b W w') ∨ (O = none ∧ e = .returned (.tuple #[.slice none 0 0, .bool false]) ∧ But b W w')
theorem clo_new {W : World} {b : Nat} (hb : b < W.heap.size) : Clo ((W.alloc (.cells #[numF b] 58)).alloc (.cells #[pieF b] 59)) b W.heap.size (W.heap.size + 1) := by
  refine ⟨by omega, by omega, ?_, ?_⟩
  · show ((W.heap.push _).push _)[W.heap.size]? = _
    rw [Array.getElem?_push_lt (by simp)]
    simp [numF]
  · have e : W.heap.size + 1 = (W.alloc (.cells #[numF b] 58)).heap.size := by simp
    rw [e]
    show ((W.heap.push _).push _)[(W.heap.push _).size]? = _
    exact Array.getElem?_push_size
theorem takeL_fewer {c : Nat} {s r : List UInt8} {x : Bt.Op} (h : Bt.take1 s = some (x, r)) : r.length ≤ s.length := by
  have e := congrArg List.length (Bt.take1_back h).1
  rw [List.length_append] at e; omega
def more (L : List Bt.Op) (o : Option (List Bt.Op × List UInt8)) : Option (List Bt.Op × List UInt8) := o.map fun p => (L ++ p.1, p.2)
theorem takeL_zero (s : List UInt8) : Bt.takeL 0 s = some ([], s) := rfl
theorem takeL_none {c : Nat} {s : List UInt8} (h : Bt.take1 s = none) : Bt.takeL (c + 1) s = none := by simp only [Bt.takeL, h]
theorem takeL_some {c : Nat} {s r : List UInt8} {x : Bt.Op} (L : List Bt.Op) (h : Bt.take1 s = some (x, r)) : more L (Bt.takeL (c + 1) s) = more (L ++ [x]) (Bt.takeL c r) := by
  simp only [Bt.takeL, h]
  cases Bt.takeL c r with
  | none => rfl
  | some p => simp [more]
set_option maxHeartbeats 4000000 in
theorem takeOps_any {R : List UInt8} {b : Nat} (hl : R.length ≤ 16777216) (W : World) (hR : Rest W b R) :
    Calls Try.prog 31 #[numF b, pieF b] W (Told W b (Bt.takeC R)) := by
  have hlt := hR.lt
  have hC := clo_new hlt
  have g0 : But b W ((W.alloc (.cells #[numF b] 58)).alloc (.cells #[pieF b] 59)) := But.kept (((Kept.refl W).alloc _).alloc _)
  have hR0 := hR.kept (((Kept.refl W).alloc (.cells #[numF b] 58)).alloc (.cells #[pieF b] 59))
  have HC := Lib.hid hC; have G0 := Lib.hid g0; have HR0 := Lib.hid hR0
  clear hC g0 hR0 hR
  unfold numF pieF at *
  cases hq : Nm.take R with
  | none =>
    have ho : Bt.takeC R = none := by unfold Bt.takeC; rw [hq]
    rw [ho]
    have HQ := Lib.hid hq
    clear hq ho
    go_enter Try.func31, Try.ntmps31
    go_wp2_with fail
    refine (number_none HQ.out hl _ HR0.out).mono ?_
    rintro e w1 ⟨rfl, g1⟩
    go_wp2_with fail
    go_ret2
    exact .inr ⟨rfl, rfl, G0.out.trans g1⟩
  | some x =>
    obtain ⟨C, q⟩ := x
    have hbnd := (Nm.take_back _ _ _ hq).2
    have hql : q.length ≤ 16777216 := by
      have e := congrArg List.length (Nm.take_back _ _ _ hq).1
      rw [List.length_append] at e; omega
    by_cases h16 : 16 < C
    · have ho : Bt.takeC R = none := by unfold Bt.takeC; rw [hq]; simp; omega
      rw [ho]
      have d1 : decide ((16 : Int) < (C : Int)) = true := by simp; omega
      have HQ := Lib.hid hq
      clear hq ho
      go_enter Try.func31, Try.ntmps31
      go_wp2_with fail
      refine (number_some HQ.out hl _ HR0.out).mono ?_
      rintro e w1 ⟨rfl, r1, g1⟩
      go_wp2_with fail
      go_ret2
      exact .inr ⟨rfl, rfl, G0.out.trans g1⟩
    · have d1 : decide ((16 : Int) < (C : Int)) = false := by simp; omega
      have ho : Bt.takeC R = Bt.takeL C q := by unfold Bt.takeC; rw [hq]; simp; omega
      have hC16 : C ≤ 16 := by omega
      rw [ho]
      have HQ := Lib.hid hq
      clear hq ho h16
      obtain ⟨i0, hi, hz0, hz1, hz2⟩ := info_parts opInfo
      have HI := Lib.hid hi; have HZ0 := Lib.hid hz0; have HZ1 := Lib.hid hz1; have HZ2 := Lib.hid hz2
      clear hi hz0 hz1 hz2
      generalize hO : Bt.takeL C q = O
      have hst : O = more [] (Bt.takeL (C - 0) q) := by rw [Nat.sub_zero, hO]; unfold more; cases O <;> simp
      have HST := Lib.hid hst; clear hst hO
      go_enter Try.func31, Try.ntmps31
      go_wp2_with fail
      refine (number_some HQ.out hl _ HR0.out).mono ?_
      rintro e w1 ⟨rfl, r1, g1⟩
      have hC1 := HC.out.but g1
      have g01 := G0.out.trans g1
      have hs1 : W.heap.size + 2 ≤ w1.heap.size := by have := g1.size; simp at this; omega
      clear HC HR0 G0 g1
      go_wp2_with fail
      go_loopw [10, 27] (fun v t wr => ∃ (k : Nat) (L : List Bt.Op) (Q : List UInt8), k ≤ C ∧ t = .int .u64 k ∧ L.length = k ∧ Hid (O = more L (Bt.takeL (C - k) Q)) ∧ Q.length ≤ 16777216 ∧ Rest wr b Q ∧ Clo wr b W.heap.size (W.heap.size + 1) ∧ wr.ownsRow (W.heap.size + 2) 34 3 v k (opc L) ∧ But b W wr ∧ W.heap.size + 2 ≤ wr.heap.size) (fun _ t _ => C - (intOf t).toNat)
      case atStart => exact ⟨0, [], q, Nat.zero_le _, rfl, rfl, HST, hql, r1, hC1, World.ownsRow_nil _ _ _ _, g01, hs1⟩
      case round =>
        clear r1 hC1 g01 hs1
        obtain ⟨k, L, Q, hk, rfl, hL, HO, hQ, hR, hC, hown, gb, hsz⟩ := hrel
        by_cases hkc : k < C
        · have hck : C - k = (C - (k + 1)) + 1 := by omega
          cases h1 : Bt.take1 Q with
          | none =>
            have hO : O = none := by rw [HO.out, hck, takeL_none h1]; rfl
            subst hO
            have HCO := Lib.hid (takeOp_none h1 hQ hR hC)
            clear h1 hck HO hown hC hR
            go_wp2_with fail
            refine HCO.out.mono ?_
            rintro e w2 ⟨rfl, g2⟩
            unfold zop
            go_wp2_with fail
            go_ret2
            exact .inr ⟨rfl, rfl, (gb.trans g2).trans (But.kept ((Kept.refl _).alloc _))⟩
          | some y =>
            obtain ⟨x, r⟩ := y
            have hO : O = more (L ++ [x]) (Bt.takeL (C - (k + 1)) r) := by rw [HO.out, hck, takeL_some L h1]
            have hrl := Nat.le_trans (takeL_fewer (c := 0) h1) hQ
            have HN := Lib.hid hO
            have hop := opc_snoc L x
            have HOP := Lib.hid hop
            have HCO := Lib.hid (takeOp_some h1 hQ hR hC)
            have HCL := Lib.hid hC
            clear h1 hck HO hR hO hop hC
            go_wp2_with fail
            refine HCO.out.mono ?_
            rintro e w2 ⟨rfl, R2, g2⟩
            have hown2 := own_but hown g2 (by omega)
            have hC2 := HCL.out.but g2
            have gb2 := gb.trans g2
            have hs2 : W.heap.size + 2 ≤ w2.heap.size := Nat.le_trans hsz g2.size
            have RR := Lib.hid R2; have CC := Lib.hid hC2
            unfold opv
            clear hown R2 hC2 HCO
            go_wp2_with (at_builtin; refine wpList_append_own _ rfl _ _ 23 rfl (W.heap.size + 2) 34 i0 zop 3 40 Try.underlying23 HI.out HZ0.out HZ1.out HZ2.out rfl (by decide) _ k (opc L) rfl ((hown2.alloc _).alloc _) ⟨w2.heap.size + 1, 0, none⟩ 1 1 [.bool x.del, .string (bs x.key), .string (bs x.val)] rfl rfl (cells_new3 _ _ _ _ _ _ (by simp)) (by simp [Value.oneCell']) (by unfold maxLen; omega) (by omega) (by simp; omega) ?_)
            intro v' w3 hown3 hg _
            have hrow := fun b hb => (hown2.lt b hb).1
            have R3 := ((RR.out.kept ((Kept.refl _).alloc _)).kept ((Kept.refl _).alloc _)).grown hg (fun k hk => by have := hrow k hk; omega)
            have C3 := ((CC.out.but (But.kept ((Kept.refl _).alloc _))).but (But.kept ((Kept.refl _).alloc _))).grown hg (fun k hk => by have := hrow k hk; omega)
            have gb3 := ((gb2.trans (But.kept ((Kept.refl _).alloc _))).trans (But.kept ((Kept.refl _).alloc _))).grown hg (fun k hk => by have := hrow k hk; omega)
            have hs3 : W.heap.size + 2 ≤ w3.heap.size := by have := hg.size; simp at this; omega
            rw [← HOP.out] at hown3
            have R3h := Lib.hid R3; have C3h := Lib.hid C3
            clear R3 C3
            go_wp2_with fail
            go_roundw
            case rel => exact ⟨k + 1, L ++ [x], r, by omega, by go_num, by simp [hL], HN, hrl, R3h.out, C3h.out, hown3, gb3, hs3⟩
            case measure => simp [intOf]; omega
        · have e : k = C := by omega
          subst e
          have hO : O = some (L, Q) := by rw [HO.out, Nat.sub_self, takeL_zero]; simp [more]
          subst hO
          have hRR := Lib.hid hR
          clear hR HO
          go_wp2_with fail
          obtain ⟨A, c, rfl, _, ht⟩ := ops_own hown
          go_ret2
          exact .inl ⟨L, Q, A, c, rfl, rfl, ht, hRR.out, gb⟩
theorem taking_any (s : ByteArray) (W : World) :
    Calls Try.prog 30 #[.string s] W fun e w' => e = .returned (.tuple #[numF W.heap.size, pieF W.heap.size]) ∧ w' = W.alloc (.cells #[.string s] 9) := by
  unfold numF pieF
  go_enter Try.func30, Try.ntmps30
  go_wp2_with fail
  go_ret2
  exact ⟨rfl, rfl⟩
/-- what Decode tells -/
def DecTold (w : World) (O : Option (Nat × List Bt.Op)) (e : Ending) (w' : World) : Prop :=
  (∃ n l A c, O = some (n, l) ∧ e = .returned (.tuple #[.int .u64 (n : Nat), .slice A l.length c, .int .i64 0]) ∧ Ops w' A l ∧ Kept w w') ∨ (O = none ∧ e = .returned (.tuple #[.int .u64 0, .slice none 0 0, .int .i64 2]) ∧ Kept w w')
theorem But.kept' {W w' : World} {o : Obj} (h : But W.heap.size (W.alloc o) w') : Kept W w' :=
  Below.trans ((Kept.refl W).alloc o) (h.below (Nat.le_refl _) (by simp))
theorem sane_of {l : List Bt.Op} (hw : ∀ x ∈ l, Bt.Wide x) (h : (Bt.encL l).length ≤ 16777216) : Sane l := by
  induction l with
  | nil => intro x hx; simp at hx
  | cons y l ih =>
    simp only [Bt.encL, List.length_append] at h
    intro x hx
    rcases List.mem_cons.1 hx with rfl | hx
    · have hv := (hw x List.mem_cons_self).2.2
      have : x.key.length ≤ (Bt.enc1 x).length ∧ (x.del = false → x.val.length ≤ (Bt.enc1 x).length) := by
        unfold Bt.enc1 Bt.sized
        cases x.del <;> simp <;> omega
      unfold maxLen
      cases hd : x.del with
      | true => rw [hv hd]; simp; omega
      | false => have := this.2 hd; omega
    · exact ih (fun z hz => hw z (List.mem_cons_of_mem _ hz)) (by omega) x hx
def decR (n : Nat) (o : Option (List Bt.Op × List UInt8)) : Option (Nat × List Bt.Op) :=
  match o with
  | none => none
  | some (l, r) => if Bt.ok n l = true ∧ r = [] then some (n, l) else none
set_option maxHeartbeats 4000000 in
theorem decode_any (s : ByteArray) (hs : s.size ≤ 16777216) (w : World) :
    Calls Try.prog 20 #[.string s] w (DecTold w (Bt.dec s.data.toList)) := by
  have hsl : s.data.toList.length ≤ 16777216 := by rw [toList_size]; exact hs
  have hr0 : Rest (w.alloc (.cells #[.string s] 9)) w.heap.size s.data.toList := by
    unfold Rest
    rw [fbs_self]
    show (w.heap.push _)[w.heap.size]? = _
    exact Array.getElem?_push_size
  have HR0 := Lib.hid hr0
  clear hr0
  cases hq : Nm.take s.data.toList with
  | none =>
    have ho : Bt.dec s.data.toList = none := by unfold Bt.dec; rw [hq]
    rw [ho]
    have HN := Lib.hid (number_none hq hsl _ HR0.out)
    clear ho hq
    go_enter Try.func20, Try.ntmps20
    go_wp2_with fail
    refine (taking_any s _).mono ?_
    rintro e w0 ⟨rfl, rfl⟩
    unfold numF pieF
    go_wp2_with fail
    refine HN.out.mono ?_
    rintro e w1 ⟨rfl, g1⟩
    go_wp2_with fail
    go_ret3
    exact .inr ⟨rfl, rfl, g1.kept'⟩
  | some x =>
    obtain ⟨n, q⟩ := x
    have hbnd := (Nm.take_back _ _ _ hq).2
    have hql : q.length ≤ 16777216 := by
      have e := congrArg List.length (Nm.take_back _ _ _ hq).1
      rw [List.length_append] at e; omega
    have HN := Lib.hid (number_some hq hsl _ HR0.out)
    have ho : Bt.dec s.data.toList = decR n (Bt.takeC q) := by
      unfold Bt.dec; rw [hq]; rfl
    generalize Bt.dec s.data.toList = D at ho
    have HD := Lib.hid ho
    clear ho hq
    go_enter Try.func20, Try.ntmps20
    go_wp2_with fail
    refine (taking_any s _).mono ?_
    rintro e w0 ⟨rfl, rfl⟩
    unfold numF pieF
    go_wp2_with fail
    refine HN.out.mono ?_
    rintro e w1 ⟨rfl, R1, g1⟩
    go_wp2_with fail
    refine (takeOps_any hql _ R1).mono ?_
    rintro e w2 (⟨l, r, A, c, hO, rfl, hops, R2, g2⟩ | ⟨hO, rfl, g2⟩)
    · obtain ⟨h16, eq, hwide⟩ := Bt.takeC_back hO
      have hlen : (Bt.encL l).length + r.length ≤ 16777216 := by
        have := congrArg List.length eq
        simp only [List.length_append] at this
        omega
      have hsane := sane_of hwide (by omega)
      have hd := HD.out
      rw [hO] at hd
      have hcm := may_any A c l (by unfold maxLen; omega) hsane _ hops
      have hg12 := g1.trans g2
      clear HD hO eq hwide hsane g1 g2 R1 HN HR0
      cases hm : Bt.may l with
      | false =>
        have hD : D = none := by rw [hd]; simp [decR, Bt.ok, hm]
        subst hD
        rw [hm] at hcm
        have HCM := Lib.hid hcm
        clear hd hm hcm
        go_wp2_with fail
        refine HCM.out.mono ?_
        rintro e w3 ⟨rfl, g3⟩
        go_wp2_with fail
        go_ret3
        exact .inr ⟨rfl, rfl, kept_trans hg12.kept' g3⟩
      | true =>
        have hcn := numbered_any (n : Int) l.length (by omega) (by omega) h16
        rw [Int.toNat_natCast] at hcn
        rw [hm] at hcm
        have HCM := Lib.hid hcm
        clear hcm
        cases hn : Bt.nums n l.length with
        | false =>
          have hD : D = none := by rw [hd]; simp [decR, Bt.ok, hn]
          subst hD
          rw [hn] at hcn
          clear hd hm hn
          go_wp2_with fail
          refine HCM.out.mono ?_
          rintro e w3 ⟨rfl, g3⟩
          go_wp2_with fail
          refine (hcn _).mono ?_
          rintro e w4 ⟨rfl, rfl⟩
          go_wp2_with fail
          go_ret3
          exact .inr ⟨rfl, rfl, kept_trans hg12.kept' g3⟩
        | true =>
          have hok : Bt.ok n l = true := Bt.ok_iff.2 ⟨hm, hn⟩
          rw [hn] at hcn
          have hrl : r.length ≤ 16777216 := by omega
          have RR := Lib.hid R2
          clear R2
          cases r with
          | nil =>
            have hD : D = some (n, l) := by rw [hd]; simp [decR, hok]
            subst hD
            clear hd hm hn hok
            go_wp2_with fail
            refine HCM.out.mono ?_
            rintro e w3 ⟨rfl, g3⟩
            go_wp2_with fail
            refine (hcn _).mono ?_
            rintro e w4 ⟨rfl, rfl⟩
            go_wp2_with fail
            refine (piece_none (n := 1) (by simp) (by omega) hrl _ (RR.out.kept g3)).mono ?_
            rintro e w5 ⟨rfl, rfl⟩
            go_wp2_with fail
            go_ret3
            exact .inl ⟨n, l, A, c, rfl, rfl, hops.kept g3, kept_trans hg12.kept' g3⟩
          | cons y r =>
            have hD : D = none := by rw [hd]; simp [decR]
            subst hD
            clear hd hm hn hok
            go_wp2_with fail
            refine HCM.out.mono ?_
            rintro e w3 ⟨rfl, g3⟩
            go_wp2_with fail
            refine (hcn _).mono ?_
            rintro e w4 ⟨rfl, rfl⟩
            go_wp2_with fail
            refine (piece_some (n := 1) (by simp) hrl _ (RR.out.kept g3)).mono ?_
            rintro e w5 ⟨rfl, R5, g5⟩
            go_wp2_with fail
            go_ret3
            exact .inr ⟨rfl, rfl, ((hg12.trans (But.kept g3)).trans g5).kept'⟩
    · have hd := HD.out
      rw [hO] at hd
      have hD : D = none := hd
      subst hD
      clear hd
      go_wp2_with fail
      go_ret3
      exact .inr ⟨rfl, rfl, (g1.trans g2).kept'⟩
theorem decode_some (s : ByteArray) (hs : s.size ≤ 16777216) {n : Nat} {l : List Bt.Op} (h : Bt.dec s.data.toList = some (n, l)) (w : World) :
    Calls Try.prog 20 #[.string s] w fun e w' => ∃ A c, e = .returned (.tuple #[.int .u64 n, .slice A l.length c, .int .i64 0]) ∧ Ops w' A l ∧ Kept w w' := by
  refine (decode_any s hs w).mono fun e w' ht => ?_
  rcases ht with ⟨n', l', A, c, hO, rfl, h1, h2⟩ | ⟨hO, _⟩
  · rw [h] at hO
    injection hO with hO
    injection hO with e1 e2
    subst e1 e2
    exact ⟨A, c, rfl, h1, h2⟩
  · rw [h] at hO; cases hO
theorem decode_none (s : ByteArray) (hs : s.size ≤ 16777216) (h : Bt.dec s.data.toList = none) (w : World) :
    Calls Try.prog 20 #[.string s] w fun e w' => e = .returned (.tuple #[.int .u64 0, .slice none 0 0, .int .i64 2]) ∧ Kept w w' := by
  refine (decode_any s hs w).mono fun e w' ht => ?_
  rcases ht with ⟨n', l', A, c, hO, _⟩ | ⟨_, rfl, h2⟩
  · rw [h] at hO; cases hO
  · exact ⟨rfl, h2⟩
end Go.Proofs.Ytalcmiaohclnjaa
