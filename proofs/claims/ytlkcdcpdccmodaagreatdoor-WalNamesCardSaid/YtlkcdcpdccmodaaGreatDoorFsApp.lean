/-
  What Append of package fs does with a disk; append of a string's bytes onto a row, and where the new row lies.
-/
import Derived.Test.YtlkcdcpdccmodaaGreatDoorFsOps
import Derived.Lib.AppendStr
namespace Go.Proofs.YtlkcdcpdccmodaaGreatDoor
open Go.ChangeShapes Go.WideShapes Go.ChangeAt Go.RowKit Go.Maps
set_option linter.unusedVariables false
set_option maxRecDepth 100000
set_option maxHeartbeats 400000

theorem strCells_eq (s : ByteArray) : Lib.strCells s = cellsOf s.data.toList := rfl
/-- append(row, s...): the row grows in its place, or a new one is made -/
theorem app_str {w : World} (ty : TypeId) {v : Value} {l : List UInt8} (hown : w.ownsRow 0 5 1 v l.length (cellsOf l)) (s : ByteArray) (hb : l.length + s.size ≤ 140737488355328) :
    ∃ v' w', (Builtin.append_ #[106, 9] ty #[v, .string s]).run Tryz.prog w = .ok v' w' ∧ w'.ownsRow 0 5 1 v' (l.length + s.size) (cellsOf (l ++ s.data.toList)) ∧ w.grownBy w' v.ownBlock ∧ (∀ r, v'.ownBlock = some r → v.ownBlock = some r ∨ w.heap.size ≤ r) := by
  obtain ⟨i0, hi, hz0, hz1, hz2⟩ := info_parts info5
  have hm : l.length + s.size ≤ maxLen := by unfold maxLen; omega
  obtain ⟨v', w', hr, h2, h3, _⟩ := Lib.run_append_own_string (P := Tryz.prog) w 0 106 9 ty 5 i0 Tryz.underlying106 Tryz.underlying9 hi hz0 hz1 hz2 v l.length (cellsOf l) hown s hm hb (Nat.zero_le _)
  rw [strCells_eq, cellsOf_app] at h2
  refine ⟨v', w', hr, h2, h3, fun r hr' => ?_⟩
  rcases hown.2 with ⟨rfl, h0⟩ | ⟨g, cap, cur, rfl, _, hg, hnc, hcm, hcs, htake⟩
  · right
    have hl : l = [] := List.eq_nil_of_length_eq_zero h0
    subst hl
    obtain ⟨v2, w2, hr2, h4, _⟩ := Lib.run_append_own_string (P := Tryz.prog) w w.heap.size 106 9 ty 5 i0 Tryz.underlying106 Tryz.underlying9 hi hz0 hz1 hz2 _ 0 [] (World.ownsRow_nil w w.heap.size 5 1) s (by simpa using hm) (by simpa using hb) (Nat.le_refl _)
    rw [hr] at hr2
    simp only [Result.ok.injEq] at hr2
    obtain ⟨rfl, rfl⟩ := hr2
    exact (h4.lt r hr').1
  · by_cases hroom : l.length + s.size ≤ cap
    · left
      have hcs' : cur.size = cap := by simpa using hcs
      have hr2 := Lib.run_append_room_string (P := Tryz.prog) w 106 9 ty 5 i0 Tryz.underlying106 Tryz.underlying9 hi hz1 g l.length cap cur hg s hroom (by omega)
      rw [hr] at hr2
      simp only [Result.ok.injEq] at hr2
      rw [hr2.1] at hr'
      exact hr'
    · right
      have holds := hown.cells (g := g) rfl
      have hr2 := Lib.run_append_grow_string (P := Tryz.prog) w 106 9 ty 5 i0 (.int .u8 0) Tryz.underlying106 Tryz.underlying9 hi hz0 ⟨g, 0, none⟩ l.length cap (cellsOf l) (by rw [hz1, cellsOf_len, Nat.mul_one]) holds s (by omega) (by omega) (by rw [hz2]; exact growslice_fits (by omega) (by omega))
      rw [hr] at hr2
      simp only [Result.ok.injEq] at hr2
      rw [hr2.1] at hr'
      simp [Value.ownBlock] at hr'
      omega
theorem wpList_app_str {w : World} {ops : Array Oper} {rest : List Oper} {o : Oper} {a : Act} {Q : Exit → Act → World → Prop} (hgd : o.guard = none) (sl x : Operand)
    (ho : o.op = .call { callee := .builtin .append, args := #[sl, x], argTypes := #[106, 9] })
    (v : Value) (l : List UInt8) (hs : a.eval sl = v) (hown : w.ownsRow 0 5 1 v l.length (cellsOf l)) (s : ByteArray) (hx : a.eval x = .string s) (hb : l.length + s.size ≤ 140737488355328)
    (h : ∀ v' w', w'.ownsRow 0 5 1 v' (l.length + s.size) (cellsOf (l ++ s.data.toList)) → w.grownBy w' v.ownBlock → (∀ r, v'.ownBlock = some r → v.ownBlock = some r ∨ w.heap.size ≤ r) → wpList Tryz.prog ops Q rest (a.put o.dst v') w') : wpList Tryz.prog ops Q (o :: rest) a w := by
  refine wpList_plain hgd fun K hK => ?_
  obtain ⟨v', w', hr, h2, h3, h4⟩ := app_str o.type hown s hb
  unfold Oper.wp execOp
  simp only [ho, resolve, invoke, builtin, Sem.run_bind, Sem.run_pure, Result.andThen_ok, List.map_toArray, List.map_cons, List.map_nil, hs, hx, hr]
  exact hK _ _ (h v' w' h2 h3 h4)
theorem kept_drew1 (w : World) : Kept w w.drew := ⟨rfl, rfl, rfl, Nat.le_refl _, fun _ _ => rfl⟩
set_option maxRecDepth 100000 in
theorem append_any {K : Nat → Prop} {w : World} {p : Nat} {G : Gh} {m : Fs.Dsk} (h : IsDisk K w p G m) (s b : ByteArray) (hs : s.size ≤ maxLen) (hbm : b.size ≤ maxLen) (ht : Fs.tot m.files + b.data.toList.length ≤ 1099511627776) :
    Calls Tryz.prog 41 #[.pointer (some ⟨p, 0, none⟩), .string s, .string b] w (DkRet K w p (Fs.append m s.data.toList b.data.toList)) := by
  obtain ⟨c0, c1, c2, c3, c4, c5⟩ := h.cells
  have hl := look_dir_ok h.names hs
  have hgd := h.good.append s.data.toList b.data.toList ht
  unfold Fs.append at hgd ⊢
  have hbl : b.data.toList.length = b.size := by simp
  rw [hbl] at hgd ht ⊢
  have HBL := Lib.hid hbl; clear hbl
  cases hg : Fs.dget m.names s.data.toList with
  | none =>
    rw [hg] at hl; simp only [ptrV_none, Option.isSome_none] at hl
    clear hg hgd
    go_enter Tryz.func41, Tryz.ntmps41
    go_wp2
    go_ret
    exact ⟨rfl, ⟨G, h⟩, Kp.refl _ _⟩
  | some i =>
    rw [hg] at hl hgd; simp only [ptrV_some, Option.isSome_some] at hl hgd ⊢
    have hi : i < m.files.length := (h.good.dir.each _ (Fs.dget_mem hg)).2
    clear hg
    have hsl := Fs.size_le h.good
    have hq0 := h.good.q0
    have hq1 := h.good.q1
    have hwr : IntKind.i64.wrap ((Fs.size m : Int) + (b.size : Int)) = (Fs.size m : Int) + (b.size : Int) := IntWalk.i64_in _ (by omega)
    by_cases hq : m.quota < (Fs.size m : Int) + (b.size : Int)
    · rw [if_pos hq]
      clear hgd
      have e1 : decide (m.quota < (Fs.size m : Int) + (b.size : Int)) = true := by simpa using hq
      clear hq
      go_enter Tryz.func41, Tryz.ntmps41
      go_wp2
      go_region_with (go_at_call 33; refine (size_any (h.kept (kept_drew1 w))).mono ?_; rintro e w1 ⟨rfl, hk⟩; have c3' := ((h.kept (kept_drew1 w)).kept hk).cells.2.2.2.1)
      all_goals
        go_wp2
        go_ret
        exact ⟨rfl, ⟨G, (h.kept (kept_drew1 w)).kept hk⟩, kp_kept (kept_trans (kept_drew1 w) hk) h.lt⟩
    · rw [if_neg hq] at hgd ⊢
      have e1 : decide (m.quota < (Fs.size m : Int) + (b.size : Int)) = false := by simpa using hq
      clear hq
      have hcB : ∀ W, IsDisk K W p G m → Calls Tryz.prog 72 #[.pointer (some ⟨p, 0, none⟩)] W fun e w' => e = .returned (.int .i64 (Fs.burn m).2) ∧ IsDisk K w' p G (Fs.burn m).1 ∧ Kp K W w' := fun W hW => burn_any hW
      rcases Fs.burn_res m with ⟨hb, _⟩ | ⟨hb, _⟩
      · rw [if_pos hb] at hgd ⊢
        simp only [hb] at hcB
        clear hb
        obtain ⟨x1, x2, x3, x4, x5⟩ := Fs.burn_files m
        have HB := Lib.hid x1; clear x1 x2 x3 x4 x5
        have HG := Lib.hid hgd; clear hgd
        generalize Fs.burn m = r at hcB HB HG ⊢
        obtain ⟨m1, r1⟩ := r
        have HC := Lib.hid hcB; clear hcB
        have hfl : (Fs.fileAt m1 i).bytes.length + b.size ≤ 1099511627776 := by
          have e2 : Fs.fileAt m1 i = m.files[i] := by unfold Fs.fileAt; rw [show m1.files = m.files from HB.out, List.getElem?_eq_getElem hi]; rfl
          have := Fs.getD_le_tot m.files i _ (List.getElem?_eq_getElem hi)
          rw [e2]; omega
        go_enter Tryz.func41, Tryz.ntmps41
        go_wp2
        go_region_with (go_at_call 33; refine (size_any (h.kept (kept_drew1 w))).mono ?_; rintro e w1 ⟨rfl, hk⟩; have c3' := ((h.kept (kept_drew1 w)).kept hk).cells.2.2.2.1)
        all_goals
          have h0 := (h.kept (kept_drew1 w)).kept hk
          have k0 : Kp K w w1 := kp_kept (kept_trans (kept_drew1 w) hk) h.lt
          have hc := HC.out w1 h0
          go_wp2_with (first
            | (go_at_call 72; refine hc.mono ?_; rintro e w2 ⟨rfl, h1, k1⟩; have hi1 : i < m1.files.length := by { rw [HB.out]; exact hi }; have hf := h1.files i hi1; obtain ⟨d0, d1⟩ := hf.cells)
            | (at_builtin; refine wpList_app_str rfl _ _ rfl (G.rv i) (Fs.fileAt m1 i).bytes rfl hf.own b rfl (by omega) ?_; intro v' w3 hown3 hg3 hrow3; obtain ⟨a', cap', rfl⟩ := own_shape hown3; have hl3 : w3.heap[G.loc i]? = some (fileObj (G.rv i) (Fs.fileAt m1 i).sure) := (hg3.block _ (heap_lt hf.blk) (fun e => h1.l_rv hi1 hi1 e.symm rfl)).trans hf.blk; have q0 := cell_of hl3 0 rfl; have q1 := frozen_of hl3 0; have HL := Lib.hid hl3; clear hl3))
          go_ret
          have hv3 := hown3
          generalize (Value.slice a' ((Fs.fileAt m1 i).bytes.length + b.size) cap') = v3 at hv3 hrow3 ⊢
          have hv4 : w3.ownsRow 0 5 1 v3 (Fs.grow b.data.toList (Fs.fileAt m1 i)).bytes.length (cellsOf (Fs.grow b.data.toList (Fs.fileAt m1 i)).bytes) := by
            show w3.ownsRow 0 5 1 v3 ((Fs.fileAt m1 i).bytes ++ b.data.toList).length _
            rw [List.length_append, HBL.out]; exact hv3
          have ho : ∀ x, x < w2.heap.size → x ≠ G.loc i → (G.rv i).ownBlock ≠ some x → (w3.setCell ⟨G.loc i, 0, none⟩ v3).heap[x]? = w2.heap[x]? := fun x hx hne hnr => (Below.heap_setCell _ _ _ _ hne).trans (hg3.block x hx (fun e => hnr e.symm))
          have hsz : w2.heap.size ≤ (w3.setCell ⟨G.loc i, 0, none⟩ v3).heap.size := by have := hg3.size; simpa [World.setCell] using this
          have hgood : Fs.Good { m1 with files := m1.files.modify i (Fs.grow b.data.toList) } := by rw [HB.out]; exact HG.out
          have hd := h1.setFile (g := Fs.grow b.data.toList) (v' := v3) hi1 hsz ho (heap_set HL.out) (own_same hv4 (fun r hr => Below.heap_setCell _ _ _ _ (fun e => by
            rcases hrow3 r hr with h3 | h3
            · exact h1.l_rv hi1 hi1 h3 e
            · have := heap_lt hf.blk; simp only at e; omega))) hrow3 hgood
          rw [HB.out] at hd
          exact ⟨rfl, ⟨_, hd⟩, (k0.trans k1).trans (h1.kpFile hi1 hg3.os hg3.tape hg3.output hsz ho)⟩
      · rw [if_neg (by rw [hb]; decide)]
        have hb2 := hb
        simp only [hb] at hcB
        clear hb hgd
        have HC := Lib.hid hcB; clear hcB
        have HB2 := Lib.hid hb2; clear hb2
        go_enter Tryz.func41, Tryz.ntmps41
        go_wp2
        go_region_with (go_at_call 33; refine (size_any (h.kept (kept_drew1 w))).mono ?_; rintro e w1 ⟨rfl, hk⟩; have c3' := ((h.kept (kept_drew1 w)).kept hk).cells.2.2.2.1)
        all_goals
          have h0 := (h.kept (kept_drew1 w)).kept hk
          have k0 : Kp K w w1 := kp_kept (kept_trans (kept_drew1 w) hk) h.lt
          have hc := HC.out w1 h0
          go_wp2_with (go_at_call 72; refine hc.mono ?_; rintro e w2 ⟨rfl, h1, k1⟩)
          go_ret
          exact ⟨by rw [HB2.out]; rfl, ⟨G, h1⟩, k0.trans k1⟩
end Go.Proofs.YtlkcdcpdccmodaaGreatDoor
