/-
  Two strings.Builder beside each other, as package block uses them: what is written on one leaves the other one as it was.
-/
import Derived.Test.YtecjnebfhbdnaaaBuilder
import Derived.Test.YtecjnebfhbdnaaaPackMem
import Derived.Lib.UnsafeStr
import Derived.RegionTactic
namespace Go.Proofs.Ytecjnebfhbdnaaa
open Go.ChangeShapes Go.WideShapes Go.ChangeAt Go.RowKit
set_option linter.unusedVariables false
set_option maxRecDepth 100000
set_option maxHeartbeats 1000000

/-- a row's bytes grow in their place, or a new row is made -/
theorem kapp_str {w : World} (ty : TypeId) {v : Value} {l : List UInt8} (hown : w.ownsRow 0 5 1 v l.length (cellsOf l)) (s : ByteArray) (hb : l.length + s.size ≤ 140737488355328) :
    ∃ v' w', (Builtin.append_ #[52, 9] ty #[v, .string s]).run Try.prog w = .ok v' w' ∧ w'.ownsRow 0 5 1 v' (l.length + s.size) (cellsOf (l ++ s.data.toList)) ∧ w.grownBy w' v.ownBlock ∧ (∀ r, v'.ownBlock = some r → v.ownBlock = some r ∨ w.heap.size ≤ r) := by
  obtain ⟨i0, hi, hz0, hz1, hz2⟩ := info_parts info5
  have hm : l.length + s.size ≤ maxLen := by unfold maxLen; omega
  obtain ⟨v', w', hr, h2, h3, _⟩ := Lib.run_append_own_string (P := Try.prog) w 0 52 9 ty 5 i0 Try.underlying52 Try.underlying9 hi hz0 hz1 hz2 v l.length (cellsOf l) hown s hm hb (Nat.zero_le _)
  rw [strCells_of, cellsOf_app] at h2
  refine ⟨v', w', hr, h2, h3, fun r hr' => ?_⟩
  rcases hown.2 with ⟨rfl, h0⟩ | ⟨g, cap, cur, rfl, _, hg, hnc, hcm, hcs, htake⟩
  · right
    have hl : l = [] := List.eq_nil_of_length_eq_zero h0
    subst hl
    obtain ⟨v2, w2, hr2, h4, _⟩ := Lib.run_append_own_string (P := Try.prog) w w.heap.size 52 9 ty 5 i0 Try.underlying52 Try.underlying9 hi hz0 hz1 hz2 _ 0 [] (World.ownsRow_nil w w.heap.size 5 1) s (by simpa using hm) (by simpa using hb) (Nat.le_refl _)
    rw [hr] at hr2
    simp only [Result.ok.injEq] at hr2
    obtain ⟨rfl, rfl⟩ := hr2
    exact (h4.lt r hr').1
  · by_cases hroom : l.length + s.size ≤ cap
    · left
      have hcs' : cur.size = cap := by simpa using hcs
      have hr2 := Lib.run_append_room_string (P := Try.prog) w 52 9 ty 5 i0 Try.underlying52 Try.underlying9 hi hz1 g l.length cap cur hg s hroom (by omega)
      rw [hr] at hr2
      simp only [Result.ok.injEq] at hr2
      rw [hr2.1] at hr'
      exact hr'
    · right
      have holds := hown.cells (g := g) rfl
      have hr2 := Lib.run_append_grow_string (P := Try.prog) w 52 9 ty 5 i0 (.int .u8 0) Try.underlying52 Try.underlying9 hi hz0 ⟨g, 0, none⟩ l.length cap (cellsOf l) (by rw [hz1, cellsOf_len, Nat.mul_one]) holds s (by omega) (by omega) (by rw [hz2]; exact growslice_fits (by omega) (by omega))
      rw [hr] at hr2
      simp only [Result.ok.injEq] at hr2
      rw [hr2.1] at hr'
      simp [Value.ownBlock] at hr'
      omega
theorem wpList_kapp_str {w : World} {ops : Array Oper} {rest : List Oper} {o : Oper} {a : Act} {Q : Exit → Act → World → Prop} (hgd : o.guard = none) (sl x : Operand)
    (ho : o.op = .call { callee := .builtin .append, args := #[sl, x], argTypes := #[52, 9] })
    (v : Value) (l : List UInt8) (hs : a.eval sl = v) (hown : w.ownsRow 0 5 1 v l.length (cellsOf l)) (s : ByteArray) (hx : a.eval x = .string s) (hb : l.length + s.size ≤ 140737488355328)
    (h : ∀ v' w', w'.ownsRow 0 5 1 v' (l.length + s.size) (cellsOf (l ++ s.data.toList)) → w.grownBy w' v.ownBlock → (∀ r, v'.ownBlock = some r → v.ownBlock = some r ∨ w.heap.size ≤ r) → wpList Try.prog ops Q rest (a.put o.dst v') w') : wpList Try.prog ops Q (o :: rest) a w := by
  refine wpList_plain hgd fun K hK => ?_
  obtain ⟨v', w', hr, h2, h3, h4⟩ := kapp_str o.type hown s hb
  unfold Oper.wp execOp
  simp only [ho, resolve, invoke, builtin, Sem.run_bind, Sem.run_pure, Result.andThen_ok, List.map_toArray, List.map_cons, List.map_nil, hs, hx, hr]
  exact hK _ _ (h v' w' h2 h3 h4)
/-- a row whose block is as it was -/
theorem kown_same {w w' : World} {base : Nat} {e : TypeId} {size n : Nat} {v : Value} {xs : List Value} (h : w.ownsRow base e size v n xs) (k : ∀ r, v.ownBlock = some r → w'.heap[r]? = w.heap[r]?) : w'.ownsRow base e size v n xs := by
  refine ⟨h.1, ?_⟩
  rcases h.2 with q | ⟨r, cap, cur, e1, hbs, hb, q⟩
  · exact .inl q
  · exact .inr ⟨r, cap, cur, e1, hbs, (k r (by rw [e1]; rfl)).trans hb, q⟩
theorem kown_base {w : World} {B : Nat} {e : TypeId} {size n : Nat} {v : Value} {xs : List Value} (h : w.ownsRow 0 e size v n xs) (k : ∀ r, v.ownBlock = some r → B ≤ r) : w.ownsRow B e size v n xs := by
  refine ⟨h.1, ?_⟩
  rcases h.2 with q | ⟨r, cap, cur, e1, hbs, hb, q⟩
  · exact .inl q
  · exact .inr ⟨r, cap, cur, e1, k r (by rw [e1]; rfl), hb, q⟩
theorem kown_zero {w : World} {B : Nat} {e : TypeId} {size n : Nat} {v : Value} {xs : List Value} (h : w.ownsRow B e size v n xs) : w.ownsRow 0 e size v n xs := by
  refine ⟨h.1, ?_⟩
  rcases h.2 with q | ⟨r, cap, cur, e1, hbs, hb, q⟩
  · exact .inl q
  · exact .inr ⟨r, cap, cur, e1, Nat.zero_le _, hb, q⟩
/-- a Builder whose row is told -/
structure BldV (B b : Nat) (l : List UInt8) (v : Value) (w : World) : Prop where
  bb : B ≤ b
  blk : ∃ p : Option Addr, (p = none ∨ p = some ⟨b, 0, none⟩) ∧ w.heap[b]? = some (.cells #[.pointer p, v] 55 (0, 0))
  own : w.ownsRow B 5 1 v l.length (cellsOf l)
theorem BldV.bld {B b : Nat} {l : List UInt8} {v : Value} {w : World} (h : BldV B b l v w) : Bld B b l w := by
  obtain ⟨h1, ⟨p, h2, h3⟩, h4⟩ := h
  exact ⟨p, v, h1, h2, h3, h4⟩
theorem BldV.apart {B b : Nat} {l : List UInt8} {v : Value} {w : World} (h : BldV B b l v w) {k : Nat} {c : Array Value} {t : TypeId} {z : Nat × Nat} (hk : w.heap[k]? = some (.cells c t z)) (ht : t ≠ 5) : v.ownBlock ≠ some k := Lib.ownBlock_ne h.own hk ht
theorem BldV.same {B b : Nat} {l : List UInt8} {v : Value} {w w' : World} (h : BldV B b l v w) (h1 : w'.heap[b]? = w.heap[b]?) (h2 : ∀ r, v.ownBlock = some r → w'.heap[r]? = w.heap[r]?) : BldV B b l v w' :=
  ⟨h.bb, h.blk.imp fun p hp => ⟨hp.1, h1.trans hp.2⟩, kown_same h.own h2⟩
theorem BldV.kept {B b : Nat} {l : List UInt8} {v : Value} {w w' : World} (h : BldV B b l v w) (k : Kept w w') : BldV B b l v w' :=
  h.same (by obtain ⟨p, _, hp⟩ := h.blk; exact Below.block k b (Array.getElem?_eq_some_iff.1 hp).1) (fun r hr => Below.block k r (h.own.lt r hr).2)
theorem kbld_check {B b : Nat} {l : List UInt8} {v : Value} {w : World} (h : BldV B b l v w) :
    Calls Try.prog 60 #[.pointer (some ⟨b, 0, none⟩)] w fun e w' => e = .returned (.tuple #[]) ∧ w'.heap[b]? = some (.cells #[.pointer (some ⟨b, 0, none⟩), v] 55 (0, 0)) ∧ Ex (fun k => k = b) w w' := by
  obtain ⟨hB, ⟨p, hp, hb⟩, ho⟩ := h
  obtain ⟨j, hj, hjs⟩ := Option.map_eq_some_iff.1 bldInfo
  have c0 := blk_cell hb 0
  have f0 := blk_soft hb 0
  simp only [List.getElem?_toArray, List.getElem?_cons_zero] at c0
  have hsh : w.shape? b = some (55, 2) := by simp [World.shape?, hb]
  have e1 := Lib.run_to_unsafe (P := Try.prog) w ⟨b, 0, none⟩ Try.underlying53 Try.underlying116 hj (by rw [hjs]; decide) hsh (Nat.zero_lt_succ 1)
  have e2 : (callFunc 83 #[.pointer (some ⟨b, 0, none⟩)]).run Try.prog w = .ok (Next.value (.pointer (some ⟨b, 0, none⟩))) w := by
    rw [run_callFunc_extern Try.func83 (by kernel_rfl) (by kernel_rfl) (by kernel_rfl) (e := Extern.AbiNoEscape.same) (by kernel_rfl), Lib.run_noEscape]
    rfl
  have e3 := Lib.run_from_unsafe (P := Try.prog) w ⟨b, 0, none⟩ Try.underlying116 Try.underlying53 hj hsh bldLies
  have e4 := Lib.run_neq_ptr_same (P := Try.prog) w ⟨b, 0, none⟩ Try.underlying53 hj
  have st := bld_store hb ho 0 (.pointer (some ⟨b, 0, none⟩))
  have HB := Lib.hid hb; have ST := Lib.hid st
  clear hb st hsh
  rcases hp with rfl | rfl
  · go_enter Try.func60, Try.ntmps60
    go_wp2
    go_end0
    exact ⟨rfl, ST.out.1, ⟨rfl, rfl, rfl, by simp [World.setCell], fun k _ hn => Below.heap_setCell _ _ _ _ (fun e => hn e)⟩⟩
  · go_enter Try.func60, Try.ntmps60
    go_wp2
    go_end0
    exact ⟨rfl, HB.out, Ex.refl _ w⟩
theorem kbld_write {B b : Nat} {l : List UInt8} {v : Value} {w : World} (s : ByteArray) (h : BldV B b l v w) (hlen : l.length + s.size ≤ 16777216) (hBw : B ≤ w.heap.size) :
    Calls Try.prog 29 #[.pointer (some ⟨b, 0, none⟩), .string s] w fun e w' => e = .returned (.tuple #[.int .i64 s.size, .nilIface]) ∧ ∃ v', BldV B b (l ++ s.data.toList) v' w' ∧ (∀ r, v'.ownBlock = some r → v.ownBlock = some r ∨ w.heap.size ≤ r) ∧ Ex (fun k => k = b ∨ v.ownBlock = some k) w w' := by
  have hB := h.bb
  have hs16 : s.size ≤ 16777216 := by omega
  have hck := kbld_check h
  have hlow := h.own.lt
  obtain ⟨p, hp, hb0⟩ := h.blk
  have hbl := (Array.getElem?_eq_some_iff.1 hb0).1
  have hne := bld_apart hb0 h.own
  have HO := Lib.hid (kown_zero h.own); have HCK := Lib.hid hck; have HLOW := Lib.hid hlow
  clear h hck hb0 hp hlow
  go_enter Try.func29, Try.ntmps29
  go_wp2_with fail
  refine HCK.out.mono ?_
  rintro e w1 ⟨rfl, hb, g1⟩
  have c1 := blk_cell hb 1
  simp only [List.getElem?_toArray, List.getElem?_cons_succ, List.getElem?_cons_zero] at c1
  have ho1 : w1.ownsRow 0 5 1 v l.length (cellsOf l) := kown_same HO.out fun r hr => g1.block r (HLOW.out r hr).2 (fun e => hne (by rw [hr, e]))
  have HB := Lib.hid hb; have G1 := Lib.hid g1
  have hsz1 := g1.size
  clear hb g1
  go_wp2_with (at_builtin; refine wpList_kapp_str rfl _ _ rfl v l rfl ho1 s rfl (by omega) ?_)
  intro v' w2 ho2 hg hat
  have hb2 := (hg.block b (Array.getElem?_eq_some_iff.1 HB.out).1 (fun e => hne e.symm)).trans HB.out
  have f1 := blk_soft hb2 1
  have d1 := blk_cell hb2 1
  simp only [List.getElem?_toArray, List.getElem?_cons_succ, List.getElem?_cons_zero] at d1
  have hsh := own_shape1 ho2
  obtain ⟨a2, n2, k2, rfl⟩ := hsh
  have hll : l.length + s.size = (l ++ s.data.toList).length := by rw [List.length_append, toList_size]
  have ho3 : w2.ownsRow B 5 1 (.slice a2 n2 k2) (l ++ s.data.toList).length (cellsOf (l ++ s.data.toList)) := by
    rw [← hll]
    refine kown_base ho2 fun r hr => ?_
    rcases hat r hr with q | q
    · exact (HLOW.out r q).1
    · omega
  have st := bld_store hb2 ho3 1 (.slice a2 n2 k2)
  have ST := Lib.hid st; have HAT := Lib.hid hat
  have g2 : Ex (fun k => k = b ∨ v.ownBlock = some k) w w2 := by
    refine (G1.out.mono (fun i (hi : i = b) => Or.inl hi)).trans (F' := fun k => v.ownBlock = some k) ⟨hg.os, hg.tape, hg.output, hg.size, fun i hi hn => hg.block i hi (fun e => hn e.symm)⟩ (fun i _ hi => Or.inr hi)
  have G2 := Lib.hid g2
  clear hb2 st ho2 ho3 ho1 hll hat g2 hg
  go_wp2
  go_ret2
  refine ⟨rfl, _, ⟨hB, ⟨_, .inr rfl, ST.out.1⟩, ST.out.2⟩, fun r hr => ?_, ?_⟩
  · rcases HAT.out r hr with q | q
    · exact .inl q
    · exact .inr (by omega)
  · exact G2.out.trans (F' := fun k => k = b) ⟨rfl, rfl, rfl, by simp [World.setCell], fun k _ hn => Below.heap_setCell _ _ _ _ (fun e => hn e)⟩ (fun i _ hi => Or.inl hi)
theorem kbld_len {B b : Nat} {l : List UInt8} {v : Value} {w : World} (h : BldV B b l v w) :
    Calls Try.prog 28 #[.pointer (some ⟨b, 0, none⟩)] w fun e w' => e = .returned (.int .i64 (l.length : Nat)) ∧ w = w' := by
  obtain ⟨p, hp, hb⟩ := h.blk
  have c1 := blk_cell hb 1
  simp only [List.getElem?_toArray, List.getElem?_cons_succ, List.getElem?_cons_zero] at c1
  obtain ⟨A, c, rfl⟩ : ∃ A c, v = .slice A l.length c := by
    rcases h.own.2 with ⟨e1, e0⟩ | ⟨r, cap, cur, e1, _⟩
    · exact ⟨none, 0, by rw [e1, e0]⟩
    · exact ⟨_, _, e1⟩
  clear h hb
  go_enter Try.func28, Try.ntmps28
  go_wp2_with fail
  go_ret
  exact ⟨rfl, rfl⟩
/-- the text of a Builder that holds a byte at least: nothing but its row is touched -/
theorem kbld_string {B b : Nat} {l : List UInt8} {v : Value} {w : World} (h : BldV B b l v w) (h0 : l ≠ []) :
    Calls Try.prog 33 #[.pointer (some ⟨b, 0, none⟩)] w fun e w' => e = .returned (.string (bs l)) ∧ Ex (fun k => v.ownBlock = some k) w w' := by
  obtain ⟨hB, ⟨p, _, hbk⟩, hown⟩ := h
  have hl0 : l.length ≠ 0 := by simpa using h0
  rcases hown.2 with ⟨_, hz⟩ | ⟨g, cap, cur, rfl, hbg, hg, hnc, hcm, hcs, htake⟩
  · exact absurd hz hl0
  have c1 : w.drew.cell? ⟨b, 1, none⟩ = some (.slice (some ⟨g, 0, none⟩) l.length cap) := by
    have := blk_cell hbk 1
    simpa using this
  have hSD : (Builtin.unsafeSliceData_ #[52] 98 #[.slice (some ⟨g, 0, none⟩) l.length cap]).run Try.prog w.drew = .ok (.pointer (some ⟨g, 0, none⟩)) w.drew :=
    Lib.run_unsafeSliceData_row _ _ _ _ _ _ (by omega)
  have hUS : (Builtin.unsafeString_ #[98, 3] 9 #[.pointer (some ⟨g, 0, none⟩), .int .i64 l.length]).run Try.prog w.drew = .ok (.string (bs l)) (w.drew.freeze ⟨g, 0, none⟩ l.length) := by
    refine Lib.run_unsafeString_row w.drew 98 3 9 5 Try.underlying98 (by kernel_rfl) g cur.size (by have hg' : w.drew.heap[g]? = some (.cells cur 5 (0, 0)) := hg; simp [World.shape?, hg']) l h0 (by omega) (by unfold maxLen at hcm; omega) ?_
    intro j x hx
    exact hown.cells (g := g) rfl j (.int .u8 x.toNat) (by simp [cellsOf, hx])
  have HX : Ex (fun k => (Value.slice (some ⟨g, 0, none⟩) l.length cap).ownBlock = some k) w (w.drew.freeze ⟨g, 0, none⟩ l.length) := by
    unfold World.freeze
    rw [if_neg hl0]
    exact ⟨rfl, rfl, rfl, by simp, fun k hk hn => by
      simp only [Array.getElem?_modify]
      rw [if_neg (fun e => hn (by simp [Value.ownBlock, e]))]
      rfl⟩
  have HH := Lib.hid HX
  clear HX hown htake hcs hg hbk hcm
  go_enter Try.func33, Try.ntmps33
  go_wp2_with fail
  go_region
  all_goals (go_wp2; go_ret; exact ⟨rfl, HH.out⟩)
/-- two Builders of the call's own, the one in the block w1.heap.size, the other one behind it -/
structure KTwo (w1 : World) (l1 l2 : List UInt8) (W : World) : Prop where
  both : ∃ v1 v2, BldV w1.heap.size w1.heap.size l1 v1 W ∧ BldV w1.heap.size (w1.heap.size + 1) l2 v2 W ∧ ∀ r, v1.ownBlock = some r → v2.ownBlock ≠ some r
  below : Below w1.heap.size w1 W
theorem KTwo.size {w1 : World} {l1 l2 : List UInt8} {W : World} (h : KTwo w1 l1 l2 W) : w1.heap.size + 2 ≤ W.heap.size := by
  obtain ⟨⟨v1, v2, _, h2, _⟩, _⟩ := h
  obtain ⟨p, _, hb⟩ := h2.blk
  have := (Array.getElem?_eq_some_iff.1 hb).1
  omega
theorem KTwo.kept {w1 : World} {l1 l2 : List UInt8} {W W' : World} (h : KTwo w1 l1 l2 W) (k : Kept W W') : KTwo w1 l1 l2 W' := by
  have hs := h.size
  obtain ⟨⟨v1, v2, h1, h2, h3⟩, h4⟩ := h
  exact ⟨⟨v1, v2, h1.kept k, h2.kept k, h3⟩, Below.trans h4 (Below.mono k (by omega))⟩
theorem ktwo_new (w : World) : KTwo w [] [] ((w.alloc (.cells #[.pointer none, .slice none 0 0] 55)).alloc (.cells #[.pointer none, .slice none 0 0] 55)) := by
  refine ⟨⟨.slice none 0 0, .slice none 0 0, ⟨Nat.le_refl _, ⟨none, .inl rfl, ?_⟩, World.ownsRow_nil _ _ _ _⟩, ⟨by omega, ⟨none, .inl rfl, ?_⟩, World.ownsRow_nil _ _ _ _⟩, fun r hr => by cases hr⟩, ((Kept.refl w).alloc _).alloc _⟩
  · refine (Below.block ((Kept.refl _).alloc _) _ (by simp)).trans ?_
    show (w.heap.push _)[w.heap.size]? = _
    exact Array.getElem?_push_size
  · have : (w.alloc (.cells #[.pointer none, .slice none 0 0] 55)).heap.size = w.heap.size + 1 := by simp
    rw [← this]
    show ((w.alloc _).heap.push _)[(w.alloc _).heap.size]? = _
    exact Array.getElem?_push_size
/-- blocks of other types than bytes, but the two Builders', are as they were -/
def KThin (w1 W W' : World) : Prop := ∀ (k : Nat) (c : Array Value) (t : TypeId) (z : Nat × Nat), k ≠ w1.heap.size → k ≠ w1.heap.size + 1 → t ≠ 5 → W.heap[k]? = some (.cells c t z) → W'.heap[k]? = some (.cells c t z)
theorem KTwo.write1 {w1 : World} {l1 l2 : List UInt8} {W : World} (h : KTwo w1 l1 l2 W) (s : ByteArray) (hlen : l1.length + s.size ≤ 16777216) :
    Calls Try.prog 29 #[.pointer (some ⟨w1.heap.size, 0, none⟩), .string s] W fun e w' => e = .returned (.tuple #[.int .i64 s.size, .nilIface]) ∧ KTwo w1 (l1 ++ s.data.toList) l2 w' ∧ KThin w1 W w' := by
  have hs := h.size
  obtain ⟨⟨v1, v2, h1, h2, h3⟩, h4⟩ := h
  refine (kbld_write s h1 hlen (by omega)).mono ?_
  rintro e w' ⟨rfl, v', g1, g2, g3⟩
  obtain ⟨p2, _, hb2'⟩ := h2.blk
  have hne2 := h1.apart hb2' (by decide)
  have k2 : BldV w1.heap.size (w1.heap.size + 1) l2 v2 w' := h2.same (g3.block _ (by omega) (fun q => q.elim (fun q => by omega) hne2)) (fun r hr => g3.block r (h2.own.lt r hr).2 (fun q => q.elim (fun q => by
      obtain ⟨p1, _, hb1⟩ := h1.blk
      exact Lib.ownBlock_ne h2.own hb1 (by decide) (by rw [hr, q])) (fun q => h3 r q hr)))
  refine ⟨rfl, ⟨⟨v', v2, g1, k2, fun r hr => ?_⟩, Below.trans h4 (g3.below (by omega) (fun i hi => hi.elim (fun q => by omega) (fun q => (h1.own.lt i q).1)))⟩, fun k c t z n1 n2 ht hk => ?_⟩
  · rcases g2 r hr with q | q
    · exact h3 r q
    · exact fun e => by have := (h2.own.lt r e).2; omega
  · exact (g3.block k (Array.getElem?_eq_some_iff.1 hk).1 (fun q => q.elim n1 (h1.apart hk ht))).trans hk
theorem KTwo.write2 {w1 : World} {l1 l2 : List UInt8} {W : World} (h : KTwo w1 l1 l2 W) (s : ByteArray) (hlen : l2.length + s.size ≤ 16777216) :
    Calls Try.prog 29 #[.pointer (some ⟨w1.heap.size + 1, 0, none⟩), .string s] W fun e w' => e = .returned (.tuple #[.int .i64 s.size, .nilIface]) ∧ KTwo w1 l1 (l2 ++ s.data.toList) w' ∧ KThin w1 W w' := by
  have hs := h.size
  obtain ⟨⟨v1, v2, h1, h2, h3⟩, h4⟩ := h
  refine (kbld_write s h2 hlen (by omega)).mono ?_
  rintro e w' ⟨rfl, v', g1, g2, g3⟩
  obtain ⟨p1, _, hb1⟩ := h1.blk
  have hne1 := h2.apart hb1 (by decide)
  have k1 : BldV w1.heap.size w1.heap.size l1 v1 w' := h1.same (g3.block _ (by omega) (fun q => q.elim (fun q => by omega) hne1)) (fun r hr => g3.block r (h1.own.lt r hr).2 (fun q => q.elim (fun q => by
      obtain ⟨p2, _, hb2⟩ := h2.blk
      exact Lib.ownBlock_ne h1.own hb2 (by decide) (by rw [hr, q])) (fun q => h3 r hr q)))
  refine ⟨rfl, ⟨⟨v1, v', k1, g1, fun r hr e => ?_⟩, Below.trans h4 (g3.below (by omega) (fun i hi => hi.elim (fun q => by omega) (fun q => (h2.own.lt i q).1)))⟩, fun k c t z n1 n2 ht hk => ?_⟩
  · rcases g2 r e with q | q
    · exact h3 r hr q
    · have := (h1.own.lt r hr).2; omega
  · exact (g3.block k (Array.getElem?_eq_some_iff.1 hk).1 (fun q => q.elim n2 (h2.apart hk ht))).trans hk
theorem KTwo.len1 {w1 : World} {l1 l2 : List UInt8} {W : World} (h : KTwo w1 l1 l2 W) :
    Calls Try.prog 28 #[.pointer (some ⟨w1.heap.size, 0, none⟩)] W fun e w' => e = .returned (.int .i64 (l1.length : Nat)) ∧ W = w' := by
  obtain ⟨⟨v1, v2, h1, h2, h3⟩, h4⟩ := h
  exact kbld_len h1
/-- what is left when the first one's text was taken: the second one -/
theorem KTwo.string1 {w1 : World} {l1 l2 : List UInt8} {W : World} (h : KTwo w1 l1 l2 W) (h0 : l1 ≠ []) :
    Calls Try.prog 33 #[.pointer (some ⟨w1.heap.size, 0, none⟩)] W fun e w' => e = .returned (.string (bs l1)) ∧ Bld w1.heap.size (w1.heap.size + 1) l2 w' ∧ Below w1.heap.size w1 w' := by
  have hs := h.size
  obtain ⟨⟨v1, v2, h1, h2, h3⟩, h4⟩ := h
  refine (kbld_string h1 h0).mono ?_
  rintro e w' ⟨rfl, g⟩
  obtain ⟨p2, _, hb2⟩ := h2.blk
  have k2 : BldV w1.heap.size (w1.heap.size + 1) l2 v2 w' := h2.same (g.block _ (by omega) (h1.apart hb2 (by decide))) (fun r hr => g.block r (h2.own.lt r hr).2 (fun q => h3 r q hr))
  exact ⟨rfl, k2.bld, Below.trans h4 (g.below (by omega) (fun i hi => (h1.own.lt i hi).1))⟩
end Go.Proofs.Ytecjnebfhbdnaaa
