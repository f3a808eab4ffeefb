/-
  What a change of a directory does: apply, settle, change; Create, Rename, Remove, SyncDir of package fs.
-/
import Derived.Test.YtlkcdcpdccmodaaGreatDoorFsApp
import Derived.Deep.AppendLies
import Derived.Deep.RegionLaw
namespace Go.Proofs.YtlkcdcpdccmodaaGreatDoor
open Go.ChangeShapes Go.WideShapes Go.ChangeAt Go.RowKit Go.Maps
set_option linter.unusedVariables false
set_option maxRecDepth 100000
set_option maxHeartbeats 400000

theorem bs_len (l : List UInt8) : (bs l).size = l.length := by simp [bs, ByteArray.size]
/-- a change as it is handed over -/
def chgV (loc : Nat → Nat) (c : Fs.Chg) : Value := .agg #[.string (bs c.frm), .string (bs c.to), ptrV loc c.made]
theorem wpList_del_dir {w : World} {ops : Array Oper} {rest : List Oper} {o : Oper} {a : Act} {Q : Exit → Act → World → Prop} (hg : o.guard = none) (mo x : Operand) (hop : o.op = Op.call { callee := Callee.builtin Builtin.delete, args := #[mo, x], argTypes := #[72, 9] })
    (b : Nat) (loc : Nat → Nat) (d : Fs.Dir) (hm : a.eval mo = .map (some b)) (hown : OwnsDir w loc b d) (s : ByteArray) (hx : a.eval x = .string s) (hs : s.size ≤ maxLen)
    (hK : ∀ w', OwnsDir w' loc b (Fs.ddel d s.data.toList) → w.grownBy w' (some b) → wpList Tryz.prog ops Q rest (a.put o.dst (.tuple #[])) w') : wpList Tryz.prog ops Q (o :: rest) a w := by
  refine wpList_plain hg fun K' hK' => ?_
  obtain ⟨w', hrun, r1, r2, r3⟩ := del_dir hown hs o.type
  unfold Oper.wp
  simp [execOp, hop, resolve, invoke, builtin, hm, hx, hrun, Result.andThen]
  exact hK' _ _ (hK w' r1 r2)
theorem wpList_put_dir {w : World} {ops : Array Oper} {rest : List Oper} {o : Oper} {a : Act} {Q : Exit → Act → World → Prop} (hg : o.guard = none) (mo x v : Operand) (hop : o.op = Op.mapUpdate 72 mo x v)
    (b : Nat) (loc : Nat → Nat) (d : Fs.Dir) (i : Nat) (hm : a.eval mo = .map (some b)) (hown : OwnsDir w loc b d) (hl : d.length ≤ 60) (s : ByteArray) (hx : a.eval x = .string s) (hv : a.eval v = .pointer (some ⟨loc i, 0, none⟩)) (hs : s.size ≤ maxLen)
    (hK : ∀ w', OwnsDir w' loc b (Fs.dput d s.data.toList i) → w.grownBy w' (some b) → wpList Tryz.prog ops Q rest (a.put o.dst undef) w') : wpList Tryz.prog ops Q (o :: rest) a w := by
  refine wpList_plain hg fun K' hK' => ?_
  obtain ⟨w', hrun, r1, r2, r3⟩ := put_dir hown hl hs i
  unfold Oper.wp
  simp [execOp, hop, hm, hx, hv, hrun, Result.andThen]
  exact hK' _ _ (hK w' r1 r2)
theorem apply_any {w : World} {loc : Nat → Nat} {b n : Nat} {d : Fs.Dir} {c : Fs.Chg} (hown : OwnsDir w loc b d) (hd : Fs.DirOk n d) (hc : Fs.ChgOk n c d) :
    Calls Tryz.prog 56 #[chgV loc c, .map (some b)] w fun e w' => e = .returned (.tuple #[]) ∧ OwnsDir w' loc b (Fs.apply c d) ∧ w.grownBy w' (some b) := by
  have hlt := hown.lt
  have hfew := hd.few
  have hf20 := hc.frm
  have ht20 : c.to.length ≤ 20 := by rcases hc.to with h | h; simp [h]; exact (Fs.may_le h).2
  have hsf : (bs c.frm).size ≤ maxLen := by rw [bs_len]; unfold maxLen; omega
  have hst : (bs c.to).size ≤ maxLen := by rw [bs_len]; unfold maxLen; omega
  have ha : ∀ o, OwnsDir (w.alloc o) loc b d := fun o => hown.same (Below.heap_alloc _ _ _ hlt)
  have hl : ∀ o, (Instr.lookup 72 (.map (some b)) (.string (bs c.frm)) false).run Tryz.prog (w.alloc o) = .ok (ptrV loc (Fs.dget d c.frm)) (w.alloc o) := fun o => look_dir (ha o) hsf
  have hgw : ∀ o, w.grownBy (w.alloc o) (some b) := fun o => World.grownBy_alloc w o _
  have ef : (!(bs c.frm).toList.isEmpty) = decide (c.frm ≠ []) := by rw [Lib.toList_data]; show (!c.frm.isEmpty) = _; cases c.frm <;> simp
  have et : (!(bs c.to).toList.isEmpty) = decide (c.to ≠ []) := by rw [Lib.toList_data]; show (!c.to.isEmpty) = _; cases c.to <;> simp
  have HF := Lib.hid (show (bs c.frm).data.toList = c.frm from rfl)
  have HT := Lib.hid (show (bs c.to).data.toList = c.to from rfl)
  unfold chgV
  by_cases h1 : c.frm = [] <;> by_cases h2 : c.to = []
  · rw [Fs.apply_none h1 h2]
    obtain ⟨i, hi, e, _⟩ := hc.make h1
    rw [e, ptrV_some]
    simp only [h1, h2, ne_eq, not_true_eq_false, decide_false] at ef et
    rw [← h1] at ef
    rw [← h2] at et
    have H1 := Lib.hid h1; have H2 := Lib.hid h2; have E := Lib.hid e; clear h1 h2 e hl
    generalize bs c.frm = sf at hsf ef HF ⊢
    generalize bs c.to = st at hst et HT ⊢
    go_enter Tryz.func56, Tryz.ntmps56
    go_wp2
    go_end0
    exact ⟨rfl, ha _, hgw _⟩
  · obtain ⟨i, hi, e, _⟩ := hc.make h1
    rw [Fs.apply_mk (n := n) h1 h2 e]
    rw [e, ptrV_some]
    have ef' : (!(bs c.frm).toList.isEmpty) = false := by rw [ef]; simp [h1]
    have et' : (!(bs c.to).toList.isEmpty) = true := by rw [et]; simp [h2]
    have H1 := Lib.hid h1; have H2 := Lib.hid h2; have E := Lib.hid e; clear h1 h2 e hl ef et
    generalize bs c.frm = sf at hsf ef' HF ⊢
    generalize bs c.to = st at hst et' HT ⊢
    go_enter Tryz.func56, Tryz.ntmps56
    go_wp2_with (at_mapUpdate; refine wpList_put_dir rfl _ _ _ rfl b loc d i rfl (ha _) hfew st rfl rfl hst ?_; intro w1 ho1 hg1)
    go_end0
    exact ⟨rfl, by rw [HT.out] at ho1; exact ho1, grown_trans (hgw _) hg1⟩
  · rw [Fs.apply_rm h1 h2]
    obtain ⟨e0, i, e⟩ := hc.has h1
    rw [e0, ptrV_none]
    rw [e, ptrV_some] at hl
    have ef' : (!(bs c.frm).toList.isEmpty) = true := by rw [ef]; simp [h1]
    have et' : (!(bs c.to).toList.isEmpty) = false := by rw [et]; simp [h2]
    have H1 := Lib.hid h1; have H2 := Lib.hid h2; have E := Lib.hid e; have E0 := Lib.hid e0; clear h1 h2 e e0 ef et
    generalize bs c.frm = sf at hsf ef' HF hl ⊢
    generalize bs c.to = st at hst et' HT ⊢
    go_enter Tryz.func56, Tryz.ntmps56
    go_wp2_with (at_delete; refine wpList_del_dir rfl _ _ rfl b loc d rfl (ha _) sf rfl hsf ?_; intro w1 ho1 hg1; have hbx := (hg1.block w.heap.size (by simp) (fun e => by cases e; exact Nat.lt_irrefl _ hlt)).trans (heap_alloc_new w _); have q1 := cell_of hbx 1 rfl; have HX := Lib.hid hbx; clear hbx)
    go_end0
    exact ⟨rfl, by rw [HF.out] at ho1; exact ho1, grown_trans (hgw _) hg1⟩
  · obtain ⟨e0, i, e⟩ := hc.has h1
    rw [Fs.apply_mv h1 h2 e]
    rw [e0, ptrV_none]
    rw [e, ptrV_some] at hl
    have ef' : (!(bs c.frm).toList.isEmpty) = true := by rw [ef]; simp [h1]
    have et' : (!(bs c.to).toList.isEmpty) = true := by rw [et]; simp [h2]
    have hdl : (Fs.ddel d (bs c.frm).data.toList).length ≤ 60 := Nat.le_trans (Fs.del_len _) hfew
    have H1 := Lib.hid h1; have H2 := Lib.hid h2; have E := Lib.hid e; have E0 := Lib.hid e0; clear h1 h2 e e0 ef et
    generalize bs c.frm = sf at hsf ef' HF hl hdl ⊢
    generalize bs c.to = st at hst et' HT ⊢
    go_enter Tryz.func56, Tryz.ntmps56
    go_wp2_with (first
      | (at_delete; refine wpList_del_dir rfl _ _ rfl b loc d rfl (ha _) sf rfl hsf ?_; intro w1 ho1 hg1; have hbx := (hg1.block w.heap.size (by simp) (fun e => by cases e; exact Nat.lt_irrefl _ hlt)).trans (heap_alloc_new w _); have q1 := cell_of hbx 1 rfl; have HX := Lib.hid hbx; clear hbx)
      | (at_mapUpdate; refine wpList_put_dir rfl _ _ _ rfl b loc _ i rfl ho1 hdl st rfl rfl hst ?_; intro w2 ho2 hg2))
    go_end0
    exact ⟨rfl, by rw [HF.out, HT.out] at ho2; exact ho2, grown_trans (grown_trans (hgw _) hg1) hg2⟩
theorem settle_any {w : World} {p bn bs' b : Nat} {pv : Value} {q f : Int} {dd : Bool} {loc : Nat → Nat} {d : Fs.Dir} (hp : w.heap[p]? = some (diskObj bn bs' pv q f dd)) (ho : OwnsDir w loc b d) :
    Calls Tryz.prog 59 #[.pointer (some ⟨p, 0, none⟩), .map (some b)] w fun e w' => e = .returned (.tuple #[]) ∧ w'.heap[p]? = some (diskObj b w.heap.size (.slice none 0 0) q f dd) ∧ OwnsDir w' loc b d ∧ OwnsDir w' loc w.heap.size d ∧ w.grownBy w' (some p) ∧ w'.heap.size = w.heap.size + 1 := by
  have hpl := heap_lt hp
  have hbp : b ≠ p := fun e => by obtain ⟨es, c, hb⟩ := ho.isMap; rw [e, hp] at hb; cases hb
  have c0 := cell_of hp 0 rfl
  have c1 := cell_of hp 1 rfl
  obtain ⟨v2, c2⟩ : ∃ v2, w.cell? ⟨p, 2, none⟩ = some v2 := ⟨_, cell_of hp 2 rfl⟩
  have f0 := frozen_of hp 0
  have f1 := frozen_of hp 1
  have f2 := frozen_of hp 2
  have ho1 : OwnsDir (w.setCell ⟨p, 0, none⟩ (.map (some b))) loc b d := ho.same (Below.heap_setCell _ _ _ _ hbp)
  have hc := clone_dir ho1
  have e1 : (w.setCell ⟨p, 0, none⟩ (.map (some b))).heap.size = w.heap.size := by simp [World.setCell]
  rw [e1] at hc
  have HE := Lib.hid e1; clear e1
  go_enter Tryz.func59, Tryz.ntmps59
  go_wp2_with (go_at_call 54; refine hc.mono ?_; rintro e w1 ⟨rfl, es, clock, rfl, ho2⟩)
  go_end0
  have hs : (((w.setCell ⟨p, 0, none⟩ (.map (some b))).setCell ⟨p, 1, none⟩ (.map (some w.heap.size))).setCell ⟨p, 2, none⟩ (.slice none 0 0)).heap.size = w.heap.size := by simp [World.setCell]
  have hg := grown_trans (grown_trans (grown_setCell w p 0 (.map (some b))) (grown_setCell _ p 1 (.map (some w.heap.size)))) (grown_setCell _ p 2 (.slice none 0 0))
  have hb := heap_set (o := 2) (v := .slice none 0 0) (heap_set (o := 1) (v := .map (some w.heap.size)) (heap_set (o := 0) (v := .map (some b)) hp))
  generalize (((w.setCell ⟨p, 0, none⟩ (.map (some b))).setCell ⟨p, 1, none⟩ (.map (some w.heap.size))).setCell ⟨p, 2, none⟩ (.slice none 0 0)) = W at hs hg hb ⊢
  refine ⟨rfl, (Below.heap_alloc _ _ _ (by omega)).trans hb, ho.same ((Below.heap_alloc _ _ _ (by have := ho.lt; omega)).trans (hg.block b ho.lt (fun e => hbp (by simpa using e)))), ho2.same ?_, grown_trans hg (World.grownBy_alloc W _ _), by simp [hs]⟩
  have e1 := heap_alloc_new W (.map es clock)
  have e2 := heap_alloc_new (w.setCell ⟨p, 0, none⟩ (.map (some b))) (.map es clock)
  rw [hs] at e1
  rw [HE.out] at e2
  exact e1.trans e2.symm
/-- the directory of now and the sure one are one; nothing is pending -/
theorem IsDisk.settle {K : Nat → Prop} {w w' : World} {p b : Nat} {G : Gh} {m : Fs.Dsk} {d : Fs.Dir} (h : IsDisk K w p G m) (hp : w'.heap[p]? = some (diskObj b w.heap.size (.slice none 0 0) m.quota m.fuse m.dead)) (ho : OwnsDir w' G.loc b d) (hn : OwnsDir w' G.loc w.heap.size d) (hg : w.grownBy w' (some p))
    (hb : ¬ K b) (hbl : b < w.heap.size) (hgood : Fs.Good { m with names := d, sure := d, pend := [] }) : IsDisk K w' p { G with bn := b, bs := w.heap.size, pv := .slice none 0 0 } { m with names := d, sure := d, pend := [] } := by
  have o : ∀ b, b < w.heap.size → b ≠ p → w'.heap[b]? = w.heap[b]? := fun b hb hne => hg.block b hb (fun e => hne (by simpa using e))
  exact
  { good := hgood
    blk := hp
    names := ho
    sure := hn
    pend := World.ownsRow_nil _ _ _ _
    files := fun i hi => ⟨(o _ (heap_lt (h.files i hi).blk) (h.p_loc hi)).trans (h.files i hi).blk, own_same (h.files i hi).own (fun r hr => o r ((h.files i hi).own.lt r hr).2 (h.p_rv hi hr)), (h.files i hi).nk, (h.files i hi).nr⟩
    inj := h.inj
    rows := h.rows
    ne := Nat.ne_of_lt hbl
    np := h.np
    nbn := hb
    nbs := fun hk => Nat.lt_irrefl _ (h.lt _ hk)
    npv := fun r hr => by cases hr
    lt := fun b hb => Nat.lt_of_lt_of_le (h.lt b hb) hg.size }
theorem syncDir_any {K : Nat → Prop} {w : World} {p : Nat} {G : Gh} {m : Fs.Dsk} (h : IsDisk K w p G m) :
    Calls Tryz.prog 49 #[.pointer (some ⟨p, 0, none⟩)] w (DkRet K w p (Fs.syncDir m)) := by
  have hgd := h.good.syncDir
  have hc := burn_any h
  unfold Fs.syncDir at hgd ⊢
  rcases Fs.burn_res m with ⟨hb, _⟩ | ⟨hb, _⟩
  · rw [if_pos hb] at hgd ⊢
    rw [hb] at hc
    clear hb
    obtain ⟨e1, e2, e3, e4, e5⟩ := Fs.burn_files m
    rw [← e2] at hgd ⊢
    clear e1 e2 e3 e4 e5
    have HG := Lib.hid hgd; clear hgd
    generalize Fs.burn m = r at hc HG ⊢
    obtain ⟨m1, r1⟩ := r
    go_enter Tryz.func49, Tryz.ntmps49
    go_wp2_with (first
      | (go_at_call 72; refine hc.mono ?_; rintro e w1 ⟨rfl, h1, k1⟩; obtain ⟨c0, c1, c2, c3, c4, c5⟩ := h1.cells)
      | (go_at_call 59; refine (settle_any h1.blk h1.names).mono ?_; rintro e w2 ⟨rfl, s1, s2, s3, s4, s5⟩; have HS1 := Lib.hid s1; have HS5 := Lib.hid s5; clear s1 s5))
    go_ret
    exact ⟨rfl, ⟨_, h1.settle HS1.out s2 s3 s4 h1.nbn h1.names.lt HG.out⟩, k1.trans (h1.kp s4)⟩
  · rw [if_neg (by rw [hb]; decide)]
    have HB2 := Lib.hid hb
    rw [hb] at hc
    clear hb hgd
    go_enter Tryz.func49, Tryz.ntmps49
    go_wp2_with (go_at_call 72; refine hc.mono ?_; rintro e w1 ⟨rfl, h1, k1⟩)
    go_ret
    exact ⟨by rw [HB2.out]; rfl, ⟨G, h1⟩, k1⟩
end Go.Proofs.YtlkcdcpdccmodaaGreatDoor
