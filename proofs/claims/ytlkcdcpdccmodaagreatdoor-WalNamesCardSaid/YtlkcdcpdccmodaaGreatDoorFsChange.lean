/-
  What the methods of package fs do that change the directory: change, Create, Rename, Remove.
-/
import Derived.Test.YtlkcdcpdccmodaaGreatDoorFsChg
namespace Go.Proofs.YtlkcdcpdccmodaaGreatDoor
open Go.ChangeShapes Go.WideShapes Go.ChangeAt Go.RowKit Go.Maps
set_option linter.unusedVariables false
set_option maxRecDepth 100000
set_option maxHeartbeats 400000

theorem IsDisk.chg {K : Nat → Prop} {w w' : World} {p : Nat} {G : Gh} {m : Fs.Dsk} {pv' : Value} {d : Fs.Dir} {l : List Fs.Chg} (h : IsDisk K w p G m) (hp : w'.heap[p]? = some (diskObj G.bn G.bs pv' m.quota m.fuse m.dead)) (hn : OwnsDir w' G.loc G.bn d)
    (hr : w'.ownsRow 0 91 3 pv' l.length (pendCells G.loc l)) (ho : ∀ b, b < w.heap.size → b ≠ p → b ≠ G.bn → G.pv.ownBlock ≠ some b → w'.heap[b]? = w.heap[b]?) (hv : ∀ r, pv'.ownBlock = some r → G.pv.ownBlock = some r ∨ w.heap.size ≤ r)
    (hs : w.heap.size ≤ w'.heap.size) (hgood : Fs.Good { m with names := d, pend := l }) : IsDisk K w' p { G with pv := pv' } { m with names := d, pend := l } :=
  { good := hgood
    blk := hp
    names := hn
    sure := h.sure.same (ho _ h.sure.lt h.p_bs h.ne.symm (fun e => h.v_bs e rfl))
    pend := hr
    files := fun i hi => ⟨(ho _ (heap_lt (h.files i hi).blk) (h.p_loc hi) (h.l_bn hi).symm (fun e => h.l_pv hi e rfl)).trans (h.files i hi).blk, own_same (h.files i hi).own (fun r hr => ho r ((h.files i hi).own.lt r hr).2 (h.p_rv hi hr) (h.r_bn hi hr) (h.r_pv hi hr)), (h.files i hi).nk, (h.files i hi).nr⟩
    inj := h.inj
    rows := h.rows
    ne := h.ne
    np := h.np
    nbn := h.nbn
    nbs := h.nbs
    npv := fun r hr' hk => by
      rcases hv r hr' with h1 | h1
      · exact h.npv r h1 hk
      · have := h.lt r hk; omega
    lt := fun b hb => Nat.lt_of_lt_of_le (h.lt b hb) hs }
theorem infoChg : (Tryz.prog.info? 91).map (fun i => (i.zero, i.size, i.bytes)) = some (some (.agg #[.string ByteArray.empty, .string ByteArray.empty, .pointer none]), 3, 40) := by kernel_rfl
theorem pendCells_snoc (loc : Nat → Nat) (l : List Fs.Chg) (c : Fs.Chg) : pendCells loc (l ++ [c]) = pendCells loc l ++ [.string (bs c.frm), .string (bs c.to), ptrV loc c.made] := by
  simp [pendCells, chgCells, bs]
theorem chg_end {K : Nat → Prop} {w1 w2 w3 : World} {p g cap : Nat} {G : Gh} {m : Fs.Dsk} {c : Fs.Chg} {o : Obj} {d : Fs.Dir} (h : IsDisk K w1 p G m) (hn : OwnsDir w2 G.loc G.bn d) (hg2 : w1.drew.grownBy w2 (some G.bn))
    (hown : w3.ownsRow 0 91 3 (.slice (some ⟨g, 0, none⟩) (m.pend.length + 1) cap) (m.pend.length + 1) (pendCells G.loc m.pend ++ [.string (bs c.frm), .string (bs c.to), ptrV G.loc c.made])) (hg3 : (w2.alloc o).drew.grownBy w3 G.pv.ownBlock)
    (hat : G.pv.ownBlock = some g ∨ g = w2.heap.size + 1) (hp : w3.heap[p]? = some (diskObj G.bn G.bs G.pv m.quota m.fuse m.dead)) (hgood : Fs.Good { m with names := d, pend := m.pend ++ [c] }) :
    IsDisk K (w3.setCell ⟨p, 2, none⟩ (.slice (some ⟨g, 0, none⟩) (m.pend.length + 1) cap)) p { G with pv := .slice (some ⟨g, 0, none⟩) (m.pend.length + 1) cap } { m with names := d, pend := m.pend ++ [c] } ∧ Kp K w1 (w3.setCell ⟨p, 2, none⟩ (.slice (some ⟨g, 0, none⟩) (m.pend.length + 1) cap)) := by
  have s12 : w1.heap.size ≤ w2.heap.size := hg2.size
  have s23 : w2.heap.size + 1 ≤ w3.heap.size := by have := hg3.size; simpa using this
  have hpl := heap_lt h.blk
  have b12 : ∀ b, b < w1.heap.size → b ≠ G.bn → w2.heap[b]? = w1.heap[b]? := fun b hb hne => hg2.block b hb (fun e => hne (by simpa using e))
  have b23 : ∀ b, b < w2.heap.size → G.pv.ownBlock ≠ some b → w3.heap[b]? = w2.heap[b]? := fun b hb hne => (hg3.block b (by show b < (w2.alloc o).heap.size; simp; omega) (fun e => hne e.symm)).trans (Below.heap_alloc _ _ _ hb)
  have hsz : w1.heap.size ≤ (w3.setCell ⟨p, 2, none⟩ (.slice (some ⟨g, 0, none⟩) (m.pend.length + 1) cap)).heap.size := by simp [World.setCell]; omega
  have ho : ∀ b, b < w1.heap.size → b ≠ p → b ≠ G.bn → G.pv.ownBlock ≠ some b → (w3.setCell ⟨p, 2, none⟩ (.slice (some ⟨g, 0, none⟩) (m.pend.length + 1) cap)).heap[b]? = w1.heap[b]? := fun b hb h1 h2 h3 =>
    (Below.heap_setCell _ _ _ _ h1).trans ((b23 b (by omega) h3).trans (b12 b hb h2))
  refine ⟨h.chg (heap_set hp) (hn.same ((Below.heap_setCell _ _ _ _ h.p_bn).trans (b23 _ hn.lt (fun e => h.v_bn e rfl)))) ?_ ho ?_ hsz hgood, ⟨hg3.os.trans hg2.os, hg3.tape.trans hg2.tape, hg3.output.trans hg2.output, hsz, fun b hb => ho b (h.lt b hb) (fun e => h.np (e ▸ hb)) (fun e => h.nbn (e ▸ hb)) (fun e => h.npv b e hb)⟩⟩
  · rw [pendCells_snoc, List.length_append]
    refine own_same hown (fun r hr => Below.heap_setCell _ _ _ _ ?_)
    simp [Value.ownBlock] at hr
    rcases hat with h1 | h1
    · exact fun e => h.p_pv h1 (by simp only at e; omega)
    · simp only; omega
  · intro r hr
    simp [Value.ownBlock] at hr
    rcases hat with h1 | h1
    · exact .inl (by rw [← hr]; exact h1)
    · right; omega
set_option maxRecDepth 100000 in
theorem change_any {K : Nat → Prop} {w : World} {p : Nat} {G : Gh} {m : Fs.Dsk} {c : Fs.Chg} (h : IsDisk K w p G m) (hc : Fs.ChgOk m.files.length c m.names) (hl : (Fs.apply c m.names).length ≤ 60) (hp : m.pend.length < 1099511627776) :
    Calls Tryz.prog 81 #[.pointer (some ⟨p, 0, none⟩), chgV G.loc c] w (DkRet K w p (Fs.change m c)) := by
  have hgd := h.good.change hc hl hp
  have hdo := h.good.dir
  unfold chgV
  have hka : ∀ o, Kept w (w.alloc o) := fun o => (Kept.refl w).alloc o
  obtain ⟨pm, hpm⟩ : ∃ pm, ptrV G.loc c.made = .pointer pm := ⟨_, rfl⟩
  have hav : chgV G.loc c = .agg #[.string (bs c.frm), .string (bs c.to), .pointer pm] := by unfold chgV; rw [hpm]
  rw [hpm]
  have HP := Lib.hid hpm; clear hpm
  have h0 := h.wide (hka (.cells #[.string (bs c.frm), .string (bs c.to), .pointer pm] 91))
  have hcb := burn_any h0
  unfold Fs.change at hgd ⊢
  rcases Fs.burn_res m with ⟨hb, _⟩ | ⟨hb, _⟩
  · rw [if_pos hb] at hgd ⊢
    rw [hb] at hcb
    clear hb
    obtain ⟨x1, x2, x3, x4, x5⟩ := Fs.burn_files m
    rw [← x2, ← x4] at hgd ⊢
    rw [← x1, ← x2] at hc
    rw [← x2] at hl
    rw [← x1, ← x2] at hdo
    rw [← x4] at hp
    clear x1 x2 x3 x4 x5
    have HG := Lib.hid hgd; clear hgd
    generalize Fs.burn m = r at hcb HG hc hl hp hdo ⊢
    obtain ⟨m1, r1⟩ := r
    simp only at hc hl hp hdo
    have HAV := Lib.hid hav; clear hav
    go_enter Tryz.func81, Tryz.ntmps81
    go_wp2_with (go_at_call 72; refine hcb.mono ?_; rintro e w1 ⟨rfl, h1, k1⟩; obtain ⟨c0, c1, c2, c3, c4, c5⟩ := h1.cells; have hbx := (k1.block w.heap.size (.inr ⟨Nat.le_refl _, by simp⟩)).trans (heap_alloc_new w _); have q0 := cell_of hbx 0 rfl; have q1 := cell_of hbx 1 rfl; have q2 := cell_of hbx 2 rfl; have HX := Lib.hid hbx; clear hbx; simp only [List.getElem_toArray, List.getElem_cons_zero, List.getElem_cons_succ] at q0 q1 q2)
    go_region_with (go_at_call 56; have ha := apply_any (w := w1.drew) (h1.names.same rfl) hdo hc; rw [HAV.out] at ha; refine ha.mono ?_; rintro e w2 ⟨rfl, hn2, hg2⟩)
    all_goals
      have p2 : w2.heap[p]? = some (diskObj G.bn G.bs G.pv m1.quota m1.fuse m1.dead) := (hg2.block p (heap_lt h1.blk) (fun e => h1.p_bn (by simpa using e.symm))).trans h1.blk
      have b2 : w2.heap[w.heap.size]? = some (.cells #[.string (bs c.frm), .string (bs c.to), .pointer pm] 91) := (hg2.block w.heap.size (heap_lt HX.out) (fun e => by obtain ⟨es, ck, hm⟩ := h1.names.isMap; have e' : w.heap.size = G.bn := by { simpa using e }; rw [← e', HX.out] at hm; cases hm)).trans HX.out
      have o2 : w2.ownsRow 0 91 3 G.pv m1.pend.length (pendCells G.loc m1.pend) := own_same h1.pend (fun r hr => hg2.block r (h1.pend.lt r hr).2 (fun e => h1.v_bn hr (by simpa using e)))
      have r2 := cell_of p2 2 rfl
      have t0 := cell_of b2 0 rfl
      have t1 := cell_of b2 1 rfl
      have t2 := cell_of b2 2 rfl
      simp only [List.getElem_toArray, List.getElem_cons_zero, List.getElem_cons_succ] at r2 t0 t1 t2
      have P2 := Lib.hid p2
      have B2 := Lib.hid b2
      clear p2 b2
      obtain ⟨i0, hi, hz0, hz1, hz2⟩ := info_parts infoChg
      have HI := Lib.hid hi; have HZ0 := Lib.hid hz0; have HZ1 := Lib.hid hz1; have HZ2 := Lib.hid hz2
      clear hi hz0 hz1 hz2
      have HN : ∀ o, (w2.alloc o).drew.ownsRow 0 91 3 G.pv m1.pend.length (pendCells G.loc m1.pend) := fun o => own_same o2 (fun r hr => Below.heap_alloc _ _ _ (o2.lt r hr).2)
      have r3 : ∀ o, (w2.alloc o).cell? ⟨p, 2, none⟩ = some G.pv := fun o => cell_of ((Below.heap_alloc _ _ _ (heap_lt P2.out)).trans P2.out) 2 rfl
      go_wp2
      go_region_law (refine step_append_lies (w2.alloc (.cells #[.string (bs c.frm), .string (bs c.to), .pointer pm] 91)).drew rfl (.tmp 21) (.tmp 23) 73 rfl 0 91 i0 (.agg #[.string ByteArray.empty, .string ByteArray.empty, .pointer none]) 3 40 Tryz.underlying73 HI.out HZ0.out HZ1.out HZ2.out rfl (by decide) G.pv m1.pend.length (pendCells G.loc m1.pend) (by simp [Act.eval]) (HN _) ⟨w2.heap.size, 0, none⟩ 1 1 [.string (bs c.frm), .string (bs c.to), .pointer pm] (by simp [Act.eval]) rfl (World.news_of_block (heap_alloc_new w2 _)) (by simp [Value.oneCell']) (by decide) (by unfold maxLen; omega) (by omega) (Nat.zero_le _) (w2.heap.size + 1) (by simp) ?_; intro g cap w3 hown3 hg3 hat3 hlt3; have p3 : w3.heap[p]? = some (diskObj G.bn G.bs G.pv m1.quota m1.fuse m1.dead) := (hg3.block p (by have := heap_lt P2.out; simp; omega) (fun e => by have hm := own_blk o2 e.symm; obtain ⟨cc, hm⟩ := hm; rw [P2.out] at hm; cases hm)).trans ((Below.heap_alloc _ _ _ (heap_lt P2.out)).trans P2.out); have s2 := cell_of p3 2 rfl; have s3 := frozen_of p3 2; have P3 := Lib.hid p3; clear p3)
      all_goals
        go_wp2
        go_ret
        rw [← HP.out] at hown3
        obtain ⟨hd, hk⟩ := chg_end h1 hn2 hg2 hown3 hg3 hat3 P3.out HG.out
        exact ⟨rfl, ⟨_, hd.narrow (fun b hb => .inl hb)⟩, (kp_kept (hka _) h.lt).trans ((k1.trans hk).mono (fun b hb => .inl hb))⟩
  · rw [if_neg (by rw [hb]; decide)]
    have HB2 := Lib.hid hb
    rw [hb] at hcb
    clear hb hgd
    go_enter Tryz.func81, Tryz.ntmps81
    go_wp2_with (go_at_call 72; refine hcb.mono ?_; rintro e w1 ⟨rfl, h1, k1⟩)
    go_ret
    exact ⟨by rw [HB2.out]; rfl, ⟨G, h1.narrow (fun b hb => .inl hb)⟩, (kp_kept (hka _) h.lt).trans (k1.mono (fun b hb => .inl hb))⟩
end Go.Proofs.YtlkcdcpdccmodaaGreatDoor
