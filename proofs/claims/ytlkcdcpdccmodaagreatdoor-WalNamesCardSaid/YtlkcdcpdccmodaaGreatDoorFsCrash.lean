/-
  What New and Crash of package fs do.
-/
import Derived.Test.YtlkcdcpdccmodaaGreatDoorFsCreate
import Derived.Test.YtlkcdcpdccmodaaGreatDoorFsCut
namespace Go.Proofs.YtlkcdcpdccmodaaGreatDoor
open Go.ChangeShapes Go.WideShapes Go.ChangeAt Go.RowKit Go.Maps
set_option linter.unusedVariables false
set_option maxRecDepth 100000
set_option maxHeartbeats 400000

theorem new_any {K : Nat → Prop} {w : World} (hK : ∀ b, K b → b < w.heap.size) :
    Calls Tryz.prog 10 #[] w fun e w' => ∃ p, e = .returned (.pointer (some ⟨p, 0, none⟩)) ∧ Dk K w' p Fs.new ∧ Kp K w w' := by
  have hmm := @run_makeMap Tryz.prog
  go_enter Tryz.func10, Tryz.ntmps10
  go_wp2
  go_ret
  have hk : Kept w (((w.alloc (.map #[] 0)).alloc (.map #[] 0)).alloc (diskObj w.heap.size (w.heap.size + 1) (.slice none 0 0) 1048576 (-1) false)) := (((Kept.refl w).alloc _).alloc _).alloc _
  refine ⟨w.heap.size + 2, rfl, ⟨⟨fun _ => 0, fun _ => .slice none 0 0, w.heap.size, w.heap.size + 1, .slice none 0 0⟩, ?_⟩, kp_kept hk hK⟩
  have ow : ∀ b (W : World), W.heap[b]? = some (.map #[] 0) → OwnsDir W (fun _ => 0) b [] := fun b W hb => by
    obtain ⟨es, ck, h1, F, h3, h4⟩ := World.ownsMap_made w Tryz.prog 9 ptrElem
    have e : (w.alloc (.map #[] 0)).heap[w.heap.size]? = some (.map #[] 0) := heap_alloc_new w _
    rw [e] at h1
    cases h1
    exact ⟨#[], 0, hb, F, h3, h4⟩
  have b0 : (((w.alloc (.map #[] 0)).alloc (.map #[] 0)).alloc (diskObj w.heap.size (w.heap.size + 1) (.slice none 0 0) 1048576 (-1) false)).heap[w.heap.size]? = some (.map #[] 0) :=
    (Below.heap_alloc _ _ _ (by simp; omega)).trans ((Below.heap_alloc _ _ _ (by simp)).trans (heap_alloc_new w _))
  have b1 : (((w.alloc (.map #[] 0)).alloc (.map #[] 0)).alloc (diskObj w.heap.size (w.heap.size + 1) (.slice none 0 0) 1048576 (-1) false)).heap[w.heap.size + 1]? = some (.map #[] 0) :=
    (Below.heap_alloc _ _ _ (by simp)).trans (by have := heap_alloc_new (w.alloc (.map #[] 0)) (.map #[] 0); simpa using this)
  have b2 : (((w.alloc (.map #[] 0)).alloc (.map #[] 0)).alloc (diskObj w.heap.size (w.heap.size + 1) (.slice none 0 0) 1048576 (-1) false)).heap[w.heap.size + 2]? = some (diskObj w.heap.size (w.heap.size + 1) (.slice none 0 0) 1048576 (-1) false) := by
    have := heap_alloc_new ((w.alloc (.map #[] 0)).alloc (.map #[] 0)) (diskObj w.heap.size (w.heap.size + 1) (.slice none 0 0) 1048576 (-1) false)
    simpa using this
  exact
  { good := Fs.good_new
    blk := b2
    names := ow _ _ b0
    sure := ow _ _ b1
    pend := World.ownsRow_nil _ _ _ _
    files := fun i hi => by simp [Fs.new] at hi
    inj := fun i j hi => by simp [Fs.new] at hi
    rows := fun i j r hi => by simp [Fs.new] at hi
    ne := by simp
    np := fun h => by have := hK _ h; omega
    nbn := fun h => by have := hK _ h; simp at this
    nbs := fun h => by have := hK _ h; simp at this; omega
    npv := fun r hr => by cases hr
    lt := fun b hb => Nat.lt_of_lt_of_le (hK b hb) (Below.size hk) }
theorem quiet_f {P : Program} {f : FuncId} {args : Array Value} {w : World} {n : Nat} {v : Value} (h : Calls P f args (w.drewN n) fun e w' => e = .returned v ∧ w.drewN n = w') :
    Calls P f args (w.drewN n) fun e w' => e = .returned v ∧ ∃ k, w' = w.drewN k := h.mono fun e w' ⟨he, hw⟩ => ⟨he, n, hw.symm⟩
theorem own_dir_kept {w w' : World} {loc : Nat → Nat} {b : Nat} {d : Fs.Dir} (h : OwnsDir w loc b d) (hk : Kept w w') : OwnsDir w' loc b d := h.same (Below.block hk b h.lt)
/-- a list of numbers that is handed over -/
def IntsAt (K : Nat → Prop) (w : World) (v : Value) (l : List Int) : Prop :=
  ∃ a cap, v = .slice a l.length cap ∧ (l ≠ [] → ∃ b off, a = some ⟨b, off, none⟩ ∧ K b ∧ ∀ j (hj : j < l.length), w.cell? ⟨b, off + j, none⟩ = some (.int .i64 l[j]))
theorem pend_cells (loc : Nat → Nat) : ∀ (l : List Fs.Chg) (j : Nat) (c : Fs.Chg), l[j]? = some c → (pendCells loc l)[j * 3]? = some (.string (bs c.frm)) ∧ (pendCells loc l)[j * 3 + 1]? = some (.string (bs c.to)) ∧ (pendCells loc l)[j * 3 + 2]? = some (ptrV loc c.made)
  | [], _, _, h => by simp at h
  | c0 :: r, 0, c, h => by simp at h; subst h; simp [pendCells, chgCells, bs]
  | c0 :: r, j + 1, c, h => by
    have ih := pend_cells loc r j c (by simpa using h)
    have e : pendCells loc (c0 :: r) = chgCells loc c0 ++ pendCells loc r := by simp [pendCells]
    have hl : (chgCells loc c0).length = 3 := rfl
    have g : ∀ k, (pendCells loc (c0 :: r))[(j + 1) * 3 + k]? = (pendCells loc r)[j * 3 + k]? := fun k => by
      rw [e, List.getElem?_append_right (by rw [hl]; omega), hl]; congr 1; omega
    exact ⟨(g 0).trans ih.1, (g 1).trans ih.2.1, (g 2).trans ih.2.2⟩
set_option maxRecDepth 100000 in
set_option maxHeartbeats 2000000 in
theorem crash_any {K : Nat → Prop} {w : World} {p : Nat} {G : Gh} {m : Fs.Dsk} (h : IsDisk K w p G m) (n : Int) (kv : Value) (keep : List Int) (hkl : keep.length ≤ 9223372036854775807) (hkv : IntsAt K w kv keep) :
    Calls Tryz.prog 23 #[.pointer (some ⟨p, 0, none⟩), .int .i64 n, kv] w fun e w' => e = .returned (.tuple #[]) ∧ Dk K w' p (Fs.crash m n keep) ∧ Kp K w w' := by
  obtain ⟨c0, c1, c2, c3, c4, c5⟩ := h.cells
  obtain ⟨ka, kc, rfl, hkc⟩ := hkv
  have hpl := h.good.pend
  have hcl : Calls Tryz.prog 54 #[.map (some G.bs)] w fun e w' => e = .returned (.map (some w.heap.size)) ∧ Kept w w' ∧ w.heap.size < w'.heap.size ∧ OwnsDir w' G.loc w.heap.size m.sure := (clone_dir h.sure).mono fun e w' ⟨he, es, ck, hw, ho⟩ => ⟨he, by rw [hw]; exact (Kept.refl w).alloc _, by rw [hw]; simp, ho⟩
  obtain ⟨pa, pc, hsh⟩ := own_shape h.pend
  have hpc : m.pend.length ≤ pc := by
    rcases h.pend.2 with ⟨e, e0⟩ | ⟨g', cap', cur, e, _, _, hnc, _⟩
    · omega
    · rw [e] at hsh; cases hsh; exact hnc
  have hwd := Fs.within_bd n m.pend.length (by omega)
  obtain ⟨T, hT⟩ : ∃ T : Nat, (T : Int) = Fs.within n m.pend.length := ⟨(Fs.within n m.pend.length).toNat, by omega⟩
  have hTl : T ≤ m.pend.length := by omega
  have hkept : Fs.keptOf m n = Fs.applyAll m.sure (m.pend.take T) := by unfold Fs.keptOf; rw [← hT]; rfl
  rw [hsh] at c2
  have HSH := Lib.hid hsh; have HK := Lib.hid hkept; have HT := Lib.hid hT
  clear hsh hkept hT hwd
  have hwi : ∀ W, Calls Tryz.prog 55 #[.int .i64 n, .int .i64 m.pend.length] W fun e w' => e = .returned (.int .i64 T) ∧ W = w' := fun W => by rw [HT.out]; exact within_any _ _ _
  go_enter Tryz.func23, Tryz.ntmps23
  go_wp2_with (go_at_call 54; refine hcl.mono ?_; rintro e w1 ⟨rfl, hk1, hs1, ho1⟩)
  have e2 : w1.cell? ⟨p, 2, none⟩ = some (.slice pa m.pend.length pc) := by have := (h.kept hk1).cells.2.2.1; rw [HSH.out] at this; exact this
  have hTc : (T : Int) ≤ (pc : Int) := by omega
  go_quiet ((go_at_call 55; exact quiet_f (hwi _)))
  go_wp2
  have hdo := Fs.okAll_dir h.good.all
  clear c0 c1 c2 c3 c4 c5 e2 hcl hwi
  go_loopw [30] (fun t wr => ∃ k : Nat, k ≤ T ∧ t = .int .i64 k ∧ Kept w wr ∧ w.heap.size < wr.heap.size ∧ OwnsDir wr G.loc w.heap.size (Fs.applyAll m.sure (m.pend.take k))) (fun t _ => T - (intOf t).toNat)
  case atStart => exact ⟨0, Nat.zero_le _, rfl, kept_trans hk1 (kept_drewN _ _), hs1, ho1⟩
  case round =>
    obtain ⟨k, hkT, rfl, hk, hsz, hod⟩ := hrel
    by_cases hlt : k < T
    · obtain ⟨c, hc⟩ : ∃ c, m.pend[k]? = some c := ⟨_, List.getElem?_eq_getElem (by omega)⟩
      obtain ⟨g, hpa, hcells⟩ : ∃ g, pa = some ⟨g, 0, none⟩ ∧ ∀ j v, (pendCells G.loc m.pend)[j]? = some v → wr.cell? ⟨g, j, none⟩ = some v := by
        have ho := own_kept h.pend hk
        rcases ho.2 with ⟨e, e0⟩ | ⟨g', cap', cur, e, _, hb, hnc, _, _, htk⟩
        · omega
        · have e2 := HSH.out
          rw [e] at e2
          injection e2 with e3 e4 e5
          refine ⟨g', e3.symm, fun j v hv => ?_⟩
          have hcur : cur[j]? = some v := by
            rw [← htk, List.getElem?_take] at hv
            split at hv
            · simpa using hv
            · cases hv
          exact cell_of hb j hcur
      subst hpa
      obtain ⟨q0, q1, q2⟩ := pend_cells G.loc m.pend k c hc
      obtain ⟨pm, hpm⟩ : ∃ pm, ptrV G.loc c.made = .pointer pm := ⟨_, rfl⟩
      have hav : chgV G.loc c = .agg #[.string (bs c.frm), .string (bs c.to), .pointer pm] := by unfold chgV; rw [hpm]
      rw [hpm] at q2
      have r0 := hcells _ _ q0
      have r1 := hcells _ _ q1
      have r2 := hcells _ _ q2
      have HCK := Lib.hid (Fs.okAll_get h.good.all hc)
      have HDK := Lib.hid (Fs.okAll_end (Fs.okAll_take k h.good.all))
      have HAT := Lib.hid (Fs.applyAll_take (d := m.sure) hc)
      have HAV := Lib.hid hav
      have HCE := Lib.hid hc
      clear hc hcells q0 q1 q2 hpm hav
      have hal : ∀ o, OwnsDir (wr.alloc o) G.loc w.heap.size (Fs.applyAll m.sure (m.pend.take k)) := fun o => hod.same (Below.heap_alloc _ _ _ hod.lt)
      have hap := fun o => apply_any (hal o) HDK.out HCK.out
      rw [HAV.out] at hap
      have HAP := Lib.hid hap; clear hap hal
      go_wp2_with (go_at_call 56; refine (HAP.out _).mono ?_; rintro e w2 ⟨rfl, ho2, hg2⟩)
      go_roundw
      case rel =>
        have hka : Kept w (wr.alloc (.cells #[.string (bs c.frm), .string (bs c.to), .pointer pm] 91)) := hk.alloc _
        exact ⟨k + 1, by omega, by go_num, Below.grown hka hg2 (Below.size hka) (fun j e => by cases e; exact Nat.le_refl _), Nat.lt_of_lt_of_le hsz (Nat.le_trans (by simp) hg2.size), by rw [HAT.out]; exact ho2⟩
      case measure => simp [intOf]; omega
    · have hkT' : k = T := by omega
      subst hkT'
      rw [← HK.out] at hod
      have hdk := Fs.keptOk h.good n
      have hri := rising_dir hod hdk.rise hdk.few
      generalize hd : Fs.keptOf m n = d at hod hdk hri
      have HD := Lib.hid hd; clear hd ho1 hk1 hs1
      go_wp2_with (go_at_call 57; refine hri.mono ?_; rintro e w2 ⟨v, rfl, hown2, hb2⟩; obtain ⟨va, vc, rfl⟩ := own_shape hown2)
      have hk2 : Kept w w2 := kept_trans hk hb2
      have hd2 := h.wide hk2
      have hod2 : OwnsDir w2 G.loc w.heap.size d := own_dir_kept hod hb2
      have hfew := hdk.few
      have hrow : d ≠ [] → ∃ r cur, va = some ⟨r, 0, none⟩ ∧ w.heap.size ≤ r ∧ w2.heap[r]? = some (.cells cur 9) ∧ ∀ (j : Nat) (hj : j < d.length), cur[j]? = some (.string (bs d[j].1)) := fun hne => by
        rcases hown2.2 with ⟨_, e0⟩ | ⟨r, cap, cur, e, hbs, hb, hnc, _, _, htk⟩
        · exact absurd (List.eq_nil_of_length_eq_zero e0) hne
        · cases e
          refine ⟨r, cur, rfl, by omega, hb, fun j hj => ?_⟩
          have e1 : (cur.toList.take (d.length * 1))[j]? = some (.string (bs d[j].1)) := by rw [htk]; simp [hj, bs]
          rw [List.getElem?_take] at e1
          split at e1
          · simpa using e1
          · cases e1
      have HR := Lib.hid hrow
      have HKC := Lib.hid hkc
      clear hri hod hb2 hown2 hrow hk hsz hkc hkT hlt hTc
      clear HK HT hdo
      clear wr
      go_loopw [41] (fun t wr => ∃ (k : Nat) (rv : Nat → Value), k ≤ d.length ∧ t = .int .i64 k ∧ IsDisk (fun b => K b ∨ (w.heap.size ≤ b ∧ b < w2.heap.size)) wr p { G with rv := rv } { m with files := Fs.cutsN d keep m.files k } ∧ Kp (fun b => K b ∨ (w.heap.size ≤ b ∧ b < w2.heap.size)) w2 wr) (fun t _ => d.length - (intOf t).toNat)
      case atStart => exact ⟨0, G.rv, Nat.zero_le _, rfl, hd2, Kp.refl _ _⟩
      case round =>
        obtain ⟨q, rv, hq, rfl, hdq, hkq⟩ := hrel
        have hodq : OwnsDir wr G.loc w.heap.size d := hod2.same (hkq.block _ (.inr ⟨Nat.le_refl _, hod2.lt⟩))
        by_cases hql : q < d.length
        · obtain ⟨r, cur, hva, hbr, hbk, hcur⟩ := HR.out (fun e => by rw [e] at hql; simp at hql)
          subst hva
          have r0 : wr.cell? ⟨r, q, none⟩ = some (.string (bs d[q].1)) := cell_of ((hkq.block r (.inr ⟨hbr, heap_lt hbk⟩)).trans hbk) q (hcur q hql)
          have hmem : (d[q].1, d[q].2) ∈ d := List.getElem_mem hql
          have hmay := (hdk.each _ hmem).1
          have hix : d[q].2 < m.files.length := (hdk.each _ hmem).2
          have hnl : (bs d[q].1).size ≤ maxLen := by rw [bs_len]; have := (Fs.may_le hmay).2; unfold maxLen; simp only at this; omega
          have hlk := look_dir hodq hnl
          have hgt : Fs.dget d (bs d[q].1).data.toList = some d[q].2 := Fs.dget_of_mem hdk.rise hmem
          rw [hgt, ptrV_some] at hlk
          have hi' : d[q].2 < (Fs.cutsN d keep m.files q).length := by rw [Fs.cutsN_len]; exact hix
          have hcut := fun more => cut_any hdq hi' more
          have HN := Lib.hid (show Fs.cutsN d keep m.files (q + 1) = (Fs.cutsN d keep m.files q).modify d[q].2 (Fs.cut ((keep[q]?).getD 0)) by rw [Fs.cutsN, List.getElem?_eq_getElem hql])
          have HC := Lib.hid hcut
          clear hcut hgt hcur hbk
          generalize d[q] = x at r0 hlk HN HC hmem hmay hix hnl hi'
          obtain ⟨xn, xi⟩ := x
          simp only at r0 hlk HN HC
          by_cases hkp : q < keep.length
          · obtain ⟨kb, off, hka, hKb, hkcell⟩ := HKC.out (fun e => by rw [e] at hkp; simp at hkp)
            subst hka
            have r1 : wr.cell? ⟨kb, off + q, none⟩ = some (.int .i64 keep[q]) := by
              have e1 : wr.heap[kb]? = w.heap[kb]? := (hkq.block kb (.inl hKb)).trans (Below.block hk2 kb (h.lt kb hKb))
              rw [← hkcell q hkp]
              simp [World.cell?, e1]
            have hc := HC.out keep[q]
            have HE := Lib.hid (show (keep[q]?).getD 0 = keep[q] by rw [List.getElem?_eq_getElem hkp]; rfl)
            clear hkcell
            generalize keep[q] = kq at r1 hc HE
            go_wp2_with (go_at_call 58; refine hc.mono ?_; rintro e w3 ⟨rfl, ⟨rv', h3⟩, k3⟩)
            go_roundw
            case rel =>
              refine ⟨q + 1, rv', by omega, by go_num, ?_, hkq.trans k3⟩
              rw [HN.out, HE.out]
              exact h3
            case measure => simp [intOf]; omega
          · have hc := HC.out 0
            have HE := Lib.hid (show (keep[q]?).getD 0 = 0 by rw [List.getElem?_eq_none (by omega)]; rfl)
            go_wp2_with (go_at_call 58; refine hc.mono ?_; rintro e w3 ⟨rfl, ⟨rv', h3⟩, k3⟩)
            go_roundw
            case rel =>
              refine ⟨q + 1, rv', by omega, by go_num, ?_, hkq.trans k3⟩
              rw [HN.out, HE.out]
              exact h3
            case measure => simp [intOf]; omega
        · have hqe : q = d.length := by omega
          subst hqe
          have hst := settle_any hdq.blk hodq
          have h3 := hdq.narrow (K' := K) (fun b hb => .inl hb)
          go_wp2_with (go_at_call 59; refine hst.mono ?_; rintro e w3 ⟨rfl, s1, s2, s3, s4, s5⟩; have x4 := cell_of s1 4 rfl; have x5 := cell_of s1 5 rfl; have y4 := frozen_of s1 4; have y5 := frozen_of s1 5; have HS1 := Lib.hid s1; have HS5 := Lib.hid s5; clear s1 s5)
          go_end0
          have hbk : w.heap.size < wr.heap.size := hodq.lt
          have hcg := h.good.crash n keep
          unfold Fs.crash at hcg
          rw [HD.out] at hcg
          have hgood : Fs.Good { ({ m with files := Fs.cutsN d keep m.files d.length } : Fs.Dsk) with names := d, sure := d, pend := [] } := ⟨hcg.all, hcg.names, hcg.files, hcg.tot, hcg.pend, hcg.q0, hcg.q1, h.good.f0, h.good.f1⟩
          have h4 := h3.settle HS1.out s2 s3 s4 (fun hk => Nat.lt_irrefl _ (h.lt _ hk)) hbk hgood
          have hg5 := grown_trans (grown_setCell w3 p 5 (.bool false)) (grown_setCell (w3.setCell ⟨p, 5, none⟩ (.bool false)) p 4 (.int .i64 (-1)))
          have hb0 : w3.heap[p]? = some (.cells #[.map (some w.heap.size), .map (some wr.heap.size), .slice none 0 0, .int .i64 m.quota, .int .i64 m.fuse, .bool m.dead] 75) := HS1.out
          have hb5 := heap_set (w := w3.setCell ⟨p, 5, none⟩ (.bool false)) (o := 4) (v := .int .i64 (-1)) (heap_set (w := w3) (o := 5) (v := .bool false) hb0)
          have h5 := h4.setDisk (q := m.quota) (f := -1) (d := false) hg5 hb5 hcg
          have ec : Fs.crash m n keep = ⟨Fs.cutsN d keep m.files d.length, d, d, [], m.quota, -1, false⟩ := by unfold Fs.crash; rw [HD.out]
          rw [ec]
          exact ⟨rfl, ⟨_, h5⟩, ((kp_kept hk2 h.lt).trans ((hkq.mono (fun b hb => .inl hb)).trans (h3.kp s4))).trans (h4.kp hg5)⟩
end Go.Proofs.YtlkcdcpdccmodaaGreatDoor
