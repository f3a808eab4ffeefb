/-
  What the methods of package fs do with a disk: Sync, the two sums over all files (Size, Loose), a file's loose bytes.
-/
import Derived.Test.YtlkcdcpdccmodaaGreatDoorFsFns
namespace Go.Proofs.YtlkcdcpdccmodaaGreatDoor
open Go.ChangeShapes Go.WideShapes Go.ChangeAt Go.RowKit Go.Maps
set_option linter.unusedVariables false
set_option maxRecDepth 100000
set_option maxHeartbeats 400000

def DkRet (K : Nat → Prop) (w : World) (p : Nat) (r : Fs.Dsk × Int) (e : Ending) (w' : World) : Prop := e = .returned (.int .i64 r.2) ∧ Dk K w' p r.1 ∧ Kp K w w'
theorem own_shape {w : World} {base : Nat} {e : TypeId} {size : Nat} {v : Value} {n : Nat} {xs : List Value} (h : w.ownsRow base e size v n xs) : ∃ a cap, v = .slice a n cap := by
  rcases h.2 with ⟨rfl, rfl⟩ | ⟨g, cap, cur, rfl, _⟩
  · exact ⟨none, 0, rfl⟩
  · exact ⟨some ⟨g, 0, none⟩, cap, rfl⟩
theorem sync_any {K : Nat → Prop} {w : World} {p : Nat} {G : Gh} {m : Fs.Dsk} (h : IsDisk K w p G m) (s : ByteArray) (hs : s.size ≤ maxLen) :
    Calls Tryz.prog 75 #[.pointer (some ⟨p, 0, none⟩), .string s] w (DkRet K w p (Fs.sync m s.data.toList)) := by
  obtain ⟨c0, c1, c2, c3, c4, c5⟩ := h.cells
  have hl := look_dir_ok h.names hs
  have hgd := h.good.sync s.data.toList
  unfold Fs.sync at hgd ⊢
  cases hg : Fs.dget m.names s.data.toList with
  | none =>
    rw [hg] at hl; simp only [ptrV_none, Option.isSome_none] at hl
    clear hg hgd
    go_enter Tryz.func75, Tryz.ntmps75
    go_wp2
    go_ret
    exact ⟨rfl, ⟨G, h⟩, Kp.refl _ _⟩
  | some i =>
    rw [hg] at hl hgd; simp only [ptrV_some, Option.isSome_some] at hl hgd ⊢
    have hi := (h.good.dir.each _ (Fs.dget_mem hg)).2
    clear hg
    have hc := burn_any h
    rcases Fs.burn_res m with ⟨hb, _⟩ | ⟨hb, _⟩
    · rw [if_pos hb] at hgd ⊢
      rw [hb] at hc
      clear hb
      obtain ⟨e1, e2, e3, e4, e5⟩ := Fs.burn_files m
      have HB := Lib.hid e1; clear e1 e2 e3 e4 e5
      have HG := Lib.hid hgd; clear hgd
      generalize Fs.burn m = r at hc HB HG ⊢
      obtain ⟨m1, r1⟩ := r
      go_enter Tryz.func75, Tryz.ntmps75
      go_wp2_with (go_at_call 72; refine hc.mono ?_; rintro e w1 ⟨rfl, h1, k1⟩; have hi1 : i < m1.files.length := by { rw [HB.out]; exact hi }; have hf := h1.files i hi1; obtain ⟨a, cap, hsh⟩ := own_shape hf.own; obtain ⟨d0, d1⟩ := hf.cells; have f1 := hf.fro 1; rw [hsh] at d0; have HS := Lib.hid hsh; clear hsh)
      go_ret
      have ho : ∀ b, b < w1.heap.size → b ≠ G.loc i → (G.rv i).ownBlock ≠ some b → (w1.setCell ⟨G.loc i, 1, none⟩ (.int .i64 (Fs.fileAt m1 i).bytes.length)).heap[b]? = w1.heap[b]? := fun b _ hne _ => Below.heap_setCell _ _ _ _ hne
      have hsz : w1.heap.size ≤ (w1.setCell ⟨G.loc i, 1, none⟩ (.int .i64 (Fs.fileAt m1 i).bytes.length)).heap.size := by simp [World.setCell]
      have hgood : Fs.Good { m1 with files := m1.files.modify i Fs.mkSure } := by rw [HB.out]; exact HG.out
      have hd := h1.setFile (g := Fs.mkSure) (v' := G.rv i) hi1 hsz ho (heap_set hf.blk) (own_same hf.own (fun r hr => Below.heap_setCell _ _ _ _ (h1.l_rv hi1 hi1 hr))) (fun r hr => .inl hr) hgood
      rw [HB.out] at hd
      exact ⟨rfl, ⟨_, hd⟩, k1.trans (h1.kpFile hi1 rfl rfl rfl hsz ho)⟩
    · rw [if_neg (by rw [hb]; decide)]
      have hb2 := hb
      rw [hb] at hc
      go_enter Tryz.func75, Tryz.ntmps75
      clear hb
      go_wp2_with (go_at_call 72; refine hc.mono ?_; rintro e w1 ⟨rfl, h1, k1⟩)
      go_ret
      exact ⟨by rw [hb2]; rfl, ⟨G, h1⟩, k1⟩
theorem looseF_any {K : Nat → Prop} {w : World} {g : Nat} {v : Value} {f : Fs.File} (h : FileIn K w g v f) (h1 : f.sure ≤ f.bytes.length) (h2 : f.bytes.length ≤ 1099511627776) :
    Calls Tryz.prog 87 #[.pointer (some ⟨g, 0, none⟩)] w fun e w' => e = .returned (.int .i64 (Fs.looseF f)) ∧ ∃ n, w' = w.drewN n := by
  obtain ⟨d0, d1⟩ := h.cells
  obtain ⟨a, cap, hsh⟩ := own_shape h.own
  rw [hsh] at d0
  have HS := Lib.hid hsh; clear hsh
  go_enter Tryz.func87, Tryz.ntmps87
  go_wp2
  go_quiet (fail)
  go_wp2
  go_ret
  exact ⟨ret_int (by unfold Fs.looseF; omega), nq, rfl⟩
set_option maxRecDepth 100000 in
theorem size_any {K : Nat → Prop} {w : World} {p : Nat} {G : Gh} {m : Fs.Dsk} (h : IsDisk K w p G m) :
    Calls Tryz.prog 33 #[.pointer (some ⟨p, 0, none⟩)] w fun e w' => e = .returned (.int .i64 (Fs.size m)) ∧ Kept w w' := by
  obtain ⟨c0, c1, c2, c3, c4, c5⟩ := h.cells
  have hown : w.ownsMap Tryz.prog 9 ptrElem G.bn m.names.length (toD G.loc m.names) := h.names
  have hbn := h.names.lt
  have hsl := Fs.size_le h.good
  have hsm := fun left => Fs.sumOf_le (fun i => (Fs.fileAt m i).bytes.length) left m.names
  have HM := Lib.hid hsm; clear hsm
  go_enter Tryz.func33, Tryz.ntmps33
  go_wp2_with (at_range; refine wpList_range_own _ rfl _ 72 rfl 9 88 keyedS Tryz.underlying72 _ G.bn _ _ rfl hown ?_; intro w0 hrg0 hg0 hs0)
  go_frame
  have HS0 := Lib.hid hs0; clear hs0
  go_loopw [3] (fun t wr => ∃ (left : Lit → Bool) (cnt S : Nat), wr.ranges Tryz.prog 9 ptrElem G.bn w.heap.size m.names.length (toD G.loc m.names) left cnt ∧ t = .int .i64 S ∧ Hid (S = Fs.sumOf (fun i => (Fs.fileAt m i).bytes.length) m.names (fun k => left (.string k))) ∧ Kept w wr) (fun _ wr => wr.rangeLeft G.bn w.heap.size)
  case atStart =>
    refine ⟨_, _, 0, hrg0, rfl, ?_, kept_grown hg0⟩
    show 0 = Fs.sumOf _ _ _
    rw [Fs.sumOf_none _ _ _ (fun q hq => by rw [toD_has, Fs.dget_of_mem h.good.dir.rise (i := q.2) hq]; rfl)]
  case round =>
    obtain ⟨left, cnt, S, hrg, rfl, HS, hk⟩ := hrel
    have hle : S ≤ 65970697666560 := by have := HM.out (fun k => left (.string k)); rw [HS.out]; exact Nat.le_trans this hsl
    clear hown hrg0 hg0
    go_wp2_with (at_next; refine wpList_next_dir rfl _ rfl G.bn w.heap.size _ G.loc m.names left cnt rfl hrg ?_ ?_)
    · intro hl0
      go_wp2
      go_ret
      refine ⟨ret_int ?_, hk⟩
      rw [HS.out, Fs.sumOf_all _ _ _ (fun k => hl0 (.string k))]
      rfl
    · intro x i w1 cnt1 hgt hlk hrg1 hlt hg1 hen
      have hk1 : Kept w w1 := Below.grown hk hg1 (Below.size hk) (fun j e => by cases e; exact Nat.le_refl _)
      have hi := (h.good.dir.each _ (Fs.dget_mem hgt)).2
      have hf := (h.kept hk1).files i hi
      obtain ⟨d0, d1⟩ := hf.cells
      obtain ⟨a, cap, hsh⟩ := own_shape hf.own
      rw [hsh] at d0
      have hlen := Fs.fileAt_len h.good i
      have HT := Lib.hid (Fs.sumOf_step (left := fun k => left (.string k)) (fun i => (Fs.fileAt m i).bytes.length) hlk m.names h.good.dir.rise (Fs.dget_mem hgt))
      clear hsh hgt
      go_wp2
      go_roundw
      case rel =>
        refine ⟨_, cnt1, S + (Fs.fileAt m i).bytes.length, hrg1, by go_num, ?_, hk1⟩
        show _ = Fs.sumOf _ _ _
        rw [HS.out, ← HT.out]
        rfl
      case measure => rw [hrg1.left_eq, hrg.left_eq]; omega
end Go.Proofs.YtlkcdcpdccmodaaGreatDoor
