/-
  What cut of a file of package fs does: the sure bytes, and so many more, are left, and sure.
-/
import Derived.Test.YtlkcdcpdccmodaaGreatDoorFsChange
namespace Go.Proofs.YtlkcdcpdccmodaaGreatDoor
open Go.ChangeShapes Go.WideShapes Go.ChangeAt Go.RowKit Go.Maps
set_option linter.unusedVariables false
set_option maxRecDepth 100000
set_option maxHeartbeats 400000

theorem FileIn.kept {K : Nat → Prop} {w w' : World} {g : Nat} {v : Value} {f : Fs.File} (h : FileIn K w g v f) (hk : Kept w w') : FileIn K w' g v f :=
  ⟨(Below.block hk g (heap_lt h.blk)).trans h.blk, own_same h.own (fun r hr => Below.block hk r (h.own.lt r hr).2), h.nk, h.nr⟩
theorem cut_end {w : World} {g k S : Nat} {v v' : Value} {s : Nat} {l : List UInt8} (hb : w.heap[g]? = some (fileObj v s)) (ho : w.ownsRow 0 5 1 v' S (cellsOf (l.take S))) (hl : S ≤ l.length) (he : v'.ownBlock = v.ownBlock) :
    let W := (((w.drewN k).setCell ⟨g, 1, none⟩ (.int .i64 S)).setCell ⟨g, 0, none⟩ v').drew
    ∃ v'', W.heap[g]? = some (fileObj v'' (⟨l.take S, S⟩ : Fs.File).sure) ∧ W.ownsRow 0 5 1 v'' (⟨l.take S, S⟩ : Fs.File).bytes.length (cellsOf (⟨l.take S, S⟩ : Fs.File).bytes) ∧ v''.ownBlock = v.ownBlock ∧ w.grownBy W (some g) := by
  intro W
  have hg : w.grownBy W (some g) := grown_trans (grown_trans (grown_trans (grown_drewN w k _) (grown_setCell _ g 1 _)) (grown_setCell _ g 0 _)) (grown_kept (kept_drew1 _) _)
  have hbg : W.heap[g]? = some (fileObj v' S) := heap_set (o := 0) (v := v') (heap_set (w := w.drewN k) (o := 1) (v := .int .i64 S) hb)
  refine ⟨v', hbg, ?_, he, hg⟩
  show W.ownsRow 0 5 1 v' (l.take S).length _
  rw [List.length_take, Nat.min_eq_left hl]
  refine own_same ho (fun r hr => hg.block r (ho.lt r hr).2 (fun e => ?_))
  obtain ⟨c, hc⟩ := own_blk ho hr
  have e' : r = g := by simpa using e
  rw [e', hb] at hc
  simp [fileObj] at hc
theorem cellsOf_take (l : List UInt8) (n : Nat) : (cellsOf l).take n = cellsOf (l.take n) := by simp [cellsOf, List.map_take]
structure CutSide (f : Fs.File) (more : Int) (S : Nat) : Prop where
  wr : IntKind.i64.wrap ((f.sure : Int) + Fs.within more (Fs.looseF f)) = (S : Int)
  cut : Fs.cut more f = ⟨f.bytes.take S, S⟩
  le : S ≤ f.bytes.length
theorem cut_side (f : Fs.File) (h1 : f.sure ≤ f.bytes.length) (h2 : f.bytes.length ≤ 1099511627776) (more : Int) : ∃ S, CutSide f more S := by
  have hll : (Fs.looseF f : Int) = (f.bytes.length : Int) - f.sure := by unfold Fs.looseF; omega
  have hwd := Fs.within_bd more (Fs.looseF f) (by omega)
  refine ⟨f.sure + (Fs.within more (Fs.looseF f)).toNat, ?_, ?_, by omega⟩
  · have e : (f.sure : Int) + Fs.within more (Fs.looseF f) = ((f.sure + (Fs.within more (Fs.looseF f)).toNat : Nat) : Int) := by omega
    rw [e]; exact IntWalk.i64_in _ (by omega)
  · unfold Fs.cut; rw [hll]
def CutPost (w : World) (g : Nat) (v : Value) (f : Fs.File) (e : Ending) (w' : World) : Prop :=
  e = .returned (.tuple #[]) ∧ ∃ v', w'.heap[g]? = some (fileObj v' f.sure) ∧ w'.ownsRow 0 5 1 v' f.bytes.length (cellsOf f.bytes) ∧ v'.ownBlock = v.ownBlock ∧ w.grownBy w' (some g)
set_option maxHeartbeats 1600000 in
theorem cutf_nil {K : Nat → Prop} {w : World} {g : Nat} {f : Fs.File} (h : FileIn K w g (.slice none 0 0) f) (h1 : f.sure ≤ f.bytes.length) (h2 : f.bytes.length ≤ 1099511627776) (h0 : f.bytes.length = 0) (more : Int) :
    Calls Tryz.prog 58 #[.pointer (some ⟨g, 0, none⟩), .int .i64 more] w (CutPost w g (.slice none 0 0) (Fs.cut more f)) := by
  obtain ⟨d0, d1⟩ := h.cells
  have f0 := h.fro 0
  have f1 := h.fro 1
  obtain ⟨S, hC⟩ := cut_side f h1 h2 more
  obtain ⟨hwr, hcut, hSl⟩ := hC
  rw [hcut]
  clear hcut
  have hS0 : S = 0 := by omega
  subst hS0
  have H0 := Lib.hid h0; clear h0
  go_enter Tryz.func58, Tryz.ntmps58
  go_wp2
  go_region_with (first | (go_at_call 87; refine (looseF_any (h.kept (kept_drew1 w)) h1 h2).mono ?_; rintro e w1 ⟨rfl, nq, rfl⟩) | (go_at_call 55; refine (within_any _ _ _).mono ?_; rintro e w1 ⟨rfl, rfl⟩))
  all_goals
    go_wp2
    go_region
    go_end0
    exact ⟨rfl, cut_end (S := 0) (v' := .slice none 0 0) h.blk (World.ownsRow_nil _ _ _ _) (Nat.zero_le _) rfl⟩
set_option maxHeartbeats 1600000 in
theorem cutf_row {K : Nat → Prop} {w : World} {g r cap : Nat} {f : Fs.File} (h : FileIn K w g (.slice (some ⟨r, 0, none⟩) f.bytes.length cap) f) (h1 : f.sure ≤ f.bytes.length) (h2 : f.bytes.length ≤ 1099511627776) (more : Int) :
    Calls Tryz.prog 58 #[.pointer (some ⟨g, 0, none⟩), .int .i64 more] w (CutPost w g (.slice (some ⟨r, 0, none⟩) f.bytes.length cap) (Fs.cut more f)) := by
  obtain ⟨d0, d1⟩ := h.cells
  have f0 := h.fro 0
  have f1 := h.fro 1
  obtain ⟨S, hC⟩ := cut_side f h1 h2 more
  obtain ⟨hwr, hcut, hSl⟩ := hC
  rw [hcut]
  clear hcut
  have hx : f.bytes.length ≤ cap ∧ w.ownsRow 0 5 1 (.slice (some ⟨r, 0, none⟩) S cap) S (cellsOf (f.bytes.take S)) := by
    rcases h.own.2 with ⟨e, _⟩ | ⟨g', cap', cur, e, h3, hr, hnc, hcm, hcs, htake⟩
    · cases e
    · cases e
      refine ⟨hnc, by simp [cellsOf]; omega, .inr ⟨r, cap, cur, rfl, h3, hr, by omega, hcm, hcs, ?_⟩⟩
      rw [Nat.mul_one] at htake ⊢
      rw [← cellsOf_take, ← htake, List.take_take, Nat.min_eq_left hSl]
  obtain ⟨hnc, hown⟩ := hx
  have hSc : S ≤ cap := by omega
  go_enter Tryz.func58, Tryz.ntmps58
  go_wp2
  go_region_with (first | (go_at_call 87; refine (looseF_any (h.kept (kept_drew1 w)) h1 h2).mono ?_; rintro e w1 ⟨rfl, nq, rfl⟩) | (go_at_call 55; refine (within_any _ _ _).mono ?_; rintro e w1 ⟨rfl, rfl⟩))
  all_goals
    go_wp2
    go_region
    go_end0
    exact ⟨rfl, cut_end (v' := .slice (some ⟨r, 0, none⟩) S cap) h.blk hown hSl rfl⟩
theorem cutf_any {K : Nat → Prop} {w : World} {g : Nat} {v : Value} {f : Fs.File} (h : FileIn K w g v f) (h1 : f.sure ≤ f.bytes.length) (h2 : f.bytes.length ≤ 1099511627776) (more : Int) :
    Calls Tryz.prog 58 #[.pointer (some ⟨g, 0, none⟩), .int .i64 more] w (CutPost w g v (Fs.cut more f)) := by
  rcases h.own.2 with ⟨rfl, h0⟩ | ⟨r, cap, cur, rfl, _⟩
  · exact cutf_nil h h1 h2 h0 more
  · exact cutf_row h h1 h2 more
/-- a file of a disk is cut -/
theorem cut_any {K : Nat → Prop} {w : World} {p i : Nat} {G : Gh} {m : Fs.Dsk} (h : IsDisk K w p G m) (hi : i < m.files.length) (more : Int) :
    Calls Tryz.prog 58 #[.pointer (some ⟨G.loc i, 0, none⟩), .int .i64 more] w fun e w' => e = .returned (.tuple #[]) ∧ (∃ rv, IsDisk K w' p { G with rv := rv } { m with files := m.files.modify i (Fs.cut more) }) ∧ Kp K w w' := by
  refine (cutf_any (h.files i hi) (Fs.fileAt_sure h.good i) (Fs.fileAt_len h.good i) more).mono fun e w' ⟨he, v', hb, ho, hv, hg⟩ => ⟨he, ?_, ?_⟩
  · have hgood : Fs.Good { m with files := m.files.modify i (Fs.cut more) } := h.good.modify i (Fs.cut more) 0 (fun f hf => by have := Fs.cut_ok more f hf; omega) (fun f => by simp [Fs.cut]; omega) h.good.tot
    exact ⟨_, h.setFile (v' := v') hi hg.size (fun b hb' hne _ => hg.block b hb' (fun e => hne (by simpa using e))) hb ho (fun r hr => .inl (by rw [← hv]; exact hr)) hgood⟩
  · exact kp_grown hg h.lt (fun r hr => by cases hr; exact (h.files i hi).nk)
end Go.Proofs.YtlkcdcpdccmodaaGreatDoor
