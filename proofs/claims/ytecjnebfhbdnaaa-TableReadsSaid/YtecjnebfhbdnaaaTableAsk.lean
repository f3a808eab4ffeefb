/-
  What a table tells: Get, Cost, Ends, Len, Blocks.
-/
import Derived.Test.YtecjnebfhbdnaaaTableGet
namespace Go.Proofs.Ytecjnebfhbdnaaa
open Go.ChangeShapes Go.WideShapes Go.ChangeAt Go.RowKit
set_option linter.unusedVariables false
set_option maxRecDepth 100000
set_option maxHeartbeats 2000000

/-- which block is to be read -/
def TBo (l : List Mm.Ent) (k : List UInt8) (s : Nat) (i : Nat) (b : Bool) : Prop := (b = false ∧ Bm.may (Tb.fl l) k = false) ∨ (Bm.may (Tb.fl l) k = true ∧ Tb.At (Tb.tv l).index k s i ∧ b = decide (i < Tb.nb l))
theorem tblock_any {w : World} {p : Nat} {l : List Mm.Ent} (h : IsTb w p (Tb.tv l)) (hT : Tb.isT l = true) (k : List UInt8) (hk : k.length ≤ maxLen) (s : Nat) :
    Calls Try.prog 45 #[.pointer (some ⟨p, 0, none⟩), .string (bs k), .int .u64 (s : Nat)] w fun e w' => ∃ (i : Nat) (b : Bool), e = .returned (.tuple #[.int .i64 (i : Nat), .bool b]) ∧ TBo l k s i b ∧ Kept w w' := by
  obtain ⟨A, c, hb, hp⟩ := h.blk
  have p1 := blk_cell hb 1; have p2 := blk_cell hb 2
  simp only [List.getElem?_toArray, List.getElem?_cons_zero, List.getElem?_cons_succ] at p1 p2
  have hpl := mheap_lt hb
  have hfl := h.fl
  have hm := bmay_any (bs (Tb.tv l).filter) (bs k) (by rw [fbs_size]; omega) (by rw [fbs_size]; exact hk)
  rw [bs_data, bs_data] at hm
  have hE := Lib.hid (show (Tb.tv l).filter = Tb.fl l from rfl)
  have HTF := Lib.hid (fun W (g : Kept w W) => tfirst_any c (hp.kept g) h.il (Tb.tv_mono hT) k s)
  have HTL := Lib.hid (Tb.tv_len l)
  have HB := Lib.hid hb
  rw [hE.out] at hm p2
  generalize (Tb.tv l).index.length = n at *
  cases hv : Bm.may (Tb.fl l) k with
  | false =>
    rw [hv] at hm
    have HM := Lib.hid hm
    have HV := Lib.hid hv
    clear hm hv hb hp h hT hfl
    go_enter Try.func45, Try.ntmps45
    go_wp2_with fail
    refine (HM.out _).mono ?_
    rintro e w1 ⟨rfl, g1⟩
    go_wp2_with fail
    go_ret2
    exact ⟨0, false, rfl, .inl ⟨rfl, HV.out⟩, g1⟩
  | true =>
    rw [hv] at hm
    have HM := Lib.hid hm
    have HV := Lib.hid hv
    clear hm hv hb hp h hT hfl
    go_enter Try.func45, Try.ntmps45
    go_wp2_with fail
    refine (HM.out _).mono ?_
    rintro e w1 ⟨rfl, g1⟩
    have HF := Lib.hid (HTF.out w1 g1)
    have q1 := blk_cell (mblk_kept HB.out g1) 1
    simp only [List.getElem?_toArray, List.getElem?_cons_zero, List.getElem?_cons_succ] at q1
    have hp1 := mheap_lt (mblk_kept HB.out g1)
    go_wp2_with fail
    refine HF.out.mono ?_
    rintro e w2 ⟨i, rfl, hat, g2⟩
    have HAT := Lib.hid hat
    have q2 := blk_cell (mblk_kept HB.out (kept_trans g1 g2)) 1
    simp only [List.getElem?_toArray, List.getElem?_cons_zero, List.getElem?_cons_succ] at q2
    have hp2 := mheap_lt (mblk_kept HB.out (kept_trans g1 g2))
    have G2 := Lib.hid (kept_trans g1 g2)
    clear hat g1 g2
    go_wp2_with fail
    go_quiet (fail)
    go_wp2_with fail
    go_ret2
    exact ⟨i, decide (i < n), rfl, .inr ⟨HV.out, HAT.out, by rw [HTL.out]⟩, kept_trans G2.out (kept_drewN _ _)⟩
def tgV (o : Option Mm.Ent) : Value := .tuple #[entV (o.getD Mm.zent), .bool o.isSome]
theorem tget_any {w : World} {p : Nat} {l : List Mm.Ent} (h : IsTb w p (Tb.tv l)) (hT : Tb.isT l = true) (k : List UInt8) (hk : k.length ≤ maxLen) (s : Nat) :
    Calls Try.prog 14 #[.pointer (some ⟨p, 0, none⟩), .string (bs k), .int .u64 (s : Nat)] w fun e w' => e = .returned (tgV (l.find? (Mm.mt k s))) ∧ Kept w w' := by
  have HT := Lib.hid hT
  have HTB := Lib.hid (h.kept ((Kept.refl w).alloc (.cells #[.string ⟨#[]⟩, .int .u64 0, .bool false, .string ⟨#[]⟩] 37)))
  have HBO := Lib.hid (tblock_any HTB.out hT k hk s)
  clear h hT hk
  go_enter Try.func14, Try.ntmps14
  go_wp2_with fail
  refine HBO.out.mono ?_
  rintro e w1 ⟨i, b, rfl, hbo, g1⟩
  have r := zres g1
  have G1 := Lib.hid (kept_trans ((Kept.refl w).alloc _) g1)
  cases b with
  | false =>
    have hf : l.find? (Mm.mt k s) = none := by
      rcases hbo with ⟨_, hm⟩ | ⟨_, hat, hd⟩
      · exact Tb.may_none hm
      · exact Tb.get_no HT.out hat (of_decide_eq_false hd.symm)
    have HF := Lib.hid hf
    have r0 := blk_cell r 0; have r1 := blk_cell r 1; have r2 := blk_cell r 2; have r3 := blk_cell r 3
    have s0 := blk_soft r 0; have s1 := blk_soft r 1; have s2 := blk_soft r 2; have s3 := blk_soft r 3
    simp only [List.getElem?_toArray, List.getElem?_cons_zero, List.getElem?_cons_succ] at r0 r1 r2 r3
    clear r g1 hbo hf
    go_wp2_with fail
    refine bodyPost_ret (v := tgV none) (by simp [results, Try.results14, tgV, entV, Mm.zent, bs, go_sem, r0, r1, r2, r3]) rfl ⟨by rw [HF.out], ?_⟩
    exact fin4 G1.out (Nat.le_refl _)
  | true =>
    obtain ⟨hat, hd⟩ : Tb.At (Tb.tv l).index k s i ∧ true = decide (i < Tb.nb l) := by
      rcases hbo with ⟨hc, _⟩ | ⟨_, hat, hd⟩
      · cases hc
      · exact ⟨hat, hd⟩
    have hi : i < Tb.nb l := of_decide_eq_true hd.symm
    obtain ⟨x, hx, hf⟩ := Tb.get_at HT.out hat hi
    have hby := tbytes_any (HTB.out.kept g1) (Tb.tv_get hi)
    rw [Tb.tv_bys hi] at hby
    have hB := Tb.bl_isB HT.out hi
    have hsk := kseek_any (Bk.enc (Tb.bl l i)) k s (by have := Bk.enc_len hB; omega)
    rw [Bk.dec_enc hB, show skV (some (Tb.bl l i)) k s = .tuple #[entV x, .bool true, .int .i64 0] by simp only [skV, sk]; rw [hx]] at hsk
    have HBY := Lib.hid hby; have HSK := Lib.hid hsk
    have HF := Lib.hid hf
    have R := Lib.hid r
    clear hat hd hbo hi hx hf hby hB hsk r g1
    generalize Bk.enc (Tb.bl l i) = E at *
    unfold entV at HSK
    go_wp2_with fail
    refine HBY.out.mono ?_
    rintro e w2 ⟨rfl, g2⟩
    go_wp2_with fail
    refine (HSK.out _).mono ?_
    rintro e w3 ⟨rfl, g3⟩
    have G3 := Lib.hid (kept_trans G1.out (kept_trans g2 g3))
    have r := mblk_kept R.out (kept_trans g2 g3)
    have r0 := blk_cell r 0; have r1 := blk_cell r 1; have r2 := blk_cell r 2; have r3 := blk_cell r 3
    have s0 := blk_soft r 0; have s1 := blk_soft r 1; have s2 := blk_soft r 2; have s3 := blk_soft r 3
    simp only [List.getElem?_toArray, List.getElem?_cons_zero, List.getElem?_cons_succ] at r0 r1 r2 r3
    have hrl := mheap_lt r
    have RR := Lib.hid r
    clear r g2 g3
    by_cases he : x.key = k
    · have t1 : ((bs x.key).toList == (bs k).toList) = true := by rw [mbs_eq, decide_eq_true he]
      have t2 : (!(bs x.key).toList == (bs k).toList) = false := by rw [t1]; rfl
      have hf := HF.out
      rw [if_pos he] at hf
      have HF2 := Lib.hid hf
      clear hf he HF
      go_wp2_with fail
      have hz := mset (mset (mset (mset RR.out 0 (.string (bs x.key))) 1 (.int .u64 (x.seq : Nat))) 2 (.bool x.del)) 3 (.string (bs x.val))
      have hz2 := mblk_kept hz ((Kept.refl _).alloc (.cells #[.string (bs x.key), .int .u64 (x.seq : Nat), .bool x.del, .string (bs x.val)] 37))
      have z0 := blk_cell hz2 0; have z1 := blk_cell hz2 1; have z2 := blk_cell hz2 2; have z3 := blk_cell hz2 3
      simp only [List.setIfInBounds_toArray, List.set_cons_zero, List.set_cons_succ, List.getElem?_toArray, List.getElem?_cons_zero, List.getElem?_cons_succ] at z0 z1 z2 z3
      refine bodyPost_ret (v := tgV (some x)) (by simp [results, Try.results14, tgV, entV, go_sem, z0, z1, z2, z3]) rfl ⟨by rw [HF2.out], ?_⟩
      exact (fin4 G3.out (Nat.le_refl _)).alloc _
    · have t1 : ((bs x.key).toList == (bs k).toList) = false := by rw [mbs_eq, decide_eq_false he]
      have t2 : (!(bs x.key).toList == (bs k).toList) = true := by rw [t1]; rfl
      have hf := HF.out
      rw [if_neg he] at hf
      have HF2 := Lib.hid hf
      clear hf he HF
      go_wp2_with fail
      have hz := mset (mset (mset (mset RR.out 0 (.string ⟨#[]⟩)) 1 (.int .u64 0)) 2 (.bool false)) 3 (.string ⟨#[]⟩)
      have hz2 := mblk_kept hz ((Kept.refl _).alloc (.cells #[.string (bs x.key), .int .u64 (x.seq : Nat), .bool x.del, .string (bs x.val)] 37))
      have z0 := blk_cell hz2 0; have z1 := blk_cell hz2 1; have z2 := blk_cell hz2 2; have z3 := blk_cell hz2 3
      simp only [List.setIfInBounds_toArray, List.set_cons_zero, List.set_cons_succ, List.getElem?_toArray, List.getElem?_cons_zero, List.getElem?_cons_succ] at z0 z1 z2 z3
      have hbs : bs [] = ⟨#[]⟩ := rfl
      refine bodyPost_ret (v := tgV none) (by simp [results, Try.results14, tgV, entV, Mm.zent, hbs, go_sem, z0, z1, z2, z3]) rfl ⟨by rw [HF2.out], ?_⟩
      exact (fin4 G3.out (Nat.le_refl _)).alloc _
theorem tcost_any {w : World} {p : Nat} {l : List Mm.Ent} (h : IsTb w p (Tb.tv l)) (hT : Tb.isT l = true) (k : List UInt8) (hk : k.length ≤ maxLen) (s : Nat) :
    Calls Try.prog 17 #[.pointer (some ⟨p, 0, none⟩), .string (bs k), .int .u64 (s : Nat)] w fun e w' => e = .returned (.int .i64 (Tb.cost l k s : Nat)) ∧ Kept w w' := by
  have HT := Lib.hid hT
  have HBO := Lib.hid (tblock_any h hT k hk s)
  clear h hT hk
  go_enter Try.func17, Try.ntmps17
  go_wp2_with fail
  refine HBO.out.mono ?_
  rintro e w1 ⟨i, b, rfl, hbo, g1⟩
  cases b with
  | false =>
    have hc : Tb.cost l k s = 0 := by
      unfold Tb.cost
      rw [if_neg]
      rintro ⟨hm1, hl1⟩
      rcases hbo with ⟨_, hm⟩ | ⟨_, hat, hd⟩
      · rw [hm] at hm1; cases hm1
      · exact of_decide_eq_false hd.symm ((Tb.at_out HT.out hat).2 hl1)
    have HC := Lib.hid hc
    clear hbo hc
    go_wp2_with fail
    go_ret
    exact ⟨by rw [HC.out]; rfl, g1⟩
  | true =>
    have hc : Tb.cost l k s = 1 := by
      unfold Tb.cost
      rw [if_pos]
      rcases hbo with ⟨hq, _⟩ | ⟨hm, hat, hd⟩
      · cases hq
      · exact ⟨hm, (Tb.at_out HT.out hat).1 (of_decide_eq_true hd.symm)⟩
    have HC := Lib.hid hc
    clear hbo hc
    go_wp2_with fail
    go_ret
    exact ⟨by rw [HC.out]; rfl, g1⟩
theorem tlen_any {w : World} {p : Nat} {l : List Mm.Ent} (h : IsTb w p (Tb.tv l)) :
    Calls Try.prog 22 #[.pointer (some ⟨p, 0, none⟩)] w fun e w' => e = .returned (.int .i64 (l.length : Nat)) ∧ w = w' := by
  obtain ⟨A, c, hb, hp⟩ := h.blk
  have p3 := blk_cell hb 3
  simp only [List.getElem?_toArray, List.getElem?_cons_zero, List.getElem?_cons_succ] at p3
  have hpl := mheap_lt hb
  have e : (Tb.tv l).n = (l.length : Int) := rfl
  rw [e] at p3
  clear h hb hp e
  generalize l.length = n at *
  go_enter Try.func22, Try.ntmps22
  go_wp2_with fail
  go_ret
  exact ⟨rfl, rfl⟩
theorem tblocks_any {w : World} {p : Nat} {l : List Mm.Ent} (h : IsTb w p (Tb.tv l)) :
    Calls Try.prog 23 #[.pointer (some ⟨p, 0, none⟩)] w fun e w' => e = .returned (.int .i64 (Tb.nb l : Nat)) ∧ w = w' := by
  obtain ⟨A, c, hb, hp⟩ := h.blk
  have p1 := blk_cell hb 1
  simp only [List.getElem?_toArray, List.getElem?_cons_zero, List.getElem?_cons_succ] at p1
  have hpl := mheap_lt hb
  rw [Tb.tv_len] at p1
  clear h hb hp
  generalize Tb.nb l = n at *
  go_enter Try.func23, Try.ntmps23
  go_wp2_with fail
  go_ret
  exact ⟨rfl, rfl⟩
end Go.Proofs.Ytecjnebfhbdnaaa
