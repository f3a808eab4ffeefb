/-
  A put of the document's own table of layer 7 that holds nothing yet.
-/
import Derived.Test.YtpbhbgoaaephgaaMemRefEnd
namespace Go.Proofs.Ytpbhbgoaaephgaa
open Go.ChangeShapes Go.WideShapes Go.ChangeAt Go.RowKit
set_option linter.unusedVariables false
set_option maxRecDepth 100000
set_option maxHeartbeats 4000000

section
variable {w w' : World} {r : Nat} {G F : Nat → Prop} {T : List Mm.Tv} {AL AH : Option Addr} {cL cH : Nat}
theorem rput_nil (h0 : IsRt w r G T AL cL AH cH) (hfw : T.length < 1000) (e : Mm.Ent) (n : Nat) (hk : e.key.length ≤ maxLen) (hv : e.val.length ≤ maxLen) (h1 : 1 ≤ n) (h2 : n ≤ 8) (h3 : Mm.code T e (n : Nat) = 0) (hZ : Mm.Z T e.key e.seq = []) (hA1 : AL = none) (hA2 : AH = none) (hT0 : T = []) :
    Calls Try.prog 28 #[.pointer (some ⟨r, 0, none⟩), entV e, .int .i64 (n : Nat)] w fun q w' => q = .returned (.int .i64 0) ∧ Rt w' r (fun b => G b ∨ w.heap.size ≤ b) (Mm.put T e (n : Nat)) ∧ Ex (fun b => b = r) w w' := by
  obtain ⟨hm, _, _, hhas⟩ := Mm.code_zero.1 h3
  have hc := rmmay_any e hk hv
  have hpl := fun W (k : Kept w W) => rplace_any ⟨AL, cL, AH, cH, h0.kept k⟩ e.key e.seq
  rw [hm] at hc
  have hf := h0.few
  have hAl := Mm.A_len_le T e.key e.seq
  have HI := Lib.hid h0
  have hrl := mheap_lt h0.blk
  unfold entV at *
  have d1 : decide ((n : Int) < 1) = false := by simp; omega
  have d2 : decide (8 < (n : Int)) = false := by simp; omega
  have hcL := h0.capL; have hcH := h0.capH; have hmL := h0.mostL; have hmH := h0.mostH
  have hput := Mm.put_yes h3
  have HEL := Lib.hid (Mm.ents_len T)
  have HA1 : Hid ((Mm.ents T).take (Mm.A T e.key e.seq).length = Mm.ents (Mm.A T e.key e.seq)) := Lib.hid (by
    have := Mm.AZ T e.key e.seq
    generalize Mm.A T e.key e.seq = AA at this
    rw [← this]; simp [Mm.ents])
  have HZ1 : Hid ((Mm.ents T).drop (Mm.A T e.key e.seq).length = Mm.ents (Mm.Z T e.key e.seq)) := Lib.hid (by
    have := Mm.AZ T e.key e.seq
    generalize Mm.A T e.key e.seq = AA at this
    generalize Mm.Z T e.key e.seq = ZZ at this
    rw [← this]; simp [Mm.ents])
  have HA2 : Hid ((Mm.hts T).take (Mm.A T e.key e.seq).length = Mm.hts (Mm.A T e.key e.seq)) := Lib.hid (by
    have := Mm.AZ T e.key e.seq
    generalize Mm.A T e.key e.seq = AA at this
    rw [← this]; simp [Mm.hts])
  have HZ2 : Hid ((Mm.hts T).drop (Mm.A T e.key e.seq).length = Mm.hts (Mm.Z T e.key e.seq)) := Lib.hid (by
    have := Mm.AZ T e.key e.seq
    generalize Mm.A T e.key e.seq = AA at this
    generalize Mm.Z T e.key e.seq = ZZ at this
    rw [← this]; simp [Mm.hts])
  have hTe := Mm.AZ T e.key e.seq
  rw [hZ, List.append_nil] at hTe
  have hkT : (Mm.A T e.key e.seq).length = T.length := by rw [hTe]
  have HC := Lib.hid h3
  have hAle : (Mm.ents (Mm.A T e.key e.seq)).length = (Mm.A T e.key e.seq).length := Mm.ents_len _
  have hAlh : (Mm.hts (Mm.A T e.key e.seq)).length = (Mm.A T e.key e.seq).length := Mm.hts_len _
  have hZle : (Mm.ents (Mm.Z T e.key e.seq)).length = T.length - (Mm.A T e.key e.seq).length := by rw [← HZ1.out, List.length_drop, HEL.out]
  have hZlh : (Mm.hts (Mm.Z T e.key e.seq)).length = T.length - (Mm.A T e.key e.seq).length := by rw [← HZ2.out, List.length_drop, Mm.hts_len]
  have HPE : Hid (Mm.ents (Mm.put T e (n : Nat)) = (Mm.ents (Mm.A T e.key e.seq) ++ [e]) ++ Mm.ents (Mm.Z T e.key e.seq)) := Lib.hid (by rw [hput]; simp [Mm.ents])
  have HPH : Hid (Mm.hts (Mm.put T e (n : Nat)) = (Mm.hts (Mm.A T e.key e.seq) ++ [n]) ++ Mm.hts (Mm.Z T e.key e.seq)) := Lib.hid (by rw [hput]; simp [Mm.hts])
  have HAle := Lib.hid hAle; have HAlh := Lib.hid hAlh; have HZle := Lib.hid hZle; have HZlh := Lib.hid hZlh
  have HPL := Lib.hid (Mm.put_len h3)
  have HGP := Lib.hid (h0.good.put e (n : Nat))
  have hsh := h0.shape
  generalize Mm.put T e (n : Nat) = TP at *
  generalize Mm.ents (Mm.A T e.key e.seq) = EA at *
  generalize Mm.hts (Mm.A T e.key e.seq) = HHA at *
  generalize Mm.ents (Mm.Z T e.key e.seq) = EZ at *
  generalize Mm.hts (Mm.Z T e.key e.seq) = HHZ at *
  generalize (Mm.A T e.key e.seq).length = kk at *
  have bnA : EA.length ≤ 1000 := by omega
  have bnH : HHA.length ≤ 1000 := by omega
  have bnZ : EZ.length ≤ 1000 := by omega
  have bnY : HHZ.length ≤ 1000 := by omega
  have hkk4 : T.length ≤ kk := by omega
  have hcl0 := h0.nilL hA1
  have hch0 := h0.nilH hA2
  have hk0 : kk = 0 := by rw [hT0] at hkT; simpa using hkT
  clear h0 hTe hkT hZ hm hk hv hhas h3 hput hAle hAlh hZle hZlh hsh hkk4
  subst hA1 hA2 hcl0 hch0 hk0
  subst hT0
  go_enter Try.func28, Try.ntmps28
  go_wp2_with fail
  refine (hc _).mono ?_
  rintro q w1 ⟨rfl, g1⟩
  have hb := mbox4 g1
  have k1 := kept_trans ((Kept.refl w).alloc _) g1
  have a0 := mcell hb 0 rfl; have a1 := mcell hb 1 rfl
  have hbl := mheap_lt hb
  go_wp2_with fail
  refine (hpl _ k1).mono ?_
  rintro q w2 ⟨rfl, g2⟩
  have k2 := kept_trans k1 g2
  have hb2 := (Below.block g2 _ hbl).trans hb
  have e0 := mcell hb2 0 rfl; have e1 := mcell hb2 1 rfl; have e2 := mcell hb2 2 rfl; have e3 := mcell hb2 3 rfl
  have hbl2 := mheap_lt hb2
  have r0 := mcell (HI.out.kept k2).blk 0 rfl
  have r1 := mcell (HI.out.kept k2).blk 1 rfl
  have hrl2 : r < w2.heap.size := Nat.lt_of_lt_of_le hrl (Below.size k2)
  have HB2 := Lib.hid hb2
  clear hb hb2 a0 a1 hc hpl
  go_wp2_with fail
  go_quiet (fail)
  have k3 := kept_trans k2 (kept_drewN w2 nq)
  have hbox : (w2.drewN nq).heap[w.heap.size]? = _ := HB2.out
  have hbs : w.heap.size < (w2.drewN nq).heap.size := mheap_lt hbox
  have I3 := Lib.hid (HI.out.kept k3)
  have HBX := Lib.hid hbox
  clear hbox e0 e1 e2 e3 r0 r1 HB2
  generalize w2.drewN nq = w3 at *
  have r0 := mcell I3.out.blk 0 rfl
  have hr3 : r < w3.heap.size := mheap_lt I3.out.blk
  have E3 := Lib.hid (show Els w3 none EA by rw [← HA1.out]; exact I3.out.els.front 0)
  go_wp2_with (at_builtin; refine app_els none 0 [] EA _ _ rfl rfl rfl w3.heap.size (by simp) (own_entsB w3 (Nat.le_refl _)) 0 HAle.out.symm rfl (E3.out.kept ((Kept.refl _).alloc _)) (fun _ => rfl) (by simp; omega) ?_)
  intro v1 w4 ow1 g4
  have k4 : Kept w3 w4 := Below.grown ((Kept.refl w3).alloc _) g4 (by simp) (fun b hb => (own_entsB w3 (Nat.le_refl w3.heap.size)).lt b hb |>.1)
  clear g4
  have OW1 := Lib.hid ow1
  obtain ⟨p1, q1, rfl⟩ := own_slice ow1
  clear ow1 r0
  have r1 := mcell (I3.out.kept k4).blk 1 rfl
  have H3 := Lib.hid (show Hls w3 none HHA by rw [← HA2.out]; exact I3.out.hls.front 0)
  have s4 : w3.heap.size ≤ w4.heap.size := Below.size k4
  have hr4 : r < w4.heap.size := by omega
  go_wp2_with (at_builtin; refine app_hls none 0 [] HHA _ _ rfl rfl rfl w3.heap.size (by simp; omega) (own_intsB w4 s4) 0 HAlh.out.symm rfl (H3.out.kept (k4.alloc _)) (fun _ => rfl) (by simp; omega) ?_)
  intro v2 w5 ow2 g5
  have k5 : Kept w3 w5 := Below.grown (k4.alloc _) g5 (by simp; omega) (fun b hb => (own_intsB w4 s4).lt b hb |>.1)
  have OW1b := Lib.hid (mown_other (OW1.out.alloc _) (own_intsB w4 s4) (by decide) g5)
  have OW2 := Lib.hid ow2
  obtain ⟨p2, q2, rfl⟩ := own_slice ow2
  clear ow2 r1 g5 OW1
  have s5 : w3.heap.size ≤ w5.heap.size := Below.size k5
  have x0 := mcell ((Below.block k5 _ hbs).trans HBX.out) 0 rfl; have x1 := mcell ((Below.block k5 _ hbs).trans HBX.out) 1 rfl; have x2 := mcell ((Below.block k5 _ hbs).trans HBX.out) 2 rfl; have x3 := mcell ((Below.block k5 _ hbs).trans HBX.out) 3 rfl
  have hbs5 : w.heap.size < w5.heap.size := by omega
  go_wp2_with (at_builtin; refine app_els (some ⟨w5.heap.size, 0, none⟩) 1 EA [e] _ _ rfl rfl rfl w3.heap.size (by simp; omega) (OW1b.out.alloc _) 1 rfl rfl (els_new1 w5 e) (fun q => by cases q) (by simp; omega) ?_)
  intro v3 w6 ow3 g6
  have k6 : Kept w3 w6 := Below.grown (k5.alloc _) g6 (by simp; omega) (fun b hb => ((OW1b.out.alloc (entObjR e)).lt b hb).1)
  have OW2b := Lib.hid (mown_other (OW2.out.alloc (entObjR e)) (OW1b.out.alloc (entObjR e)) (by decide) g6)
  have ow3c : w6.ownsRow w3.heap.size 51 4 v3 (EA ++ [e]).length (elc (EA ++ [e])) := by rw [List.length_append]; exact ow3
  generalize hP3 : EA ++ [e] = P3 at ow3c
  have HP3 := Lib.hid hP3
  have lP3 : P3.length ≤ 1001 := by rw [← hP3]; simp; omega
  clear hP3
  have OW3 := Lib.hid ow3c
  obtain ⟨p3, q3, rfl⟩ := own_slice ow3
  clear ow3 ow3c g6 OW1b OW2 x0 x1 x2 x3
  have s6 : w3.heap.size ≤ w6.heap.size := Below.size k6
  go_wp2_with (at_builtin; refine app_hls (some ⟨w6.heap.size, 0, none⟩) 1 HHA [n] _ _ rfl rfl rfl w3.heap.size (by simp; omega) (OW2b.out.alloc _) 1 rfl rfl (hls_new1 w6 n) (fun q => by cases q) (by simp; omega) ?_)
  intro v4 w7 ow4 g7
  have k7 : Kept w3 w7 := Below.grown (k6.alloc _) g7 (by simp; omega) (fun b hb => ((OW2b.out.alloc (.cells #[.int .i64 (n : Nat)] 3)).lt b hb).1)
  have OW3b := Lib.hid (mown_other (OW3.out.alloc (.cells #[.int .i64 (n : Nat)] 3)) (OW2b.out.alloc (.cells #[.int .i64 (n : Nat)] 3)) (by decide) g7)
  have ow4c : w7.ownsRow w3.heap.size 3 1 v4 (HHA ++ [n]).length (hlc (HHA ++ [n])) := by rw [List.length_append]; exact ow4
  generalize hP4 : HHA ++ [n] = P4 at ow4c
  have HP4 := Lib.hid hP4
  have lP4 : P4.length ≤ 1001 := by rw [← hP4]; simp; omega
  clear hP4
  have OW4 := Lib.hid ow4c
  obtain ⟨p4, q4, rfl⟩ := own_slice ow4
  clear ow4 ow4c g7 OW2b OW3
  have s7 : w3.heap.size ≤ w7.heap.size := Below.size k7
  have r0 := mcell (I3.out.kept k7).blk 0 rfl
  have f0 := mfrozen (I3.out.kept k7).blk 0
  have hr7 : r < w7.heap.size := by omega
  have E7 := Lib.hid (show Els w7 none EZ from fun j x hx => by have h1 := (List.getElem?_eq_some_iff.1 hx).1; have := HZle.out; omega)
  go_wp2_with (at_builtin; refine app_els none 0 P3 EZ _ _ rfl rfl rfl w3.heap.size s7 OW3b.out 0 (by have := HZle.out; omega) rfl E7.out (fun _ => rfl) (by omega) ?_)
  intro v5 w8 ow5 g8
  have hl5 : TP.length = P3.length + EZ.length := by rw [← Mm.ents_len TP, HPE.out, HP3.out, List.length_append]
  have ow5c : w8.ownsRow w3.heap.size 51 4 v5 TP.length (elc (Mm.ents TP)) := by rw [HPE.out, HP3.out, hl5]; exact ow5
  have k8 : Kept w3 w8 := Below.grown k7 g8 s7 (fun b hb => (OW3b.out.lt b hb).1)
  have OW4b := Lib.hid (mown_other OW4.out OW3b.out (by decide) g8)
  have OW5 := Lib.hid ow5c
  obtain ⟨A5, c5, rfl, L5⟩ := el_row ow5c
  clear ow5 ow5c g8 OW3b OW4 r0 f0 hl5
  have s8 : w3.heap.size ≤ w8.heap.size := Below.size k8
  have B8 := Lib.hid (I3.out.kept k8).blk
  have I8 := Lib.hid (I3.out.kept k8)
  have r0 := mcell B8.out 0 rfl
  have f0 := mfrozen B8.out 0
  have hr8 : r < w8.heap.size := mheap_lt B8.out
  have hb9 : (w8.setCell ⟨r, 0, none⟩ (.slice A5 TP.length c5)).heap[r]? = some (.cells #[.slice A5 TP.length c5, .slice none 0 0] 48) := by rw [mheap_set B8.out]; rfl
  have o9 : ∀ b, b ≠ r → (w8.setCell ⟨r, 0, none⟩ (.slice A5 TP.length c5)).heap[b]? = w8.heap[b]? := fun b hb => mheap_other hb
  have s9 : (w8.setCell ⟨r, 0, none⟩ (.slice A5 TP.length c5)).heap.size = w8.heap.size := by simp [World.setCell]
  have x9 : Ex (fun b => b = r) w8 (w8.setCell ⟨r, 0, none⟩ (.slice A5 TP.length c5)) := ex_set (Ex.refl _ _) (fun _ => rfl)
  have HB9 := Lib.hid hb9; have HO9 := Lib.hid o9; have HS9 := Lib.hid s9; have HX9 := Lib.hid x9
  clear hb9 o9 s9 x9
  have r1 := mcell B8.out 1 rfl
  have OW9 := Lib.hid (mown_same OW4b.out (fun b hb => HO9.out b (nr_of OW4b.out B8.out (by decide) b hb)))
  have OW59 := Lib.hid (mown_same OW5.out (fun b hb => HO9.out b (nr_of OW5.out B8.out (by decide) b hb)))
  have H9 : Hid (Hls (w8.setCell ⟨r, 0, none⟩ (.slice A5 TP.length c5)) none HHZ) := Lib.hid (fun j x hx => by have h1 := (List.getElem?_eq_some_iff.1 hx).1; have := HZlh.out; omega)
  go_wp2_with (at_builtin; refine app_hls none 0 P4 HHZ _ _ rfl rfl rfl w3.heap.size (by rw [HS9.out]; exact s8) OW9.out 0 (by have := HZlh.out; omega) rfl H9.out (fun _ => rfl) (by omega) ?_)
  intro v6 w10 ow6 g10
  have hl6 : TP.length = P4.length + HHZ.length := by rw [← Mm.hts_len TP, HPH.out, HP4.out, List.length_append]
  have ow6c : w10.ownsRow w3.heap.size 3 1 v6 TP.length (hlc (Mm.hts TP)) := by rw [HPH.out, HP4.out, hl6]; exact ow6
  have b10 : w10.heap[r]? = some (.cells #[.slice A5 TP.length c5, .slice none 0 0] 48) := (g10.block r (mheap_lt HB9.out) (fun q => nr_of OW9.out HB9.out (by decide) r q.symm rfl)).trans HB9.out
  have OW510 := Lib.hid (mown_other OW59.out OW9.out (by decide) g10)
  have OLD : Hid (∀ b, b < w.heap.size → b ≠ r → w10.heap[b]? = w.heap[b]?) := Lib.hid (fun b hb hbr => by
    have hws := Below.size k3
    rw [g10.block b (by rw [HS9.out]; omega) (fun q => by have := (OW9.out.lt b q.symm).1; omega), HO9.out b hbr]
    exact (Below.block k8 b (by omega)).trans (Below.block k3 b hb))
  have SZ : Hid (w.heap.size ≤ w10.heap.size) := Lib.hid (by have := g10.size; rw [HS9.out] at this; have := Below.size k3; omega)
  have OST : Hid (w10.os = w.os ∧ w10.tape = w.tape ∧ w10.output = w.output) := Lib.hid ⟨g10.os.trans (HX9.out.os.trans ((Below.os k8).trans (Below.os k3))), g10.tape.trans (HX9.out.tape.trans ((Below.tape k8).trans (Below.tape k3))), g10.output.trans (HX9.out.output.trans ((Below.output k8).trans (Below.output k3)))⟩
  have OW6 := Lib.hid ow6c
  obtain ⟨A6, c6, rfl, _⟩ := hl_row ow6c
  have B10 := Lib.hid b10
  have y1 := mcell b10 1 rfl
  have f1 := mfrozen b10 1
  have hr10 : r < w10.heap.size := mheap_lt b10
  clear ow6 ow6c g10 b10 r0 f0 r1 hl6
  go_wp2_with fail
  go_ret
  refine ⟨rfl, ?_, ?_⟩
  · have bF := mheap_set (o := 1) (v := .slice A6 TP.length c6) B10.out
    have oF : ∀ b, b ≠ r → (w10.setCell ⟨r, 1, none⟩ (.slice A6 TP.length c6)).heap[b]? = w10.heap[b]? := fun b hb => mheap_other hb
    have O5 := mown_same OW510.out (fun b hb => oF b (nr_of OW510.out B10.out (by decide) b hb))
    have O6 := mown_same OW6.out (fun b hb => oF b (nr_of OW6.out B10.out (by decide) b hb))
    obtain ⟨A5', c5', e5, L5'⟩ := el_row O5
    obtain ⟨A6', c6', e6, L6', N6, cp6, m6⟩ := hl_row O6
    simp only [Value.slice.injEq, true_and] at e5 e6
    obtain ⟨rfl, rfl⟩ := e5
    obtain ⟨rfl, rfl⟩ := e6
    have hws := Below.size k3
    have hne : TP ≠ [] := fun q => by have := HPL.out; rw [q] at this; simp at this
    obtain ⟨x0, xs0, hx0⟩ : ∃ x0 xs0, TP = x0 :: xs0 := by cases TP with | nil => exact absurd rfl hne | cons a l => exact ⟨a, l, rfl⟩
    obtain ⟨bA, oA, eA, hbA, _⟩ := L5'.els 0 x0.1 (by rw [hx0]; rfl)
    obtain ⟨bB, oB, eB, hbB, _⟩ := L6' 0 x0.2 (by rw [hx0]; rfl)
    exact ⟨_, _, _, _, { blk := bF, els := L5'.els, hls := L6', capL := (by have := L5'.cap; rw [Mm.ents_len] at this; exact this), capH := (by rw [Mm.hts_len] at cp6; exact cp6), mostL := L5'.most, mostH := m6, nilL := fun q => (by rw [q] at eA; cases eA), nilH := fun q => (by rw [q] at eB; cases eB), gr := .inl I3.out.gr, gL := fun b o q => ⟨.inr (by have := L5'.new b o q; omega), (by rw [q] at eA; cases eA; exact hbA), nr_of OW510.out B10.out (by decide) b (by rw [q]; rfl)⟩, gH := fun b o q => ⟨.inr (by have := (N6 b o q).1; omega), (by rw [q] at eB; cases eB; exact hbB), nr_of OW6.out B10.out (by decide) b (N6 b o q).2⟩, shape := .inr ⟨bA, oA, bB, oB, eA, eB⟩, good := HGP.out, few := by rw [HPL.out]; omega }⟩
  · exact ⟨OST.out.1, OST.out.2.1, OST.out.2.2, by have := SZ.out; simpa [World.setCell] using this, fun b hb hbr => (mheap_other hbr).trans (OLD.out b hb hbr)⟩
end
end Go.Proofs.Ytpbhbgoaaephgaa
