/-
  Put of package mem, whatever is put: what it tells, and what the table has then.
-/
import Derived.Test.YtpbhbgoaaephgaaMemPut
namespace Go.Proofs.Ytpbhbgoaaephgaa
open Go.ChangeShapes Go.WideShapes Go.ChangeAt Go.RowKit
set_option linter.unusedVariables false
set_option maxRecDepth 100000
set_option maxHeartbeats 2000000

theorem mput_form {w : World} {p : Nat} (e : Mm.Ent) (h : Int) (hk : e.key.length ≤ maxLen) (hv : e.val.length ≤ maxLen) (hm : Mm.may e = false) :
    Calls Try.prog 27 #[.pointer (some ⟨p, 0, none⟩), entV e, .int .i64 h] w fun r w' => r = .returned (.int .i64 2) ∧ Kept w w' := by
  have hc := mmay_any e hk hv
  rw [hm] at hc
  unfold entV at *
  clear hm hk hv
  go_enter Try.func27, Try.ntmps27
  go_wp2_with fail
  refine (hc _).mono ?_
  rintro r w1 ⟨rfl, g1⟩
  go_wp2_with fail
  go_ret
  exact ⟨rfl, kept_trans ((Kept.refl _).alloc _) g1⟩
theorem mput_arg {w : World} {p : Nat} (e : Mm.Ent) (h : Int) (hk : e.key.length ≤ maxLen) (hv : e.val.length ≤ maxLen) (hm : Mm.may e = true) (hh : h < 1 ∨ 8 < h) :
    Calls Try.prog 27 #[.pointer (some ⟨p, 0, none⟩), entV e, .int .i64 h] w fun r w' => r = .returned (.int .i64 1) ∧ Kept w w' := by
  have hc := mmay_any e hk hv
  rw [hm] at hc
  unfold entV at *
  clear hm hk hv
  rcases (show h < 1 ∨ (¬ h < 1 ∧ 8 < h) by omega) with h1 | ⟨h1, h2⟩
  · have d1 : decide (h < 1) = true := decide_eq_true h1
    clear hh
    go_enter Try.func27, Try.ntmps27
    go_wp2_with fail
    refine (hc _).mono ?_
    rintro r w1 ⟨rfl, g1⟩
    go_wp2_with fail
    go_ret
    exact ⟨rfl, kept_trans ((Kept.refl _).alloc _) g1⟩
  · have d1 : decide (h < 1) = false := decide_eq_false h1
    have d2 : decide (8 < h) = true := decide_eq_true h2
    clear hh
    go_enter Try.func27, Try.ntmps27
    go_wp2_with fail
    refine (hc _).mono ?_
    rintro r w1 ⟨rfl, g1⟩
    go_wp2_with fail
    go_ret
    exact ⟨rfl, kept_trans ((Kept.refl _).alloc _) g1⟩
theorem mbox4 {w w1 : World} {a b c d : Value} {t : TypeId} (k : Kept (w.alloc (.cells #[a, b, c, d] t)) w1) : w1.heap[w.heap.size]? = some (.cells #[a, b, c, d] t) := (Below.block k _ (by rw [malloc_size]; omega)).trans (malloc_new w _)
/-- what stands at the first place behind those that are ahead -/
theorem IsTab.zero {w : World} {p : Nat} {N : List Mm.Nd} {g : Nat → Nat → Option Nat} (h : IsTab w p N g) (k : List UInt8) (s : Nat) : lastAt p (Mm.nA N k s) 0 ∈ p :: Mm.blks N ∧ w.cell? ⟨lastAt p (Mm.nA N k s) 0, 5, none⟩ = some (pv ((Mm.nZ N k s).head?.map Mm.Nd.b)) := by
  have hl : lastAt p (Mm.nA N k s) 0 ∈ p :: Mm.blks N := lst_in (fun x hx => nA_sub (fl_sub hx))
  have c1 := h.mem.link hl (j := 0) (by omega)
  have hg : g (lastAt p (Mm.nA N k s) 0) 0 = (Mm.nZ N k s).head?.map Mm.Nd.b := by
    unfold lastAt
    rw [fl_low (fun x hx => low_of h.good x (nA_sub hx))]
    exact h.next (by omega) (by rw [fl_low (low_of h.good), Mm.nAZ])
  rw [hg] at c1
  exact ⟨hl, c1⟩
theorem mput_twice {w : World} {p : Nat} {N : List Mm.Nd} {g : Nat → Nat → Option Nat} (h0 : IsTab w p N g) (e : Mm.Ent) (h : Int) (hk : e.key.length ≤ maxLen) (hv : e.val.length ≤ maxLen) (hm : Mm.may e = true) (h1 : 1 ≤ h) (h2 : h ≤ 8) (hh : Mm.has (Mm.view N) e.key e.seq = true) :
    Calls Try.prog 27 #[.pointer (some ⟨p, 0, none⟩), entV e, .int .i64 h] w fun r w' => r = .returned (.int .i64 11) ∧ Kept w w' := by
  have hc := mmay_any e hk hv
  have hs := fun W (K : Kept w W) => search_any (h0.kept K) e.key e.seq
  rw [hm] at hc
  obtain ⟨hl0, c1⟩ := h0.zero e.key e.seq
  have hl0 := h0.mem.lt hl0
  have hz := Mm.view_Z N e.key e.seq
  unfold Mm.has at hh
  rw [← hz] at hh
  cases hn : Mm.nZ N e.key e.seq with
  | nil => rw [hn] at hh; simp [Mm.view] at hh
  | cons z r =>
    rw [hn] at hh c1
    have hzn : z ∈ N := nZ_sub (k := e.key) (s := e.seq) (by rw [hn]; simp)
    have hzl := h0.mem.lt (List.mem_cons_of_mem p (List.mem_map.2 ⟨z, hzn, rfl⟩))
    obtain ⟨b0, b1, b2, b3, b4⟩ := h0.mem.ent hzn
    simp only [Mm.view, List.map_cons, Mm.Nd.v, Bool.and_eq_true, decide_eq_true_iff] at hh
    rw [hh.1] at b0
    rw [hh.2] at b1
    have c1 : w.cell? ⟨lastAt p (Mm.nA N e.key e.seq) 0, 5, none⟩ = some (.pointer (some ⟨z.b, 0, none⟩)) := c1
    unfold lasts entV at *
    simp only [show ∀ b, pv (some b) = .pointer (some ⟨b, 0, none⟩) from fun _ => rfl] at hs
    have d1 : decide (h < 1) = false := by simp; omega
    have d2 : decide (8 < h) = false := by simp; omega
    generalize lastAt p (Mm.nA N e.key e.seq) 0 = l0 at *
    clear hm hk hv h0 hz hn hh hzn b2 b3 b4
    go_enter Try.func27, Try.ntmps27
    go_wp2_with fail
    refine (hc _).mono ?_
    rintro r w1 ⟨rfl, g1⟩
    have hb := mbox4 g1
    have k1 := kept_trans ((Kept.refl w).alloc _) g1
    have a0 := mcell hb 0 rfl; have a1 := mcell hb 1 rfl
    have hbl := mheap_lt hb
    go_wp2_with fail
    refine (hs _ k1).mono ?_
    rintro r w2 ⟨rfl, g2⟩
    have k2 := kept_trans k1 g2
    have hb2 := (Below.block g2 _ hbl).trans hb
    have e0 := mcell hb2 0 rfl; have e1 := mcell hb2 1 rfl
    have hbl2 := mheap_lt hb2
    have c2 := (kept_cell k2 (p := ⟨l0, 5, none⟩) hl0).trans c1
    have z0 := (kept_cell k2 (p := ⟨z.b, 0, none⟩) hzl).trans b0
    have z1 := (kept_cell k2 (p := ⟨z.b, 1, none⟩) hzl).trans b1
    have l2 : l0 < w2.heap.size := Nat.lt_of_lt_of_le hl0 (Below.size k2)
    have l3 : z.b < w2.heap.size := Nat.lt_of_lt_of_le hzl (Below.size k2)
    clear hb hb2 a0 a1 c1 b0 b1
    go_wp2_with fail
    go_quiet (fail)
    go_wp2_with fail
    go_ret
    refine ⟨rfl, ?_⟩
    exact kept_trans k2 (kept_trans ((Kept.refl _).alloc _) (kept_drewN _ _))
theorem two_new (w2 : World) (o o' : Obj) (n : Nat) : (((w2.alloc o).drewN n).alloc o').heap[w2.heap.size + 1]? = some o' := by
  have h := malloc_new ((w2.alloc o).drewN n) o'
  have e : ((w2.alloc o).drewN n).heap.size = w2.heap.size + 1 := malloc_size w2 o
  rw [e] at h
  exact h
theorem link_ready {w W : World} {p : Nat} {N : List Mm.Nd} {g : Nat → Nat → Option Nat} (h : IsTab w p N g) (X : Nat) (e : Mm.Ent) (hh : Nat) (la : Nat → Nat) (hX : X ∉ p :: Mm.blks N) (K : Kept w W) (hx : W.heap[X]? = some (nodeObj ⟨X, e, hh⟩ (fun _ => none))) : Nodes W p (⟨X, e, hh⟩ :: N) (mid g X la 0) N.length (Mm.size (Mm.view N)) := by
  have e1 : ∀ b, b ∈ p :: Mm.blks N → mid g X la 0 b = g b := fun b hb => by
    funext j
    unfold mid
    rw [if_neg (Nat.not_lt_zero j), if_neg (fun e => hX (by rw [← e]; exact hb))]
  have e2 : mid g X la 0 X = fun _ => none := by
    funext j
    unfold mid
    rw [if_neg (Nat.not_lt_zero j), if_pos rfl]
  have hk := h.mem.kept K
  refine ⟨by rw [e1 p List.mem_cons_self]; exact hk.tab, fun x hx' => ?_⟩
  rcases List.mem_cons.1 hx' with rfl | hx'
  · rw [e2]; exact hx
  · rw [e1 x.b (List.mem_cons_of_mem _ (List.mem_map.2 ⟨x, hx', rfl⟩))]; exact hk.node x hx'
/-- what a put leaves that is told OK -/
def PutTo (w w' : World) (p : Nat) (N : List Mm.Nd) (e : Mm.Ent) (n : Nat) : Prop := ∃ N' g', IsTab w' p N' g' ∧ Mm.view N' = Mm.put (Mm.view N) e (n : Nat) ∧ (∀ b ∈ p :: Mm.blks N', b ∈ p :: Mm.blks N ∨ w.heap.size ≤ b) ∧ Ex (fun b => b ∈ p :: Mm.blks N) w w'
theorem put_end {w W w5 w6 : World} {p X n : Nat} {N : List Mm.Nd} {g : Nat → Nat → Option Nat} {e : Mm.Ent} (h : IsTab w p N g) (hf : N.length < 1000) (hX : X ∉ p :: Mm.blks N) (hXs : w.heap.size ≤ X) (hc : Mm.code (Mm.view N) e (n : Nat) = 0) (k : Kept w W) (x5 : Ex (fun b => b ∈ p :: Mm.blks (⟨X, e, n⟩ :: N)) W w5) (x6 : Ex (fun b => b ∈ p :: Mm.blks N) w5 w6)
    (hm : Nodes w6 p (⟨X, e, n⟩ :: N) (mid g X (lastAt p (Mm.nA N e.key e.seq)) n) (N.length + 1) (Mm.size (Mm.view N) + Mm.sizeE e)) : PutTo w w6 p N e n := by
  obtain ⟨h1, h2⟩ := h.ins hf ⟨X, e, n⟩ hX hc hm
  refine ⟨_, _, h1, h2, fun b hb => ?_, ?_⟩
  · rcases List.mem_cons.1 hb with rfl | hb
    · exact .inl List.mem_cons_self
    · rw [Mm.blks_app, List.mem_append] at hb
      have hs : ∀ {l : List Mm.Nd}, (∀ x ∈ l, x ∈ N) → b ∈ Mm.blks l → b ∈ p :: Mm.blks N := fun hl hb => by
        obtain ⟨x, hx, rfl⟩ := List.mem_map.1 hb
        exact List.mem_cons_of_mem _ (List.mem_map.2 ⟨x, hl x hx, rfl⟩)
      rcases hb with hb | hb
      · exact .inl (hs (fun x hx => nA_sub hx) hb)
      · rcases List.mem_cons.1 hb with hb | hb
        · refine .inr ?_
          rw [hb]; exact hXs
        · exact .inl (hs (fun x hx => nZ_sub hx) hb)
  · have a1 : Ex (fun b => b ∈ p :: Mm.blks N) w W := ex_kept k
    refine (a1.trans x5 (fun i hi hb => ?_)).trans x6 (fun i _ hb => hb)
    rcases List.mem_cons.1 hb with rfl | hb
    · exact List.mem_cons_self
    · rcases List.mem_cons.1 hb with hb | hb
      · have hXi : i = X := hb
        omega
      · exact List.mem_cons_of_mem _ hb
theorem mput_end {w : World} {p : Nat} {N : List Mm.Nd} {g : Nat → Nat → Option Nat} (h0 : IsTab w p N g) (hf : N.length < 1000) (e : Mm.Ent) (n : Nat) (hk : e.key.length ≤ maxLen) (hv : e.val.length ≤ maxLen) (h1 : 1 ≤ n) (h2 : n ≤ 8) (h3 : Mm.code (Mm.view N) e (n : Nat) = 0) (hn : Mm.nZ N e.key e.seq = []) :
    Calls Try.prog 27 #[.pointer (some ⟨p, 0, none⟩), entV e, .int .i64 (n : Nat)] w fun r w' => r = .returned (.int .i64 0) ∧ PutTo w w' p N e n := by
  have hc := mmay_any e hk hv
  have hs := fun W (K : Kept w W) => search_any (h0.kept K) e.key e.seq
  obtain ⟨hm, _, _, hhas⟩ := Mm.code_zero.1 h3
  obtain ⟨hk1, hk2, hv2, _, _, _⟩ := Mm.may_iff.1 hm
  rw [hm] at hc
  have hz := Mm.view_Z N e.key e.seq
  obtain ⟨hl0, c1⟩ := h0.zero e.key e.seq
  have hl0 := h0.mem.lt hl0
  rw [hn] at c1
  have c1 : w.cell? ⟨lastAt p (Mm.nA N e.key e.seq) 0, 5, none⟩ = some (.pointer none) := c1
  clear hn
  unfold lasts entV at *
  simp only [show ∀ b, pv (some b) = .pointer (some ⟨b, 0, none⟩) from fun _ => rfl] at hs
  have d1 : decide ((n : Int) < 1) = false := by simp; omega
  have d2 : decide (8 < (n : Int)) = false := by simp; omega
  have HP := Lib.hid h3
  have HT := Lib.hid h0
  have hnd := fun X (hX : X ∉ p :: Mm.blks N) => (show (p :: X :: Mm.blks N).Nodup from (List.Perm.swap X p _).nodup_iff.2 (List.nodup_cons.2 ⟨hX, h0.nodup⟩))
  have HND := Lib.hid hnd
  have hlnk := fun (W : World) (X : Nat) (hX : X ∉ p :: Mm.blks N) (hW : Nodes W p (⟨X, e, n⟩ :: N) (mid g X (lastAt p (Mm.nA N e.key e.seq)) 0) N.length (Mm.size (Mm.view N))) => mlink_any (x := ⟨X, e, n⟩) (lastAt p (Mm.nA N e.key e.seq)) hW (hnd X hX) (fun j => lst_in (fun x hx => nA_sub (fl_sub hx))) h2
  have hsz := Mm.size_le h0.good
  rw [show (Mm.view N).length = N.length by simp [Mm.view]] at hsz
  have hlt := fun b (hb : b ∈ p :: Mm.blks N) => h0.mem.lt hb
  have HLT := Lib.hid hlt
  have hplt := hlt p List.mem_cons_self
  have HLK := Lib.hid hlnk
  have hq1 := mbs_size e.key; have hq2 := mbs_size e.val
  have q1 : (bs e.key).size ≤ 100 := by omega
  have q2 : (bs e.val).size ≤ 100 := by omega
  have HSE : Hid (Mm.sizeE e = (bs e.key).size + (bs e.val).size) := Lib.hid (by unfold Mm.sizeE; omega)
  clear hm hk hv h0 hz hhas h3 hlnk hlt hk1 hk2 hv2 hq1 hq2 hnd
  go_enter Try.func27, Try.ntmps27
  go_wp2_with fail
  refine (hc _).mono ?_
  rintro r w1 ⟨rfl, g1⟩
  have hb := mbox4 g1
  have k1 := kept_trans ((Kept.refl w).alloc _) g1
  have a0 := mcell hb 0 rfl; have a1 := mcell hb 1 rfl
  have hbl := mheap_lt hb
  go_wp2_with fail
  refine (hs _ k1).mono ?_
  rintro r w2 ⟨rfl, g2⟩
  have k2 := kept_trans k1 g2
  have hb2 := (Below.block g2 _ hbl).trans hb
  have e0 := mcell hb2 0 rfl; have e1 := mcell hb2 1 rfl; have e2 := mcell hb2 2 rfl; have e3 := mcell hb2 3 rfl
  have hbl2 := mheap_lt hb2
  have c2 := (kept_cell k2 (p := ⟨lastAt p (Mm.nA N e.key e.seq) 0, 5, none⟩) hl0).trans c1
  have l2 : lastAt p (Mm.nA N e.key e.seq) 0 < w2.heap.size := Nat.lt_of_lt_of_le hl0 (Below.size k2)
  have HB2 := Lib.hid hb2
  clear hb hb2 a0 a1 c1 hc hs
  go_wp2_with fail
  go_quiet (fail)
  go_wp2_with fail
  have hXn : w2.heap.size + 1 ∉ p :: Mm.blks N := fun hb => by have := HLT.out _ hb; have := Below.size k2; omega
  have KW : ∀ o o', Kept w2 (((w2.alloc o).drewN nq).alloc o') := fun o o' => (kept_trans ((Kept.refl _).alloc _) (kept_drewN _ _)).alloc _
  refine (HLK.out _ (w2.heap.size + 1) hXn (link_ready HT.out _ _ _ _ hXn (kept_trans k2 (KW _ _)) ?_)).mono ?_
  · exact two_new _ _ _ _
  rintro r w5 ⟨⟨v, rfl⟩, N5, X5⟩
  have hbx : w.heap.size ∉ p :: Mm.blks (⟨w2.heap.size + 1, e, n⟩ :: N) := fun hb => by
    rcases List.mem_cons.1 hb with hb | hb
    · omega
    · rcases List.mem_cons.1 hb with hb | hb
      · have hb' : w.heap.size = w2.heap.size + 1 := hb
        omega
      · have := HLT.out _ (List.mem_cons_of_mem _ hb); omega
  have hb5 := (X5.block _ (Nat.lt_of_lt_of_le hbl2 (Below.size (KW _ _))) hbx).trans ((Below.block (KW _ _) _ hbl2).trans HB2.out)
  have e0 := mcell hb5 0 rfl; have e3 := mcell hb5 3 rfl
  have t0 := mcell N5.tab 13 rfl; have t1 := mcell N5.tab 14 rfl
  have f0 := mfrozen N5.tab 13; have f1 := mfrozen N5.tab 14
  have HKW := Lib.hid (fun o o' => kept_trans k2 (KW o o'))
  have ec : ((N.length + 1 : Nat) : Int) = (N.length : Int) + 1 := by omega
  have N6 := N5.count (HND.out _ hXn) (N.length + 1)
  have X6 : Ex (fun b => b ∈ p :: Mm.blks N) w5 (w5.setCell ⟨p, 13, none⟩ (.int .i64 ((N.length + 1 : Nat) : Int))) := ex_set (Ex.refl _ _) (fun _ => List.mem_cons_self)
  have hb6 : (w5.setCell ⟨p, 13, none⟩ (.int .i64 ((N.length + 1 : Nat) : Int))).heap[w.heap.size]? = _ := (mheap_other (by omega)).trans hb5
  rw [ec] at N6 X6 hb6
  have HN6 := Lib.hid N6; have HX6 := Lib.hid X6; have HX5 := Lib.hid X5; have HB6 := Lib.hid hb6
  clear N6 X6 X5 hb6 hb5 N5 KW HB2 ec hbx e1 e2 c2
  go_wp2_with fail
  have e0 := mcell HB6.out 0 rfl; have e3 := mcell HB6.out 3 rfl
  have t1 := mcell HN6.out.tab 14 rfl
  have f1 := mfrozen HN6.out.tab 14
  have hbl6 := mheap_lt HB6.out
  generalize w5.setCell ⟨p, 13, none⟩ (.int .i64 ((N.length : Int) + 1)) = w6 at *
  go_region
  have ec : ((Mm.size (Mm.view N) + Mm.sizeE e : Nat) : Int) = (Mm.size (Mm.view N) : Int) + (((bs e.key).size : Int) + ((bs e.val).size : Int)) := by rw [HSE.out]; omega
  have N7 := (HN6.out.sized (HND.out _ hXn) (Mm.size (Mm.view N) + Mm.sizeE e)).drew
  have X7 : Ex (fun b => b ∈ p :: Mm.blks N) w5 (w6.setCell ⟨p, 14, none⟩ (.int .i64 ((Mm.size (Mm.view N) + Mm.sizeE e : Nat) : Int))).drew := (ex_set HX6.out (fun _ => List.mem_cons_self)).drew
  rw [ec] at N7 X7
  have HPT := Lib.hid (put_end HT.out hf hXn (by have := Below.size k2; omega) HP.out (HKW.out _ _) HX5.out X7 N7)
  clear N7 X7 ec
  go_wp2_with fail
  go_ret
  exact ⟨rfl, HPT.out⟩
theorem mput_key {w : World} {p : Nat} {N : List Mm.Nd} {g : Nat → Nat → Option Nat} (h0 : IsTab w p N g) (hf : N.length < 1000) (e : Mm.Ent) (n : Nat) (hk : e.key.length ≤ maxLen) (hv : e.val.length ≤ maxLen) (h1 : 1 ≤ n) (h2 : n ≤ 8) (h3 : Mm.code (Mm.view N) e (n : Nat) = 0) (z : Mm.Nd) (r : List Mm.Nd) (hn : Mm.nZ N e.key e.seq = z :: r) (t1 : ((bs z.e.key).toList == (bs e.key).toList) = false) :
    Calls Try.prog 27 #[.pointer (some ⟨p, 0, none⟩), entV e, .int .i64 (n : Nat)] w fun r w' => r = .returned (.int .i64 0) ∧ PutTo w w' p N e n := by
  have hc := mmay_any e hk hv
  have hs := fun W (K : Kept w W) => search_any (h0.kept K) e.key e.seq
  obtain ⟨hm, _, _, hhas⟩ := Mm.code_zero.1 h3
  obtain ⟨hk1, hk2, hv2, _, _, _⟩ := Mm.may_iff.1 hm
  rw [hm] at hc
  have hz := Mm.view_Z N e.key e.seq
  obtain ⟨hl0, c1⟩ := h0.zero e.key e.seq
  have hl0 := h0.mem.lt hl0
  rw [hn] at c1
  have hzn : z ∈ N := nZ_sub (k := e.key) (s := e.seq) (by rw [hn]; simp)
  have hzl := h0.mem.lt (List.mem_cons_of_mem p (List.mem_map.2 ⟨z, hzn, rfl⟩))
  obtain ⟨b0, b1, b2, b3, b4⟩ := h0.mem.ent hzn
  have c1 : w.cell? ⟨lastAt p (Mm.nA N e.key e.seq) 0, 5, none⟩ = some (.pointer (some ⟨z.b, 0, none⟩)) := c1
  clear hn b2 b3 b4 hzn
  unfold lasts entV at *
  simp only [show ∀ b, pv (some b) = .pointer (some ⟨b, 0, none⟩) from fun _ => rfl] at hs
  have d1 : decide ((n : Int) < 1) = false := by simp; omega
  have d2 : decide (8 < (n : Int)) = false := by simp; omega
  have HP := Lib.hid h3
  have HT := Lib.hid h0
  have hnd := fun X (hX : X ∉ p :: Mm.blks N) => (show (p :: X :: Mm.blks N).Nodup from (List.Perm.swap X p _).nodup_iff.2 (List.nodup_cons.2 ⟨hX, h0.nodup⟩))
  have HND := Lib.hid hnd
  have hlnk := fun (W : World) (X : Nat) (hX : X ∉ p :: Mm.blks N) (hW : Nodes W p (⟨X, e, n⟩ :: N) (mid g X (lastAt p (Mm.nA N e.key e.seq)) 0) N.length (Mm.size (Mm.view N))) => mlink_any (x := ⟨X, e, n⟩) (lastAt p (Mm.nA N e.key e.seq)) hW (hnd X hX) (fun j => lst_in (fun x hx => nA_sub (fl_sub hx))) h2
  have hsz := Mm.size_le h0.good
  rw [show (Mm.view N).length = N.length by simp [Mm.view]] at hsz
  have hlt := fun b (hb : b ∈ p :: Mm.blks N) => h0.mem.lt hb
  have HLT := Lib.hid hlt
  have hplt := hlt p List.mem_cons_self
  have HLK := Lib.hid hlnk
  have hq1 := mbs_size e.key; have hq2 := mbs_size e.val
  have q1 : (bs e.key).size ≤ 100 := by omega
  have q2 : (bs e.val).size ≤ 100 := by omega
  have HSE : Hid (Mm.sizeE e = (bs e.key).size + (bs e.val).size) := Lib.hid (by unfold Mm.sizeE; omega)
  clear hm hk hv h0 hz hhas h3 hlnk hlt hk1 hk2 hv2 hq1 hq2 hnd
  go_enter Try.func27, Try.ntmps27
  go_wp2_with fail
  refine (hc _).mono ?_
  rintro r w1 ⟨rfl, g1⟩
  have hb := mbox4 g1
  have k1 := kept_trans ((Kept.refl w).alloc _) g1
  have a0 := mcell hb 0 rfl; have a1 := mcell hb 1 rfl
  have hbl := mheap_lt hb
  go_wp2_with fail
  refine (hs _ k1).mono ?_
  rintro r w2 ⟨rfl, g2⟩
  have k2 := kept_trans k1 g2
  have hb2 := (Below.block g2 _ hbl).trans hb
  have e0 := mcell hb2 0 rfl; have e1 := mcell hb2 1 rfl; have e2 := mcell hb2 2 rfl; have e3 := mcell hb2 3 rfl
  have hbl2 := mheap_lt hb2
  have c2 := (kept_cell k2 (p := ⟨lastAt p (Mm.nA N e.key e.seq) 0, 5, none⟩) hl0).trans c1
  have l2 : lastAt p (Mm.nA N e.key e.seq) 0 < w2.heap.size := Nat.lt_of_lt_of_le hl0 (Below.size k2)
  have z0 := (kept_cell k2 (p := ⟨z.b, 0, none⟩) hzl).trans b0
  have z1 := (kept_cell k2 (p := ⟨z.b, 1, none⟩) hzl).trans b1
  have l3 : z.b < w2.heap.size := Nat.lt_of_lt_of_le hzl (Below.size k2)
  clear b0 b1
  have HB2 := Lib.hid hb2
  clear hb hb2 a0 a1 c1 hc hs
  go_wp2_with fail
  go_quiet (fail)
  go_wp2_with fail
  have hXn : w2.heap.size + 1 ∉ p :: Mm.blks N := fun hb => by have := HLT.out _ hb; have := Below.size k2; omega
  have KW : ∀ o o', Kept w2 (((w2.alloc o).drewN nq).alloc o') := fun o o' => (kept_trans ((Kept.refl _).alloc _) (kept_drewN _ _)).alloc _
  refine (HLK.out _ (w2.heap.size + 1) hXn (link_ready HT.out _ _ _ _ hXn (kept_trans k2 (KW _ _)) ?_)).mono ?_
  · exact two_new _ _ _ _
  rintro r w5 ⟨⟨v, rfl⟩, N5, X5⟩
  have hbx : w.heap.size ∉ p :: Mm.blks (⟨w2.heap.size + 1, e, n⟩ :: N) := fun hb => by
    rcases List.mem_cons.1 hb with hb | hb
    · omega
    · rcases List.mem_cons.1 hb with hb | hb
      · have hb' : w.heap.size = w2.heap.size + 1 := hb
        omega
      · have := HLT.out _ (List.mem_cons_of_mem _ hb); omega
  have hb5 := (X5.block _ (Nat.lt_of_lt_of_le hbl2 (Below.size (KW _ _))) hbx).trans ((Below.block (KW _ _) _ hbl2).trans HB2.out)
  have e0 := mcell hb5 0 rfl; have e3 := mcell hb5 3 rfl
  have t0 := mcell N5.tab 13 rfl; have t1 := mcell N5.tab 14 rfl
  have f0 := mfrozen N5.tab 13; have f1 := mfrozen N5.tab 14
  have HKW := Lib.hid (fun o o' => kept_trans k2 (KW o o'))
  have ec : ((N.length + 1 : Nat) : Int) = (N.length : Int) + 1 := by omega
  have N6 := N5.count (HND.out _ hXn) (N.length + 1)
  have X6 : Ex (fun b => b ∈ p :: Mm.blks N) w5 (w5.setCell ⟨p, 13, none⟩ (.int .i64 ((N.length + 1 : Nat) : Int))) := ex_set (Ex.refl _ _) (fun _ => List.mem_cons_self)
  have hb6 : (w5.setCell ⟨p, 13, none⟩ (.int .i64 ((N.length + 1 : Nat) : Int))).heap[w.heap.size]? = _ := (mheap_other (by omega)).trans hb5
  rw [ec] at N6 X6 hb6
  have HN6 := Lib.hid N6; have HX6 := Lib.hid X6; have HX5 := Lib.hid X5; have HB6 := Lib.hid hb6
  clear N6 X6 X5 hb6 hb5 N5 KW HB2 ec hbx e1 e2 c2
  go_wp2_with fail
  have e0 := mcell HB6.out 0 rfl; have e3 := mcell HB6.out 3 rfl
  have t1 := mcell HN6.out.tab 14 rfl
  have f1 := mfrozen HN6.out.tab 14
  have hbl6 := mheap_lt HB6.out
  generalize w5.setCell ⟨p, 13, none⟩ (.int .i64 ((N.length : Int) + 1)) = w6 at *
  go_region
  have ec : ((Mm.size (Mm.view N) + Mm.sizeE e : Nat) : Int) = (Mm.size (Mm.view N) : Int) + (((bs e.key).size : Int) + ((bs e.val).size : Int)) := by rw [HSE.out]; omega
  have N7 := (HN6.out.sized (HND.out _ hXn) (Mm.size (Mm.view N) + Mm.sizeE e)).drew
  have X7 : Ex (fun b => b ∈ p :: Mm.blks N) w5 (w6.setCell ⟨p, 14, none⟩ (.int .i64 ((Mm.size (Mm.view N) + Mm.sizeE e : Nat) : Int))).drew := (ex_set HX6.out (fun _ => List.mem_cons_self)).drew
  rw [ec] at N7 X7
  have HPT := Lib.hid (put_end HT.out hf hXn (by have := Below.size k2; omega) HP.out (HKW.out _ _) HX5.out X7 N7)
  clear N7 X7 ec
  go_wp2_with fail
  go_ret
  exact ⟨rfl, HPT.out⟩
theorem mput_num {w : World} {p : Nat} {N : List Mm.Nd} {g : Nat → Nat → Option Nat} (h0 : IsTab w p N g) (hf : N.length < 1000) (e : Mm.Ent) (n : Nat) (hk : e.key.length ≤ maxLen) (hv : e.val.length ≤ maxLen) (h1 : 1 ≤ n) (h2 : n ≤ 8) (h3 : Mm.code (Mm.view N) e (n : Nat) = 0) (z : Mm.Nd) (r : List Mm.Nd) (hn : Mm.nZ N e.key e.seq = z :: r) (t0 : z.e.key = e.key) (t1 : ((z.e.seq : Int) == (e.seq : Int)) = false) :
    Calls Try.prog 27 #[.pointer (some ⟨p, 0, none⟩), entV e, .int .i64 (n : Nat)] w fun r w' => r = .returned (.int .i64 0) ∧ PutTo w w' p N e n := by
  have hc := mmay_any e hk hv
  have hs := fun W (K : Kept w W) => search_any (h0.kept K) e.key e.seq
  obtain ⟨hm, _, _, hhas⟩ := Mm.code_zero.1 h3
  obtain ⟨hk1, hk2, hv2, _, _, _⟩ := Mm.may_iff.1 hm
  rw [hm] at hc
  have hz := Mm.view_Z N e.key e.seq
  obtain ⟨hl0, c1⟩ := h0.zero e.key e.seq
  have hl0 := h0.mem.lt hl0
  rw [hn] at c1
  have hzn : z ∈ N := nZ_sub (k := e.key) (s := e.seq) (by rw [hn]; simp)
  have hzl := h0.mem.lt (List.mem_cons_of_mem p (List.mem_map.2 ⟨z, hzn, rfl⟩))
  obtain ⟨b0, b1, b2, b3, b4⟩ := h0.mem.ent hzn
  have c1 : w.cell? ⟨lastAt p (Mm.nA N e.key e.seq) 0, 5, none⟩ = some (.pointer (some ⟨z.b, 0, none⟩)) := c1
  rw [t0] at b0
  clear t0 hn b2 b3 b4 hzn
  unfold lasts entV at *
  simp only [show ∀ b, pv (some b) = .pointer (some ⟨b, 0, none⟩) from fun _ => rfl] at hs
  have d1 : decide ((n : Int) < 1) = false := by simp; omega
  have d2 : decide (8 < (n : Int)) = false := by simp; omega
  have HP := Lib.hid h3
  have HT := Lib.hid h0
  have hnd := fun X (hX : X ∉ p :: Mm.blks N) => (show (p :: X :: Mm.blks N).Nodup from (List.Perm.swap X p _).nodup_iff.2 (List.nodup_cons.2 ⟨hX, h0.nodup⟩))
  have HND := Lib.hid hnd
  have hlnk := fun (W : World) (X : Nat) (hX : X ∉ p :: Mm.blks N) (hW : Nodes W p (⟨X, e, n⟩ :: N) (mid g X (lastAt p (Mm.nA N e.key e.seq)) 0) N.length (Mm.size (Mm.view N))) => mlink_any (x := ⟨X, e, n⟩) (lastAt p (Mm.nA N e.key e.seq)) hW (hnd X hX) (fun j => lst_in (fun x hx => nA_sub (fl_sub hx))) h2
  have hsz := Mm.size_le h0.good
  rw [show (Mm.view N).length = N.length by simp [Mm.view]] at hsz
  have hlt := fun b (hb : b ∈ p :: Mm.blks N) => h0.mem.lt hb
  have HLT := Lib.hid hlt
  have hplt := hlt p List.mem_cons_self
  have HLK := Lib.hid hlnk
  have hq1 := mbs_size e.key; have hq2 := mbs_size e.val
  have q1 : (bs e.key).size ≤ 100 := by omega
  have q2 : (bs e.val).size ≤ 100 := by omega
  have HSE : Hid (Mm.sizeE e = (bs e.key).size + (bs e.val).size) := Lib.hid (by unfold Mm.sizeE; omega)
  clear hm hk hv h0 hz hhas h3 hlnk hlt hk1 hk2 hv2 hq1 hq2 hnd
  go_enter Try.func27, Try.ntmps27
  go_wp2_with fail
  refine (hc _).mono ?_
  rintro r w1 ⟨rfl, g1⟩
  have hb := mbox4 g1
  have k1 := kept_trans ((Kept.refl w).alloc _) g1
  have a0 := mcell hb 0 rfl; have a1 := mcell hb 1 rfl
  have hbl := mheap_lt hb
  go_wp2_with fail
  refine (hs _ k1).mono ?_
  rintro r w2 ⟨rfl, g2⟩
  have k2 := kept_trans k1 g2
  have hb2 := (Below.block g2 _ hbl).trans hb
  have e0 := mcell hb2 0 rfl; have e1 := mcell hb2 1 rfl; have e2 := mcell hb2 2 rfl; have e3 := mcell hb2 3 rfl
  have hbl2 := mheap_lt hb2
  have c2 := (kept_cell k2 (p := ⟨lastAt p (Mm.nA N e.key e.seq) 0, 5, none⟩) hl0).trans c1
  have l2 : lastAt p (Mm.nA N e.key e.seq) 0 < w2.heap.size := Nat.lt_of_lt_of_le hl0 (Below.size k2)
  have z0 := (kept_cell k2 (p := ⟨z.b, 0, none⟩) hzl).trans b0
  have z1 := (kept_cell k2 (p := ⟨z.b, 1, none⟩) hzl).trans b1
  have l3 : z.b < w2.heap.size := Nat.lt_of_lt_of_le hzl (Below.size k2)
  clear b0 b1
  have HB2 := Lib.hid hb2
  clear hb hb2 a0 a1 c1 hc hs
  go_wp2_with fail
  go_quiet (fail)
  go_wp2_with fail
  have hXn : w2.heap.size + 1 ∉ p :: Mm.blks N := fun hb => by have := HLT.out _ hb; have := Below.size k2; omega
  have KW : ∀ o o', Kept w2 (((w2.alloc o).drewN nq).alloc o') := fun o o' => (kept_trans ((Kept.refl _).alloc _) (kept_drewN _ _)).alloc _
  refine (HLK.out _ (w2.heap.size + 1) hXn (link_ready HT.out _ _ _ _ hXn (kept_trans k2 (KW _ _)) ?_)).mono ?_
  · exact two_new _ _ _ _
  rintro r w5 ⟨⟨v, rfl⟩, N5, X5⟩
  have hbx : w.heap.size ∉ p :: Mm.blks (⟨w2.heap.size + 1, e, n⟩ :: N) := fun hb => by
    rcases List.mem_cons.1 hb with hb | hb
    · omega
    · rcases List.mem_cons.1 hb with hb | hb
      · have hb' : w.heap.size = w2.heap.size + 1 := hb
        omega
      · have := HLT.out _ (List.mem_cons_of_mem _ hb); omega
  have hb5 := (X5.block _ (Nat.lt_of_lt_of_le hbl2 (Below.size (KW _ _))) hbx).trans ((Below.block (KW _ _) _ hbl2).trans HB2.out)
  have e0 := mcell hb5 0 rfl; have e3 := mcell hb5 3 rfl
  have t0 := mcell N5.tab 13 rfl; have t1 := mcell N5.tab 14 rfl
  have f0 := mfrozen N5.tab 13; have f1 := mfrozen N5.tab 14
  have HKW := Lib.hid (fun o o' => kept_trans k2 (KW o o'))
  have ec : ((N.length + 1 : Nat) : Int) = (N.length : Int) + 1 := by omega
  have N6 := N5.count (HND.out _ hXn) (N.length + 1)
  have X6 : Ex (fun b => b ∈ p :: Mm.blks N) w5 (w5.setCell ⟨p, 13, none⟩ (.int .i64 ((N.length + 1 : Nat) : Int))) := ex_set (Ex.refl _ _) (fun _ => List.mem_cons_self)
  have hb6 : (w5.setCell ⟨p, 13, none⟩ (.int .i64 ((N.length + 1 : Nat) : Int))).heap[w.heap.size]? = _ := (mheap_other (by omega)).trans hb5
  rw [ec] at N6 X6 hb6
  have HN6 := Lib.hid N6; have HX6 := Lib.hid X6; have HX5 := Lib.hid X5; have HB6 := Lib.hid hb6
  clear N6 X6 X5 hb6 hb5 N5 KW HB2 ec hbx e1 e2 c2
  go_wp2_with fail
  have e0 := mcell HB6.out 0 rfl; have e3 := mcell HB6.out 3 rfl
  have t1 := mcell HN6.out.tab 14 rfl
  have f1 := mfrozen HN6.out.tab 14
  have hbl6 := mheap_lt HB6.out
  generalize w5.setCell ⟨p, 13, none⟩ (.int .i64 ((N.length : Int) + 1)) = w6 at *
  go_region
  have ec : ((Mm.size (Mm.view N) + Mm.sizeE e : Nat) : Int) = (Mm.size (Mm.view N) : Int) + (((bs e.key).size : Int) + ((bs e.val).size : Int)) := by rw [HSE.out]; omega
  have N7 := (HN6.out.sized (HND.out _ hXn) (Mm.size (Mm.view N) + Mm.sizeE e)).drew
  have X7 : Ex (fun b => b ∈ p :: Mm.blks N) w5 (w6.setCell ⟨p, 14, none⟩ (.int .i64 ((Mm.size (Mm.view N) + Mm.sizeE e : Nat) : Int))).drew := (ex_set HX6.out (fun _ => List.mem_cons_self)).drew
  rw [ec] at N7 X7
  have HPT := Lib.hid (put_end HT.out hf hXn (by have := Below.size k2; omega) HP.out (HKW.out _ _) HX5.out X7 N7)
  clear N7 X7 ec
  go_wp2_with fail
  go_ret
  exact ⟨rfl, HPT.out⟩
/-- Put, whatever is put -/
theorem mput_any {w : World} {p : Nat} {F : Nat → Prop} {T : List Mm.Tv} (h0 : Tab w p F T) (hf : T.length < 1000) (e : Mm.Ent) (h : Int) (hk : e.key.length ≤ maxLen) (hv : e.val.length ≤ maxLen) :
    Calls Try.prog 27 #[.pointer (some ⟨p, 0, none⟩), entV e, .int .i64 h] w fun r w' => r = .returned (.int .i64 (Mm.code T e h)) ∧ Tab w' p (fun b => F b ∨ w.heap.size ≤ b) (Mm.put T e h) ∧ Ex F w w' := by
  have stay : ∀ c, c ≠ 0 → Mm.code T e h = c → (Calls Try.prog 27 #[.pointer (some ⟨p, 0, none⟩), entV e, .int .i64 h] w fun r w' => r = .returned (.int .i64 c) ∧ Kept w w') → (Calls Try.prog 27 #[.pointer (some ⟨p, 0, none⟩), entV e, .int .i64 h] w fun r w' => r = .returned (.int .i64 (Mm.code T e h)) ∧ Tab w' p (fun b => F b ∨ w.heap.size ≤ b) (Mm.put T e h) ∧ Ex F w w') := fun c hc0 hc hcall => by
    refine hcall.mono fun r w' ⟨h1, h2⟩ => ⟨by rw [hc]; exact h1, ?_, ex_kept h2⟩
    rw [Mm.put_no (by rw [hc]; exact hc0)]
    exact (h0.kept h2).mono fun b _ hb => .inl hb
  cases hm : Mm.may e with
  | false => exact stay 2 (by decide) (by unfold Mm.code; rw [if_pos hm]) (mput_form e h hk hv hm)
  | true =>
    by_cases hh : h < 1 ∨ 8 < h
    · exact stay 1 (by decide) (by unfold Mm.code; rw [if_neg (by rw [hm]; decide), if_pos hh]) (mput_arg e h hk hv hm hh)
    · obtain ⟨N, g, h1, rfl, h3⟩ := h0
      cases ht : Mm.has (Mm.view N) e.key e.seq with
      | true => exact stay 11 (by decide) (by unfold Mm.code; rw [if_neg (by rw [hm]; decide), if_neg hh, if_pos ht]) (mput_twice h1 e h hk hv hm (by omega) (by omega) ht)
      | false =>
        have hc : Mm.code (Mm.view N) e h = 0 := Mm.code_zero.2 ⟨hm, by omega, by omega, ht⟩
        obtain ⟨n, rfl⟩ : ∃ n : Nat, h = (n : Int) := ⟨h.toNat, by omega⟩
        rw [hc]
        have hf' : N.length < 1000 := by simpa [Mm.view] using hf
        have fin : (Calls Try.prog 27 #[.pointer (some ⟨p, 0, none⟩), entV e, .int .i64 (n : Nat)] w fun r w' => r = .returned (.int .i64 0) ∧ PutTo w w' p N e n) → (Calls Try.prog 27 #[.pointer (some ⟨p, 0, none⟩), entV e, .int .i64 (n : Nat)] w fun r w' => r = .returned (.int .i64 0) ∧ Tab w' p (fun b => F b ∨ w.heap.size ≤ b) (Mm.put (Mm.view N) e (n : Nat)) ∧ Ex F w w') := fun hcall => by
          refine hcall.mono fun r w' ⟨e1, N', g', e2, e3, e4, e5⟩ => ⟨e1, ⟨N', g', e2, e3, fun b hb => ?_⟩, e5.mono fun b hb => h3 b hb⟩
          rcases e4 b hb with q | q
          · exact .inl (h3 b q)
          · exact .inr q
        apply fin
        cases hn : Mm.nZ N e.key e.seq with
        | nil => exact mput_end h1 hf' e n hk hv (by omega) (by omega) hc hn
        | cons z r =>
          by_cases hz : z.e.key = e.key
          · refine mput_num h1 hf' e n hk hv (by omega) (by omega) hc z r hn hz ?_
            have hz2 : z.e.seq ≠ e.seq := fun q => by
              unfold Mm.has at ht
              rw [← Mm.view_Z, hn] at ht
              simp [Mm.view, Mm.Nd.v, hz, q] at ht
            rw [beq_eq_false_iff_ne]
            omega
          · exact mput_key h1 hf' e n hk hv (by omega) (by omega) hc z r hn (by rw [mbs_eq]; exact decide_eq_false hz)
end Go.Proofs.Ytpbhbgoaaephgaa
