/-
  The document's own table: what is got of it, from it, at which cost.
-/
import Derived.Test.YtecjnebfhbdnaaaTableRef
import Derived.Test.YtecjnebfhbdnaaaTableAsk
import Derived.Test.YtecjnebfhbdnaaaPackMem
import Derived.RegionTactic
import Derived.Deep.RegionHeld3
namespace Go.Proofs.Ytecjnebfhbdnaaa
open Go.ChangeShapes Go.WideShapes Go.ChangeAt Go.RowKit
set_option linter.unusedVariables false
set_option maxRecDepth 100000
set_option maxHeartbeats 4000000

theorem rgetl_any {w : World} {r : Nat} {E : List Mm.Ent} {A AH : Option Addr} {c nH cH : Nat} (hb : w.heap[r]? = some (.cells #[.slice A E.length c, .slice AH nH cH] 85)) (hE : Els w A E) (hf : E.length ≤ 1000) (K : List UInt8) (S : Nat) :
    Calls Try.prog 48 #[.pointer (some ⟨r, 0, none⟩), .string (bs K), .int .u64 (S : Nat)] w fun e w' => e = .returned (tgV (E.find? (Mm.mt K S))) ∧ Kept w w' := by
  unfold tgV
  rw [show E.find? (Mm.mt K S) = Mm.bst K S E from rfl]
  have HELS := Lib.hid (fun W (k : Kept w W) => hE.kept k)
  obtain ⟨TL, hTL⟩ : ∃ TL, TL = E.length := ⟨_, rfl⟩
  rw [← hTL] at hb hf
  have HR := Lib.hid (fun W (k : Kept w W) => mcell (mblk_kept hb k) 0 rfl)
  have hrl := mheap_lt hb
  have hel : E.length = TL := hTL.symm
  clear hb hE hTL
  have HEL := Lib.hid hel
  have HST := Lib.hid (fun i y (hy : E[i]? = some y) => Mm.bst_step (k := K) (s := S) hy)
  have HALL := Lib.hid (fun i (b : Mm.Ent) (hb : Mm.bst K S (E.take i) = some b) => show Mm.bst K S E = some b by
    unfold Mm.bst at *
    rw [← List.take_append_drop i E, List.find?_append, hb]; rfl)
  have H0 : Hid (Mm.bst K S (E.take 0) = none) := Lib.hid rfl
  clear hel
  go_enter Try.func48, Try.ntmps48
  go_wp2_with fail
  have hk0 : Kept w (w.alloc (entObjR Mm.zent)) := (Kept.refl w).alloc _
  have hbx : (w.alloc (entObjR Mm.zent)).heap[w.heap.size]? = some (entObjR Mm.zent) := malloc_new w _
  change Code.wp _ _ _ _ (w.alloc (entObjR Mm.zent))
  generalize w.alloc (entObjR Mm.zent) = w0 at *
  have d0 := mcell hbx 0 rfl; have d1 := mcell hbx 1 rfl; have d2 := mcell hbx 2 rfl; have d3 := mcell hbx 3 rfl
  have f0 := mfrozen hbx
  have r0 := HR.out w0 hk0
  go_loopw [8] (fun t wi => ∃ i : Nat, i ≤ TL ∧ t = .int .i64 i ∧ Hid (Mm.bst K S (E.take i) = none) ∧ w0 = wi) (fun t _ => TL - (intOf t).toNat)
  case atStart => exact ⟨0, Nat.zero_le _, rfl, H0, rfl⟩
  case round =>
    obtain ⟨i, hi, rfl, HN, rfl⟩ := hrel
    by_cases hit : i < TL
    · obtain ⟨y, hy⟩ : ∃ y, E[i]? = some y := ⟨_, List.getElem?_eq_getElem (by have := HEL.out; omega)⟩
      obtain ⟨b, o, rfl, hb, c0, c1, c2, c3⟩ := (HELS.out w0 hk0) i y hy
      have hst := HST.out i y hy
      rw [HN.out, Option.none_or] at hst
      clear hy
      by_cases hyk : y.key = K
      · have e1 : ((bs y.key).toList == (bs K).toList) = true := by rw [mbs_eq]; exact decide_eq_true hyk
        by_cases hys : y.seq ≤ S
        · have e2 : decide ((y.seq : Int) ≤ (S : Int)) = true := by simp; omega
          have hm : Mm.mt K S y = true := Mm.mt_iff.2 ⟨hyk, hys⟩
          rw [hm] at hst
          have HA2 := Lib.hid (HALL.out (i + 1) y hst)
          clear hst hm hyk
          go_wp2_with fail
          refine bodyPost_ret (v := .tuple #[entV y, .bool true]) (by simp [results, Try.results48, go_sem, entV, d0, d1, d2, d3]) rfl ⟨by rw [HA2.out]; rfl, ?_⟩
          exact kept_own (kept_own (kept_own (kept_own hk0 (Nat.le_refl _)) (Nat.le_refl _)) (Nat.le_refl _)) (Nat.le_refl _)
        · have e2 : decide ((y.seq : Int) ≤ (S : Int)) = false := by simp; omega
          have hm : Mm.mt K S y = false := by rw [Bool.eq_false_iff, ne_eq, Mm.mt_iff]; exact fun c => hys c.2
          rw [hm] at hst
          have HN2 : Hid (Mm.bst K S (E.take (i + 1)) = none) := Lib.hid hst
          have n2 : S < y.seq := by omega
          clear hst hm hyk hys
          go_wp2_with fail
          go_roundw
          case rel => exact ⟨i + 1, by omega, by go_num, HN2, by trivial⟩
          case measure => simp [intOf]; omega
      · have e1 : ((bs y.key).toList == (bs K).toList) = false := by rw [mbs_eq]; exact decide_eq_false hyk
        have hm : Mm.mt K S y = false := by rw [Bool.eq_false_iff, ne_eq, Mm.mt_iff]; exact fun c => hyk c.1
        rw [hm] at hst
        have HN2 : Hid (Mm.bst K S (E.take (i + 1)) = none) := Lib.hid hst
        clear hst hm hyk
        go_wp2_with fail
        go_roundw
        case rel => exact ⟨i + 1, by omega, by go_num, HN2, by trivial⟩
        case measure => simp [intOf]; omega
    · have e : i = TL := by omega
      subst e
      have hn := HN.out
      rw [List.take_of_length_le (by have := HEL.out; omega)] at hn
      have HN2 := Lib.hid hn
      clear hn
      go_wp2_with fail
      refine bodyPost_ret (v := .tuple #[entV Mm.zent, .bool false]) (by simp [results, Try.results48, go_sem, entV, Mm.zent, bs, d0, d1, d2, d3]) rfl ⟨by rw [HN2.out]; rfl, ?_⟩
      exact kept_own (kept_own (kept_own (kept_own hk0 (Nat.le_refl _)) (Nat.le_refl _)) (Nat.le_refl _)) (Nat.le_refl _)
theorem rfroml_any {w : World} {r : Nat} {E : List Mm.Ent} {A AH : Option Addr} {c nH cH : Nat} (hb : w.heap[r]? = some (.cells #[.slice A E.length c, .slice AH nH cH] 85)) (hE : Els w A E) (hf : E.length ≤ 1000) (K : List UInt8) (n : Int) (h1 : -9223372036854775808 ≤ n) (h2 : n ≤ 9223372036854775807) :
    Calls Try.prog 53 #[.pointer (some ⟨r, 0, none⟩), .string (bs K), .int .i64 n] w fun e w' => ∃ B c, e = .returned (.slice B (Tb.frm E K n.toNat).length c) ∧ Els w' B (Tb.frm E K n.toNat) ∧ Kept w w' := by
  obtain ⟨i0, hi, hz0, hz1, hz2⟩ := info_parts mentInfo
  have HI := Lib.hid hi; have HZ0 := Lib.hid hz0; have HZ1 := Lib.hid hz1; have HZ2 := Lib.hid hz2
  have HELS := Lib.hid (fun W (k : Kept w W) => hE.kept k)
  obtain ⟨TL, hTL⟩ : ∃ TL, TL = E.length := ⟨_, rfl⟩
  rw [← hTL] at hb hf
  have HR := Lib.hid (fun W (k : Kept w W) => mcell (mblk_kept hb k) 0 rfl)
  have HEL := Lib.hid hTL.symm
  clear hb hE hTL hi hz0 hz1 hz2
  generalize hMM : Tb.frm E K n.toNat = M
  have HMM := Lib.hid (show (E.filter (fun e => !decide (e.key < K))).take n.toNat = M from hMM)
  clear hMM
  go_enter Try.func53, Try.ntmps53
  go_wp2_with fail
  go_loopw [7, 8] (fun v t wi => ∃ (i : Nat) (O : List Mm.Ent), i ≤ TL ∧ t = .int .i64 i ∧ O.length ≤ i ∧ O.length ≤ n.toNat ∧ Hid (O = (E.take i).filter (fun e => !decide (e.key < K))) ∧ wi.ownsRow w.heap.size 37 4 v O.length (elc O) ∧ Kept w wi) (fun _ t _ => TL - (intOf t).toNat)
  case atStart => exact ⟨0, [], Nat.zero_le _, rfl, Nat.le_refl _, Nat.zero_le _, Lib.hid rfl, own_ents0 w, (Kept.refl _).alloc _⟩
  case round =>
    obtain ⟨i, O, hi, rfl, hOi, hOn, HO, hown, ki⟩ := hrel
    have r0 := HR.out wr ki
    have hbase : w.heap.size ≤ wr.heap.size := Below.size ki
    obtain ⟨A, c, rfl⟩ := own_slice hown
    have fin : ((O.length : Int) < n → i = TL) → ∃ B c', Value.slice A O.length c = .slice B M.length c' ∧ Els wr B M := fun hq => by
      have hM : M = O := by
        rw [← HMM.out]
        have e1 : E.filter (fun e => !decide (e.key < K)) = O ++ (E.drop i).filter (fun e => !decide (e.key < K)) := by
          rw [HO.out, ← List.filter_append, List.take_append_drop]
        rw [e1]
        by_cases hl : (O.length : Int) < n
        · have hi2 := hq hl
          rw [List.drop_of_length_le (by have := HEL.out; omega), List.filter_nil, List.append_nil]
          exact List.take_of_length_le (by omega)
        · rw [List.take_append_of_le_length (by omega)]
          exact List.take_of_length_le (by omega)
      rw [hM]
      obtain ⟨B, c', e2, _, ht⟩ := els_own hown
      exact ⟨B, c', e2, ht.els⟩
    by_cases hit : i < TL
    · obtain ⟨y, hy⟩ : ∃ y, E[i]? = some y := ⟨_, List.getElem?_eq_getElem (by have := HEL.out; omega)⟩
      obtain ⟨b, o, rfl, hb, c0, c1, c2, c3⟩ := (HELS.out wr ki) i y hy
      by_cases hn : (O.length : Int) < n
      · have d1 : decide ((O.length : Int) < n) = true := decide_eq_true hn
        have e0 := mbs_less y.key K
        have hfs : (E.take (i + 1)).filter (fun e => !decide (e.key < K)) = O ++ (if y.key < K then [] else [y]) := by
          rw [List.take_add_one, hy, List.filter_append, ← HO.out]
          by_cases q : y.key < K <;> simp [q]
        clear hy fin
        by_cases hyk : y.key < K
        · rw [decide_eq_true hyk] at e0
          rw [if_pos hyk, List.append_nil] at hfs
          have HO2 : Hid (O = (E.take (i + 1)).filter (fun e => !decide (e.key < K))) := Lib.hid hfs.symm
          clear hfs hyk
          go_wp2_with fail
          go_roundw
          case rel => exact ⟨i + 1, O, by omega, by go_num, by omega, hOn, HO2, hown, ki⟩
          case measure => simp [intOf]; omega
        · rw [decide_eq_false hyk] at e0
          rw [if_neg hyk] at hfs
          have HO2 : Hid (O ++ [y] = (E.take (i + 1)).filter (fun e => !decide (e.key < K))) := Lib.hid hfs.symm
          have HEC := Lib.hid (show elc (O ++ [y]) = elc O ++ [.string (bs y.key), .int .u64 (y.seq : Nat), .bool y.del, .string (bs y.val)] by rw [elc_app]; simp [elc, ecs])
          clear hfs hyk
          go_wp2_with (at_builtin; refine wpList_append_own _ rfl _ _ 22 rfl w.heap.size 37 i0 zentV 4 48 Try.underlying22 HI.out HZ0.out HZ1.out HZ2.out rfl (by decide) _ O.length (elc O) rfl (hown.alloc _) ⟨wr.heap.size, 0, none⟩ 1 1 [.string (bs y.key), .int .u64 (y.seq : Nat), .bool y.del, .string (bs y.val)] rfl rfl (mcells_new4 _ _ _ _ _ _ _ rfl) (by simp [Value.oneCell']) (by unfold maxLen; omega) (by omega) (by simp; omega) ?_)
          intro v' w2 hown2 hg _
          have g2 : Kept w w2 := Below.grown (ki.alloc _) hg (by simp; omega) (fun b hb => (hown.lt b hb).1)
          rw [← HEC.out] at hown2
          have hown3 : w2.ownsRow w.heap.size 37 4 v' (O ++ [y]).length (elc (O ++ [y])) := by rw [List.length_append]; exact hown2
          have H3 := Lib.hid hown3
          obtain ⟨A2, c2', rfl⟩ := own_slice hown2
          clear hown hown2 hown3 hg
          generalize hP : O ++ [y] = P at *
          have hPl : P.length = O.length + 1 := by rw [← hP]; simp
          clear hP
          go_wp2_with fail
          go_roundw
          case rel => exact ⟨i + 1, P, by omega, by go_num, by omega, by omega, HO2, H3.out, g2⟩
          case measure => simp [intOf]; omega
      · have d1 : decide ((O.length : Int) < n) = false := decide_eq_false hn
        obtain ⟨B, c', e2, ht⟩ := fin (fun q => absurd q hn)
        have E2 := Lib.hid e2
        clear e2 fin hy
        go_wp2_with fail
        go_ret
        exact ⟨B, ⟨c', congrArg Ending.returned E2.out⟩, ht, ki⟩
    · have e : i = TL := by omega
      obtain ⟨B, c', e2, ht⟩ := fin (fun _ => e)
      have E2 := Lib.hid e2
      subst e
      clear e2 fin
      go_wp2_with fail
      go_ret
      exact ⟨B, c', congrArg Ending.returned E2.out, ht, ki⟩
def RTb (w : World) (p : Nat) (l : List Mm.Ent) : Prop := ∃ B c, w.heap[p]? = some (.cells #[.slice B l.length c, .string (bs (Tb.fl l))] 45 (0, 0)) ∧ Els w B l
theorem RTb.kept {w w' : World} {p : Nat} {l : List Mm.Ent} (h : RTb w p l) (k : Kept w w') : RTb w' p l := by
  obtain ⟨B, c, hb, hE⟩ := h
  exact ⟨B, c, mblk_kept hb k, hE.kept k⟩
theorem rtget_any {w : World} {p : Nat} {l : List Mm.Ent} (h : RTb w p l) (hT : Tb.isT l = true) (k : List UInt8) (s : Nat) :
    Calls Try.prog 15 #[.pointer (some ⟨p, 0, none⟩), .string (bs k), .int .u64 (s : Nat)] w fun e w' => e = .returned (tgV (l.find? (Mm.mt k s))) ∧ Kept w w' := by
  obtain ⟨B, c, hb, hE⟩ := h
  have hl5 := (Tb.isT_iff.1 hT).2.1
  have HG := Lib.hid (fun (W : World) (r : Nat) (AH : Option Addr) (nH cH : Nat) (g : Kept w W) (q : W.heap[r]? = some (.cells #[.slice B l.length c, .slice AH nH cH] 85)) => rgetl_any q (hE.kept g) (by omega) k s)
  have hk1 : Kept w (w.alloc (.cells #[.string ⟨#[]⟩, .int .u64 0, .bool false, .string ⟨#[]⟩] 37)) := (Kept.refl w).alloc _
  have p0 := mcell (v := .slice B l.length c) (mblk_kept hb hk1) 0 rfl
  have hpl := mheap_lt (mblk_kept hb hk1)
  have q0 := mcell (v := .slice B l.length c) hb 0 rfl
  have hpl0 := mheap_lt hb
  have HY := Lib.hid (show ∃ Y : Mm.Ent, tgV (l.find? (Mm.mt k s)) = .tuple #[.agg #[.string (bs Y.key), .int .u64 (Y.seq : Nat), .bool Y.del, .string (bs Y.val)], .bool (l.find? (Mm.mt k s)).isSome] from ⟨(l.find? (Mm.mt k s)).getD Mm.zent, rfl⟩)
  obtain ⟨Y, hY⟩ := HY.out
  rw [hY] at HG ⊢
  generalize (l.find? (Mm.mt k s)).isSome = I at *
  generalize l.length = n at *
  clear hb hE hT HY hY hk1
  go_enter Try.func15, Try.ntmps15
  go_wp2_with fail
  refine (HG.out _ _ _ _ _ (((Kept.refl w).alloc _).alloc _) (by have := malloc_new (w.alloc (.cells #[.string ⟨#[]⟩, .int .u64 0, .bool false, .string ⟨#[]⟩] 37)) (.cells #[.slice B n c, .slice none 0 0] 85); rwa [malloc_size] at this)).mono ?_
  rintro e w2 ⟨rfl, g2⟩
  have r := mblk_kept ((malloc_old _ _ (by simp)).trans (malloc_new w (.cells #[.string ⟨#[]⟩, .int .u64 0, .bool false, .string ⟨#[]⟩] 37))) g2
  have r0 := blk_cell r 0; have r1 := blk_cell r 1; have r2 := blk_cell r 2; have r3 := blk_cell r 3
  have s0 := blk_soft r 0; have s1 := blk_soft r 1; have s2 := blk_soft r 2; have s3 := blk_soft r 3
  simp only [List.getElem?_toArray, List.getElem?_cons_zero, List.getElem?_cons_succ] at r0 r1 r2 r3
  have RR := Lib.hid r
  have G2 := Lib.hid (kept_trans (((Kept.refl w).alloc _).alloc _) g2)
  clear r g2
  go_wp2_with fail
  have hz := mset (mset (mset (mset RR.out 0 (.string (bs Y.key))) 1 (.int .u64 (Y.seq : Nat))) 2 (.bool Y.del)) 3 (.string (bs Y.val))
  have z0 := blk_cell hz 0; have z1 := blk_cell hz 1; have z2 := blk_cell hz 2; have z3 := blk_cell hz 3
  simp only [List.setIfInBounds_toArray, List.set_cons_zero, List.set_cons_succ, List.getElem?_toArray, List.getElem?_cons_zero, List.getElem?_cons_succ] at z0 z1 z2 z3
  refine bodyPost_ret (v := .tuple #[.agg #[.string (bs Y.key), .int .u64 (Y.seq : Nat), .bool Y.del, .string (bs Y.val)], .bool I]) (by simp [results, Try.results15, go_sem, z0, z1, z2, z3]) rfl ⟨rfl, ?_⟩
  exact fin4 G2.out (Nat.le_refl _)
theorem rtfrom_any {w : World} {p : Nat} {l : List Mm.Ent} (h : RTb w p l) (hT : Tb.isT l = true) (k : List UInt8) (n : Int) (n1 : -9223372036854775808 ≤ n) (n2 : n ≤ 9223372036854775807) :
    Calls Try.prog 21 #[.pointer (some ⟨p, 0, none⟩), .string (bs k), .int .i64 n] w fun e w' => ∃ B c, e = .returned (.slice B (Tb.frm l k n.toNat).length c) ∧ Els w' B (Tb.frm l k n.toNat) ∧ Kept w w' := by
  obtain ⟨B, c, hb, hE⟩ := h
  have hl5 := (Tb.isT_iff.1 hT).2.1
  have HG := Lib.hid (fun (W : World) (r : Nat) (AH : Option Addr) (nH cH : Nat) (g : Kept w W) (q : W.heap[r]? = some (.cells #[.slice B l.length c, .slice AH nH cH] 85)) => rfroml_any q (hE.kept g) (by omega) k n n1 n2)
  have q0 := mcell (v := .slice B l.length c) hb 0 rfl
  have hpl0 := mheap_lt hb
  generalize Tb.frm l k n.toNat = M at *
  generalize l.length = N at *
  clear hb hE hT
  go_enter Try.func21, Try.ntmps21
  go_wp2_with fail
  refine (HG.out _ _ _ _ _ ((Kept.refl w).alloc _) (malloc_new w (.cells #[.slice B N c, .slice none 0 0] 85))).mono ?_
  rintro e w2 ⟨B2, c2, rfl, h2, g2⟩
  go_wp2_with fail
  go_ret
  exact ⟨B2, c2, rfl, h2, kept_trans ((Kept.refl w).alloc _) g2⟩
structure KRT (a b : World) : Prop where
  k : Kept a b
theorem cost_of (l : List Mm.Ent) (k : List UInt8) (s : Nat) (M R : Bool) (x : Mm.Ent) (h1 : Bm.may (Tb.fl l) k = M) (h2 : l.getLast? = some x) (h3 : x.ah k s = R) : Tb.cost l k s = if M = true ∧ R = false then 1 else 0 := by
  unfold Tb.cost Tb.lastE
  rw [h2, h1, Option.getD_some, h3]
theorem rtcost_any {w : World} {p : Nat} {l : List Mm.Ent} (h : RTb w p l) (hT : Tb.isT l = true) (k : List UInt8) (hk : k.length ≤ maxLen) (s : Nat) :
    Calls Try.prog 18 #[.pointer (some ⟨p, 0, none⟩), .string (bs k), .int .u64 (s : Nat)] w fun e w' => e = .returned (.int .i64 (Tb.cost l k s : Nat)) ∧ Kept w w' := by
  obtain ⟨B, c, hb, hE⟩ := h
  have hl1 := (Tb.isT_iff.1 hT).1
  have hl5 := (Tb.isT_iff.1 hT).2.1
  obtain ⟨x, hx⟩ : ∃ x, l[l.length - 1]? = some x := ⟨_, List.getElem?_eq_getElem (by omega)⟩
  obtain ⟨b, o, rfl, hbb, _⟩ := hE _ x hx
  have HXC := Lib.hid (fun (W : World) (g : Kept w W) => te_cells2 hE hx (show o + 4 * (l.length - 1) = o + (l.length - 1) * 4 by omega) W g)
  have HP0 := Lib.hid (fun (W : World) (g : Kept w W) => mcell (v := .slice (some ⟨b, o, none⟩) l.length c) (mblk_kept hb g) 0 rfl)
  have HP1 := Lib.hid (fun (W : World) (g : Kept w W) => mcell (v := .string (bs (Tb.fl l))) (mblk_kept hb g) 1 rfl)
  have hpl0 := mheap_lt hb
  have hxl : l.getLast? = some x := by rw [List.getLast?_eq_getElem?, hx]
  have hmay := rbmmay_any (bs (Tb.fl l)) (bs k) (by rw [fbs_size]; have := Tb.fl_len hT; omega) (by rw [fbs_size]; exact hk)
  rw [bs_data, bs_data] at hmay
  have hah := rahead_any x.key x.seq k s
  have HCO := Lib.hid (fun M R h1 h3 => cost_of l k s M R x h1 hxl h3)
  obtain ⟨M, hM⟩ : ∃ M, M = Bm.may (Tb.fl l) k := ⟨_, rfl⟩
  obtain ⟨R, hR⟩ : ∃ R, R = Mm.ahd x.key x.seq k s := ⟨_, rfl⟩
  have HC := Lib.hid (HCO.out M R hM.symm (show x.ah k s = R from hR.symm))
  rw [← hM] at hmay; rw [← hR] at hah
  have HMAY := Lib.hid hmay; have HAH := Lib.hid hah
  obtain ⟨C, hC⟩ : ∃ C, C = Tb.cost l k s := ⟨_, rfl⟩
  rw [← hC] at HC ⊢
  obtain ⟨F, hF⟩ : ∃ F, F = bs (Tb.fl l) := ⟨_, rfl⟩
  rw [← hF] at HP1 HMAY
  generalize l.length = n at *
  have hnl : IntKind.i64.wrap ((n : Int) - 1) = ((n - 1 : Nat) : Int) := by rw [IntKind.wrap_i64]; omega
  have hn2 : n - 1 < n := by omega
  have hn3 : n ≠ 0 := by omega
  have hn4 : (0 : Int) < (n : Int) := by omega
  clear hb hE hT hx hxl hmay hah hM hR hC hF HCO hk
  go_enter Try.func18, Try.ntmps18
  go_upto_region 1 with fail
  refine wp_region_held_drew (S := fun W => KRT w W) (by kernel_rfl) ⟨kept_drewN w 1⟩ (fun hHeld => ?_)
  refine wpAnyH_take (i := 0) (v := (.pointer (some ⟨p, 0, none⟩))) (List.getElem?_toArray.trans rfl) (by kernel_rfl) (by kernel_rfl) (by kernel_rfl) (fun _ _ _ h => h) (Or.inl ⟨by rfl, ?_⟩) (by assumption) ?_
  · intro W hSw
    first | rfl | (go_simp; done) | (go_simp; rfl)
  simp only [Act.put, List.setIfInBounds_toArray, List.set_cons_zero, List.set_cons_succ]
  refine wpAnyH_take (i := 1) (v := (.pointer (some ⟨p, 0, none⟩))) (List.getElem?_toArray.trans rfl) (by kernel_rfl) (by kernel_rfl) (by kernel_rfl) (fun _ _ _ h => h) (Or.inl ⟨by rfl, ?_⟩) (by assumption) ?_
  · intro W hSw
    first | rfl | (go_simp; done) | (go_simp; rfl)
  simp only [Act.put, List.setIfInBounds_toArray, List.set_cons_zero, List.set_cons_succ]
  refine wpAnyH_take (i := 2) (v := (.pointer (some ⟨p, 0, none⟩))) (List.getElem?_toArray.trans rfl) (by kernel_rfl) (by kernel_rfl) (by kernel_rfl) (fun _ _ _ h => h) (Or.inl ⟨by rfl, ?_⟩) (by assumption) ?_
  · intro W hSw
    first | rfl | (go_simp; done) | (go_simp; rfl)
  simp only [Act.put, List.setIfInBounds_toArray, List.set_cons_zero, List.set_cons_succ]
  refine wpAnyH_take (i := 3) (v := (.slice (some ⟨b, o, none⟩) n c)) (List.getElem?_toArray.trans rfl) (by kernel_rfl) (by kernel_rfl) (by kernel_rfl) (fun _ _ _ h => h) (Or.inl ⟨by rfl, ?_⟩) (by assumption) ?_
  · intro W hSw
    have q0 := HP0.out W hSw.k
    first | (go_simp; done) | (go_simp; rfl)
  simp only [Act.put, List.setIfInBounds_toArray, List.set_cons_zero, List.set_cons_succ]
  refine wpAnyH_take (i := 4) (v := (.pointer (some ⟨p, 0, none⟩))) (List.getElem?_toArray.trans rfl) (by kernel_rfl) (by kernel_rfl) (by kernel_rfl) (fun _ _ _ h => h) (Or.inl ⟨by rfl, ?_⟩) (by assumption) ?_
  · intro W hSw
    first | rfl | (go_simp; done) | (go_simp; rfl)
  simp only [Act.put, List.setIfInBounds_toArray, List.set_cons_zero, List.set_cons_succ]
  refine wpAnyH_take (i := 5) (v := (.pointer (some ⟨p, 0, none⟩))) (List.getElem?_toArray.trans rfl) (by kernel_rfl) (by kernel_rfl) (by kernel_rfl) (fun _ _ _ h => h) (Or.inl ⟨by rfl, ?_⟩) (by assumption) ?_
  · intro W hSw
    first | rfl | (go_simp; done) | (go_simp; rfl)
  simp only [Act.put, List.setIfInBounds_toArray, List.set_cons_zero, List.set_cons_succ]
  refine wpAnyH_take (i := 6) (v := (.pointer (some ⟨p, 0, none⟩))) (List.getElem?_toArray.trans rfl) (by kernel_rfl) (by kernel_rfl) (by kernel_rfl) (fun _ _ _ h => h) (Or.inl ⟨by rfl, ?_⟩) (by assumption) ?_
  · intro W hSw
    first | rfl | (go_simp; done) | (go_simp; rfl)
  simp only [Act.put, List.setIfInBounds_toArray, List.set_cons_zero, List.set_cons_succ]
  refine wpAnyH_take (i := 7) (v := (.slice (some ⟨b, o, none⟩) n c)) (List.getElem?_toArray.trans rfl) (by kernel_rfl) (by kernel_rfl) (by kernel_rfl) (fun _ _ _ h => h) (Or.inl ⟨by rfl, ?_⟩) (by assumption) ?_
  · intro W hSw
    have q0 := HP0.out W hSw.k
    first | (go_simp; done) | (go_simp; rfl)
  simp only [Act.put, List.setIfInBounds_toArray, List.set_cons_zero, List.set_cons_succ]
  refine wpAnyH_take (i := 8) (v := (.int .i64 (n : Nat))) (List.getElem?_toArray.trans rfl) (by kernel_rfl) (by kernel_rfl) (by kernel_rfl) (fun _ _ _ h => h) (Or.inl ⟨by rfl, ?_⟩) (by assumption) ?_
  · intro W hSw
    first | rfl | (go_simp; done) | (go_simp; rfl)
  simp only [Act.put, List.setIfInBounds_toArray, List.set_cons_zero, List.set_cons_succ]
  refine wpAnyH_take (i := 9) (v := (.int .i64 (n - 1 : Nat))) (List.getElem?_toArray.trans rfl) (by kernel_rfl) (by kernel_rfl) (by kernel_rfl) (fun _ _ _ h => h) (Or.inl ⟨by rfl, ?_⟩) (by assumption) ?_
  · intro W hSw
    first | rfl | (go_simp; done) | (go_simp; rfl)
  simp only [Act.put, List.setIfInBounds_toArray, List.set_cons_zero, List.set_cons_succ]
  refine wpAnyH_take (i := 10) (v := (.pointer (some ⟨b, o + 4 * (n - 1), none⟩))) (List.getElem?_toArray.trans rfl) (by kernel_rfl) (by kernel_rfl) (by kernel_rfl) (fun _ _ _ h => h) (Or.inl ⟨by rfl, ?_⟩) (by assumption) ?_
  · intro W hSw
    first | rfl | (go_simp; done) | (go_simp; rfl)
  simp only [Act.put, List.setIfInBounds_toArray, List.set_cons_zero, List.set_cons_succ]
  refine wpAnyH_take (i := 11) (v := (.agg #[.string (bs x.key), .int .u64 (x.seq : Nat), .bool x.del, .string (bs x.val)])) (List.getElem?_toArray.trans rfl) (by kernel_rfl) (by kernel_rfl) (by kernel_rfl) (fun _ _ _ h => h) (Or.inl ⟨by rfl, ?_⟩) (by assumption) ?_
  · intro W hSw
    obtain ⟨q0, q1, q2, q3⟩ := HXC.out W hSw.k
    first | (go_simp; done) | (go_simp; rfl)
  simp only [Act.put, List.setIfInBounds_toArray, List.set_cons_zero, List.set_cons_succ]
  refine wpAnyH_ready (rs := [12]) (by kernel_rfl) (by simp) ?_
  refine AllReadyH.cons (List.getElem?_toArray.trans rfl) (fun K hK => ?_) AllReadyH.nil
  go_simp
  refine hK.out _ _ ⟨kept_trans hHeld.k ((Kept.refl _).alloc _)⟩ (fun hHeld => ?_)
  clear hK K
  refine wpAnyH_ready (rs := [13]) (by kernel_rfl) (by simp) ?_
  refine AllReadyH.cons (List.getElem?_toArray.trans rfl) (fun K hK => ?_) AllReadyH.nil
  go_simp
  refine hK.out _ _ ⟨(kept_drewN w 1).alloc _⟩ (fun hHeld => ?_)
  clear hK K
  refine wpAnyH_done (by kernel_rfl) ?_ _
  obtain ⟨w3, hw3⟩ : ∃ w3, w3 = (w.alloc (.cells #[.string (bs x.key), .int .u64 (x.seq : Nat), .bool x.del, .string (bs x.val)] 37)).drew := ⟨_, rfl⟩
  rw [← hw3]
  have k3 : Kept w w3 := by rw [hw3]; exact kept_trans ((Kept.refl w).alloc _) (kept_drewN _ 1)
  have b3 : w3.heap[w.heap.size]? = some (.cells #[.string (bs x.key), .int .u64 (x.seq : Nat), .bool x.del, .string (bs x.val)] 37 (0, 0)) := by rw [hw3]; exact malloc_new w _
  have HB3 := Lib.hid b3
  have K3 := Lib.hid k3
  have q1 := HP1.out w3 k3
  have hpl3 : p < w3.heap.size := Nat.lt_of_lt_of_le hpl0 (Below.size k3)
  clear hw3 k3 b3 hHeld
  cases M with
  | false =>
    have hC : C = 0 := by have := HC.out; simpa using this
    subst hC
    go_wp2_with fail
    refine (HMAY.out _).mono ?_
    rintro e w4 ⟨rfl, g4⟩
    go_wp2_with fail
    go_ret
    exact ⟨rfl, kept_trans K3.out g4⟩
  | true =>
    go_wp2_with fail
    refine (HMAY.out _).mono ?_
    rintro e w4 ⟨rfl, g4⟩
    have r := mblk_kept HB3.out g4
    have r0 := mcell (v := .string (bs x.key)) r 0 rfl; have r1 := mcell (v := .int .u64 (x.seq : Nat)) r 1 rfl
    have hrl := mheap_lt r
    have K4 := Lib.hid (kept_trans K3.out g4)
    clear r g4
    cases R with
    | true =>
      have hC : C = 0 := by have := HC.out; simpa using this
      subst hC
      go_wp2_with fail
      refine (HAH.out _).mono ?_
      rintro e w5 ⟨rfl, rfl⟩
      go_wp2_with fail
      go_ret
      exact ⟨rfl, K4.out⟩
    | false =>
      have hC : C = 1 := by have := HC.out; simpa using this
      subst hC
      go_wp2_with fail
      refine (HAH.out _).mono ?_
      rintro e w5 ⟨rfl, rfl⟩
      go_wp2_with fail
      go_ret
      exact ⟨rfl, K4.out⟩
end Go.Proofs.Ytecjnebfhbdnaaa
