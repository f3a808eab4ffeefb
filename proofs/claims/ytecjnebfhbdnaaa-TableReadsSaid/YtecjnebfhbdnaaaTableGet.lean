/-
  A table in memory: a block's bytes and entries, all entries, the search among places.
-/
import Derived.Test.YtecjnebfhbdnaaaTableIdx
namespace Go.Proofs.Ytecjnebfhbdnaaa
open Go.ChangeShapes Go.WideShapes Go.ChangeAt Go.RowKit
set_option linter.unusedVariables false
set_option maxRecDepth 100000
set_option maxHeartbeats 2000000

theorem tbytes_any {w : World} {p : Nat} {t : Tb.Tv} (h : IsTb w p t) {i : Nat} {q : Tb.Pl} (hq : t.index[i]? = some q) :
    Calls Try.prog 47 #[.pointer (some ⟨p, 0, none⟩), .int .i64 (i : Nat)] w fun e w' => e = .returned (.string (bs (t.bys q))) ∧ Kept w w' := by
  obtain ⟨⟨A, c, hb, hp⟩, hbl, hfl, hil, hnm⟩ := h
  obtain ⟨_, hbeg, hsz⟩ := hnm q (List.mem_of_getElem? hq)
  obtain ⟨b, o, rfl, hbb, c0, c1, c2, c3⟩ := hp i q hq
  have hi := (List.getElem?_eq_some_iff.1 hq).1
  have p0 := blk_cell hb 0; have p1 := blk_cell hb 1
  simp only [List.getElem?_toArray, List.getElem?_cons_zero, List.getElem?_cons_succ] at p0 p1
  have hpl := mheap_lt hb
  have hS1 := tsplit_q t.blocks q.beg (by unfold maxLen; omega) hbeg
  have hl := (Tb.split_le t.blocks q.beg).2
  have hS2 := tsplit_any (Tb.split t.blocks q.beg).2 q.size (by unfold maxLen; omega) hsz
  have hY := Lib.hid (show t.bys q = (Tb.split (Tb.split t.blocks q.beg).2 q.size).1 from rfl)
  generalize t.index.length = n at *
  generalize Tb.split t.blocks q.beg = S1 at *
  generalize Tb.split S1.2 q.size = S2 at *
  generalize t.bys q = Y at *
  obtain ⟨Sa, Sb⟩ := S1
  obtain ⟨Ra, Rb⟩ := S2
  obtain ⟨qk, qs, qb, qz⟩ := q
  simp only at *
  have HS1 := Lib.hid hS1; have HS2 := Lib.hid hS2
  clear hS1 hS2 hb hp hnm hq hl
  go_enter Try.func47, Try.ntmps47
  go_wp2_with fail
  go_quiet ((go_at_call 76; exact Calls.quiet_of (HS1.out _)))
  go_wp2_with fail
  refine (HS2.out _).mono ?_
  rintro e w1 ⟨rfl, g1⟩
  go_wp2_with fail
  go_ret
  exact ⟨by rw [hY.out]; rfl, kept_trans ((Kept.refl w).alloc _) (kept_trans (kept_drewN _ _) g1)⟩
theorem elr_none (n : Nat) (w : World) : Elr n w none 0 [] := ⟨fun j x hx => by simp at hx, fun b o e => (by cases e), by simp, by simp⟩
theorem tread2_any {w : World} {p : Nat} {t : Tb.Tv} (h : IsTb w p t) {i : Nat} {q : Tb.Pl} (hq : t.index[i]? = some q) :
    Calls Try.prog 49 #[.pointer (some ⟨p, 0, none⟩), .int .i64 (i : Nat)] w fun e w' => ∃ B c, e = .returned (.slice B (t.rd q).length c) ∧ Elr w.heap.size w' B c (t.rd q) ∧ Kept w w' := by
  have HB := Lib.hid (tbytes_any h hq)
  have hle := Tb.bys_le t q
  have hbl := h.bl
  have hd := kdecode_any (t.bys q) (by omega)
  have hR := Lib.hid (show t.rd q = (Bk.dec (t.bys q)).getD [] from rfl)
  generalize t.rd q = Y at *
  generalize t.bys q = S at *
  have HD := Lib.hid hd
  clear hd h hq hle hbl
  go_enter Try.func49, Try.ntmps49
  go_wp2_with fail
  refine HB.out.mono ?_
  rintro e w1 ⟨rfl, g1⟩
  go_wp2_with fail
  refine (HD.out _).mono ?_
  rintro e w2 (⟨l, B, c, hO, rfl, hel, g2⟩ | ⟨hO, rfl, g2⟩)
  · have HEL := Lib.hid (hel.mono (m := w.heap.size) (Below.size g1))
    have hY : Y = l := by rw [hR.out, hO]; rfl
    have HY := Lib.hid hY
    clear hel hO hY
    go_wp2_with fail
    go_ret
    exact ⟨B, c, by rw [HY.out]; rfl, by rw [HY.out]; exact HEL.out, kept_trans g1 g2⟩
  · have hY : Y = [] := by rw [hR.out, hO]; rfl
    have HY := Lib.hid hY
    clear hO hY
    go_wp2_with fail
    go_ret
    exact ⟨none, 0, by rw [HY.out]; rfl, by rw [HY.out]; exact elr_none _ _, kept_trans g1 g2⟩
theorem tall_any {w : World} {p : Nat} {t : Tb.Tv} (h : IsTb w p t) :
    Calls Try.prog 19 #[.pointer (some ⟨p, 0, none⟩)] w fun e w' => ∃ B c, e = .returned (.slice B t.all.length c) ∧ Elr w.heap.size w' B c t.all ∧ Kept w w' := by
  obtain ⟨A, c0, hb, hp⟩ := h.blk
  have p1 := blk_cell hb 1
  simp only [List.getElem?_toArray, List.getElem?_cons_zero, List.getElem?_cons_succ] at p1
  have hpl := mheap_lt hb
  have hil := h.il
  obtain ⟨n, hn⟩ : ∃ n, n = t.index.length := ⟨_, rfl⟩
  rw [← hn] at p1 hil
  have HN := Lib.hid hn
  have HT := Lib.hid h
  have HU := Lib.hid (Tb.upto_all t)
  clear hb hp h hn
  go_enter Try.func19, Try.ntmps19
  go_wp2_with fail
  go_loopw [3, 10] (fun v s wr => ∃ k : Nat, k ≤ n ∧ s = .int .i64 k ∧ Hid (wr.ownsRow w.heap.size 37 4 v (t.upto k).length (elc (t.upto k))) ∧ Hid (Kept w wr)) (fun v s _ => n - (intOf s).toNat)
  case atStart => exact ⟨0, Nat.zero_le _, rfl, Lib.hid (World.ownsRow_nil _ _ _ _), Lib.hid (Kept.refl w)⟩
  case round =>
    obtain ⟨k, hk, rfl, HO, HK⟩ := hrel
    by_cases hlt : k < n
    · obtain ⟨q, hq⟩ : ∃ q, t.index[k]? = some q := ⟨_, List.getElem?_eq_getElem (by have := HN.out; omega)⟩
      have HRD := Lib.hid (tread2_any (HT.out.kept HK.out) hq)
      have HUS := Lib.hid (Tb.upto_succ t hq)
      have hl32 := (Tb.rd_dec t q).1
      have hul := Tb.upto_len t k
      have hsz := Below.size HK.out
      generalize t.rd q = Y at *
      clear hq
      go_wp2_with fail
      refine HRD.out.mono ?_
      rintro e w1 ⟨B, c1, rfl, hel, g1⟩
      have HO1 := Lib.hid (own_kept HO.out g1)
      have HEL := Lib.hid hel.els
      have hs1 := Below.size g1
      have HK1 := Lib.hid (kept_trans HK.out g1)
      clear hel g1
      go_wp2_with (at_builtin; refine app_es B c1 (t.upto k) Y _ _ rfl rfl rfl w.heap.size (by omega) HO1.out Y.length rfl rfl HEL.out (by omega) ?_)
      intro v1 w2 hown hg
      have hrow := fun b hb => (HO1.out.lt b hb).1
      have HO2 := Lib.hid (show w2.ownsRow w.heap.size 37 4 v1 (t.upto (k + 1)).length (elc (t.upto (k + 1))) by rw [HUS.out, List.length_append]; exact hown)
      have HK2 := Lib.hid (show Kept w w2 from Below.grown HK1.out hg (Below.size HK1.out) hrow)
      clear hown hg hrow
      go_wp2_with fail
      go_roundw
      case rel => exact ⟨k + 1, by omega, by go_num, HO2, HK2⟩
      case measure => simp [intOf]; omega
    · have e : k = n := by omega
      subst e
      have hua : t.upto k = t.all := by rw [HN.out]; exact HU.out
      rw [hua] at HO
      obtain ⟨B, c, rfl, _, hel⟩ := els_own HO.out
      have HEL := Lib.hid hel
      clear hel HO hua
      go_wp2_with fail
      go_ret
      exact ⟨B, c, rfl, HEL.out, HK.out⟩
theorem tahead_any (q : Tb.Pl) (k : List UInt8) (s : Nat) (w : World) :
    Calls Try.prog 80 #[.agg #[.string (bs q.key), .int .u64 (q.seq : Nat), .int .u64 (q.beg : Nat), .int .u64 (q.size : Nat)], .string (bs k), .int .u64 (s : Nat)] w fun e w' => e = .returned (.bool (q.ah k s)) ∧ Kept w w' := by
  have HG := Lib.hid (fun (W : World) (b : Nat) h => kgrow_two ⟨q.key, q.seq, false, []⟩ k s W b h)
  have HA := Lib.hid (show Mm.Ent.ah ⟨q.key, q.seq, false, []⟩ k s = q.ah k s from rfl)
  rw [HA.out] at HG
  obtain ⟨qk, qs, qb, qz⟩ := q
  generalize Tb.Pl.ah ⟨qk, qs, qb, qz⟩ k s = X at *
  simp only at HG
  clear HA
  go_enter Try.func80, Try.ntmps80
  go_wp2_with fail
  refine (HG.out _ _ (malloc_at _ _ _ (by simp))).mono ?_
  rintro e w1 ⟨rfl, g1⟩
  go_wp2_with fail
  go_ret
  exact ⟨rfl, kept_trans (((Kept.refl _).alloc _).alloc _) g1⟩
/-- the closure's boxes -/
structure TEnv (w : World) (A : Option Addr) (n c : Nat) (k : List UInt8) (s p0 p1 p2 : Nat) : Prop where
  b0 : w.heap[p0]? = some (.cells #[.slice A n c] 56 (0, 0))
  b1 : w.heap[p1]? = some (.cells #[.string (bs k)] 9 (0, 0))
  b2 : w.heap[p2]? = some (.cells #[.int .u64 (s : Nat)] 29 (0, 0))
theorem TEnv.kept {w w' : World} {A : Option Addr} {n c : Nat} {k : List UInt8} {s p0 p1 p2 : Nat} (h : TEnv w A n c k s p0 p1 p2) (g : Kept w w') : TEnv w' A n c k s p0 p1 p2 := ⟨mblk_kept h.b0 g, mblk_kept h.b1 g, mblk_kept h.b2 g⟩
theorem tcc_kept {w w' : World} {b o i n c p0 p1 p2 s : Nat} {q : Tb.Pl} {k : List UInt8} (h : (w.cell? ⟨b, o + i * 4, none⟩ = some (.string (bs q.key)) ∧ w.cell? ⟨b, o + i * 4 + 1, none⟩ = some (.int .u64 (q.seq : Nat)) ∧ w.cell? ⟨b, o + i * 4 + 2, none⟩ = some (.int .u64 (q.beg : Nat)) ∧ w.cell? ⟨b, o + i * 4 + 3, none⟩ = some (.int .u64 (q.size : Nat))) ∧ w.cell? ⟨p0, 0, none⟩ = some (.slice (some ⟨b, o, none⟩) n c) ∧ w.cell? ⟨p1, 0, none⟩ = some (.string (bs k)) ∧ w.cell? ⟨p2, 0, none⟩ = some (.int .u64 (s : Nat))) (hb : b < w.heap.size) (h0 : p0 < w.heap.size) (h1 : p1 < w.heap.size) (h2 : p2 < w.heap.size) (g : Kept w w') :
    (w'.cell? ⟨b, o + i * 4, none⟩ = some (.string (bs q.key)) ∧ w'.cell? ⟨b, o + i * 4 + 1, none⟩ = some (.int .u64 (q.seq : Nat)) ∧ w'.cell? ⟨b, o + i * 4 + 2, none⟩ = some (.int .u64 (q.beg : Nat)) ∧ w'.cell? ⟨b, o + i * 4 + 3, none⟩ = some (.int .u64 (q.size : Nat))) ∧ w'.cell? ⟨p0, 0, none⟩ = some (.slice (some ⟨b, o, none⟩) n c) ∧ w'.cell? ⟨p1, 0, none⟩ = some (.string (bs k)) ∧ w'.cell? ⟨p2, 0, none⟩ = some (.int .u64 (s : Nat)) :=
  ⟨⟨(kept_cell g hb).trans h.1.1, (kept_cell g hb).trans h.1.2.1, (kept_cell g hb).trans h.1.2.2.1, (kept_cell g hb).trans h.1.2.2.2⟩, (kept_cell g h0).trans h.2.1, (kept_cell g h1).trans h.2.2.1, (kept_cell g h2).trans h.2.2.2⟩
theorem tclo_any {W : World} {A : Option Addr} {c : Nat} {l : List Tb.Pl} {k : List UInt8} {s p0 p1 p2 : Nat} (h : Pls W A l) (he : TEnv W A l.length c k s p0 p1 p2) (hl : l.length ≤ 63) {i : Nat} {q : Tb.Pl} (hq : l[i]? = some q) :
    Calls Try.prog 79 #[.int .i64 (i : Nat), .pointer (some ⟨p0, 0, none⟩), .pointer (some ⟨p1, 0, none⟩), .pointer (some ⟨p2, 0, none⟩)] W fun e w' => e = .returned (.bool (!q.ah k s)) ∧ Kept W w' := by
  obtain ⟨b, o, rfl, hb, c0, c1, c2, c3⟩ := h i q hq
  have q0 := mcell (v := .slice (some ⟨b, o, none⟩) l.length c) he.b0 0 rfl
  have q1 := mcell (v := .string (bs k)) he.b1 0 rfl
  have q2 := mcell (v := .int .u64 (s : Nat)) he.b2 0 rfl
  have hi := (List.getElem?_eq_some_iff.1 hq).1
  have HC := Lib.hid (tahead_any q k s W.drew)
  have HCC := Lib.hid (And.intro (And.intro c0 (And.intro c1 (And.intro c2 c3))) (And.intro q0 (And.intro q1 q2)))
  have HLT := Lib.hid (And.intro hb (And.intro (mheap_lt he.b0) (And.intro (mheap_lt he.b1) (mheap_lt he.b2))))
  generalize l.length = n at *
  clear h hq he hb
  go_enter Try.func79, Try.ntmps79
  go_wp2_with fail
  go_region_held3 (fun w' => (w'.cell? ⟨b, o + i * 4, none⟩ = some (.string (bs q.key)) ∧ w'.cell? ⟨b, o + i * 4 + 1, none⟩ = some (.int .u64 (q.seq : Nat)) ∧ w'.cell? ⟨b, o + i * 4 + 2, none⟩ = some (.int .u64 (q.beg : Nat)) ∧ w'.cell? ⟨b, o + i * 4 + 3, none⟩ = some (.int .u64 (q.size : Nat))) ∧ w'.cell? ⟨p0, 0, none⟩ = some (.slice (some ⟨b, o, none⟩) n c) ∧ w'.cell? ⟨p1, 0, none⟩ = some (.string (bs k)) ∧ w'.cell? ⟨p2, 0, none⟩ = some (.int .u64 (s : Nat)))
    (first | exact tcc_kept HCC.out HLT.out.1 HLT.out.2.1 HLT.out.2.2.1 HLT.out.2.2.2 (kept_trans (kept_drewN W 1) g1) | exact tcc_kept HCC.out HLT.out.1 HLT.out.2.1 HLT.out.2.2.1 HLT.out.2.2.2 (kept_drewN W 1) | exact HCC.out)
    ((go_at_call 80; refine HC.out.mono ?_; rintro e w1 ⟨rfl, g1⟩))
  go_wp2_with fail
  go_ret
  exact ⟨rfl, kept_trans (kept_drewN W 1) g1⟩
theorem tsearch_any {w : World} {l : List Tb.Pl} {k : List UInt8} {s p0 p1 p2 : Nat} (hl : l.length ≤ 63) (hr : Tb.Mono l)
    (hf : ∀ W, Kept w W → ∀ i x, l[i]? = some x → Calls Try.prog 79 #[.int .i64 (i : Nat), .pointer (some ⟨p0, 0, none⟩), .pointer (some ⟨p1, 0, none⟩), .pointer (some ⟨p2, 0, none⟩)] W fun e w' => e = .returned (.bool (!x.ah k s)) ∧ Kept W w') :
    Calls Try.prog 78 #[.int .i64 (l.length : Nat), .func (.func 79) #[] #[.pointer (some ⟨p0, 0, none⟩), .pointer (some ⟨p1, 0, none⟩), .pointer (some ⟨p2, 0, none⟩)]] w fun e w' => ∃ i : Nat, e = .returned (.int .i64 (i : Nat)) ∧ Tb.At l k s i ∧ Kept w w' := by
  have HF := Lib.hid hf; have HR := Lib.hid hr
  clear hf hr
  go_enter Try.func78, Try.ntmps78
  go_wp2_with fail
  go_loopw [5, 6] (fun a b wr => ∃ i j : Nat, i ≤ j ∧ j ≤ l.length ∧ a = .int .i64 (i : Nat) ∧ b = .int .i64 (j : Nat) ∧ Hid (∀ q x, q < i → l[q]? = some x → x.ah k s = true) ∧ Hid (∀ q x, j ≤ q → l[q]? = some x → x.ah k s = false) ∧ Kept w wr) (fun a b _ => (intOf b).toNat - (intOf a).toNat)
  case atStart => exact ⟨0, l.length, by omega, Nat.le_refl _, rfl, rfl, Lib.hid (fun q x hq => absurd hq (by omega)), Lib.hid (fun q x hq hx => by have := (List.getElem?_eq_some_iff.1 hx).1; omega), Kept.refl _⟩
  case round =>
    obtain ⟨i, j, hij, hj, rfl, rfl, HA, HB, kr⟩ := hrel
    by_cases hlt : i < j
    · obtain ⟨m, hm⟩ : ∃ m, m = (i + j) / 2 := ⟨_, rfl⟩
      have hmi : i ≤ m := by omega
      have hmj : m < j := by omega
      obtain ⟨x, hx⟩ : ∃ x, l[m]? = some x := ⟨_, List.getElem?_eq_getElem (by omega)⟩
      have hc := HF.out wr kr m x hx
      have HX := Lib.hid hx
      have e1 : IntKind.i64.wrap ((i : Int) + (j : Int)) = (i : Int) + (j : Int) := by rw [IntKind.wrap_i64]; omega
      have e2 : IntKind.u64.wrap ((i : Int) + (j : Int)) = (i : Int) + (j : Int) := by rw [IntKind.wrap_u64]; omega
      have e3 : ((i : Int) + (j : Int)) / 2 = (m : Int) := by omega
      have e4 : IntKind.i64.wrap (m : Int) = (m : Int) := wrap_nat (by omega)
      have e5 : IntKind.i64.wrap ((m : Int) + 1) = (m : Int) + 1 := by rw [IntKind.wrap_i64]; omega
      have HM := Lib.hid hm
      clear hx hm
      cases hv : x.ah k s with
      | true =>
        rw [hv] at hc
        have HC := Lib.hid hc
        have HV := Lib.hid hv
        clear hc hv
        go_wp2_with fail
        refine HC.out.mono ?_
        rintro e w1 ⟨rfl, g1⟩
        go_wp2_with fail
        go_roundw
        case rel => exact ⟨m + 1, j, by omega, hj, by go_num, rfl, Lib.hid (fun q y hq hy => by
          rcases Nat.lt_or_ge q m with h | h
          · exact HR.out k s q m y x hy HX.out h HV.out
          · have : q = m := by omega
            subst this; rw [HX.out] at hy; cases hy; exact HV.out), HB, kept_trans kr g1⟩
        case measure => simp [intOf]; omega
      | false =>
        rw [hv] at hc
        have HC := Lib.hid hc
        have HV := Lib.hid hv
        clear hc hv
        go_wp2_with fail
        refine HC.out.mono ?_
        rintro e w1 ⟨rfl, g1⟩
        go_wp2_with fail
        go_roundw
        case rel => exact ⟨i, m, hmi, by omega, rfl, rfl, HA, Lib.hid (fun q y hq hy => by
          rcases Nat.lt_or_ge m q with h | h
          · cases ha : y.ah k s with
            | false => rfl
            | true => have := HR.out k s m q x y HX.out hy h ha; rw [HV.out] at this; cases this
          · have : q = m := by omega
            subst this; rw [HX.out] at hy; cases hy; exact HV.out), kept_trans kr g1⟩
        case measure => simp [intOf]; omega
    · have e : i = j := by omega
      subst e
      go_wp2_with fail
      go_ret
      exact ⟨i, rfl, ⟨hj, HA.out, fun x hx => HB.out i x (Nat.le_refl _) hx⟩, kr⟩
theorem tfirst_any {w : World} {A : Option Addr} {l : List Tb.Pl} (c : Nat) (h : Pls w A l) (hl : l.length ≤ 63) (hr : Tb.Mono l) (k : List UInt8) (s : Nat) :
    Calls Try.prog 52 #[.slice A l.length c, .string (bs k), .int .u64 (s : Nat)] w fun e w' => ∃ i : Nat, e = .returned (.int .i64 (i : Nat)) ∧ Tb.At l k s i ∧ Kept w w' := by
  have g0 : Kept w (((w.alloc (.cells #[.slice A l.length c] 56)).alloc (.cells #[.string (bs k)] 9)).alloc (.cells #[.int .u64 (s : Nat)] 29)) := (((Kept.refl w).alloc _).alloc _).alloc _
  have r0 : (((w.alloc (.cells #[.slice A l.length c] 56)).alloc (.cells #[.string (bs k)] 9)).alloc (.cells #[.int .u64 (s : Nat)] 29)).heap[w.heap.size]? = some (.cells #[.slice A l.length c] 56) := (malloc_old _ _ (by simp only [malloc_size]; omega)).trans ((malloc_old _ _ (by simp only [malloc_size]; omega)).trans (malloc_new w _))
  have r1 : (((w.alloc (.cells #[.slice A l.length c] 56)).alloc (.cells #[.string (bs k)] 9)).alloc (.cells #[.int .u64 (s : Nat)] 29)).heap[w.heap.size + 1]? = some (.cells #[.string (bs k)] 9) := (malloc_old _ _ (by simp only [malloc_size]; omega)).trans (by have := malloc_new (w.alloc (.cells #[.slice A l.length c] 56)) (.cells #[.string (bs k)] 9); rwa [malloc_size] at this)
  have r2 : (((w.alloc (.cells #[.slice A l.length c] 56)).alloc (.cells #[.string (bs k)] 9)).alloc (.cells #[.int .u64 (s : Nat)] 29)).heap[w.heap.size + 2]? = some (.cells #[.int .u64 (s : Nat)] 29) := by have := malloc_new ((w.alloc (.cells #[.slice A l.length c] 56)).alloc (.cells #[.string (bs k)] 9)) (.cells #[.int .u64 (s : Nat)] 29); rwa [malloc_size, malloc_size] at this
  have HE := Lib.hid h
  have HR := Lib.hid hr
  clear h hr
  go_enter Try.func52, Try.ntmps52
  go_wp2_with fail
  generalize (((w.alloc (.cells #[.slice A l.length c] 56)).alloc (.cells #[.string (bs k)] 9)).alloc (.cells #[.int .u64 (s : Nat)] 29)) = w4 at *
  have henv : TEnv w4 A l.length c k s w.heap.size (w.heap.size + 1) (w.heap.size + 2) := ⟨r0, r1, r2⟩
  have HSE := Lib.hid (tsearch_any (w := w4) hl HR.out (fun W K i x hx => tclo_any ((HE.out.kept g0).kept K) (henv.kept K) hl hx))
  clear henv r0 r1 r2
  refine HSE.out.mono ?_
  rintro e w5 ⟨i, rfl, ha, g5⟩
  have HA := Lib.hid ha
  clear ha
  go_wp2_with fail
  go_ret
  exact ⟨i, rfl, HA.out, kept_trans g0 g5⟩
end Go.Proofs.Ytecjnebfhbdnaaa
