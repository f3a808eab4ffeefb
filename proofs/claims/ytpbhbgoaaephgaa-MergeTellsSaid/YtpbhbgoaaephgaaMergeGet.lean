/-
  Package merge over memory: upTo, Get.
-/
import Derived.Test.YtpbhbgoaaephgaaMergeFilt
namespace Go.Proofs.Ytpbhbgoaaephgaa
open Go.ChangeShapes Go.WideShapes Go.ChangeAt Go.RowKit
set_option linter.unusedVariables false
set_option maxRecDepth 100000
set_option maxHeartbeats 4000000

/-- what a closure has taken along: a list, a key, a number, each in a block of its own -/
structure Env (W : World) (A : Option Addr) (n c : Nat) (k : List UInt8) (s p0 p1 p2 : Nat) : Prop where
  b0 : W.heap[p0]? = some (.cells #[.slice A n c] 46)
  b1 : W.heap[p1]? = some (.cells #[.string (bs k)] 9)
  b2 : W.heap[p2]? = some (.cells #[.int .u64 (s : Nat)] 28)
theorem Env.kept {W W' : World} {A : Option Addr} {n c : Nat} {k : List UInt8} {s p0 p1 p2 : Nat} (h : Env W A n c k s p0 p1 p2) (g : Kept W W') : Env W' A n c k s p0 p1 p2 :=
  ⟨(Below.block g _ (mheap_lt h.b0)).trans h.b0, (Below.block g _ (mheap_lt h.b1)).trans h.b1, (Below.block g _ (mheap_lt h.b2)).trans h.b2⟩
theorem clo_kept {w w' : World} {b o i n c p0 p1 p2 s : Nat} {x : Mm.Ent} {k : List UInt8} (h : Ec w b o i x ∧ w.cell? ⟨p0, 0, none⟩ = some (.slice (some ⟨b, o, none⟩) n c) ∧ w.cell? ⟨p1, 0, none⟩ = some (.string (bs k)) ∧ w.cell? ⟨p2, 0, none⟩ = some (.int .u64 (s : Nat))) (hb : b < w.heap.size) (h0 : p0 < w.heap.size) (h1 : p1 < w.heap.size) (h2 : p2 < w.heap.size) (g : Kept w w') :
    Ec w' b o i x ∧ w'.cell? ⟨p0, 0, none⟩ = some (.slice (some ⟨b, o, none⟩) n c) ∧ w'.cell? ⟨p1, 0, none⟩ = some (.string (bs k)) ∧ w'.cell? ⟨p2, 0, none⟩ = some (.int .u64 (s : Nat)) :=
  ⟨h.1.kept hb g, (kept_cell g h0).trans h.2.1, (kept_cell g h1).trans h.2.2.1, (kept_cell g h2).trans h.2.2.2⟩
theorem gclo_any {W : World} {A : Option Addr} {c : Nat} {l : List Mm.Ent} {k : List UInt8} {s p0 p1 p2 : Nat} (h : Els W A l) (he : Env W A l.length c k s p0 p1 p2) (hl : l.length ≤ 4000) {i : Nat} {x : Mm.Ent} (hx : l[i]? = some x) :
    Calls Try.prog 79 #[.int .i64 (i : Nat), .pointer (some ⟨p0, 0, none⟩), .pointer (some ⟨p1, 0, none⟩), .pointer (some ⟨p2, 0, none⟩)] W fun e w' => e = .returned (.bool (!x.ah k s)) ∧ Kept W w' := by
  obtain ⟨b, o, rfl, hb, c0, c1, c2, c3⟩ := h i x hx
  have q0 := mcell (v := .slice (some ⟨b, o, none⟩) l.length c) he.b0 0 rfl
  have q1 := mcell (v := .string (bs k)) he.b1 0 rfl
  have q2 := mcell (v := .int .u64 (s : Nat)) he.b2 0 rfl
  have hi := (List.getElem?_eq_some_iff.1 hx).1
  have HC := Lib.hid (gahead_any x k s W.drew)
  have HCC := Lib.hid (And.intro (show Ec W b o i x from And.intro c0 (And.intro c1 (And.intro c2 c3))) (And.intro q0 (And.intro q1 q2)))
  have HLT := Lib.hid (And.intro hb (And.intro (mheap_lt he.b0) (And.intro (mheap_lt he.b1) (mheap_lt he.b2))))
  unfold entV at HC
  generalize l.length = n at *
  clear h hx he hb
  go_enter Try.func79, Try.ntmps79
  go_wp2_with fail
  go_region_held3 (fun w' => (w'.cell? ⟨b, o + i * 4, none⟩ = some (.string (bs x.key)) ∧ w'.cell? ⟨b, o + i * 4 + 1, none⟩ = some (.int .u64 (x.seq : Nat)) ∧ w'.cell? ⟨b, o + i * 4 + 2, none⟩ = some (.bool x.del) ∧ w'.cell? ⟨b, o + i * 4 + 3, none⟩ = some (.string (bs x.val))) ∧ w'.cell? ⟨p0, 0, none⟩ = some (.slice (some ⟨b, o, none⟩) n c) ∧ w'.cell? ⟨p1, 0, none⟩ = some (.string (bs k)) ∧ w'.cell? ⟨p2, 0, none⟩ = some (.int .u64 (s : Nat)))
    (first | exact clo_kept HCC.out HLT.out.1 HLT.out.2.1 HLT.out.2.2.1 HLT.out.2.2.2 (kept_trans (kept_drewN W 1) g1) | exact clo_kept HCC.out HLT.out.1 HLT.out.2.1 HLT.out.2.2.1 HLT.out.2.2.2 (kept_drewN W 1) | exact HCC.out)
    ((go_at_call 73; refine HC.out.mono ?_; rintro e w1 ⟨rfl, g1⟩))
  go_wp2_with fail
  go_ret
  exact ⟨rfl, kept_trans (kept_drewN W 1) g1⟩
theorem ah_mono {l : List Mm.Ent} (h : Mg.Rw l) {k : List UInt8} {s i j : Nat} {x y : Mm.Ent} (hx : l[i]? = some x) (hy : l[j]? = some y) (hij : i < j) (ha : y.ah k s = true) : x.ah k s = true := Mm.ahd_trans (h.lt hx hy hij) ha
theorem gsearch_any {w : World} {l : List Mm.Ent} {k : List UInt8} {s p0 p1 p2 : Nat} (hl : l.length ≤ 4000) (hr : Mg.Rw l)
    (hf : ∀ W, Kept w W → ∀ i x, l[i]? = some x → Calls Try.prog 79 #[.int .i64 (i : Nat), .pointer (some ⟨p0, 0, none⟩), .pointer (some ⟨p1, 0, none⟩), .pointer (some ⟨p2, 0, none⟩)] W fun e w' => e = .returned (.bool (!x.ah k s)) ∧ Kept W w') :
    Calls Try.prog 78 #[.int .i64 (l.length : Nat), .func (.func 79) #[] #[.pointer (some ⟨p0, 0, none⟩), .pointer (some ⟨p1, 0, none⟩), .pointer (some ⟨p2, 0, none⟩)]] w fun e w' => ∃ i : Nat, e = .returned (.int .i64 (i : Nat)) ∧ i ≤ l.length ∧ (∀ j x, j < i → l[j]? = some x → x.ah k s = true) ∧ (∀ x, l[i]? = some x → x.ah k s = false) ∧ Kept w w' := by
  have HF := Lib.hid hf; have HR := Lib.hid hr
  clear hf hr
  go_enter Try.func78, Try.ntmps78
  go_wp2_with fail
  go_loopw [5, 6] (fun a b wr => ∃ i j : Nat, i ≤ j ∧ j ≤ l.length ∧ a = .int .i64 (i : Nat) ∧ b = .int .i64 (j : Nat) ∧ Hid (∀ q x, q < i → l[q]? = some x → x.ah k s = true) ∧ Hid (∀ q x, j ≤ q → l[q]? = some x → x.ah k s = false) ∧ Kept w wr) (fun a b _ => (intOf b).toNat - (intOf a).toNat)
  case atStart => exact ⟨0, l.length, by omega, Nat.le_refl _, rfl, rfl, Lib.hid (fun q x hq => absurd hq (by omega)), Lib.hid (fun q x hq hx => by have := (List.getElem?_eq_some_iff.1 hx).1; omega), Kept.refl _⟩
  case round =>
    obtain ⟨i, j, hij, hj, rfl, rfl, HA, HB, kr⟩ := hrel
    by_cases hlt : i < j
    · obtain ⟨m, hm⟩ : ∃ m, m = (i + j) / 2 := ⟨_, rfl⟩
      have hmi : i ≤ m := by omega
      have hmj : m < j := by omega
      obtain ⟨x, hx⟩ : ∃ x, l[m]? = some x := ⟨_, List.getElem?_eq_getElem (by omega)⟩
      have hc := HF.out wr kr m x hx
      have HX := Lib.hid hx
      have e1 : IntKind.i64.wrap ((i : Int) + (j : Int)) = (i : Int) + (j : Int) := by rw [IntKind.wrap_i64]; omega
      have e2 : IntKind.u64.wrap ((i : Int) + (j : Int)) = (i : Int) + (j : Int) := by rw [IntKind.wrap_u64]; omega
      have e3 : ((i : Int) + (j : Int)) / 2 = (m : Int) := by omega
      have e4 : IntKind.i64.wrap (m : Int) = (m : Int) := wrap_nat (by omega)
      have e5 : IntKind.i64.wrap ((m : Int) + 1) = (m : Int) + 1 := by rw [IntKind.wrap_i64]; omega
      have HM := Lib.hid hm
      clear hx hm
      cases hv : x.ah k s with
      | true =>
        rw [hv] at hc
        have HC := Lib.hid hc
        have HV := Lib.hid hv
        clear hc hv
        go_wp2_with fail
        refine HC.out.mono ?_
        rintro e w1 ⟨rfl, g1⟩
        go_wp2_with fail
        go_roundw
        case rel => exact ⟨m + 1, j, by omega, hj, by go_num, rfl, Lib.hid (fun q y hq hy => by
          rcases Nat.lt_or_ge q m with h | h
          · exact ah_mono HR.out hy HX.out h HV.out
          · have : q = m := by omega
            subst this; rw [HX.out] at hy; cases hy; exact HV.out), HB, kept_trans kr g1⟩
        case measure => simp [intOf]; omega
      | false =>
        rw [hv] at hc
        have HC := Lib.hid hc
        have HV := Lib.hid hv
        clear hc hv
        go_wp2_with fail
        refine HC.out.mono ?_
        rintro e w1 ⟨rfl, g1⟩
        go_wp2_with fail
        go_roundw
        case rel => exact ⟨i, m, hmi, by omega, rfl, rfl, HA, Lib.hid (fun q y hq hy => by
          rcases Nat.lt_or_ge m q with h | h
          · cases ha : y.ah k s with
            | false => rfl
            | true => have := ah_mono HR.out HX.out hy h ha; rw [HV.out] at this; cases this
          · have : q = m := by omega
            subst this; rw [HX.out] at hy; cases hy; exact HV.out), kept_trans kr g1⟩
        case measure => simp [intOf]; omega
    · have e : i = j := by omega
      subst e
      go_wp2_with fail
      go_ret
      exact ⟨i, rfl, hj, HA.out, fun x hx => HB.out i x (Nat.le_refl _) hx, kr⟩
def optV (o : Option Mm.Ent) : Value := .tuple #[entV (o.getD Mm.zent), .bool o.isSome]
theorem gupto_any {w : World} {A : Option Addr} {l : List Mm.Ent} (c : Nat) (h : Els w A l) (hl : l.length ≤ 4000) (hr : Mg.row l = true) (k : List UInt8) (s : Nat) :
    Calls Try.prog 71 #[.slice A l.length c, .string (bs k), .int .u64 (s : Nat)] w fun e w' => e = .returned (optV (l.find? (Mm.mt k s))) ∧ Kept w w' := by
  have g0 : Kept w ((((w.alloc (.cells #[.slice A l.length c] 46)).alloc (.cells #[.string (bs k)] 9)).alloc (.cells #[.int .u64 (s : Nat)] 28)).alloc (.cells #[.string ⟨#[]⟩, .int .u64 0, .bool false, .string ⟨#[]⟩] 51)) := ((((Kept.refl w).alloc _).alloc _).alloc _).alloc _
  have r0 : ((((w.alloc (.cells #[.slice A l.length c] 46)).alloc (.cells #[.string (bs k)] 9)).alloc (.cells #[.int .u64 (s : Nat)] 28)).alloc (.cells #[.string ⟨#[]⟩, .int .u64 0, .bool false, .string ⟨#[]⟩] 51)).heap[w.heap.size]? = some (.cells #[.slice A l.length c] 46) := (malloc_old _ _ (by simp only [malloc_size]; omega)).trans ((malloc_old _ _ (by simp only [malloc_size]; omega)).trans ((malloc_old _ _ (by simp only [malloc_size]; omega)).trans (malloc_new w _)))
  have r1 : ((((w.alloc (.cells #[.slice A l.length c] 46)).alloc (.cells #[.string (bs k)] 9)).alloc (.cells #[.int .u64 (s : Nat)] 28)).alloc (.cells #[.string ⟨#[]⟩, .int .u64 0, .bool false, .string ⟨#[]⟩] 51)).heap[w.heap.size + 1]? = some (.cells #[.string (bs k)] 9) := (malloc_old _ _ (by simp only [malloc_size]; omega)).trans ((malloc_old _ _ (by simp only [malloc_size]; omega)).trans (by have := malloc_new (w.alloc (.cells #[.slice A l.length c] 46)) (.cells #[.string (bs k)] 9); rwa [malloc_size] at this))
  have r2 : ((((w.alloc (.cells #[.slice A l.length c] 46)).alloc (.cells #[.string (bs k)] 9)).alloc (.cells #[.int .u64 (s : Nat)] 28)).alloc (.cells #[.string ⟨#[]⟩, .int .u64 0, .bool false, .string ⟨#[]⟩] 51)).heap[w.heap.size + 2]? = some (.cells #[.int .u64 (s : Nat)] 28) := (malloc_old _ _ (by simp only [malloc_size]; omega)).trans (by have := malloc_new ((w.alloc (.cells #[.slice A l.length c] 46)).alloc (.cells #[.string (bs k)] 9)) (.cells #[.int .u64 (s : Nat)] 28); rwa [malloc_size, malloc_size] at this)
  have r3 : ((((w.alloc (.cells #[.slice A l.length c] 46)).alloc (.cells #[.string (bs k)] 9)).alloc (.cells #[.int .u64 (s : Nat)] 28)).alloc (.cells #[.string ⟨#[]⟩, .int .u64 0, .bool false, .string ⟨#[]⟩] 51)).heap[w.heap.size + 3]? = some (.cells #[.string ⟨#[]⟩, .int .u64 0, .bool false, .string ⟨#[]⟩] 51) := by have := malloc_new (((w.alloc (.cells #[.slice A l.length c] 46)).alloc (.cells #[.string (bs k)] 9)).alloc (.cells #[.int .u64 (s : Nat)] 28)) (.cells #[.string ⟨#[]⟩, .int .u64 0, .bool false, .string ⟨#[]⟩] 51); rwa [malloc_size, malloc_size, malloc_size] at this
  have HR := Lib.hid (Mg.row_iff.1 hr)
  have HE := Lib.hid h
  clear h hr
  go_enter Try.func71, Try.ntmps71
  go_wp2_with fail
  generalize ((((w.alloc (.cells #[.slice A l.length c] 46)).alloc (.cells #[.string (bs k)] 9)).alloc (.cells #[.int .u64 (s : Nat)] 28)).alloc (.cells #[.string ⟨#[]⟩, .int .u64 0, .bool false, .string ⟨#[]⟩] 51)) = w4 at *
  have henv : Env w4 A l.length c k s w.heap.size (w.heap.size + 1) (w.heap.size + 2) := ⟨r0, r1, r2⟩
  have HSE := Lib.hid (gsearch_any (w := w4) hl HR.out (fun W K i x hx => gclo_any ((HE.out.kept g0).kept K) (henv.kept K) hl hx))
  refine HSE.out.mono ?_
  rintro e w5 ⟨i, rfl, hi, ha, hb, g5⟩
  have HENV := Lib.hid (henv.kept g5)
  have HFI := Lib.hid (Mg.up_find HR.out ha hb)
  have HG := Lib.hid (kept_trans g0 g5)
  have rz := (Below.block g5 _ (mheap_lt r3)).trans r3
  have c0 := mcell (v := .slice A l.length c) HENV.out.b0 0 rfl
  have c1 := mcell (v := .string (bs k)) HENV.out.b1 0 rfl
  have RZ := Lib.hid rz
  have z0 := mcell (v := .string ⟨#[]⟩) rz 0 rfl; have z1 := mcell (v := .int .u64 0) rz 1 rfl; have z2 := mcell (v := .bool false) rz 2 rfl; have z3 := mcell (v := .string ⟨#[]⟩) rz 3 rfl
  have f0 := mfrozen rz 0; have f1 := mfrozen rz 1; have f2 := mfrozen rz 2; have f3 := mfrozen rz 3
  clear ha hb g5 henv r0 r1 r2 r3 g0 rz
  by_cases hil : i = l.length
  · subst hil
    go_wp2_with fail
    go_quiet (fail)
    go_wp2_with fail
    have HF2 := Lib.hid (show l.find? (Mm.mt k s) = none by rw [HFI.out, List.getElem?_eq_none (Nat.le_refl _)])
    try simp only [Exit.inBlock, Exit.then]
    refine bodyPost_ret (v := .tuple #[entV Mm.zent, .bool false]) (by simp [results, Try.results71, go_sem, entV, Mm.zent, bs, z0, z1, z2, z3]) rfl ⟨by rw [HF2.out]; rfl, ?_⟩
    exact kept_own (kept_own (kept_own (kept_own (kept_trans HG.out (kept_drewN w5 nq)) (by omega)) (by omega)) (by omega)) (by omega)
  · have hlt : i < l.length := by omega
    obtain ⟨x, hx⟩ : ∃ x, l[i]? = some x := ⟨_, List.getElem?_eq_getElem hlt⟩
    obtain ⟨b, o, rfl, hb, d0, d1, d2, d3⟩ := (HE.out.kept HG.out) i x hx
    have hfi := HFI.out
    rw [hx] at hfi
    simp only at hfi
    have n1 := mbs_ne x.key k
    have n2 := mbs_eq x.key k
    have e0 : ((i : Int) == (l.length : Int)) = false := by rw [beq_eq_false_iff_ne]; omega
    clear hx
    by_cases hk : x.key = k
    · rw [if_pos hk] at hfi
      rw [decide_eq_true hk] at n1 n2
      rw [Bool.not_true] at n1
      have HF2 := Lib.hid hfi
      clear hfi hk
      go_wp2_with fail
      go_quiet (fail)
      go_wp2_with fail
      try simp only [Exit.inBlock, Exit.then]
      refine bodyPost_ret (v := .tuple #[entV x, .bool true]) (by simp [results, Try.results71, go_sem, entV, z0, z1, z2, z3]) rfl ⟨by rw [HF2.out]; rfl, ?_⟩
      exact kept_own (kept_own (kept_own (kept_own (kept_trans HG.out (kept_drewN w5 nq)) (by omega)) (by omega)) (by omega)) (by omega)
    · rw [if_neg hk] at hfi
      rw [decide_eq_false hk] at n1 n2
      rw [Bool.not_false] at n1
      have HF2 := Lib.hid hfi
      clear hfi hk
      go_wp2_with fail
      go_quiet (fail)
      go_wp2_with fail
      try simp only [Exit.inBlock, Exit.then]
      refine bodyPost_ret (v := .tuple #[entV Mm.zent, .bool false]) (by simp [results, Try.results71, go_sem, entV, Mm.zent, bs, z0, z1, z2, z3]) rfl ⟨by rw [HF2.out]; rfl, ?_⟩
      exact kept_own (kept_own (kept_own (kept_own (kept_trans HG.out (kept_drewN w5 nq)) (by omega)) (by omega)) (by omega)) (by omega)
def entO (x : Mm.Ent) : Obj := .cells #[.string (bs x.key), .int .u64 (x.seq : Nat), .bool x.del, .string (bs x.val)] 51
theorem got_not {rows : List (List Mm.Ent)} {i : Nat} {r : List Mm.Ent} (h : rows[i]? = some r) (hr : Mg.row r = false) (k : List UInt8) (s : Nat) : Mg.got (rows.take (i + 1)) k s = Mg.got (rows.take i) k s := by
  rw [Mg.got_step h]; unfold Mg.gotS; rw [hr]; rfl
theorem got_yes {rows : List (List Mm.Ent)} {i : Nat} {r : List Mm.Ent} (h : rows[i]? = some r) (hr : Mg.row r = true) (k : List UInt8) (s : Nat) : Mg.got (rows.take (i + 1)) k s = Mg.better (Mg.got (rows.take i) k s) (r.find? (Mm.mt k s)) := by
  rw [Mg.got_step h]; unfold Mg.gotS; rw [hr]; rfl
theorem set4 {w : World} {b : Nat} {y : Mm.Ent} (h : w.heap[b]? = some (entO y)) (x : Mm.Ent) : ((((w.setCell ⟨b, 0, none⟩ (.string (bs x.key))).setCell ⟨b, 1, none⟩ (.int .u64 (x.seq : Nat))).setCell ⟨b, 2, none⟩ (.bool x.del)).setCell ⟨b, 3, none⟩ (.string (bs x.val))).heap[b]? = some (entO x) ∧ (∀ q, q ≠ b → ((((w.setCell ⟨b, 0, none⟩ (.string (bs x.key))).setCell ⟨b, 1, none⟩ (.int .u64 (x.seq : Nat))).setCell ⟨b, 2, none⟩ (.bool x.del)).setCell ⟨b, 3, none⟩ (.string (bs x.val))).heap[q]? = w.heap[q]?) ∧ (∀ W, Kept W w → W.heap.size ≤ b → Kept W ((((w.setCell ⟨b, 0, none⟩ (.string (bs x.key))).setCell ⟨b, 1, none⟩ (.int .u64 (x.seq : Nat))).setCell ⟨b, 2, none⟩ (.bool x.del)).setCell ⟨b, 3, none⟩ (.string (bs x.val)))) :=
  ⟨mheap_set (mheap_set (mheap_set (mheap_set h))), fun q hq => (mheap_other hq).trans ((mheap_other hq).trans ((mheap_other hq).trans (mheap_other hq))), fun W k hb => kept_own (kept_own (kept_own (kept_own k hb) hb) hb) hb⟩
theorem gget_any {w : World} {A : Option Addr} {rs : List Rs} (cr : Nat) (H : Rws w A rs) (hn : rs.length ≤ 1000) (k : List UInt8) (s : Nat) :
    Calls Try.prog 45 #[.slice A rs.length cr, .string (bs k), .int .u64 (s : Nat)] w fun e w' => e = .returned (optV (Mg.got (rs.map Rs.l) k s)) ∧ Kept w w' := by
  have HR := Lib.hid H
  have G0 := Lib.hid (show Kept w ((w.alloc (.cells #[.string ⟨#[]⟩, .int .u64 0, .bool false, .string ⟨#[]⟩] 51)).alloc (.cells #[.string ⟨#[]⟩, .int .u64 0, .bool false, .string ⟨#[]⟩] 51)) from ((Kept.refl w).alloc _).alloc _)
  have R0 := Lib.hid (show ((w.alloc (.cells #[.string ⟨#[]⟩, .int .u64 0, .bool false, .string ⟨#[]⟩] 51)).alloc (.cells #[.string ⟨#[]⟩, .int .u64 0, .bool false, .string ⟨#[]⟩] 51)).heap[w.heap.size]? = some (.cells #[.string ⟨#[]⟩, .int .u64 0, .bool false, .string ⟨#[]⟩] 51) from (malloc_old _ _ (by simp only [malloc_size]; omega)).trans (malloc_new w _))
  have R1 := Lib.hid (show ((w.alloc (.cells #[.string ⟨#[]⟩, .int .u64 0, .bool false, .string ⟨#[]⟩] 51)).alloc (.cells #[.string ⟨#[]⟩, .int .u64 0, .bool false, .string ⟨#[]⟩] 51)).heap[w.heap.size + 1]? = some (.cells #[.string ⟨#[]⟩, .int .u64 0, .bool false, .string ⟨#[]⟩] 51) by have := malloc_new (w.alloc (.cells #[.string ⟨#[]⟩, .int .u64 0, .bool false, .string ⟨#[]⟩] 51)) (.cells #[.string ⟨#[]⟩, .int .u64 0, .bool false, .string ⟨#[]⟩] 51); rwa [malloc_size] at this)
  clear H
  go_enter Try.func45, Try.ntmps45
  go_wp2_with fail
  generalize ((w.alloc (.cells #[.string ⟨#[]⟩, .int .u64 0, .bool false, .string ⟨#[]⟩] 51)).alloc (.cells #[.string ⟨#[]⟩, .int .u64 0, .bool false, .string ⟨#[]⟩] 51)) = w2 at *
  go_loopw [9, 16] (fun f t wr => ∃ (i : Nat) (acc : Option Mm.Ent), i ≤ rs.length ∧ t = .int .i64 (i : Nat) ∧ f = .bool acc.isSome ∧ Hid (acc = Mg.got ((rs.map Rs.l).take i) k s) ∧ Hid (wr.heap[w.heap.size]? = some (.cells #[.string ⟨#[]⟩, .int .u64 0, .bool false, .string ⟨#[]⟩] 51)) ∧ Hid (wr.heap[w.heap.size + 1]? = some (entO (acc.getD Mm.zent))) ∧ Hid (Kept w wr)) (fun _ t _ => rs.length - (intOf t).toNat)
  case atStart => exact ⟨0, none, Nat.zero_le _, rfl, rfl, Lib.hid rfl, R0, R1, G0⟩
  case round =>
    obtain ⟨i, acc, hi, rfl, rfl, HA, HZ, HB, HK⟩ := hrel
    by_cases hlt : i < rs.length
    · obtain ⟨r, hr⟩ : ∃ r, rs[i]? = some r := ⟨_, List.getElem?_eq_getElem hlt⟩
      have hm := List.mem_of_getElem? hr
      have hri : (rs.map Rs.l)[i]? = some r.l := by rw [List.getElem?_map, hr]; rfl
      obtain ⟨b, o, rfl, hb, c0⟩ := (HR.out.kept HK.out).at_ i r hr
      have hels := (HR.out.els r hm).kept HK.out
      have hfew := HR.out.few r hm
      have hrow := grow_any r.A r.c r.l hfew wr hels
      cases hv : Mg.row r.l with
      | false =>
        have HNO := Lib.hid (HA.out.trans (got_not hri hv k s).symm)
        rw [hv] at hrow
        have HRW := Lib.hid hrow
        clear hrow hv hm hr hri hels
        go_wp2_with fail
        refine HRW.out.mono ?_
        rintro e w1 ⟨rfl, k1⟩
        have HK1 := Lib.hid (kept_trans HK.out k1)
        have HZ1 := Lib.hid ((Below.block k1 _ (mheap_lt HZ.out)).trans HZ.out)
        have HB1 := Lib.hid ((Below.block k1 _ (mheap_lt HB.out)).trans HB.out)
        clear k1
        go_wp2_with fail
        go_roundw
        case rel => exact ⟨i + 1, acc, by omega, by go_num, rfl, HNO, HZ1, HB1, HK1⟩
        case measure => simp [intOf]; omega
      | true =>
        have HYES := Lib.hid (got_yes hri hv k s)
        rw [← HA.out] at HYES
        have HUP := Lib.hid (fun W (K : Kept wr W) => gupto_any r.c (hels.kept K) hfew hv k s)
        rw [hv] at hrow
        have HRW := Lib.hid hrow
        clear hrow hv hm hr hri hels
        go_wp2_with fail
        refine HRW.out.mono ?_
        rintro e w1 ⟨rfl, k1⟩
        go_wp2_with fail
        refine (HUP.out w1 k1).mono ?_
        rintro e w3 ⟨rfl, k3⟩
        have k13 := kept_trans k1 k3
        have HK1 := Lib.hid (kept_trans HK.out k13)
        have HZ1 := Lib.hid ((Below.block k13 _ (mheap_lt HZ.out)).trans HZ.out)
        have HB1 := Lib.hid ((Below.block k13 _ (mheap_lt HB.out)).trans HB.out)
        clear k1 k3 k13
        generalize r.l.find? (Mm.mt k s) = fo at *
        cases fo with
        | none =>
          have HN := Lib.hid (show acc = Mg.got ((rs.map Rs.l).take (i + 1)) k s by rw [HYES.out]; rfl)
          unfold optV entV
          simp only [Option.getD_none, Option.isSome_none]
          have e9 : bs Mm.zent.key = ⟨#[]⟩ := rfl
          go_wp2_with fail
          go_roundw
          case rel => exact ⟨i + 1, acc, by omega, by go_num, rfl, HN, Lib.hid ((malloc_old _ _ (mheap_lt HZ1.out)).trans HZ1.out), Lib.hid ((malloc_old _ _ (mheap_lt HB1.out)).trans HB1.out), Lib.hid (HK1.out.alloc _)⟩
          case measure => simp [intOf]; omega
        | some x =>
          unfold optV entV
          simp only [Option.getD_some, Option.isSome_some]
          have k4 : Kept w3 (w3.alloc (entO x)) := (Kept.refl w3).alloc _
          have rx := malloc_new w3 (entO x)
          have HZ4 := Lib.hid ((Below.block k4 _ (mheap_lt HZ1.out)).trans HZ1.out)
          have HB4 := Lib.hid ((Below.block k4 _ (mheap_lt HB1.out)).trans HB1.out)
          have HK4 := Lib.hid (kept_trans HK1.out k4)
          unfold entO at rx k4 HZ4 HB4 HK4
          go_upto_region 8 with fail
          generalize w3.alloc (.cells #[.string (bs x.key), .int .u64 (x.seq : Nat), .bool x.del, .string (bs x.val)] 51) = w4 at *
          have x0 := mcell (v := .string (bs x.key)) rx 0 rfl; have x1 := mcell (v := .int .u64 (x.seq : Nat)) rx 1 rfl; have x2 := mcell (v := .bool x.del) rx 2 rfl; have x3 := mcell (v := .string (bs x.val)) rx 3 rfl
          have rb := HB4.out
          have y0 := mcell (v := .string (bs (acc.getD Mm.zent).key)) rb 0 rfl; have y1 := mcell (v := .int .u64 ((acc.getD Mm.zent).seq : Nat)) rb 1 rfl; have y2 := mcell (v := .bool (acc.getD Mm.zent).del) rb 2 rfl; have y3 := mcell (v := .string (bs (acc.getD Mm.zent).val)) rb 3 rfl
          have f0 := mfrozen rb 0; have f1 := mfrozen rb 1; have f2 := mfrozen rb 2; have f3 := mfrozen rb 3
          clear k4 rx
          cases acc with
          | none =>
            have HN := Lib.hid (show some x = Mg.got ((rs.map Rs.l).take (i + 1)) k s by rw [HYES.out]; rfl)
            simp only [Option.isSome_none, Option.getD_none] at y0 y1 y2 y3 rb ⊢
            go_wp2_with fail
            have S4 := set4 rb x
            generalize ((((w4.setCell ⟨w.heap.size + 1, 0, none⟩ (.string (bs x.key))).setCell ⟨w.heap.size + 1, 1, none⟩ (.int .u64 (x.seq : Nat))).setCell ⟨w.heap.size + 1, 2, none⟩ (.bool x.del)).setCell ⟨w.heap.size + 1, 3, none⟩ (.string (bs x.val))) = w5 at *
            have HB5 := Lib.hid (show w5.heap[w.heap.size + 1]? = some (entO ((some x).getD Mm.zent)) from S4.1)
            have HZ5 := Lib.hid ((S4.2.1 _ (by omega)).trans HZ4.out)
            have HK5 := Lib.hid (S4.2.2 w HK4.out (by omega))
            clear S4
            go_roundw
            case rel => exact ⟨i + 1, some x, by omega, by go_num, rfl, HN, HZ5, HB5, HK5⟩
            case measure => simp [intOf]; omega
          | some bb =>
            simp only [Option.isSome_some, Option.getD_some] at y0 y1 y2 y3 rb ⊢
            by_cases hlt2 : bb.seq < x.seq
            · have HN := Lib.hid (show some x = Mg.got ((rs.map Rs.l).take (i + 1)) k s by rw [HYES.out]; unfold Mg.better; simp only; rw [if_pos hlt2])
              have d1 : decide ((bb.seq : Int) < (x.seq : Int)) = true := decide_eq_true (by omega)
              go_wp2_with fail
              have S4 := set4 rb x
              generalize ((((w4.setCell ⟨w.heap.size + 1, 0, none⟩ (.string (bs x.key))).setCell ⟨w.heap.size + 1, 1, none⟩ (.int .u64 (x.seq : Nat))).setCell ⟨w.heap.size + 1, 2, none⟩ (.bool x.del)).setCell ⟨w.heap.size + 1, 3, none⟩ (.string (bs x.val))) = w5 at *
              have HB5 := Lib.hid (show w5.heap[w.heap.size + 1]? = some (entO ((some x).getD Mm.zent)) from S4.1)
              have HZ5 := Lib.hid ((S4.2.1 _ (by omega)).trans HZ4.out)
              have HK5 := Lib.hid (S4.2.2 w HK4.out (by omega))
              clear S4
              go_roundw
              case rel => exact ⟨i + 1, some x, by omega, by go_num, rfl, HN, HZ5, HB5, HK5⟩
              case measure => simp [intOf]; omega
            · have HN := Lib.hid (show some bb = Mg.got ((rs.map Rs.l).take (i + 1)) k s by rw [HYES.out]; unfold Mg.better; simp only; rw [if_neg hlt2])
              have d1 : decide ((bb.seq : Int) < (x.seq : Int)) = false := decide_eq_false (by omega)
              have d2 : x.seq ≤ bb.seq := by omega
              go_wp2_with fail
              go_roundw
              case rel => exact ⟨i + 1, some bb, by omega, by go_num, rfl, HN, HZ4, HB4, HK4⟩
              case measure => simp [intOf]; omega
    · have e : i = rs.length := by omega
      subst e
      have ha := HA.out
      rw [List.take_of_length_le (by simp)] at ha
      have HA2 := Lib.hid ha
      have rb := HB.out
      unfold entO at rb
      have rz := HZ.out
      have y0 := mcell (v := .string (bs (acc.getD Mm.zent).key)) rb 0 rfl; have y1 := mcell (v := .int .u64 ((acc.getD Mm.zent).seq : Nat)) rb 1 rfl; have y2 := mcell (v := .bool (acc.getD Mm.zent).del) rb 2 rfl; have y3 := mcell (v := .string (bs (acc.getD Mm.zent).val)) rb 3 rfl
      have z0 := mcell (v := .string ⟨#[]⟩) rz 0 rfl; have z1 := mcell (v := .int .u64 0) rz 1 rfl; have z2 := mcell (v := .bool false) rz 2 rfl; have z3 := mcell (v := .string ⟨#[]⟩) rz 3 rfl
      have f0 := mfrozen rz 0; have f1 := mfrozen rz 1; have f2 := mfrozen rz 2; have f3 := mfrozen rz 3
      clear ha rb rz
      generalize hbs : acc.isSome = bS at *
      have HBS := Lib.hid hbs
      generalize hy : acc.getD Mm.zent = y at *
      have HY := Lib.hid hy
      clear hbs hy
      go_wp2_with fail
      try simp only [Exit.inBlock, Exit.then]
      refine bodyPost_ret (v := .tuple #[entV y, .bool bS]) (by simp [results, Try.results45, go_sem, entV, z0, z1, z2, z3]) rfl ⟨by rw [← HA2.out, ← HY.out, ← HBS.out]; rfl, ?_⟩
      exact kept_own (kept_own (kept_own (kept_own HK.out (Nat.le_refl _)) (Nat.le_refl _)) (Nat.le_refl _)) (Nat.le_refl _)
end Go.Proofs.Ytpbhbgoaaephgaa
