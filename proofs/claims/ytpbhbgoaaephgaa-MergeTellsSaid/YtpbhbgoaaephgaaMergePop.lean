/-
  A heap of rests in memory: pop.
-/
import Derived.Test.YtpbhbgoaaephgaaMergePush
namespace Go.Proofs.Ytpbhbgoaaephgaa
open Go.ChangeShapes Go.WideShapes Go.ChangeAt Go.RowKit
set_option linter.unusedVariables false
set_option maxRecDepth 100000
set_option maxHeartbeats 1000000

theorem Hq.ex {w w' : World} {n0 h : Nat} {V : Value} {R : List Rs} {F : Nat → Prop} (H : Hq w n0 h V R) (E : Ex F w w') (h1 : ¬ F h) (h2 : ∀ b, V.ownBlock = some b → ¬ F b) (hn0 : n0 ≤ w.heap.size) (hF : ∀ b, F b → n0 ≤ b) : Hq w' n0 h V R := by
  refine ⟨(E.block h (mheap_lt H.blk) h1).trans H.blk, ⟨H.own.1, ?_⟩, fun r hr => (H.each r hr).low (H.low r hr) (E.below hn0 hF) hn0, H.low, H.few⟩
  rcases H.own.2 with e | ⟨g, cap, cur, hv, hg, hh, r⟩
  · exact .inl e
  · exact .inr ⟨g, cap, cur, hv, hg, (E.block g (mheap_lt hh) (h2 g (by rw [hv]; rfl))).trans hh, r⟩
theorem Hq.pop {w : World} {n0 h g c n : Nat} {L : List Rs} (H : Hq w n0 h (.slice (some ⟨g, 0, none⟩) (n + 1) c) L) (hL : L.length = n + 1) (hn0 : n0 ≤ w.heap.size) (hh : n0 ≤ h) :
    Hq (w.setCell ⟨h, 1, none⟩ (.slice (some ⟨g, 0, none⟩) n c)) n0 h (.slice (some ⟨g, 0, none⟩) n c) (L.take n) ∧ Ex (fun b => b = h) w (w.setCell ⟨h, 1, none⟩ (.slice (some ⟨g, 0, none⟩) n c)) := by
  have E := ex_set (o := 1) (v := .slice (some ⟨g, 0, none⟩) n c) (Ex.refl (fun b => b = h) w) (b := h) (fun _ => rfl)
  have hl : (L.take n).length = n := by rw [List.length_take, hL]; omega
  have ho := H.own
  rw [hL] at ho
  have hs : rsc L = rsc (L.take n) ++ rsc (L.drop n) := by rw [← rsc_app, List.take_append_drop]
  rw [hs] at ho
  have ho2 := ownsRow_pop (by rw [rsc_len, hl]) ho
  refine ⟨⟨mheap_set H.blk, ?_, fun r hr => ?_, fun r hr => H.low r (List.mem_of_mem_take hr), by have := H.few; omega⟩, E⟩
  · rw [hl]
    exact ownsRow_setCell_other ho2 (row_ne_block ho2 H.blk (by decide)) _
  · exact (H.each r (List.mem_of_mem_take hr)).low (H.low r (List.mem_of_mem_take hr)) (E.below hn0 (fun i e => by rw [e]; exact hh)) hn0
theorem gpop_any {w : World} {n0 h : Nat} {V : Value} {R : List Rs} (H : Hq w n0 h V R) (HI : Hp.Is rsn R) (hp : 0 < R.length) (hn0 : n0 ≤ w.heap.size) (hh : n0 ≤ h) :
    Calls Try.prog 68 #[.pointer (some ⟨h, 0, none⟩)] w fun e w' => ∃ x R' V', e = .returned (rsV x) ∧ (x :: R').Perm R ∧ (∀ y ∈ R', rsn y x = false) ∧ Hq w' n0 h V' R' ∧ Hp.Is rsn R' ∧ Ex (fun b => b = h ∨ V.ownBlock = some b) w w' ∧ (∀ b, V'.ownBlock = some b → V.ownBlock = some b) := by
  obtain ⟨g, c, rfl, hg, hgs, hgh⟩ := H.form hp
  obtain ⟨n, hn⟩ : ∃ n, R.length = n + 1 := ⟨R.length - 1, by omega⟩
  have hf := H.few
  have hx : R[0]? = some R[0] := List.getElem?_eq_getElem hp
  generalize R[0] = x at hx
  obtain ⟨x1, x2⟩ := rsc_get hx
  have hO := H.own
  have p1 := own_cell hO x1; have p2 := own_cell hO x2
  rw [Nat.zero_mul] at p1 p2
  rw [Nat.zero_add] at p2
  have c1 := mcell (v := .slice (some ⟨g, 0, none⟩) R.length c) H.blk 1 rfl
  have hhs := mheap_lt H.blk
  have hcap : n + 1 ≤ c := by
    rcases H.own.2 with ⟨e, _⟩ | ⟨g', cap, cur, hv, _, _, hc, _⟩
    · cases e
    · cases hv; omega
  have HH := Lib.hid H; have HIS := Lib.hid HI; have HX := Lib.hid hx
  have HN := Lib.hid hn
  have g0 : Kept w ((w.alloc (.cells #[.slice none 0 0, .int .i64 0] 95)).alloc (.cells #[.slice x.A x.l.length x.c, .int .i64 (x.p : Nat)] 95)) := ((Kept.refl w).alloc _).alloc _
  have rb : ((w.alloc (.cells #[.slice none 0 0, .int .i64 0] 95)).alloc (.cells #[.slice x.A x.l.length x.c, .int .i64 (x.p : Nat)] 95)).heap[w.heap.size]? = some (.cells #[.slice none 0 0, .int .i64 0] 95) := (malloc_old _ _ (by rw [malloc_size]; omega)).trans (malloc_new w _)
  have rx : ((w.alloc (.cells #[.slice none 0 0, .int .i64 0] 95)).alloc (.cells #[.slice x.A x.l.length x.c, .int .i64 (x.p : Nat)] 95)).heap[w.heap.size + 1]? = some (.cells #[.slice x.A x.l.length x.c, .int .i64 (x.p : Nat)] 95) := by
    have := malloc_new (w.alloc (.cells #[.slice none 0 0, .int .i64 0] 95)) (.cells #[.slice x.A x.l.length x.c, .int .i64 (x.p : Nat)] 95)
    rwa [malloc_size] at this
  rw [hn] at c1
  have HPP := Lib.hid (Hp.pop_perm hn hx)
  have HTOP := Lib.hid (HI.top (@rsn_nt) hx rsn_irr)
  have HDW := Lib.hid (HI.pop hn)
  have hsw0 := fun W (K : Kept w W) => gswap_any (H.kept K) (Nat.le_trans hn0 (Below.size K)) (i := 0) (j := n) (by omega) (by omega)
  have hsw : ∀ W, Kept w W → Calls Try.prog 76 #[.pointer (some ⟨h, 0, none⟩), .int .i64 0, .int .i64 (n : Nat)] W fun e w' => (∃ v, e = .returned v) ∧ Hq w' n0 h (.slice (some ⟨g, 0, none⟩) (n + 1) c) (Hp.sw R 0 n) ∧ Ex (fun b => b = g) W w' := fun W K => by
    have := hsw0 W K
    rw [hn] at this
    exact this.mono fun e w' ⟨a1, a2, a3⟩ => ⟨a1, a2, a3.mono fun b hb => by cases hb; rfl⟩
  have HSW := Lib.hid hsw
  have HN0 := Lib.hid hn0; have HHN := Lib.hid hh; have HG := Lib.hid (And.intro hg (And.intro hgs hgh)); have HHS := Lib.hid hhs
  have hf2 : n + 1 ≤ 4000 := by omega
  clear H HI x1 x2 hO hx hsw hsw0
  go_enter Try.func68, Try.ntmps68
  go_wp2_with fail
  generalize ((w.alloc (.cells #[.slice none 0 0, .int .i64 0] 95)).alloc (.cells #[.slice x.A x.l.length x.c, .int .i64 (x.p : Nat)] 95)) = w1 at *
  refine (HSW.out _ g0).mono ?_
  rintro e w2 ⟨⟨v, rfl⟩, h2, x2⟩
  have X1 := (ex_kept (F := fun b => b = h ∨ b = g) g0).trans x2 (fun i _ e => .inr e)
  have hlen : (Hp.sw R 0 n).length = n + 1 := by rw [Hp.sw_len]; exact HN.out
  have d1 := mcell (v := .slice (some ⟨g, 0, none⟩) (n + 1) c) h2.blk 1 rfl
  have f1 := mfrozen h2.blk 1
  have P3 := h2.pop hlen (Nat.le_trans HN0.out X1.size) HHN.out
  have rb2 := (x2.block _ (mheap_lt rb) (by have := HG.out.2.1; omega)).trans rb
  have rx2 := (x2.block _ (mheap_lt rx) (by have := HG.out.2.1; omega)).trans rx
  have rb3 := (P3.2.block _ (mheap_lt rb2) (by have := HHS.out; omega)).trans rb2
  have rx3 := (P3.2.block _ (mheap_lt rx2) (by have := HHS.out; omega)).trans rx2
  have HQ3 := Lib.hid P3.1
  have HX3 := Lib.hid (X1.trans P3.2 (fun i _ e => .inl e))
  have RB3 := Lib.hid rb3; have RX3 := Lib.hid rx3
  have HL0 := Lib.hid (show ((Hp.sw R 0 n).take n).length = n by rw [List.length_take, hlen]; omega)
  clear P3 rb rx rb2 rx2 rb3 rx3 h2 x2 X1 g0 hlen
  go_wp2_with fail
  generalize w2.setCell ⟨h, 1, none⟩ (.slice (some ⟨g, 0, none⟩) n c) = w3 at *
  generalize (Hp.sw R 0 n).take n = R0 at *
  clear d1 f1
  go_loopw [5] (fun t wr => ∃ (i : Nat) (R' : List Rs), i ≤ n ∧ t = .int .i64 (i : Nat) ∧ Hid (R'.length = n) ∧ Hid (i < R'.length ∨ (i = 0 ∧ R' = [])) ∧ Hid (Hq wr n0 h (.slice (some ⟨g, 0, none⟩) n c) R') ∧ Hid (Hp.Down rsn R' i) ∧ Hid ((x :: R').Perm R) ∧ Hid (Ex (fun b => b = h ∨ b = g) w wr) ∧ Hid (wr.heap[w.heap.size]? = some (.cells #[.slice none 0 0, .int .i64 0] 95)) ∧ Hid (wr.heap[w.heap.size + 1]? = some (.cells #[.slice x.A x.l.length x.c, .int .i64 (x.p : Nat)] 95))) (fun t _ => n - (intOf t).toNat)
  case atStart =>
    exact ⟨0, R0, Nat.zero_le _, rfl, HL0, Lib.hid (by rw [← List.length_eq_zero_iff, HL0.out]; omega), HQ3, HDW, HPP, HX3, RB3, RX3⟩
  case round =>
    obtain ⟨i, R', hin, rfl, HLN, HI', HQ', HD', HP', HE', RB', RX'⟩ := hrel
    have HB := Lib.hid (gbest_any HQ'.out HI'.out)
    go_wp2_with fail
    refine HB.out.mono ?_
    rintro e w4 ⟨b, rfl, hb, k4⟩
    have HBB := Lib.hid hb; have K4 := Lib.hid k4
    clear hb
    by_cases hbi : b = i
    · subst hbi
      have q1 := mcell (v := .slice none 0 0) ((Below.block k4 _ (mheap_lt RB'.out)).trans RB'.out) 0 rfl
      have q2 := mcell (v := .int .i64 0) ((Below.block k4 _ (mheap_lt RB'.out)).trans RB'.out) 1 rfl
      have q3 := mfrozen ((Below.block k4 _ (mheap_lt RB'.out)).trans RB'.out) 0
      have q4 := mfrozen ((Below.block k4 _ (mheap_lt RB'.out)).trans RB'.out) 1
      have q5 := mcell (v := .slice x.A x.l.length x.c) ((Below.block k4 _ (mheap_lt RX'.out)).trans RX'.out) 0 rfl
      have q6 := mcell (v := .int .i64 (x.p : Nat)) ((Below.block k4 _ (mheap_lt RX'.out)).trans RX'.out) 1 rfl
      clear k4
      go_wp2_with fail
      have hB4 := Nat.lt_of_lt_of_le (mheap_lt RB'.out) (Below.size K4.out)
      have E5 := (ex_set (o := 1) (v := .int .i64 (x.p : Nat)) (ex_set (o := 0) (v := .slice x.A x.l.length x.c) (Ex.refl (fun b => b = w.heap.size) w4) (b := w.heap.size) (fun _ => rfl)) (b := w.heap.size) (fun _ => rfl))
      have hQ5 := (HQ'.out.kept K4.out).ex E5 (by have := HHS.out; omega) (fun b hb e => by cases hb; have := HG.out.2.1; exact absurd e (Nat.ne_of_lt this)) (Nat.le_trans (Nat.le_trans HN0.out HE'.out.size) (Below.size K4.out)) (fun b hb => by rw [hb]; exact HN0.out)
      have z1 : ((w4.setCell ⟨w.heap.size, 0, none⟩ (.slice x.A x.l.length x.c)).setCell ⟨w.heap.size, 1, none⟩ (.int .i64 (x.p : Nat))).heap[w.heap.size]? = some (.cells #[.slice x.A x.l.length x.c, .int .i64 (x.p : Nat)] 95) := mheap_set (mheap_set ((Below.block K4.out _ (mheap_lt RB'.out)).trans RB'.out))
      have E6 := ((HE'.out.trans (ex_kept (F := fun _ => False) K4.out) (fun _ _ hf => hf.elim)).trans E5 (fun i hi e => absurd e (Nat.ne_of_lt hi)))
      generalize (w4.setCell ⟨w.heap.size, 0, none⟩ (.slice x.A x.l.length x.c)).setCell ⟨w.heap.size, 1, none⟩ (.int .i64 (x.p : Nat)) = w5 at *
      have y1 := mcell (v := .slice x.A x.l.length x.c) z1 0 rfl
      have y2 := mcell (v := .int .i64 (x.p : Nat)) z1 1 rfl
      try simp only [Exit.inBlock, Exit.then]
      refine bodyPost_ret (v := rsV x) (by simp [results, Try.results68, rsV, go_sem, y1, y2]) rfl ⟨x, R', _, rfl, HP'.out, fun y hy => ?_, hQ5, ?_, E6.mono fun b hb => ?_, fun b hb => hb⟩
      · obtain ⟨j, hj⟩ := List.getElem?_of_mem (HP'.out.mem_iff.1 (List.mem_cons_of_mem _ hy))
        exact HTOP.out j y hj
      · rcases HI'.out with hlt | ⟨_, e⟩
        · exact HD'.out.stop (x := R'[b]) (List.getElem?_eq_getElem hlt) (fun c u hc hu => HBB.out.2.2 c u _ hc hu (List.getElem?_eq_getElem hlt))
        · rw [e]; intro j x y _ hx; simp at hx
      · rcases hb with hb | hb
        · exact .inl hb
        · exact .inr (by rw [hb]; rfl)
    · have d1 : ((b : Int) == (i : Int)) = false := by rw [beq_eq_false_iff_ne]; omega
      have hbl : b < R'.length := HBB.out.2.1 hbi
      have hil : i < R'.length := by rcases HI'.out with h1 | ⟨h1, h2⟩; · exact h1
                                     · rw [h2] at hbl; simp at hbl
      have hbc : b = 2 * i + 1 ∨ b = 2 * i + 2 := by have := HBB.out.1; omega
      have hSW := gswap_any (HQ'.out.kept K4.out) (Nat.le_trans (Nat.le_trans HN0.out HE'.out.size) (Below.size K4.out)) hil hbl
      have HS2 := Lib.hid hSW
      obtain ⟨y, hy⟩ : ∃ y, R'[i]? = some y := ⟨_, List.getElem?_eq_getElem hil⟩
      obtain ⟨z, hz⟩ : ∃ z, R'[b]? = some z := ⟨_, List.getElem?_eq_getElem hbl⟩
      have HY := Lib.hid hy; have HZ := Lib.hid hz
      have hbn : b ≤ n := by have := HLN.out; omega
      have HBL := Lib.hid hbl; have HBC := Lib.hid hbc
      clear hSW k4 hbl hil hbc hy hz
      go_wp2_with fail
      refine HS2.out.mono ?_
      rintro e w5 ⟨⟨v2, rfl⟩, h5, x5⟩
      have H5 := Lib.hid h5; have X5 := Lib.hid x5
      have hx5 : ∀ q, (Value.slice (some ⟨g, 0, none⟩) n c).ownBlock = some q → q = g := fun q hq => by cases hq; rfl
      have E5 := Lib.hid ((HE'.out.trans (ex_kept (F := fun _ => False) K4.out) (fun _ _ hf => hf.elim)).trans x5 (fun i _ e => .inr (hx5 i e)))
      have RB5 := Lib.hid ((x5.block _ (Nat.lt_of_lt_of_le (mheap_lt RB'.out) (Below.size K4.out)) (fun e => by have := hx5 _ e; have := HG.out.2.1; omega)).trans ((Below.block K4.out _ (mheap_lt RB'.out)).trans RB'.out))
      have RX5 := Lib.hid ((x5.block _ (Nat.lt_of_lt_of_le (mheap_lt RX'.out) (Below.size K4.out)) (fun e => by have := hx5 _ e; have := HG.out.2.1; omega)).trans ((Below.block K4.out _ (mheap_lt RX'.out)).trans RX'.out))
      clear h5 x5 hx5
      go_wp2_with fail
      go_roundw
      case rel => exact ⟨b, Hp.sw R' i b, hbn, rfl, Lib.hid ((Hp.sw_len _ _ _).trans HLN.out), Lib.hid (.inl (by rw [Hp.sw_len]; exact HBL.out)), H5, Lib.hid (HD'.out.swap HBC.out HY.out HZ.out (fun c u hc hu => HBB.out.2.2 c u _ hc hu HZ.out)), Lib.hid (((Hp.sw_perm _ _ _).cons x).trans HP'.out), E5, RB5, RX5⟩
      case measure => simp [intOf]; have := HBC.out; omega
end Go.Proofs.Ytpbhbgoaaephgaa
