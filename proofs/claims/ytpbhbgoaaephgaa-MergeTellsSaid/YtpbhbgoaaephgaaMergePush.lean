/-
  A heap of rests in memory: push, empty.
-/
import Derived.Test.YtpbhbgoaaephgaaMergeHm
import Derived.Deep.AppendLies
import Derived.OneCell
import Derived.Deep.RegionLaw
namespace Go.Proofs.Ytpbhbgoaaephgaa
open Go.ChangeShapes Go.WideShapes Go.ChangeAt Go.RowKit
set_option linter.unusedVariables false
set_option maxRecDepth 100000
set_option maxHeartbeats 1000000

def zrest : Value := .agg #[.slice none 0 0, .int .i64 0]
theorem restInfo : (Try.prog.info? 95).map (fun i => (i.zero, i.size, i.bytes)) = some (some zrest, 2, 32) := by kernel_rfl
theorem row_ne_block {w : World} {B n size : Nat} {e t : TypeId} {v : Value} {xs : List Value} {b : Nat} {cs : Array Value} {fr : Nat × Nat} (h : w.ownsRow B e size v n xs) (hb : w.heap[b]? = some (.cells cs t fr)) (ht : t ≠ e) : v.ownBlock ≠ some b := by
  intro he
  rcases h.2 with ⟨e1, _⟩ | ⟨g, cap, cur, hv, hg, hh, _⟩
  · rw [e1] at he; cases he
  · rw [hv] at he
    cases he
    have := hh.symm.trans hb
    injection this with this
    injection this with _ this _
    exact ht this.symm
theorem Hq.push {w w1 w2 : World} {n0 h : Nat} {V V' : Value} {R : List Rs} {x : Rs} (H : Hq w n0 h V R) (k : Kept w w1) (hn0 : n0 ≤ w.heap.size) (hh : n0 ≤ h) (ho : w2.ownsRow n0 95 2 V' (R.length + 1) (rsc R ++ [.slice x.A x.l.length x.c, .int .i64 (x.p : Nat)])) (hg : w1.grownBy w2 V.ownBlock)
    (hx : x.ok w) (hxl : ∀ b o, x.A = some ⟨b, o, none⟩ → b < n0) (hf : R.length < 4000) :
    Hq (w2.setCell ⟨h, 1, none⟩ V') n0 h V' (R ++ [x]) ∧ Ex (fun b => b = h ∨ V.ownBlock = some b) w (w2.setCell ⟨h, 1, none⟩ V') := by
  have hhs := mheap_lt H.blk
  have E1 : Ex (fun b => b = h ∨ V.ownBlock = some b) w w2 := (ex_kept k).trans (F' := fun b => V.ownBlock = some b) ⟨hg.os, hg.tape, hg.output, hg.size, fun i hi hn => hg.block i hi (fun e => hn e.symm)⟩ (fun i _ hi => .inr hi)
  have hb2 : w2.heap[h]? = some (hpObj V) := (hg.block h (Nat.lt_of_lt_of_le hhs (Below.size k)) (fun e => H.apart e.symm)).trans ((Below.block k h hhs).trans H.blk)
  have E2 := ex_set (o := 1) (v := V') E1 (b := h) (fun _ => .inl rfl)
  have hlow : ∀ i, (i = h ∨ V.ownBlock = some i) → n0 ≤ i := fun i hi => by
    rcases hi with rfl | hi
    · exact hh
    · exact (H.own.lt i hi).1
  have hK := E2.below hn0 hlow
  refine ⟨⟨mheap_set hb2, ?_, fun r hr => ?_, fun r hr => ?_, by rw [List.length_append]; simp; omega⟩, E2⟩
  · rw [rsc_app, List.length_append]
    exact ownsRow_setCell_other ho (row_ne_block ho hb2 (by decide)) V'
  · rcases List.mem_append.1 hr with hr | hr
    · exact (H.each r hr).low (H.low r hr) hK hn0
    · rw [List.mem_singleton] at hr; subst hr; exact hx.low hxl hK hn0
  · rcases List.mem_append.1 hr with hr | hr
    · exact H.low r hr
    · rw [List.mem_singleton] at hr; subst hr; exact hxl
theorem gempty_any {w : World} {n0 h : Nat} {V : Value} {R : List Rs} (H : Hq w n0 h V R) :
    Calls Try.prog 67 #[.pointer (some ⟨h, 0, none⟩)] w fun e w' => e = .returned (.bool (decide (R = []))) ∧ w = w' := by
  obtain ⟨A, cV, rfl⟩ := own_slice H.own
  have c1 := mcell (v := .slice A R.length cV) H.blk 1 rfl
  have e1 : decide (R = []) = ((R.length : Int) == 0) := by
    rw [Bool.eq_iff_iff, decide_eq_true_iff, beq_iff_eq, ← List.length_eq_zero_iff]; omega
  have hf := H.few
  rw [e1]
  clear H e1
  generalize R.length = n at *
  go_enter Try.func67, Try.ntmps67
  go_wp2_with fail
  go_ret
  exact ⟨rfl, rfl⟩
/-- what a push reads and writes ahead of its loop -/
def PushS (h B : Nat) (V : Value) (x : Rs) (w' : World) : Prop := w'.cell? ⟨h, 1, none⟩ = some V ∧ w'.frozen? ⟨h, 1, none⟩ = false ∧ w'.cell? ⟨B, 0, none⟩ = some (.slice x.A x.l.length x.c) ∧ w'.cell? ⟨B, 1, none⟩ = some (.int .i64 (x.p : Nat))
theorem PushS.kept {h B : Nat} {V : Value} {x : Rs} {w w' : World} (H : PushS h B V x w) (hh : h < w.heap.size) (hB : B < w.heap.size) (k : Kept w w') : PushS h B V x w' :=
  ⟨(kept_cell k hh).trans H.1, (kept_frozen k hh).trans H.2.1, (kept_cell k hB).trans H.2.2.1, (kept_cell k hB).trans H.2.2.2⟩
theorem PushS.grown {h B : Nat} {V : Value} {x : Rs} {w w' : World} (H : PushS h B V x w) (hh : h < w.heap.size) (hB : B < w.heap.size) (hg : w.grownBy w' V.ownBlock) (h1 : V.ownBlock ≠ some h) (h2 : V.ownBlock ≠ some B) : PushS h B V x w' :=
  ⟨(hg.cell_far _ hh (fun e => h1 e.symm)).trans H.1, (hg.frozen_far _ hh (fun e => h1 e.symm)).trans H.2.1, (hg.cell_far _ hB (fun e => h2 e.symm)).trans H.2.2.1, (hg.cell_far _ hB (fun e => h2 e.symm)).trans H.2.2.2⟩
theorem row_ne_box {w : World} {B n size : Nat} {e : TypeId} {v : Value} {xs : List Value} (h : w.ownsRow B e size v n xs) : v.ownBlock ≠ some w.heap.size := fun e => by have := (h.lt _ e).2; omega
theorem push_ex {w w1 w2 w3 : World} {h : Nat} {V V' : Value} (E : Ex (fun b => b = h ∨ V.ownBlock = some b) w w1) (k : Kept w1 w2) (x : Ex (fun b => V'.ownBlock = some b) w2 w3) (hV : ∀ b, V'.ownBlock = some b → b < w.heap.size → V.ownBlock = some b) : Ex (fun b => b = h ∨ V.ownBlock = some b) w w3 :=
  (E.trans (ex_kept (F := fun _ => False) k) (fun _ _ hf => hf.elim)).trans x (fun i hi hx => .inr (hV i hx hi))
theorem gpush_any {w : World} {n0 h : Nat} {V : Value} {R : List Rs} (H : Hq w n0 h V R) (HI : Hp.Is rsn R) (hn0 : n0 ≤ w.heap.size) (hh : n0 ≤ h) (x : Rs) (hx : x.ok w) (hxl : ∀ b o, x.A = some ⟨b, o, none⟩ → b < n0) (hf : R.length < 4000) :
    Calls Try.prog 66 #[.pointer (some ⟨h, 0, none⟩), rsV x] w fun e w' => (∃ v, e = .returned v) ∧ ∃ V' R', Hq w' n0 h V' R' ∧ Hp.Is rsn R' ∧ R'.Perm (x :: R) ∧ Ex (fun b => b = h ∨ V.ownBlock = some b) w w' := by
  obtain ⟨A, cV, rfl⟩ := own_slice H.own
  obtain ⟨i0, hi, hz0, hz1, hz2⟩ := info_parts restInfo
  have HI0 := Lib.hid hi; have HZ0 := Lib.hid hz0; have HZ1 := Lib.hid hz1; have HZ2 := Lib.hid hz2
  have HH := Lib.hid H
  have HIS := Lib.hid HI
  have c1 := mcell (v := .slice A R.length cV) H.blk 1 rfl
  have hhs := mheap_lt H.blk
  have hfr := fun w' (k : Kept w w') => mfrozen ((Below.block k h hhs).trans H.blk) 1
  have g0 : Kept w (w.alloc (.cells #[.slice x.A x.l.length x.c, .int .i64 (x.p : Nat)] 95)) := (Kept.refl w).alloc _
  have r1 := malloc_new w (.cells #[.slice x.A x.l.length x.c, .int .i64 (x.p : Nat)] 95)
  unfold rsV
  clear hi hz0 hz1 hz2 HI H
  go_enter Try.func66, Try.ntmps66
  go_upto_region 1 with fail
  generalize w.alloc (.cells #[.slice x.A x.l.length x.c, .int .i64 (x.p : Nat)] 95) = w1 at *
  have s1 := mcell (v := .slice x.A x.l.length x.c) r1 0 rfl; have s2 := mcell (v := .int .i64 (x.p : Nat)) r1 1 rfl
  rw [← kept_cell g0 hhs] at c1
  have c2 := hfr w1 g0
  have hhs1 := Nat.lt_of_lt_of_le hhs (Below.size g0)
  have hbs1 := mheap_lt r1
  have HOWN := Lib.hid (show ((w1.alloc (.cells #[.slice x.A x.l.length x.c, .int .i64 (x.p : Nat)] 95)).drew).ownsRow n0 95 2 (.slice A R.length cV) R.length (rsc R) from (rown_kept HH.out.own g0).alloc _)
  have HNEW := Lib.hid (show ∀ j u, ([.slice x.A x.l.length x.c, .int .i64 (x.p : Nat)] : List Value)[j]? = some u → ((w1.alloc (.cells #[.slice x.A x.l.length x.c, .int .i64 (x.p : Nat)] 95)).drew).cell? ((⟨w1.heap.size, 0, none⟩ : Addr).add j) = some u from World.news_of_block (w := (w1.alloc (.cells #[.slice x.A x.l.length x.c, .int .i64 (x.p : Nat)] 95)).drew) (cs := #[.slice x.A x.l.length x.c, .int .i64 (x.p : Nat)]) (malloc_new w1 _))
  have HBS := Lib.hid (show n0 ≤ ((w1.alloc (.cells #[.slice x.A x.l.length x.c, .int .i64 (x.p : Nat)] 95)).drew).heap.size from Nat.le_trans hn0 (Nat.le_trans (Below.size g0) (Below.size (kept_trans ((Kept.refl w1).alloc _) (kept_drewN _ 1)))))
  have K0 := Lib.hid (show PushS h w.heap.size (.slice A R.length cV) x w1 from ⟨c1, c2, s1, s2⟩)
  have K1 := Lib.hid (show PushS h w.heap.size (.slice A R.length cV) x ((w1.alloc (.cells #[.slice x.A x.l.length x.c, .int .i64 (x.p : Nat)] 95)).drew) from PushS.kept K0.out hhs1 hbs1 (kept_trans ((Kept.refl w1).alloc _) (kept_drewN _ 1)))
  have L1 := Lib.hid (show h < ((w1.alloc (.cells #[.slice x.A x.l.length x.c, .int .i64 (x.p : Nat)] 95)).drew).heap.size ∧ w.heap.size < ((w1.alloc (.cells #[.slice x.A x.l.length x.c, .int .i64 (x.p : Nat)] 95)).drew).heap.size from ⟨Nat.lt_of_lt_of_le hhs1 (Below.size (kept_trans ((Kept.refl w1).alloc _) (kept_drewN _ 1))), Nat.lt_of_lt_of_le hbs1 (Below.size (kept_trans ((Kept.refl w1).alloc _) (kept_drewN _ 1)))⟩)
  have KL := Lib.hid (And.intro hhs1 hbs1)
  have HAP := Lib.hid HH.out.apart
  have HBX := Lib.hid (row_ne_box HH.out.own)
  have HFEW := Lib.hid hf
  generalize hn : R.length = n at *
  go_cut [] from 4 (fun wc => ∃ V', Hq wc n0 h V' (R ++ [x]) ∧ Ex (fun b => b = h ∨ (Value.slice A n cV).ownBlock = some b) w wc ∧ ∀ b, V'.ownBlock = some b → b < w.heap.size → (Value.slice A n cV).ownBlock = some b)
  case first =>
    go_region_law
      ((refine step_append_lies _ rfl _ _ 90 rfl n0 95 i0 zrest 2 32 Try.underlying90 HI0.out HZ0.out HZ1.out HZ2.out rfl (by decide) (.slice A n cV) n (rsc R) rfl HOWN.out ⟨w1.heap.size, 0, none⟩ 1 1 [.slice x.A x.l.length x.c, .int .i64 (x.p : Nat)] rfl rfl HNEW.out (by simp [Value.oneCell']) (by decide) (by unfold maxLen; omega) (by omega) HBS.out _ rfl ?_; intro g cap w2 hown3 hg hat hlt2; have K2 := PushS.grown K1.out L1.out.1 L1.out.2 hg HAP.out HBX.out; obtain ⟨k1, k2, k3, k4⟩ := K2))
    all_goals
      go_wp2_with fail
      go_meet
      subst hn
      have P := HH.out.push (x := x) (kept_trans g0 (kept_trans ((Kept.refl w1).alloc _) (kept_drewN _ 1))) hn0 hh hown3 hg hx hxl HFEW.out
      refine ⟨_, P.1, P.2, fun b hb hlt => ?_⟩
      rcases hat with h1 | h1
      · cases hb; exact h1
      · cases hb
        have h2 := L1.out.2
        have h3 : g < w.heap.size := hlt
        omega
  case rest =>
    obtain ⟨V', HQ0, HE0, HV0⟩ := hcut
    have HPM := Lib.hid (show (R ++ [x]).Perm (x :: R) from List.perm_append_comm (l₂ := [x]))
    have HU := Lib.hid (HIS.out.push x)
    have hlen : (R ++ [x]).length = n + 1 := by rw [List.length_append, hn]; rfl
    have HEX := Lib.hid HE0; have HV := Lib.hid HV0
    have HH0 := Lib.hid hh
    generalize R ++ [x] = R0 at *
    obtain ⟨g, c, rfl, hg, hgs, hgh⟩ := HQ0.form (by omega)
    have d1 := mcell (v := .slice (some ⟨g, 0, none⟩) R0.length c) HQ0.blk 1 rfl
    have HQ := Lib.hid HQ0
    have HR := Lib.hid hn
    have HG := Lib.hid (And.intro hg hgh)
    have HN0 := Lib.hid hn0
    rw [hn] at HU
    clear HE0 HV0 HQ0 hn c1 c2 g0 r1 s1 s2 hhs1 hbs1 HOWN HNEW HBS K0 K1 L1 KL HAP HBX HI0 HZ0 HZ1 HZ2 hxl hfr hhs hg hgs hgh hn0 hh hx
    rw [hlen] at HV d1 HQ
    have e0 : ((n + 1 : Nat) : Int) - 1 = (n : Int) := by omega
    have hnN : n < n + 1 := by omega
    have hN4 : n + 1 ≤ 4000 := by omega
    have HLEN := Lib.hid hlen
    clear hlen
    generalize n + 1 = N at HV d1 HQ e0 hnN HLEN hN4
    go_wp2_with fail
    go_loopw [4] (fun t wr => ∃ (i : Nat) (R' : List Rs), i ≤ n ∧ t = .int .i64 (i : Nat) ∧ Hid (R'.length = N) ∧ Hid (Hq wr n0 h (.slice (some ⟨g, 0, none⟩) N c) R') ∧ Hid (Hp.Up rsn R' i) ∧ Hid (R'.Perm (x :: R)) ∧ Hid (Ex (fun b => b = h ∨ (Value.slice A n cV).ownBlock = some b) w wr)) (fun t _ => (intOf t).toNat)
    case atStart => exact ⟨n, R0, Nat.le_refl _, by go_num, HLEN, HQ, HU, HPM, HEX⟩
    case round =>
      obtain ⟨i, R', hin, rfl, HLN, HQ', HU', HP', HE'⟩ := hrel
      by_cases hi0 : 0 < i
      · obtain ⟨k, hk⟩ : ∃ k, i = k + 1 := ⟨i - 1, by omega⟩
        obtain ⟨p, hp⟩ : ∃ p, p = k / 2 := ⟨_, rfl⟩
        have hp2 : p = (i - 1) / 2 := by rw [hp, hk]; rfl
        have hiN : i < N := by omega
        have hpN : p < N := by omega
        have hpn : p ≤ n := by omega
        have hpi : p < i := by omega
        have hy : R'[i]? = some (R'[i]'(by rw [HLN.out]; exact hiN)) := List.getElem?_eq_getElem _
        have hz : R'[p]? = some (R'[p]'(by rw [HLN.out]; exact hpN)) := List.getElem?_eq_getElem _
        generalize R'[i]'(by rw [HLN.out]; exact hiN) = y at hy
        generalize R'[p]'(by rw [HLN.out]; exact hpN) = z at hz
        obtain ⟨x1, x2⟩ := rsc_get hy
        obtain ⟨y1, y2⟩ := rsc_get hz
        have hO := HQ'.out.own
        rw [HLN.out] at hO
        have p1 := own_cell hO x1; have p2 := own_cell hO x2; have q1 := own_cell hO y1; have q2 := own_cell hO y2
        have c0 := mcell (v := .func (.func 65) #[] #[]) HQ'.out.blk 0 rfl
        have c1 := mcell (v := .slice (some ⟨g, 0, none⟩) N c) HQ'.out.blk 1 rfl
        have hs := gsooner_any y z wr.drew ((HQ'.out.each y (List.mem_of_getElem? hy)).kept (kept_drewN wr 1)) ((HQ'.out.each z (List.mem_of_getElem? hz)).kept (kept_drewN wr 1))
        unfold rsV at hs
        have HCS := Lib.hid (And.intro c0 (And.intro c1 (And.intro p1 (And.intro p2 (And.intro q1 q2)))))
        have HLT := Lib.hid (And.intro (mheap_lt HQ'.out.blk) (hO.lt g rfl).2)
        have HSW := Lib.hid (fun W (K : Kept wr W) => gswap_any (HQ'.out.kept K) (Nat.le_trans (Nat.le_trans HN0.out HE'.out.size) (Below.size K)) (i := i) (j := p) (by rw [HLN.out]; exact hiN) (by rw [HLN.out]; exact hpN))
        have e1 : (i : Int) - 1 = (k : Int) := by omega
        have e4 : (k : Int) / 2 = (p : Int) := by omega
        have e2 : (k : Int).tdiv 2 = (p : Int) := by rw [Int.tdiv_eq_ediv_of_nonneg (by omega)]; exact e4
        have e3 : IntKind.i64.wrap (p : Int) = (p : Int) := wrap_nat (by omega)
        have HY := Lib.hid hy; have HZ := Lib.hid (show R'[(i - 1) / 2]? = some z by rw [← hp2]; exact hz); have HP2 := Lib.hid hp2
        clear x1 x2 y1 y2 hy hz hO hp hk hp2
        cases hv : rsn y z with
        | true =>
          have HV2 := Lib.hid hv
          rw [hv] at hs
          have HS := Lib.hid hs
          clear hv hs
          go_wp2_with fail
          go_region_held3 (fun w' => w'.cell? ⟨h, 0, none⟩ = some (.func (.func 65) #[] #[]) ∧ w'.cell? ⟨h, 1, none⟩ = some (.slice (some ⟨g, 0, none⟩) N c) ∧ w'.cell? ⟨g, i * 2, none⟩ = some (.slice y.A y.l.length y.c) ∧ w'.cell? ⟨g, i * 2 + 1, none⟩ = some (.int .i64 (y.p : Nat)) ∧ w'.cell? ⟨g, p * 2, none⟩ = some (.slice z.A z.l.length z.c) ∧ w'.cell? ⟨g, p * 2 + 1, none⟩ = some (.int .i64 (z.p : Nat)))
            (first | exact HCS.out | exact hcs_kept HCS.out HLT.out.1 HLT.out.2 (kept_drewN _ 1) | exact hcs_kept HCS.out HLT.out.1 HLT.out.2 (kept_trans (kept_drewN wr 1) g1))
            ((go_at_call 65; refine HS.out.mono ?_; rintro e w3 ⟨rfl, g1⟩))
          have G1 := Lib.hid (kept_trans (kept_drewN wr 1) g1)
          clear g1 c0 c1 p1 p2 q1 q2
          go_wp2_with fail
          refine (HSW.out _ G1.out).mono ?_
          rintro e w4 ⟨⟨v, rfl⟩, h4, x4⟩
          have H4 := Lib.hid h4; have X4 := Lib.hid x4
          clear h4 x4
          go_wp2_with fail
          go_roundw
          case rel => exact ⟨p, Hp.sw R' i p, hpn, by go_num, Lib.hid ((Hp.sw_len _ _ _).trans HLN.out), H4, Lib.hid (by have := HU'.out.swap (@rsn_asym) (@rsn_nt) hi0 HY.out HZ.out HV2.out; rwa [← HP2.out] at this), Lib.hid ((Hp.sw_perm _ _ _).trans HP'.out), Lib.hid (push_ex HE'.out G1.out X4.out HV.out)⟩
          case measure => simp [intOf]; omega
        | false =>
          have HV2 := Lib.hid hv
          rw [hv] at hs
          have HS := Lib.hid hs
          clear hv hs
          go_wp2_with fail
          go_region_held3 (fun w' => w'.cell? ⟨h, 0, none⟩ = some (.func (.func 65) #[] #[]) ∧ w'.cell? ⟨h, 1, none⟩ = some (.slice (some ⟨g, 0, none⟩) N c) ∧ w'.cell? ⟨g, i * 2, none⟩ = some (.slice y.A y.l.length y.c) ∧ w'.cell? ⟨g, i * 2 + 1, none⟩ = some (.int .i64 (y.p : Nat)) ∧ w'.cell? ⟨g, p * 2, none⟩ = some (.slice z.A z.l.length z.c) ∧ w'.cell? ⟨g, p * 2 + 1, none⟩ = some (.int .i64 (z.p : Nat)))
            (first | exact HCS.out | exact hcs_kept HCS.out HLT.out.1 HLT.out.2 (kept_drewN _ 1) | exact hcs_kept HCS.out HLT.out.1 HLT.out.2 (kept_trans (kept_drewN wr 1) g1))
            ((go_at_call 65; refine HS.out.mono ?_; rintro e w3 ⟨rfl, g1⟩))
          have G1 := Lib.hid (kept_trans (kept_drewN wr 1) g1)
          clear g1 c0 c1 p1 p2 q1 q2
          go_wp2_with fail
          try simp only [Exit.inBlock, Exit.then]
          refine bodyPost_ret (results_none rfl _ _ _) rfl ?_
          exact ⟨⟨_, rfl⟩, _, R', HQ'.out.kept G1.out, HU'.out.stop hi0 HY.out HZ.out HV2.out, HP'.out, by rw [HR.out]; exact HE'.out.trans (ex_kept (F := fun _ => False) G1.out) (fun _ _ hf => hf.elim)⟩
      · have e : i = 0 := by omega
        subst e
        go_wp2_with fail
        go_end0
        exact ⟨⟨_, rfl⟩, _, R', HQ'.out, HU'.out.zero, HP'.out, by rw [HR.out]; exact HE'.out⟩
end Go.Proofs.Ytpbhbgoaaephgaa
