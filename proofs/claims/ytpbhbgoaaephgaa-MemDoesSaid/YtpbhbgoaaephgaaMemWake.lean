/-
  The calls of layer 7 whose answers the document fixes: they are answered so.
-/
import Derived.Test.YtpbhbgoaaephgaaMemAwake
namespace Go.Proofs.Ytpbhbgoaaephgaa
open Go.ChangeShapes Go.WideShapes Go.ChangeAt Go.RowKit
set_option linter.unusedVariables false
set_option maxRecDepth 100000
set_option maxHeartbeats 2000000

def wk1 : Mm.Ent := ⟨[98], 3, false, [120]⟩
def wk2 : Mm.Ent := ⟨[97], 9, true, []⟩
def wk3 : Mm.Ent := ⟨[98], 7, false, []⟩
def wk4 : Mm.Ent := ⟨[98], 8, false, []⟩
theorem wp1 : Mm.put [] wk1 1 = [(wk1, 1)] := by decide
theorem wp2 : Mm.put [(wk1, 1)] wk2 8 = [(wk2, 8), (wk1, 1)] := by decide
theorem wp3 : Mm.put [(wk2, 8), (wk1, 1)] wk3 2 = [(wk2, 8), (wk3, 2), (wk1, 1)] := by decide
theorem wp4 : Mm.put [(wk2, 8), (wk3, 2), (wk1, 1)] wk3 1 = [(wk2, 8), (wk3, 2), (wk1, 1)] := by decide
theorem wp5 : Mm.put [(wk2, 8), (wk3, 2), (wk1, 1)] wk4 9 = [(wk2, 8), (wk3, 2), (wk1, 1)] := by decide
theorem wp6 : Mm.put [(wk2, 8), (wk3, 2), (wk1, 1)] Mm.zent 1 = [(wk2, 8), (wk3, 2), (wk1, 1)] := by decide
theorem wc1 : Mm.code [] wk1 1 = 0 := by decide
theorem wc2 : Mm.code [(wk1, 1)] wk2 8 = 0 := by decide
theorem wc3 : Mm.code [(wk2, 8), (wk1, 1)] wk3 2 = 0 := by decide
theorem wc4 : Mm.code [(wk2, 8), (wk3, 2), (wk1, 1)] wk3 1 = 11 := by decide
theorem wc5 : Mm.code [(wk2, 8), (wk3, 2), (wk1, 1)] wk4 9 = 1 := by decide
theorem wc6 : Mm.code [(wk2, 8), (wk3, 2), (wk1, 1)] Mm.zent 1 = 2 := by decide
def wkT : List Mm.Tv := [(wk2, 8), (wk3, 2), (wk1, 1)]
theorem wg1 : Mm.get wkT [98] 5 = some wk1 := by decide
theorem wg2 : Mm.get wkT [98] 2 = none := by decide
theorem wf1 : (Mm.ents (Mm.Z wkT [98] 1099511627776)).take ((1 : Int)).toNat = [wk3] := by decide
theorem ws1 : Mm.stp 0 (Mm.hts (Mm.A wkT [98] 1)) = 3 := by decide
theorem mawake_any (w : World) : Calls Try.prog 24 #[] w fun e w' => e = .returned (.bool true) ∧ Kept w w' := by
  have hk : ∀ l : List UInt8, l.length ≤ 1 → l.length ≤ maxLen := fun l h => by unfold maxLen; omega
  have p1 := fun W p (h : Ts w W p []) => h.put (by simp) wk1 1 (hk _ (by decide)) (hk _ (by decide))
  have p2 := fun W p (h : Ts w W p [(wk1, 1)]) => h.put (by simp) wk2 8 (hk _ (by decide)) (hk _ (by decide))
  have p3 := fun W p (h : Ts w W p [(wk2, 8), (wk1, 1)]) => h.put (by simp) wk3 2 (hk _ (by decide)) (hk _ (by decide))
  have p4 := fun W p (h : Ts w W p [(wk2, 8), (wk3, 2), (wk1, 1)]) => h.put (by simp) wk3 1 (hk _ (by decide)) (hk _ (by decide))
  have p5 := fun W p (h : Ts w W p [(wk2, 8), (wk3, 2), (wk1, 1)]) => h.put (by simp) wk4 9 (hk _ (by decide)) (hk _ (by decide))
  have p6 := fun W p (h : Ts w W p [(wk2, 8), (wk3, 2), (wk1, 1)]) => h.put (by simp) Mm.zent 1 (hk _ (by decide)) (hk _ (by decide))
  rw [wp1, wc1] at p1
  rw [wp2, wc2] at p2
  rw [wp3, wc3] at p3
  rw [wp4, wc4] at p4
  rw [wp5, wc5] at p5
  rw [wp6, wc6] at p6
  have q1 := fun W p (h : Ts w W p wkT) => mget_any h.tab [98] 5
  have q2 := fun W p (h : Ts w W p wkT) => mget_any h.tab [98] 2
  unfold getV at q1 q2
  rw [wg1] at q1
  rw [wg2] at q2
  have q3 := fun W p (h : Ts w W p wkT) => mall_any h.tab
  have q4 := fun W p (h : Ts w W p wkT) => mfrom_any h.tab [98] 1 (by decide) (by decide)
  rw [wf1] at q4
  have q5 := fun W p (h : Ts w W p wkT) => mtowers_any h.tab
  have q6 := fun W p (h : Ts w W p wkT) => mlen_any h.tab
  have q7 := fun W p (h : Ts w W p wkT) => msize_any h.tab
  have q8 := fun W p (h : Ts w W p wkT) => msteps_any h.tab [98] 1
  rw [ws1] at q8
  rw [show wkT.length = 3 from rfl] at q3 q5 q6
  rw [show [wk3].length = 1 from rfl] at q4
  rw [show Mm.size wkT = 4 by decide] at q7
  have P1 := Lib.hid p1; have P2 := Lib.hid p2; have P3 := Lib.hid p3; have P4 := Lib.hid p4; have P5 := Lib.hid p5; have P6 := Lib.hid p6
  have Q1 := Lib.hid q1; have Q2 := Lib.hid q2; have Q3 := Lib.hid q3; have Q4 := Lib.hid q4; have Q5 := Lib.hid q5; have Q6 := Lib.hid q6; have Q7 := Lib.hid q7; have Q8 := Lib.hid q8
  have N0 := Lib.hid (ts_new (W := w) (Kept.refl w))
  clear p1 p2 p3 p4 p5 p6 q1 q2 q3 q4 q5 q6 q7 q8 hk
  go_enter Try.func24, Try.ntmps24
  go_wp2_with fail
  refine N0.out.mono ?_
  rintro e w1 ⟨rfl, t1⟩
  go_wp2_with fail
  refine (P1.out _ _ t1).mono ?_
  rintro e w2 ⟨rfl, t2⟩
  go_wp2_with fail
  refine (P2.out _ _ t2).mono ?_
  rintro e w3 ⟨rfl, t3⟩
  go_wp2_with fail
  refine (P3.out _ _ t3).mono ?_
  rintro e w4 ⟨rfl, t4⟩
  go_wp2_with fail
  refine (P4.out _ _ t4).mono ?_
  rintro e w5 ⟨rfl, t5⟩
  go_wp2_with fail
  refine (P5.out _ _ t5).mono ?_
  rintro e w6 ⟨rfl, t6⟩
  go_wp2_with fail
  refine (P6.out _ _ t6).mono ?_
  rintro e w7 ⟨rfl, t7⟩
  go_wp2_with fail
  refine (Q1.out _ _ t7).mono ?_
  rintro e w8 ⟨rfl, g8⟩
  simp only [Option.getD_some, Option.isSome_some]
  unfold entV wk1
  have t8 := Ts.more t7 g8
  go_wp2_with fail
  refine (Q2.out _ _ (t8.more ((Kept.refl _).alloc _))).mono ?_
  rintro e w9 ⟨rfl, g9⟩
  obtain ⟨x0, x1, x2, x3, _, hx, k9⟩ := box4 g9
  simp only [Option.getD_none, Option.isSome_none]
  unfold entV Mm.zent
  have t9 := Ts.more t8 k9
  clear x0 x2
  go_wp2_with fail
  refine (Q3.out _ _ (t9.more ((Kept.refl _).alloc _))).mono ?_
  rintro e w10 ⟨B10, c10, rfl, l10, g10⟩
  have k10 := kept_trans ((Kept.refl _).alloc _) g10
  have t10 := Ts.more t9 k10
  go_wp2_with fail
  refine (Q4.out _ _ t10).mono ?_
  rintro e w11 ⟨B11, c11, rfl, l11, g11⟩
  have t11 := Ts.more t10 g11
  go_wp2_with fail
  refine (Q5.out _ _ t11).mono ?_
  rintro e w12 ⟨B12, c12, rfl, l12, g12⟩
  have t12 := Ts.more t11 g12
  have k12 := kept_trans k10 (kept_trans g11 g12)
  have y1 := (kept_cell k12 (p := ⟨w8.heap.size, 1, none⟩) hx).trans x1
  have y3 : w12.cell? ⟨w8.heap.size, 3, none⟩ = some (.string ⟨#[120]⟩) := (kept_cell k12 (p := ⟨w8.heap.size, 3, none⟩) hx).trans x3
  obtain ⟨b10, o10, rfl, _, h10⟩ := (l10.els.kept (kept_trans g11 g12)).at
  obtain ⟨b11, o11, rfl, _, h11⟩ := (l11.els.kept g12).at
  obtain ⟨b12, o12, rfl, _, z12⟩ := l12 0 8 rfl
  have u1 : w12.cell? ⟨b10, o10 + 0 * 4, none⟩ = some (.string ⟨#[97]⟩) := (h10 0 wk2 rfl).1
  have u2 := (h10 1 wk3 rfl).2.1
  have u3 := (h10 2 wk1 rfl).2.1
  have u4 := (h11 0 wk3 rfl).2.1
  unfold wk3 at u2 u4
  unfold wk1 at u3
  simp only [Nat.zero_mul, Nat.one_mul, Nat.add_zero] at u1 u2 u3 u4 z12
  clear x1 x3 h10 h11 l10 l11 l12
  go_wp2_with fail
  refine (Q6.out _ _ t12).mono ?_
  rintro e w13 ⟨rfl, rfl⟩
  go_wp2_with fail
  refine (Q7.out _ _ t12).mono ?_
  rintro e w14 ⟨rfl, rfl⟩
  go_wp2_with fail
  refine (Q8.out _ _ t12).mono ?_
  rintro e w15 ⟨rfl, g15⟩
  go_wp2_with fail
  go_ret
  exact ⟨rfl, kept_trans t12.kept g15⟩
end Go.Proofs.Ytpbhbgoaaephgaa
