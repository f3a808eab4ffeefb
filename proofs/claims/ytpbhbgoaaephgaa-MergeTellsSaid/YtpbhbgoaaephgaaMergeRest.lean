/-
  What is left of rows, in memory: which rest is told sooner.
-/
import Derived.Test.YtpbhbgoaaephgaaMergeFns
import Derived.RegionTactic
import Derived.BigRegion
import Derived.Deep.CutRange
namespace Go.Proofs.Ytpbhbgoaaephgaa
open Go.ChangeShapes Go.WideShapes Go.ChangeAt Go.RowKit
set_option linter.unusedVariables false
set_option maxRecDepth 100000
set_option maxHeartbeats 1000000

/-- what is left of a row: where it lies, with which room, its entries, and the row's place -/
structure Rs where
  A : Option Addr
  c : Nat
  l : List Mm.Ent
  p : Nat
def Rs.hd (r : Rs) : Mm.Ent := r.l.headD ⟨[], 0, false, []⟩
def rsn (a b : Rs) : Bool := Mg.sn a.hd a.p b.hd b.p
def rsV (a : Rs) : Value := .agg #[.slice a.A a.l.length a.c, .int .i64 (a.p : Nat)]
/-- a rest that may be: one entry at least, in memory -/
structure Rs.ok (w : World) (r : Rs) : Prop where
  els : Els w r.A r.l
  pos : 0 < r.l.length
  few : r.l.length ≤ 4000
  cap : r.l.length ≤ r.c
  most : r.c ≤ maxLen
  place : r.p ≤ 4000
theorem Rs.ok.kept {w w' : World} {r : Rs} (h : r.ok w) (k : Kept w w') : r.ok w' := ⟨h.els.kept k, h.pos, h.few, h.cap, h.most, h.place⟩
theorem Rs.ok.head {w : World} {r : Rs} (h : r.ok w) : r.l[0]? = some r.hd := by
  unfold Rs.hd
  cases hl : r.l with
  | nil => have := h.pos; rw [hl] at this; simp at this
  | cons x t => rfl
theorem gsooner_any (a b : Rs) (w : World) (ha : a.ok w) (hb : b.ok w) :
    Calls Try.prog 65 #[rsV a, rsV b] w fun e w' => e = .returned (.bool (rsn a b)) ∧ Kept w w' := by
  obtain ⟨b1, o1, e1, hb1, p0, p1, p2, p3⟩ := ha.els 0 _ ha.head
  obtain ⟨b2, o2, e2, hb2, q0, q1, q2, q3⟩ := hb.els 0 _ hb.head
  have ha1 := ha.pos; have ha2 := ha.few
  have hb3 := hb.pos; have hb4 := hb.few
  unfold rsV rsn
  rw [e1, e2]
  rw [Nat.zero_mul, Nat.add_zero] at p0 p1 p2 p3 q0 q1 q2 q3
  generalize a.hd = x at *
  generalize b.hd = y at *
  generalize a.l.length = n at *
  generalize b.l.length = m at *
  generalize a.c = c at *
  generalize b.c = d at *
  generalize a.p = P at *
  generalize b.p = Q at *
  clear ha hb e1 e2
  have g0 : Kept w ((w.alloc (.cells #[.slice (some ⟨b1, o1, none⟩) n c, .int .i64 (P : Nat)] 95)).alloc (.cells #[.slice (some ⟨b2, o2, none⟩) m d, .int .i64 (Q : Nat)] 95)) := ((Kept.refl w).alloc _).alloc _
  have r1 : ((w.alloc (.cells #[.slice (some ⟨b1, o1, none⟩) n c, .int .i64 (P : Nat)] 95)).alloc (.cells #[.slice (some ⟨b2, o2, none⟩) m d, .int .i64 (Q : Nat)] 95)).heap[w.heap.size]? = some (.cells #[.slice (some ⟨b1, o1, none⟩) n c, .int .i64 (P : Nat)] 95) := (malloc_old _ _ (by rw [malloc_size]; omega)).trans (malloc_new w _)
  have r2 : ((w.alloc (.cells #[.slice (some ⟨b1, o1, none⟩) n c, .int .i64 (P : Nat)] 95)).alloc (.cells #[.slice (some ⟨b2, o2, none⟩) m d, .int .i64 (Q : Nat)] 95)).heap[w.heap.size + 1]? = some (.cells #[.slice (some ⟨b2, o2, none⟩) m d, .int .i64 (Q : Nat)] 95) := by
    have := malloc_new (w.alloc (.cells #[.slice (some ⟨b1, o1, none⟩) n c, .int .i64 (P : Nat)] 95)) (.cells #[.slice (some ⟨b2, o2, none⟩) m d, .int .i64 (Q : Nat)] 95)
    rwa [malloc_size] at this
  have e1 := mbs_eq x.key y.key
  have HC := Lib.hid (fun W => gahead_ab x y W)
  go_enter Try.func65, Try.ntmps65
  go_upto_region 1 with fail
  generalize (w.alloc (.cells #[.slice (some ⟨b1, o1, none⟩) n c, .int .i64 (P : Nat)] 95)).alloc (.cells #[.slice (some ⟨b2, o2, none⟩) m d, .int .i64 (Q : Nat)] 95) = w2 at *
  have s1 := mcell (v := .slice (some ⟨b1, o1, none⟩) n c) r1 0 rfl; have s2 := mcell (v := .int .i64 (P : Nat)) r1 1 rfl; have s3 := mcell (v := .slice (some ⟨b2, o2, none⟩) m d) r2 0 rfl; have s4 := mcell (v := .int .i64 (Q : Nat)) r2 1 rfl
  rw [← kept_cell g0 hb1] at p0 p1 p2 p3
  rw [← kept_cell g0 hb2] at q0 q1 q2 q3
  have hs1 := mheap_lt r1; have hs2 := mheap_lt r2
  have hb1' := Nat.lt_of_lt_of_le hb1 (Below.size g0); have hb2' := Nat.lt_of_lt_of_le hb2 (Below.size g0)
  go_cut [5, 6] from 7 (fun p q w3 => ∃ X1 X2, p = .pointer (some ⟨X1, 0, none⟩) ∧ q = .pointer (some ⟨X2, 0, none⟩) ∧ Kept w2 w3 ∧ w3.heap[X1]? = some (.cells #[.string (bs x.key), .int .u64 (x.seq : Nat), .bool x.del, .string (bs x.val)] 51) ∧ w3.heap[X2]? = some (.cells #[.string (bs y.key), .int .u64 (y.seq : Nat), .bool y.del, .string (bs y.val)] 51))
  case first =>
    go_region
    · go_wp2_with fail
      go_meet
      refine ⟨_, _, rfl, rfl, kept_trans (((Kept.refl _).alloc _).alloc _) (kept_drewN _ 1), (malloc_old _ _ (by rw [malloc_size]; omega)).trans (malloc_new w2 _), ?_⟩
      have := malloc_new (w2.alloc (.cells #[.string (bs x.key), .int .u64 (x.seq : Nat), .bool x.del, .string (bs x.val)] 51)) (.cells #[.string (bs y.key), .int .u64 (y.seq : Nat), .bool y.del, .string (bs y.val)] 51)
      rw [malloc_size] at this
      exact this
    · go_wp2_with fail
      go_meet
      refine ⟨_, _, rfl, rfl, kept_trans (((Kept.refl _).alloc _).alloc _) (kept_drewN _ 1), ?_, (malloc_old _ _ (by rw [malloc_size]; omega)).trans (malloc_new w2 _)⟩
      have := malloc_new (w2.alloc (.cells #[.string (bs y.key), .int .u64 (y.seq : Nat), .bool y.del, .string (bs y.val)] 51)) (.cells #[.string (bs x.key), .int .u64 (x.seq : Nat), .bool x.del, .string (bs x.val)] 51)
      rw [malloc_size] at this
      exact this
  case rest =>
    obtain ⟨X1, X2, rfl, rfl, g3, v1, v2⟩ := hcut
    have t1 := mcell (v := .string (bs x.key)) v1 0 rfl; have t2 := mcell (v := .int .u64 (x.seq : Nat)) v1 1 rfl; have t3 := mcell (v := .bool x.del) v1 2 rfl; have t4 := mcell (v := .string (bs x.val)) v1 3 rfl
    have z1 := mcell (v := .string (bs y.key)) v2 0 rfl; have z2 := mcell (v := .int .u64 (y.seq : Nat)) v2 1 rfl
    rw [← kept_cell g3 hs1] at s2
    rw [← kept_cell g3 hs2] at s4
    have G3 := Lib.hid (kept_trans g0 g3)
    clear g3 g0 v1 v2 p0 p1 p2 p3 q0 q1 q2 q3 s1 s3 r1 r2 hb1 hb2 hb1' hb2' hs1 hs2 ha1 ha2 hb3 hb4
    generalize w.heap.size = B at *
    by_cases h : x.key = y.key
    · rw [decide_eq_true h] at e1
      by_cases h2 : x.seq = y.seq
      · have d1 : ((x.seq : Int) == (y.seq : Int)) = true := by rw [beq_iff_eq]; omega
        have HS := Lib.hid (show Mg.sn x P y Q = decide (P < Q) by unfold Mg.sn; rw [if_pos ⟨h, h2⟩])
        clear h h2
        go_wp2_with fail
        go_ret
        exact ⟨by rw [HS.out]; rfl, G3.out⟩
      · have d1 : ((x.seq : Int) == (y.seq : Int)) = false := by rw [beq_eq_false_iff_ne]; omega
        have HS := Lib.hid (show Mg.sn x P y Q = Mg.ab x y by unfold Mg.sn; rw [if_neg (fun c => h2 c.2)])
        clear h h2
        go_wp2_with fail
        refine (HC.out _).mono ?_
        rintro e w1 ⟨rfl, g1⟩
        go_wp2_with fail
        go_ret
        exact ⟨by rw [HS.out]; rfl, kept_trans G3.out g1⟩
    · rw [decide_eq_false h] at e1
      have HS := Lib.hid (show Mg.sn x P y Q = Mg.ab x y by unfold Mg.sn; rw [if_neg (fun c => h c.1)])
      clear h
      go_wp2_with fail
      refine (HC.out _).mono ?_
      rintro e w1 ⟨rfl, g1⟩
      go_wp2_with fail
      go_ret
      exact ⟨by rw [HS.out]; rfl, kept_trans G3.out g1⟩
end Go.Proofs.Ytpbhbgoaaephgaa
