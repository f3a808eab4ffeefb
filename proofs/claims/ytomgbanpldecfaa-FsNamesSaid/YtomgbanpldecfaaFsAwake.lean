/-
  awake of the statements of layer 3 returns true.
-/
import Derived.Test.YtomgbanpldecfaaFsPlay
namespace Go.Proofs.Ytomgbanpldecfaa
open Go.ChangeShapes Go.WideShapes Go.ChangeAt Go.RowKit Go.Maps
set_option linter.unusedVariables false
set_option maxHeartbeats 400000

namespace Aw
def m1 : Fs.Dsk := ⟨[⟨[], 0⟩], [([97], 0)], [], [⟨[], [97], some 0⟩], 1048576, -1, false⟩
def m2 : Fs.Dsk := ⟨[⟨[120, 121, 122], 0⟩], [([97], 0)], [], [⟨[], [97], some 0⟩], 1048576, -1, false⟩
def m3 : Fs.Dsk := ⟨[⟨[120, 121, 122], 0⟩], [([97], 0)], [([97], 0)], [], 1048576, -1, false⟩
def m4 : Fs.Dsk := ⟨[⟨[120, 121], 2⟩], [([97], 0)], [([97], 0)], [], 1048576, -1, false⟩
def m5 : Fs.Dsk := ⟨[⟨[120, 121], 2⟩, ⟨[], 0⟩], [([97], 0), ([98], 1)], [([97], 0)], [⟨[], [98], some 1⟩], 1048576, -1, false⟩
def m6 : Fs.Dsk := ⟨[⟨[120, 121], 2⟩, ⟨[], 0⟩], [([97], 0)], [([97], 0)], [], 1048576, -1, false⟩
def m7 : Fs.Dsk := ⟨[⟨[120, 121], 2⟩, ⟨[], 0⟩, ⟨[], 0⟩], [([97], 0), ([98], 2)], [([97], 0)], [⟨[], [98], some 2⟩], 1048576, -1, false⟩
def m8 : Fs.Dsk := ⟨[⟨[120, 121], 2⟩, ⟨[], 0⟩, ⟨[], 0⟩], [([97], 0), ([98], 2)], [([97], 0)], [⟨[], [98], some 2⟩], 1048576, 0, false⟩
def m9 : Fs.Dsk := ⟨[⟨[120, 121], 2⟩, ⟨[], 0⟩, ⟨[], 0⟩], [([97], 0), ([98], 2)], [([97], 0)], [⟨[], [98], some 2⟩], 1048576, 0, true⟩
def m10 : Fs.Dsk := ⟨[⟨[120, 121], 2⟩, ⟨[], 0⟩, ⟨[], 0⟩], [([97], 0), ([98], 2)], [([97], 0), ([98], 2)], [], 1048576, -1, false⟩
def m11 : Fs.Dsk := ⟨[⟨[120, 121], 2⟩, ⟨[], 0⟩, ⟨[], 0⟩], [([97], 0), ([98], 2)], [([97], 0), ([98], 2)], [], 3, -1, false⟩
theorem e1 : Fs.create Fs.new (⟨#[97]⟩ : ByteArray).data.toList = (m1, 0) := by kernel_rfl
theorem e2 : Fs.append m1 (⟨#[97]⟩ : ByteArray).data.toList (⟨#[120, 121, 122]⟩ : ByteArray).data.toList = (m2, 0) := by kernel_rfl
theorem e3 : Fs.syncDir m2 = (m3, 0) := by kernel_rfl
theorem e3' : Fs.loose m3 = 3 := by kernel_rfl
theorem e4 : Fs.crash m3 0 [2] = m4 := by kernel_rfl
theorem e4' : Fs.read m4 (⟨#[97]⟩ : ByteArray).data.toList = ([120, 121], 0) := by kernel_rfl
theorem e5 : Fs.create m4 (⟨#[98]⟩ : ByteArray).data.toList = (m5, 0) := by kernel_rfl
theorem e6 : Fs.crash m5 0 [] = m6 := by kernel_rfl
theorem e7 : Fs.create m6 (⟨#[98]⟩ : ByteArray).data.toList = (m7, 0) := by kernel_rfl
theorem e8 : Fs.fuse m7 0 = m8 := by kernel_rfl
theorem e9 : Fs.rename m8 (⟨#[97]⟩ : ByteArray).data.toList (⟨#[98]⟩ : ByteArray).data.toList = (m9, 30) := by kernel_rfl
theorem e10 : Fs.crash m9 1 [] = m10 := by kernel_rfl
theorem e11 : Fs.quota m10 3 = m11 := by kernel_rfl
theorem e12 : Fs.append m11 (⟨#[98]⟩ : ByteArray).data.toList (⟨#[122, 122]⟩ : ByteArray).data.toList = (m11, 12) := by kernel_rfl
theorem e13 : Fs.size m11 = 2 := by kernel_rfl
theorem e14 : Fs.remove m11 (⟨#[99]⟩ : ByteArray).data.toList = (m11, 10) := by kernel_rfl
theorem e15 : Fs.create m11 (⟨#[65]⟩ : ByteArray).data.toList = (m11, 20) := by kernel_rfl
theorem e16 : Fs.may (⟨#[97, 46, 49]⟩ : ByteArray).data.toList = true := by kernel_rfl
theorem e17 : Fs.may (⟨#[]⟩ : ByteArray).data.toList = false := by kernel_rfl
theorem e18 : (Fs.sync m11 (⟨#[97]⟩ : ByteArray).data.toList).2 = 0 := by kernel_rfl
end Aw
/-- DkRet, with the answer known -/
theorem dk_of {K : Nat → Prop} {w : World} {p : Nat} {r : Fs.Dsk × Int} {m : Fs.Dsk} {c : Int} {f : FuncId} {args : Array Value} (h : Calls Try.prog f args w (DkRet K w p r)) (e : r = (m, c)) :
    Calls Try.prog f args w fun e w' => e = .returned (.int .i64 c) ∧ (∃ G, IsDisk K w' p G m) ∧ Kp K w w' := by
  subst e; exact h
theorem ints_none (K : Nat → Prop) (w : World) : IntsAt K w (.slice none 0 0) [] := ⟨none, 0, rfl, fun h => absurd rfl h⟩
/-- Crash with a list that was just laid down -/
theorem crash_one {K : Nat → Prop} {w : World} {p : Nat} {G : Gh} {m m' : Fs.Dsk} (h : IsDisk K w p G m) (n k : Int) (e : Fs.crash m n [k] = m') :
    Calls Try.prog 16 #[.pointer (some ⟨p, 0, none⟩), .int .i64 n, .slice (some ⟨w.heap.size, 0, none⟩) 1 1] (w.alloc (.cells #[.int .i64 k] 3)) fun e w' => e = .returned (.tuple #[]) ∧ (∃ G, IsDisk K w' p G m') ∧ Kp K w w' := by
  have hk : Kept w (w.alloc (.cells #[.int .i64 k] 3)) := (Kept.refl w).alloc _
  have hc := crash_any (h.wide hk) n (.slice (some ⟨w.heap.size, 0, none⟩) 1 1) [k] (by simp) ⟨some ⟨w.heap.size, 0, none⟩, 1, rfl, fun _ => ⟨w.heap.size, 0, rfl, .inr ⟨Nat.le_refl _, by simp⟩, fun j hj => by
    have hj0 : j = 0 := by simp at hj; exact hj
    subst hj0
    exact cell_of (heap_alloc_new w _) 0 rfl⟩⟩
  rw [e] at hc
  exact hc.mono fun e w' ⟨he, ⟨G', hd⟩, kp⟩ => ⟨he, ⟨G', hd.narrow (fun b hb => .inl hb)⟩, (kp_kept hk h.lt).trans (kp.mono (fun b hb => .inl hb))⟩
theorem crash_none {K : Nat → Prop} {w : World} {p : Nat} {G : Gh} {m m' : Fs.Dsk} (h : IsDisk K w p G m) (n : Int) (e : Fs.crash m n [] = m') :
    Calls Try.prog 16 #[.pointer (some ⟨p, 0, none⟩), .int .i64 n, .slice none 0 0] w fun e w' => e = .returned (.tuple #[]) ∧ (∃ G, IsDisk K w' p G m') ∧ Kp K w w' := by
  have hc := crash_any h n (.slice none 0 0) [] (by simp) (ints_none _ _)
  rw [e] at hc
  exact hc
theorem loose_of {K : Nat → Prop} {w : World} {p a b : Nat} {G : Gh} {m : Fs.Dsk} (h : IsDisk K w p G m) (hp : m.pend.length = a) (hl : Fs.loose m = b) :
    Calls Try.prog 21 #[.pointer (some ⟨p, 0, none⟩)] w fun e w' => e = .returned (.tuple #[.int .i64 a, .int .i64 b]) ∧ Kept w w' := by
  subst hp hl; exact loose_any h
theorem read_of {K : Nat → Prop} {w : World} {p : Nat} {G : Gh} {m : Fs.Dsk} {l : List UInt8} {c : Int} (h : IsDisk K w p G m) (s : ByteArray) (hs : s.size ≤ maxLen) (e : Fs.read m s.data.toList = (l, c)) :
    Calls Try.prog 17 #[.pointer (some ⟨p, 0, none⟩), .string s] w fun e w' => e = .returned (.tuple #[.string (bs l), .int .i64 c]) ∧ w = w' := by
  have := read_any h s hs; rw [e] at this; exact this
theorem size_of {K : Nat → Prop} {w : World} {p b : Nat} {G : Gh} {m : Fs.Dsk} (h : IsDisk K w p G m) (hl : Fs.size m = b) :
    Calls Try.prog 20 #[.pointer (some ⟨p, 0, none⟩)] w fun e w' => e = .returned (.int .i64 b) ∧ Kept w w' := by
  subst hl; exact size_any h
theorem list_of {K : Nat → Prop} {w : World} {p n : Nat} {G : Gh} {m : Fs.Dsk} (h : IsDisk K w p G m) (hn : m.names.length = n) :
    Calls Try.prog 19 #[.pointer (some ⟨p, 0, none⟩)] w fun e w' => ∃ a c, e = .returned (.slice a n c) ∧ w'.ownsRow w.heap.size 9 1 (.slice a n c) n ((Fs.list m).map Go.Proofs.encStr) ∧ Kept w w' := by
  subst hn
  exact (list_any h).mono fun e w' ⟨v, he, ho, hk⟩ => by
    obtain ⟨a, c, rfl⟩ := own_shape ho
    exact ⟨a, c, he, ho, hk⟩
theorem may_of (s : ByteArray) (w : World) (hs : s.size ≤ maxLen) {c : Bool} (e : Fs.may s.data.toList = c) : Calls Try.prog 22 #[.string s] w fun e w' => e = .returned (.bool c) ∧ w = w' := by
  subst e; exact may_any s w hs
theorem bs_lit : bs [120, 121] = ⟨#[120, 121]⟩ := rfl
set_option maxRecDepth 100000 in
set_option maxHeartbeats 4000000 in
theorem awake_any (w : World) : Calls Try.prog 8 #[] w fun e w' => e = .returned (.bool true) ∧ Kept w w' := by
  go_enter Try.func8, Try.ntmps8
  go_wp2_with fail
  refine (new_any (K := fun b => b < w.heap.size) (fun b hb => hb)).mono ?_
  rintro e w0 ⟨p, rfl, ⟨G0, h0⟩, k0⟩
  go_wp2_with fail
  refine (dk_of (create_any h0 ⟨#[97]⟩ (by decide) (by decide)) Aw.e1).mono ?_
  rintro e w1 ⟨rfl, ⟨G1, h1⟩, k1⟩
  go_wp2_with fail
  refine (dk_of (append_any h1 ⟨#[97]⟩ ⟨#[120, 121, 122]⟩ (by decide) (by decide) (by decide)) Aw.e2).mono ?_
  rintro e w2 ⟨rfl, ⟨G2, h2⟩, k2⟩
  go_wp2_with fail
  refine (dk_of (syncDir_any h2) Aw.e3).mono ?_
  rintro e w3 ⟨rfl, ⟨G3, h3⟩, k3⟩
  go_wp2_with fail
  refine (loose_of (a := 0) (b := 3) h3 rfl Aw.e3').mono ?_
  rintro e w4 ⟨rfl, g4⟩
  have h4 := h3.kept g4
  have k4 := kp_kept g4 h3.lt
  go_wp2_with fail
  refine (crash_one h4 0 2 Aw.e4).mono ?_
  rintro e w5 ⟨rfl, ⟨G5, h5⟩, k5⟩
  go_wp2_with fail
  refine (read_of h5 ⟨#[97]⟩ (by decide) Aw.e4').mono ?_
  rintro e w6 ⟨rfl, rfl⟩
  rw [bs_lit]
  go_wp2_with fail
  refine (dk_of (create_any h5 ⟨#[98]⟩ (by decide) (by decide)) Aw.e5).mono ?_
  rintro e w6 ⟨rfl, ⟨G6, h6⟩, k6⟩
  go_wp2_with fail
  refine (crash_none h6 0 Aw.e6).mono ?_
  rintro e w7 ⟨rfl, ⟨G7, h7⟩, k7⟩
  go_wp2_with fail
  refine (list_of (n := 1) h7 rfl).mono ?_
  rintro e w8 ⟨la, lc, rfl, o8, g8⟩
  have h8 := h7.kept g8
  have k8 := kp_kept g8 h7.lt
  clear o8
  go_wp2_with fail
  refine (dk_of (create_any h8 ⟨#[98]⟩ (by decide) (by decide)) Aw.e7).mono ?_
  rintro e w9 ⟨rfl, ⟨G9, h9⟩, k9⟩
  go_wp2_with fail
  refine (fuse_any h9 0 (by omega)).mono ?_
  rintro e w10 ⟨rfl, h10, k10⟩
  rw [Aw.e8] at h10
  go_wp2_with fail
  refine (dk_of (rename_any h10 ⟨#[97]⟩ ⟨#[98]⟩ (by decide) (by decide) (by decide)) Aw.e9).mono ?_
  rintro e w11 ⟨rfl, ⟨G11, h11⟩, k11⟩
  go_wp2_with fail
  refine (dead_any h11).mono ?_
  rintro e w12 ⟨rfl, rfl⟩
  rw [show Aw.m9.dead = true from rfl]
  go_wp2_with fail
  refine (crash_none h11 1 Aw.e10).mono ?_
  rintro e w12 ⟨rfl, ⟨G12, h12⟩, k12⟩
  go_wp2_with fail
  refine (list_of (n := 2) h12 rfl).mono ?_
  rintro e w13 ⟨ma, mc, rfl, o13, g13⟩
  have h13 := h12.wide g13
  have k13 := kp_kept g13 h12.lt
  obtain ⟨mr, cur, hma, hmr, hmb, hmc⟩ : ∃ mr cur, ma = some ⟨mr, 0, none⟩ ∧ w12.heap.size ≤ mr ∧ w13.heap[mr]? = some (.cells cur 9) ∧ cur[1]? = some (.string ⟨#[98]⟩) := by
    rcases o13.2 with ⟨_, e0⟩ | ⟨r, cap, cur, e, hbs, hb, hnc, _, _, htk⟩
    · cases e0
    · cases e
      refine ⟨r, cur, rfl, hbs, hb, ?_⟩
      have e1 : (cur.toList.take (2 * 1))[1]? = some (.string ⟨#[98]⟩) := by rw [htk]; rfl
      rw [List.getElem?_take] at e1
      simpa using e1
  subst hma
  go_wp2_with fail
  refine (quota_any h13 3 (by omega)).mono ?_
  rintro e w14 ⟨rfl, h14, k14⟩
  rw [Aw.e11] at h14
  go_wp2_with fail
  refine (dk_of (append_any h14 ⟨#[98]⟩ ⟨#[122, 122]⟩ (by decide) (by decide) (by decide)) Aw.e12).mono ?_
  rintro e w15 ⟨rfl, ⟨G15, h15⟩, k15⟩
  have q1 : w15.cell? ⟨mr, 1, none⟩ = some (.string ⟨#[98]⟩) := cell_of ((k15.block mr (.inr ⟨hmr, heap_lt hmb⟩)).trans ((k14.block mr (.inr ⟨hmr, heap_lt hmb⟩)).trans hmb)) 1 hmc
  have HMB := Lib.hid hmb; have HMC := Lib.hid hmc; clear hmb hmc o13
  go_wp2_with fail
  refine (size_of (b := 2) h15 Aw.e13).mono ?_
  rintro e w16 ⟨rfl, g16⟩
  have h16 := h15.kept g16
  have k16 := kp_kept g16 h15.lt
  go_wp2_with fail
  refine (dk_of (remove_any h16 ⟨#[99]⟩ (by decide) (by decide)) Aw.e14).mono ?_
  rintro e w17 ⟨rfl, ⟨G17, h17⟩, k17⟩
  go_wp2_with fail
  refine (dk_of (create_any h17 ⟨#[65]⟩ (by decide) (by decide)) Aw.e15).mono ?_
  rintro e w18 ⟨rfl, ⟨G18, h18⟩, k18⟩
  go_wp2_with fail
  refine (may_of ⟨#[97, 46, 49]⟩ _ (by decide) Aw.e16).mono ?_
  rintro e w19 ⟨rfl, rfl⟩
  go_wp2_with fail
  refine (may_of ⟨#[]⟩ _ (by decide) Aw.e17).mono ?_
  rintro e w19 ⟨rfl, rfl⟩
  go_wp2_with fail
  refine (sync_any h18 ⟨#[97]⟩ (by decide)).mono ?_
  rintro e w19 ⟨rfl, d19, k19⟩
  rw [Aw.e18]
  go_wp2
  go_ret
  refine ⟨rfl, ?_⟩
  have ka := ((((((((((((k0.trans k1).trans k2).trans k3).trans k4).trans k5).trans k6).trans k7).trans k8).trans k9).trans k10).trans k11).trans k12).trans k13
  have kb := (((((k14.trans k15).trans k16).trans k17).trans k18).trans k19).mono (K' := fun b => b < w.heap.size) (fun b hb => .inl hb)
  exact (ka.trans kb).below (fun i hi => hi)
end Go.Proofs.Ytomgbanpldecfaa
