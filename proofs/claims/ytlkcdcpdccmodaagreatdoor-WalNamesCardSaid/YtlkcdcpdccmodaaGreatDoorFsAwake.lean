/-
  awake of the statements of layer 3 returns true.
-/
import Derived.Test.YtlkcdcpdccmodaaGreatDoorFsPlay
namespace Go.Proofs.YtlkcdcpdccmodaaGreatDoor
open Go.ChangeShapes Go.WideShapes Go.ChangeAt Go.RowKit Go.Maps
set_option linter.unusedVariables false
set_option maxRecDepth 100000
set_option maxHeartbeats 400000

namespace Aw
def m1 : Fs.Dsk := ⟨[⟨[], 0⟩], [([97], 0)], [], [⟨[], [97], some 0⟩], 1048576, -1, false⟩
def m2 : Fs.Dsk := ⟨[⟨[120, 121, 122], 0⟩], [([97], 0)], [], [⟨[], [97], some 0⟩], 1048576, -1, false⟩
def m3 : Fs.Dsk := ⟨[⟨[120, 121, 122], 0⟩], [([97], 0)], [([97], 0)], [], 1048576, -1, false⟩
def m4 : Fs.Dsk := ⟨[⟨[120, 121], 2⟩], [([97], 0)], [([97], 0)], [], 1048576, -1, false⟩
def m5 : Fs.Dsk := ⟨[⟨[120, 121], 2⟩, ⟨[], 0⟩], [([97], 0), ([98], 1)], [([97], 0)], [⟨[], [98], some 1⟩], 1048576, -1, false⟩
def m6 : Fs.Dsk := ⟨[⟨[120, 121], 2⟩, ⟨[], 0⟩], [([97], 0)], [([97], 0)], [], 1048576, -1, false⟩
def m7 : Fs.Dsk := ⟨[⟨[120, 121], 2⟩, ⟨[], 0⟩, ⟨[], 0⟩], [([97], 0), ([98], 2)], [([97], 0)], [⟨[], [98], some 2⟩], 1048576, -1, false⟩
def m8 : Fs.Dsk := ⟨[⟨[120, 121], 2⟩, ⟨[], 0⟩, ⟨[], 0⟩], [([97], 0), ([98], 2)], [([97], 0)], [⟨[], [98], some 2⟩], 1048576, 0, false⟩
def m9 : Fs.Dsk := ⟨[⟨[120, 121], 2⟩, ⟨[], 0⟩, ⟨[], 0⟩], [([97], 0), ([98], 2)], [([97], 0)], [⟨[], [98], some 2⟩], 1048576, 0, true⟩
def m10 : Fs.Dsk := ⟨[⟨[120, 121], 2⟩, ⟨[], 0⟩, ⟨[], 0⟩], [([97], 0), ([98], 2)], [([97], 0), ([98], 2)], [], 1048576, -1, false⟩
def m11 : Fs.Dsk := ⟨[⟨[120, 121], 2⟩, ⟨[], 0⟩, ⟨[], 0⟩], [([97], 0), ([98], 2)], [([97], 0), ([98], 2)], [], 3, -1, false⟩
theorem e1 : Fs.create Fs.new (⟨#[97]⟩ : ByteArray).data.toList = (m1, 0) := by kernel_rfl
theorem e2 : Fs.append m1 (⟨#[97]⟩ : ByteArray).data.toList (⟨#[120, 121, 122]⟩ : ByteArray).data.toList = (m2, 0) := by kernel_rfl
theorem e3 : Fs.syncDir m2 = (m3, 0) := by kernel_rfl
theorem e3' : Fs.loose m3 = 3 := by kernel_rfl
theorem e4 : Fs.crash m3 0 [2] = m4 := by kernel_rfl
theorem e4' : Fs.read m4 (⟨#[97]⟩ : ByteArray).data.toList = ([120, 121], 0) := by kernel_rfl
theorem e5 : Fs.create m4 (⟨#[98]⟩ : ByteArray).data.toList = (m5, 0) := by kernel_rfl
theorem e6 : Fs.crash m5 0 [] = m6 := by kernel_rfl
theorem e7 : Fs.create m6 (⟨#[98]⟩ : ByteArray).data.toList = (m7, 0) := by kernel_rfl
theorem e8 : Fs.fuse m7 0 = m8 := by kernel_rfl
theorem e9 : Fs.rename m8 (⟨#[97]⟩ : ByteArray).data.toList (⟨#[98]⟩ : ByteArray).data.toList = (m9, 30) := by kernel_rfl
theorem e10 : Fs.crash m9 1 [] = m10 := by kernel_rfl
theorem e11 : Fs.quota m10 3 = m11 := by kernel_rfl
theorem e12 : Fs.append m11 (⟨#[98]⟩ : ByteArray).data.toList (⟨#[122, 122]⟩ : ByteArray).data.toList = (m11, 12) := by kernel_rfl
theorem e13 : Fs.size m11 = 2 := by kernel_rfl
theorem e14 : Fs.remove m11 (⟨#[99]⟩ : ByteArray).data.toList = (m11, 10) := by kernel_rfl
theorem e15 : Fs.create m11 (⟨#[65]⟩ : ByteArray).data.toList = (m11, 20) := by kernel_rfl
theorem e16 : Fs.may (⟨#[97, 46, 49]⟩ : ByteArray).data.toList = true := by kernel_rfl
theorem e17 : Fs.may (⟨#[]⟩ : ByteArray).data.toList = false := by kernel_rfl
theorem e18 : (Fs.sync m11 (⟨#[97]⟩ : ByteArray).data.toList).2 = 0 := by kernel_rfl
end Aw
/-- DkRet, with the answer known -/
theorem dk_of {K : Nat → Prop} {w : World} {p : Nat} {r : Fs.Dsk × Int} {m : Fs.Dsk} {c : Int} {f : FuncId} {args : Array Value} (h : Calls Tryz.prog f args w (DkRet K w p r)) (e : r = (m, c)) :
    Calls Tryz.prog f args w fun e w' => e = .returned (.int .i64 c) ∧ (∃ G, IsDisk K w' p G m) ∧ Kp K w w' := by
  subst e; exact h
theorem ints_none (K : Nat → Prop) (w : World) : IntsAt K w (.slice none 0 0) [] := ⟨none, 0, rfl, fun h => absurd rfl h⟩
/-- Crash with a list that was just laid down -/
theorem crash_one {K : Nat → Prop} {w : World} {p : Nat} {G : Gh} {m m' : Fs.Dsk} (h : IsDisk K w p G m) (n k : Int) (e : Fs.crash m n [k] = m') :
    Calls Tryz.prog 23 #[.pointer (some ⟨p, 0, none⟩), .int .i64 n, .slice (some ⟨w.heap.size, 0, none⟩) 1 1] (w.alloc (.cells #[.int .i64 k] 3)) fun e w' => e = .returned (.tuple #[]) ∧ (∃ G, IsDisk K w' p G m') ∧ Kp K w w' := by
  have hk : Kept w (w.alloc (.cells #[.int .i64 k] 3)) := (Kept.refl w).alloc _
  have hc := crash_any (h.wide hk) n (.slice (some ⟨w.heap.size, 0, none⟩) 1 1) [k] (by simp) ⟨some ⟨w.heap.size, 0, none⟩, 1, rfl, fun _ => ⟨w.heap.size, 0, rfl, .inr ⟨Nat.le_refl _, by simp⟩, fun j hj => by
    have hj0 : j = 0 := by simp at hj; exact hj
    subst hj0
    exact cell_of (heap_alloc_new w _) 0 rfl⟩⟩
  rw [e] at hc
  exact hc.mono fun e w' ⟨he, ⟨G', hd⟩, kp⟩ => ⟨he, ⟨G', hd.narrow (fun b hb => .inl hb)⟩, (kp_kept hk h.lt).trans (kp.mono (fun b hb => .inl hb))⟩
theorem crash_none {K : Nat → Prop} {w : World} {p : Nat} {G : Gh} {m m' : Fs.Dsk} (h : IsDisk K w p G m) (n : Int) (e : Fs.crash m n [] = m') :
    Calls Tryz.prog 23 #[.pointer (some ⟨p, 0, none⟩), .int .i64 n, .slice none 0 0] w fun e w' => e = .returned (.tuple #[]) ∧ (∃ G, IsDisk K w' p G m') ∧ Kp K w w' := by
  have hc := crash_any h n (.slice none 0 0) [] (by simp) (ints_none _ _)
  rw [e] at hc
  exact hc
theorem read_of {K : Nat → Prop} {w : World} {p : Nat} {G : Gh} {m : Fs.Dsk} {l : List UInt8} {c : Int} (h : IsDisk K w p G m) (s : ByteArray) (hs : s.size ≤ maxLen) (e : Fs.read m s.data.toList = (l, c)) :
    Calls Tryz.prog 61 #[.pointer (some ⟨p, 0, none⟩), .string s] w fun e w' => e = .returned (.tuple #[.string (bs l), .int .i64 c]) ∧ w = w' := by
  have := read_any h s hs; rw [e] at this; exact this
theorem size_of {K : Nat → Prop} {w : World} {p b : Nat} {G : Gh} {m : Fs.Dsk} (h : IsDisk K w p G m) (hl : Fs.size m = b) :
    Calls Tryz.prog 33 #[.pointer (some ⟨p, 0, none⟩)] w fun e w' => e = .returned (.int .i64 b) ∧ Kept w w' := by
  subst hl; exact size_any h
theorem list_of {K : Nat → Prop} {w : World} {p n : Nat} {G : Gh} {m : Fs.Dsk} (h : IsDisk K w p G m) (hn : m.names.length = n) :
    Calls Tryz.prog 35 #[.pointer (some ⟨p, 0, none⟩)] w fun e w' => ∃ a c, e = .returned (.slice a n c) ∧ w'.ownsRow w.heap.size 9 1 (.slice a n c) n ((Fs.list m).map Go.Proofs.encStr) ∧ Kept w w' := by
  subst hn
  exact (list_any h).mono fun e w' ⟨v, he, ho, hk⟩ => by
    obtain ⟨a, c, rfl⟩ := own_shape ho
    exact ⟨a, c, he, ho, hk⟩
theorem may_of (s : ByteArray) (w : World) (hs : s.size ≤ maxLen) {c : Bool} (e : Fs.may s.data.toList = c) : Calls Tryz.prog 79 #[.string s] w fun e w' => e = .returned (.bool c) ∧ w = w' := by
  subst e; exact may_any s w hs
theorem bs_lit : bs [120, 121] = ⟨#[120, 121]⟩ := rfl
end Go.Proofs.YtlkcdcpdccmodaaGreatDoor
