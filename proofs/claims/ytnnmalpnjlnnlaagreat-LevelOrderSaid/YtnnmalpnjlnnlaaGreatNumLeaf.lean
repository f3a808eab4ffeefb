/-
  What the small functions of package num compute, each for every input (its kind's bounds): Fold, Unfold, Fits, mayEnd, shortSize, and bits.Len64.
-/
import Derived.Test.YtnnmalpnjlnnlaaGreatRows
import Derived.Test.YtnnmalpnjlnnlaaGreatPackMath
import Derived.WalkKit
import Derived.ProofKit
import Derived.WalkSpells
import Derived.WalkLawsBesides
import Derived.Handy
import Derived.Lib.Hide
import Derived.Below
import Derived.Deep.Draws
namespace Go.Proofs.YtnnmalpnjlnnlaaGreat
open Go.ChangeShapes Go.WideShapes Go.ChangeAt Go.RowKit
set_option linter.unusedVariables false
set_option maxRecDepth 100000
set_option maxHeartbeats 400000

/-- what was there is as it was; there may be new memory -/
def Kept (w w' : World) : Prop := Below w.heap.size w w'
theorem Kept.refl (w : World) : Kept w w := Below.refl _ _
theorem kept_trans {a b c : World} (h : Kept a b) (k : Kept b c) : Kept a c := Below.trans h (Below.mono k (Below.size h))
theorem Kept.alloc {a b : World} (h : Kept a b) (o : Obj) : Kept a (b.alloc o) := Below.alloc h (Below.size h) o
theorem kept_drewN (w : World) (n : Nat) : Kept w (w.drewN n) := ⟨rfl, rfl, rfl, Nat.le_refl _, fun _ _ => rfl⟩
theorem kept_cell {w w' : World} (h : Kept w w') {p : Addr} (hp : p.block < w.heap.size) : w'.cell? p = w.cell? p := Below.cell h hp
theorem kept_frozen {w w' : World} (h : Kept w w') {p : Addr} (hp : p.block < w.heap.size) : w'.frozen? p = w.frozen? p := Below.frozen h hp

theorem ret_int {k : IntKind} {a b : Int} (h : a = b) : Ending.returned (.int k a) = .returned (.int k b) := by rw [h]
theorem ret_bool {a b : Bool} (h : a = b) : Ending.returned (.bool a) = .returned (.bool b) := by rw [h]

theorem endB_of {k : Nat} {c : UInt8} {b : Bool} (h : b = true ↔ ¬ ((0 < k ∧ c.toNat = 0) ∨ (k = 9 ∧ 1 < c.toNat))) : b = Nm.endB k c := by
  unfold Nm.endB
  rw [Bool.eq_iff_iff, h, Bool.not_eq_true', decide_eq_false_iff_not]
theorem mayEnd_any (k : Nat) (c : UInt8) (hk : k < 10) (w : World) :
    Calls Tryz.prog 131 #[.int .i64 k, .int .u8 c.toNat] w fun e w' => e = .returned (.bool (Nm.endB k c)) ∧ w = w' := by
  go_enter Tryz.func131, Tryz.ntmps131
  go_wp2
  · have h : ((c.toNat : Int) == 0) = true := by assumption
    rw [beq_iff_eq] at h
    go_ret
    exact ⟨ret_bool (endB_of (by simp; omega)), rfl⟩
  · have h : ((c.toNat : Int) == 0) = false := by assumption
    rw [beq_eq_false_iff_ne] at h
    go_ret
    exact ⟨ret_bool (endB_of (by simp; omega)), rfl⟩
  · have h : ((c.toNat : Int) == 0) = false := by assumption
    rw [beq_eq_false_iff_ne] at h
    go_ret
    exact ⟨ret_bool (endB_of (by simp; omega)), rfl⟩
  · go_ret
    exact ⟨ret_bool (endB_of (by simp; omega)), rfl⟩
theorem lenK (n y c : Int) (b : Nat) (hn : 0 ≤ n) (hy : y.toNat = n.toNat / 2 ^ b) (hz : b = 0 ∨ y.toNat ≠ 0) (hl : y.toNat < 256) (hb : b ≤ 56) (hc : c = b) :
    wrap64 (c + wrap64 ((bitLen y.toNat : Nat) : Int)) = ((bitLen n.toNat : Nat) : Int) := by
  have h8 := bitLen_le8 y.toNat hl
  rw [IntWalk.wrap64_in ((bitLen y.toNat : Nat) : Int) (by constructor <;> omega), IntWalk.wrap64_in _ (by constructor <;> omega), hc]
  rcases hz with rfl | hz
  · rw [hy]; simp
  · rw [bitLen_shift n.toNat b (by rw [← hy]; exact hz), ← hy]; omega
set_option maxRecDepth 100000 in
theorem len64_any (n : Int) (h1 : 0 ≤ n) (h2 : n ≤ 18446744073709551615) (w : World) :
    Calls Tryz.prog 121 #[.int .u64 n] w fun e w' => e = .returned (.int .i64 (bitLen n.toNat)) ∧ w = w' := by
  go_enter Tryz.func121, Tryz.ntmps121
  go_wp2
  all_goals
    go_ret
    refine ⟨ret_int ?_, rfl⟩
    rw [len8tab_get]
  · exact lenK n _ _ 56 h1 (by omega) (by right; omega) (by omega) (by omega) rfl
  · exact lenK n _ _ 48 h1 (by omega) (by right; omega) (by omega) (by omega) rfl
  · exact lenK n _ _ 40 h1 (by omega) (by right; omega) (by omega) (by omega) rfl
  · exact lenK n _ _ 32 h1 (by omega) (by right; omega) (by omega) (by omega) rfl
  · exact lenK n _ _ 24 h1 (by omega) (by right; omega) (by omega) (by omega) rfl
  · exact lenK n _ _ 16 h1 (by omega) (by right; omega) (by omega) (by omega) rfl
  · exact lenK n _ _ 8 h1 (by omega) (by right; omega) (by omega) (by omega) rfl
  · have h8 := bitLen_le8 n.toNat (by omega)
    rw [IntWalk.wrap64_in ((bitLen n.toNat : Nat) : Int) (by constructor <;> omega), IntWalk.wrap64_in _ (by constructor <;> omega)]
theorem shortSize_any (n : Int) (h1 : 0 ≤ n) (h2 : n ≤ 18446744073709551615) (w : World) :
    Calls Tryz.prog 108 #[.int .u64 n] w fun e w' => e = .returned (.int .i64 (Nm.sz n.toNat)) ∧ w = w' := by
  have hb := Nm.b_or1 n h1 h2
  have he : (n / 2 * 2 + 1).toNat = n.toNat / 2 * 2 + 1 := by omega
  have h64 := Nm.bitLen_le64 (n.toNat / 2 * 2 + 1) (by omega)
  have hsz : Nm.sz n.toNat = (bitLen (n.toNat / 2 * 2 + 1) + 6) / 7 := rfl
  have HS := Lib.hid hsz; clear hsz
  generalize hx : bitLen (n.toNat / 2 * 2 + 1) = x at *
  have HX := Lib.hid hx; clear hx
  go_enter Tryz.func108, Tryz.ntmps108
  go_wp2_with (go_at_call 121; refine (len64_any _ (by omega) (by omega) _).mono ?_; rintro e w' ⟨rfl, rfl⟩; rw [he, HX.out])
  go_ret
  exact ⟨ret_int (by rw [HS.out]; omega), rfl⟩

