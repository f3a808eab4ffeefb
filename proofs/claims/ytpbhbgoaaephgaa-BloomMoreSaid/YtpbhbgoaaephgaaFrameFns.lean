/-
  What the functions of package frame compute, each for every input: the seal, Make, Take, All, Join.
-/
import Derived.Test.YtpbhbgoaaephgaaFrameMath
import Derived.Test.YtpbhbgoaaephgaaBuilder
namespace Go.Proofs.Ytpbhbgoaaephgaa
open Go.ChangeShapes Go.WideShapes Go.ChangeAt Go.RowKit
set_option linter.unusedVariables false
set_option maxRecDepth 100000
set_option maxHeartbeats 400000

theorem b_xor8 (a b : UInt8) : bits BinOp.xor IntKind.u8 ((a.toNat : Nat) : Int) ((b.toNat : Nat) : Int) = (((a ^^^ b).toNat : Nat) : Int) := by
  rw [u8_xor_nat _ _ a.toNat_lt b.toNat_lt, UInt8.toNat_xor]
theorem seal_step (s : ByteArray) (k : Nat) (h : k < s.size) : Fr.sealOf (s.data.toList.take (k + 1)) = Fr.sealOf (s.data.toList.take k) ^^^ s[k] := by
  rw [Nm.take_snoc' _ k (by simpa using h), Fr.sealOf_snoc, getD_of s k h]
theorem fbs_app (a b : List UInt8) : bs a ++ bs b = bs (a ++ b) := bs_of (by simp [bs, ByteArray.data_append])
theorem fbs_size (l : List UInt8) : (bs l).size = l.length := by simp [bs, ByteArray.size]
theorem fbs_self (s : ByteArray) : bs s.data.toList = s := (bs_of rfl).symm
/-- Take, where the bytes begin with a number -/
theorem takeT_ok {s t r : List UInt8} (h : Fr.take s = some (t, r)) : Fr.takeT s = t ∧ Fr.takeR s = r ∧ Fr.takeE s = 0 := by
  have hn : s ≠ [] := by rintro rfl; cases h
  unfold Fr.takeT Fr.takeR Fr.takeE
  rw [h, if_neg hn]; exact ⟨rfl, rfl, rfl⟩
theorem takeT_no {s : List UInt8} (hn : s ≠ []) (h : Fr.take s = none) : Fr.takeT s = [] ∧ Fr.takeR s = [] ∧ Fr.takeE s = 2 := by
  unfold Fr.takeT Fr.takeR Fr.takeE
  rw [h, if_neg hn]; exact ⟨rfl, rfl, rfl⟩
theorem take_of_num {s : List UInt8} {n : Nat} {b : List UInt8} (h : Nm.take s = some (n, b)) : Fr.take s = if n ≤ 8000 ∧ n < b.length ∧ b.getD n 0 = Fr.sealOf (b.take n) then some (b.take n, b.drop (n + 1)) else none := by
  unfold Fr.take; rw [h]
theorem extract_take (b : List UInt8) (n : Nat) : (bs b).extract 0 n = bs (b.take n) := bs_of (by simp [bs])
theorem extract_drop (b : List UInt8) (n : Nat) : (bs b).extract n (bs b).size = bs (b.drop n) := by rw [extract_end]; rfl
theorem fquiet_l {P : Program} {f : FuncId} {args : Array Value} {w : World} {n : Nat} {v : Value} (h : Calls P f args (w.drewN n) fun e w' => e = .returned v ∧ w.drewN n = w') :
    Calls P f args (w.drewN n) fun e w'' => e = .returned v ∧ ∃ m, w'' = w.drewN m := h.mono fun _ _ k => ⟨k.1, n, k.2.symm⟩
end Go.Proofs.Ytpbhbgoaaephgaa
