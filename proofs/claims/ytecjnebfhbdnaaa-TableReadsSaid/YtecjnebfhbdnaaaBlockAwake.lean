/-
  The calls of layer 9 whose answers the document fixes: they are answered so; and which rows are too large to be looked at.
-/
import Derived.Test.YtecjnebfhbdnaaaBlockDec
import Derived.Test.YtecjnebfhbdnaaaPackMem
namespace Go.Proofs.Ytecjnebfhbdnaaa
open Go.ChangeShapes Go.WideShapes Go.ChangeAt Go.RowKit
set_option linter.unusedVariables false
set_option maxRecDepth 100000
set_option maxHeartbeats 4000000

def ka1 : Mm.Ent := ⟨[97, 98], 3, false, [120]⟩
def ka2 : Mm.Ent := ⟨[97, 98, 99], 2, true, []⟩
def kal : List Mm.Ent := [ka1, ka2]
def kab : List UInt8 := [0, 2, 97, 98, 3, 0, 1, 120, 2, 1, 99, 2, 1, 0, 0, 0, 0, 0, 0, 0, 0, 0, 0, 0, 0, 0, 0, 0, 0, 2]
theorem kw1 : Bk.isB kal = true ∧ Bk.enc kal = kab := by decide
theorem kw2 : Bk.dec kab = some kal := by rw [← kw1.2]; exact Bk.dec_enc kw1.1
theorem kw3 : sk kal [97, 98] 2 = some ka2 ∧ sk kal [98] 2 = none := by decide
theorem kw4 : Bk.isB [] = false := by decide
theorem kw5 : Bk.dec (kab ++ [63]) = none := by
  rcases dec_ways (kab ++ [63]) with ⟨_, h, _⟩ | ⟨h, _⟩ | ⟨h, _⟩
  · exact absurd h (by decide)
  · exact h
  · exact h
theorem kw6 : Bk.sh [97, 98, 99] [97, 98, 100] = 2 ∧ Bk.count kab = 2 := by decide
def koA : Obj := (.cells #[.string ⟨#[97, 98]⟩, .int .u64 3, .bool false, .string ⟨#[120]⟩, .string ⟨#[97, 98, 99]⟩, .int .u64 2, .bool true, .string ⟨#[]⟩] 37)
theorem kk_els {W : World} {b : Nat} (h : W.heap[b]? = some koA) : Els W (some ⟨b, 0, none⟩) kal := els_lit h rfl
theorem kk_enc (W : World) (b : Nat) (h : W.heap[b]? = some koA) : Calls Try.prog 26 #[.slice (some ⟨b, 0, none⟩) 2 2] W fun e w' => e = .returned (.tuple #[.string (bs kab), .int .i64 0]) ∧ Kept W w' := by
  have := kencode_ok 2 (kk_els h) kw1.1
  rw [kw1.2] at this
  exact this
theorem kk_dec (W : World) : Calls Try.prog 73 #[.string (bs kab)] W fun e w' => ∃ B c, e = .returned (.tuple #[.slice B 2 c, .int .i64 0]) ∧ Els w' B kal ∧ Kept W w' :=
  (kdecode_some (by decide) kw2 W).mono fun e w' ⟨B, c, h1, h2, h3⟩ => ⟨B, c, h1, h2.els, h3⟩
theorem kk_seek1 (W : World) : Calls Try.prog 46 #[.string (bs kab), .string ⟨#[97, 98]⟩, .int .u64 2] W fun e w' => e = .returned (.tuple #[.agg #[.string ⟨#[97, 98, 99]⟩, .int .u64 2, .bool true, .string ⟨#[]⟩], .bool true, .int .i64 0]) ∧ Kept W w' := by
  have := kseek_any kab [97, 98] 2 (by decide) W
  rw [kw2] at this
  unfold skV at this
  simp only at this
  rw [kw3.1] at this
  exact this
theorem kk_seek2 (W : World) : Calls Try.prog 46 #[.string (bs kab), .string ⟨#[98]⟩, .int .u64 2] W fun e w' => e = .returned (.tuple #[.agg #[.string ⟨#[]⟩, .int .u64 0, .bool false, .string ⟨#[]⟩], .bool false, .int .i64 0]) ∧ Kept W w' := by
  have := kseek_any kab [98] 2 (by decide) W
  rw [kw2] at this
  unfold skV at this
  simp only at this
  rw [kw3.2] at this
  exact this
theorem kk_nil (W : World) : Calls Try.prog 26 #[.slice none 0 0] W fun e w' => e = .returned (.tuple #[.string ⟨#[]⟩, .int .i64 2]) ∧ Kept W w' :=
  kencode_no (A := none) (l := []) 0 (fun j x hx => by simp at hx) (by simp) (fun x hx => by simp at hx) kw4
theorem kk_more (W : World) : Calls Try.prog 73 #[.string (bs kab ++ ⟨#[63]⟩)] W fun e w' => e = .returned (.tuple #[.slice none 0 0, .int .i64 2]) ∧ Kept W w' := by
  have := kdecode_none (s := kab ++ [63]) (by decide) kw5 W
  rw [← fbs_app] at this
  exact this
theorem kk_sh (W : World) (n : Nat) : Calls Try.prog 59 #[.string ⟨#[97, 98, 99]⟩, .string ⟨#[97, 98, 100]⟩] (W.drewN n) fun e w' => e = .returned (.int .i64 2) ∧ ∃ q, w' = W.drewN q := by
  have := kshared_q [97, 98, 99] [97, 98, 100] (by simp [maxLen]) (by simp [maxLen]) (W.drewN n)
  rw [kw6.1] at this
  exact this.mono fun e w' ⟨h1, q, h2⟩ => ⟨h1, by rw [h2]; exact drew_more ⟨n, rfl⟩ q⟩
theorem kk_same {W : World} {A B : Option Addr} (c d : Nat) (h1 : Els W A kal) (h2 : Els W B kal) (n : Nat) : Calls Try.prog 11 #[.slice A 2 c, .slice B 2 d] (W.drewN n) fun e w' => e = .returned (.bool true) ∧ ∃ q, w' = W.drewN q := by
  have := msame_any A B c d kal kal (by decide) (by decide) (W.drewN n) (h1.kept (kept_drewN W n)) (h2.kept (kept_drewN W n))
  rw [decide_eq_true rfl] at this
  exact this.mono fun e w' ⟨h1, q, h2⟩ => ⟨h1, by rw [h2]; exact drew_more ⟨n, rfl⟩ q⟩
theorem kk_cnt (W : World) (n : Nat) : Calls Try.prog 93 #[.string (bs kab)] (W.drewN n) fun e w' => e = .returned (.int .i64 2) ∧ ∃ q, w' = W.drewN q := by
  have := kcount_any kab (by decide) (W.drewN n)
  rw [kw6.2] at this
  exact this.mono fun e w' ⟨h1, h2⟩ => ⟨h1, n, h2.symm⟩
theorem kk_bool : ((bs kab).toList == [0, 2, 97, 98, 3, 0, 1, 120, 2, 1, 99, 2, 1, 0, 0, 0, 0, 0, 0, 0, 0, 0, 0, 0, 0, 0, 0, 0, 0, 2]) = true := by
  rw [Lib.toList_data, bs_data]; decide
end Go.Proofs.Ytecjnebfhbdnaaa
