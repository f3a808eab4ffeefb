/-
  What the functions of package batch compute that tell of operations in a list: may they be, how large they are, what they do, a batch's bytes.
-/
import Derived.Test.YtalcmiaohclnjaaBatchMath
import Derived.Test.YtalcmiaohclnjaaFrameAll
namespace Go.Proofs.Ytalcmiaohclnjaa
open Go.ChangeShapes Go.WideShapes Go.ChangeAt Go.RowKit
set_option linter.unusedVariables false
set_option maxHeartbeats 400000

/-- an operation as a value -/
def opv (x : Bt.Op) : Value := .agg #[.bool x.del, .string (bs x.key), .string (bs x.val)]
/-- a list of operations that lies in memory -/
def Ops (w : World) (A : Option Addr) (l : List Bt.Op) : Prop := ∀ (j : Nat) (x : Bt.Op), l[j]? = some x → ∃ b o, A = some ⟨b, o, none⟩ ∧ b < w.heap.size ∧ w.cell? ⟨b, o + j * 3, none⟩ = some (.bool x.del) ∧ w.cell? ⟨b, o + j * 3 + 1, none⟩ = some (.string (bs x.key)) ∧ w.cell? ⟨b, o + j * 3 + 2, none⟩ = some (.string (bs x.val))
theorem Ops.kept {w w' : World} {A : Option Addr} {l : List Bt.Op} (h : Ops w A l) (k : Kept w w') : Ops w' A l := fun j x hx => by
  obtain ⟨b, o, e, hb, h0, h1, h2⟩ := h j x hx
  exact ⟨b, o, e, Nat.lt_of_lt_of_le hb (Below.size k), by rw [kept_cell k hb]; exact h0, by rw [kept_cell k hb]; exact h1, by rw [kept_cell k hb]; exact h2⟩
/-- no text of the operations has more bytes than a machine may -/
def Sane (l : List Bt.Op) : Prop := ∀ x ∈ l, x.key.length ≤ maxLen ∧ x.val.length ≤ maxLen

theorem bval_nil (v : List UInt8) : ((bs v).toList == []) = decide (v = []) := by
  rw [Lib.toList_data, bs_data]
  cases v <;> rfl
theorem may1_no {d : Bool} {k v : List UInt8} (h : k.length < 1 ∨ 100 < k.length ∨ 100 < v.length ∨ (d = true ∧ v ≠ [])) : Bt.may1 ⟨d, k, v⟩ = false := by
  rw [Bool.eq_false_iff, ne_eq, Bt.may1_iff]
  rintro ⟨h1, h2, h3, h4⟩
  simp only at h1 h2 h3 h4
  rcases h with h | h | h | h
  · omega
  · omega
  · omega
  · exact h.2 (h4 h.1)
theorem mayBe_any (x : Bt.Op) (hk : x.key.length ≤ maxLen) (hv : x.val.length ≤ maxLen) (w : World) :
    Calls Try.prog 29 #[opv x] w fun e w' => e = .returned (.bool (Bt.may1 x)) ∧ Kept w w' := by
  obtain ⟨d, k, v⟩ := x
  unfold maxLen at hk hv
  have e1 := fbs_size k
  have e2 := fbs_size v
  have hn := bval_nil v
  simp only at hk hv
  unfold opv
  by_cases h1 : k.length < 1
  · rw [may1_no (.inl h1)]
    have d1 : decide (((bs k).size : Int) < 1) = true := by rw [e1]; simp; omega
    clear e1 e2 hn
    go_enter Try.func29, Try.ntmps29
    go_wp2_with fail
    go_ret
    exact ⟨rfl, (Kept.refl _).alloc _⟩
  · have d1 : decide (((bs k).size : Int) < 1) = false := by rw [e1]; simp; omega
    by_cases h2 : 100 < k.length
    · rw [may1_no (.inr (.inl h2))]
      have d2 : decide ((100 : Int) < ((bs k).size : Int)) = true := by rw [e1]; simp; omega
      clear e1 e2 hn
      go_enter Try.func29, Try.ntmps29
      go_wp2_with fail
      go_ret
      exact ⟨rfl, (Kept.refl _).alloc _⟩
    · have d2 : decide ((100 : Int) < ((bs k).size : Int)) = false := by rw [e1]; simp; omega
      cases d with
      | true =>
        have hr : Bt.may1 ⟨true, k, v⟩ = decide (v = []) := by
          by_cases hv0 : v = []
          · rw [decide_eq_true hv0]
            exact Bt.may1_iff.2 ⟨by simp only; omega, by simp only; omega, by rw [hv0]; simp, fun _ => hv0⟩
          · rw [decide_eq_false hv0]
            exact may1_no (.inr (.inr (.inr ⟨rfl, hv0⟩)))
        have he : (bs v).toList.isEmpty = decide (v = []) := by rw [← hn]; cases (bs v).toList <;> rfl
        rw [hr, ← he]
        clear e1 e2 hn hr he
        go_enter Try.func29, Try.ntmps29
        go_wp2_with fail
        go_ret
        exact ⟨rfl, (Kept.refl _).alloc _⟩
      | false =>
        have hr : Bt.may1 ⟨false, k, v⟩ = decide (((bs v).size : Int) ≤ 100) := by
          rw [e2]
          by_cases hv0 : v.length ≤ 100
          · rw [decide_eq_true (by omega)]
            exact Bt.may1_iff.2 ⟨by simp only; omega, by simp only; omega, hv0, fun h => by cases h⟩
          · rw [decide_eq_false (by omega)]
            exact may1_no (.inr (.inr (.inl (by omega))))
        rw [hr]
        clear e1 e2 hn hr
        go_enter Try.func29, Try.ntmps29
        go_wp2_with fail
        go_ret
        exact ⟨rfl, (Kept.refl _).alloc _⟩
theorem may_len {l : List Bt.Op} (h : l.length < 1 ∨ 16 < l.length) : Bt.may l = false := by
  rw [Bool.eq_false_iff, ne_eq, Bt.may_iff]; omega
theorem may_one {l : List Bt.Op} {x : Bt.Op} (hx : x ∈ l) (h : Bt.may1 x = false) : Bt.may l = false := by
  rw [Bool.eq_false_iff, ne_eq, Bt.may_iff]
  rintro ⟨_, _, h3⟩
  rw [h3 x hx] at h
  cases h
theorem ballsnoc {l : List Bt.Op} {k : Nat} {x : Bt.Op} (hx : l[k]? = some x) : l.take (k + 1) = l.take k ++ [x] := by rw [List.take_add_one, hx]; rfl
theorem may_any (A : Option Addr) (c : Nat) (l : List Bt.Op) (hl : l.length ≤ maxLen) (hs : Sane l) (w : World) (hA : Ops w A l) :
    Calls Try.prog 16 #[.slice A l.length c] w fun e w' => e = .returned (.bool (Bt.may l)) ∧ Kept w w' := by
  have HS := Lib.hid hs; clear hs
  unfold maxLen at hl
  by_cases h1 : l.length < 1
  · rw [may_len (.inl h1)]
    have d1 : decide ((l.length : Int) < 1) = true := by simp; omega
    go_enter Try.func16, Try.ntmps16
    go_wp2_with fail
    go_ret
    exact ⟨rfl, Kept.refl _⟩
  · have d1 : decide ((l.length : Int) < 1) = false := by simp; omega
    by_cases h2 : 16 < l.length
    · rw [may_len (.inr h2)]
      have d2 : decide ((16 : Int) < (l.length : Int)) = true := by simp; omega
      go_enter Try.func16, Try.ntmps16
      go_wp2_with fail
      go_ret
      exact ⟨rfl, Kept.refl _⟩
    · have d2 : decide ((16 : Int) < (l.length : Int)) = false := by simp; omega
      have h16 : l.length ≤ 16 := by omega
      clear h1 h2 hl
      go_enter Try.func16, Try.ntmps16
      go_wp2_with fail
      go_loopw [15] (fun t wr => ∃ k : Nat, k ≤ l.length ∧ t = .int .i64 k ∧ Hid (∀ x ∈ l.take k, Bt.may1 x = true) ∧ Kept w wr) (fun t _ => l.length - (intOf t).toNat)
      case atStart => exact ⟨0, Nat.zero_le _, rfl, Lib.hid (fun x hx => by simp at hx), Kept.refl _⟩
      case round =>
        obtain ⟨k, hk, rfl, HF, hkr⟩ := hrel
        by_cases hlt : k < l.length
        · obtain ⟨x, hx⟩ : ∃ x, l[k]? = some x := ⟨_, List.getElem?_eq_getElem hlt⟩
          have hmem : x ∈ l := List.mem_of_getElem? hx
          obtain ⟨b, o, rfl, hb, c0, c1, c2⟩ := (hA.kept hkr) k x hx
          have hc := mayBe_any x (HS.out x hmem).1 (HS.out x hmem).2
          unfold opv at hc
          cases hm : Bt.may1 x with
          | true =>
            rw [hm] at hc
            have hn : ∀ y ∈ l.take (k + 1), Bt.may1 y = true := fun y hy => by
              rw [ballsnoc hx, List.mem_append] at hy
              rcases hy with hy | hy
              · exact HF.out y hy
              · simp at hy; rw [hy]; exact hm
            have HN := Lib.hid hn
            clear hn hx hmem hm HF
            go_wp2_with fail
            refine (hc _).mono ?_
            rintro e w1 ⟨rfl, g1⟩
            go_wp2_with fail
            go_roundw
            case rel => exact ⟨k + 1, by omega, by go_num, HN, kept_trans hkr (kept_trans ((Kept.refl _).alloc _) g1)⟩
            case measure => simp [intOf]; omega
          | false =>
            rw [hm] at hc
            have hr := may_one hmem hm
            have HR := Lib.hid hr
            clear hr hx hmem hm HF
            go_wp2_with fail
            refine (hc _).mono ?_
            rintro e w1 ⟨rfl, g1⟩
            go_wp2_with fail
            go_ret
            exact ⟨by rw [HR.out]; rfl, kept_trans hkr (kept_trans ((Kept.refl _).alloc _) g1)⟩
        · have e : k = l.length := by omega
          subst e
          have hr : Bt.may l = true := Bt.may_iff.2 ⟨by have := of_decide_eq_false d1; omega, h16, fun x hx => HF.out x (by rw [List.take_length]; exact hx)⟩
          have HR := Lib.hid hr
          clear hr
          go_wp2_with fail
          go_ret
          exact ⟨by rw [HR.out]; rfl, hkr⟩
theorem numbered_any (n : Int) (c : Nat) (h1 : 0 ≤ n) (h2 : n ≤ 18446744073709551615) (hc : c ≤ 16) (w : World) :
    Calls Try.prog 22 #[.int .u64 n, .int .i64 c] w fun e w' => e = .returned (.bool (Bt.nums n.toNat c)) ∧ w = w' := by
  by_cases h0 : 1 ≤ n
  · have hr : Bt.nums n.toNat c = decide (n ≤ 1099511627777 - (c : Int)) := by
      unfold Bt.nums
      rw [decide_eq_true (by omega : 1 ≤ n.toNat), Bool.true_and]
      rw [Bool.eq_iff_iff, decide_eq_true_iff, decide_eq_true_iff]
      omega
    rw [hr]
    clear hr
    have d1 : decide ((1 : Int) ≤ n) = true := decide_eq_true h0
    go_enter Try.func22, Try.ntmps22
    go_wp2_with fail
    go_ret
    refine ⟨ret_bool ?_, rfl⟩
    rw [Bool.eq_iff_iff, decide_eq_true_iff, decide_eq_true_iff]
    omega
  · have hr : Bt.nums n.toNat c = false := by
      rw [Bool.eq_false_iff, ne_eq, Bt.nums_iff]; omega
    rw [hr]
    have d1 : decide ((1 : Int) ≤ n) = false := decide_eq_false h0
    clear hr
    go_enter Try.func22, Try.ntmps22
    go_wp2_with fail
    go_ret
    exact ⟨rfl, rfl⟩
theorem sized_any (t : List UInt8) (ht : t.length ≤ 100) (w : World) :
    Calls Try.prog 25 #[.string (bs t)] w fun e w' => e = .returned (.string (bs (Bt.sized t))) ∧ Kept w w' := by
  have hz := fbs_size t
  have hsh := short_any ((bs t).size : Int) (by omega) (by omega)
  have e1 : bs (Nm.short t.length) ++ bs t = bs (Bt.sized t) := fbs_app _ _
  have z1 : (bs (Nm.short t.length)).size = 1 := by rw [fbs_size, Nm.short_len _ (by omega), Nm.sz_small _ (by omega)]
  rw [Int.toNat_natCast, hz] at hsh
  have hz2 : (bs t).size ≤ 100 := by omega
  have HZ := Lib.hid hz; have HE := Lib.hid e1
  clear hz e1
  go_enter Try.func25, Try.ntmps25
  go_wp2_with fail
  rw [HZ.out]
  refine (hsh _).mono ?_
  rintro e w1 ⟨rfl, g1⟩
  go_wp2_with fail
  go_ret
  exact ⟨by rw [← HE.out]; rfl, g1⟩
end Go.Proofs.Ytalcmiaohclnjaa
