/-
  Package level over memory: may a meta be; ranges.
-/
import Derived.Test.YtnnmalpnjlnnlaaGreatLevelMem
import Derived.Shelf.SlSorted.Search
import Derived.BigQuiet
import Derived.CellFam
namespace Go.Proofs.YtnnmalpnjlnnlaaGreat
open Go.ChangeShapes Go.WideShapes Go.ChangeAt Go.RowKit
set_option linter.unusedVariables false
set_option maxRecDepth 100000
set_option maxHeartbeats 8000000
open Lv
theorem lvbs_size (l : List UInt8) : (bs l).size = l.length := by simp [bs, ByteArray.size]
theorem lvbs_list (l : List UInt8) : (bs l).toList = l := by rw [Lib.toList_data, bs_data]
theorem lvnum_any (n : Nat) (hn : n ≤ 18446744073709551615) (w : World) : Calls Tryz.prog 69 #[.int .u64 (n : Nat)] w fun e w' => e = .returned (.bool (isN n)) ∧ w' = w := by
  unfold isN
  by_cases h : 1 ≤ n
  · have d1 : decide ((1 : Int) ≤ (n : Int)) = true := decide_eq_true (by omega)
    rw [show decide (1 ≤ n) = true from decide_eq_true h, Bool.true_and]
    go_enter Tryz.func69, Tryz.ntmps69
    go_wp2_with fail
    go_ret
    exact ⟨by simp; omega, rfl⟩
  · have d1 : decide ((1 : Int) ≤ (n : Int)) = false := decide_eq_false (by omega)
    rw [show decide (1 ≤ n) = false from decide_eq_false h, Bool.false_and]
    go_enter Tryz.func69, Tryz.ntmps69
    go_wp2_with fail
    go_ret
    exact ⟨rfl, rfl⟩
theorem lvkey_any (s : List UInt8) (hs : s.length ≤ maxLen) (w : World) : Calls Tryz.prog 70 #[.string (bs s)] w fun e w' => e = .returned (.bool (isK s)) ∧ w' = w := by
  have e1 := lvbs_size s
  unfold isK
  by_cases h : 1 ≤ s.length
  · have d1 : decide ((1 : Int) ≤ ((bs s).size : Int)) = true := decide_eq_true (by rw [e1]; omega)
    rw [show decide (1 ≤ s.length) = true from decide_eq_true h, Bool.true_and]
    by_cases h2 : s.length ≤ 100
    · have d2 : decide (((bs s).size : Int) ≤ 100) = true := decide_eq_true (by rw [e1]; omega)
      rw [show decide (s.length ≤ 100) = true from decide_eq_true h2]
      clear e1
      go_enter Tryz.func70, Tryz.ntmps70
      go_wp2_with fail
      go_ret
      exact ⟨rfl, rfl⟩
    · have d2 : decide (((bs s).size : Int) ≤ 100) = false := decide_eq_false (by rw [e1]; omega)
      rw [show decide (s.length ≤ 100) = false from decide_eq_false h2]
      clear e1
      go_enter Tryz.func70, Tryz.ntmps70
      go_wp2_with fail
      go_ret
      exact ⟨rfl, rfl⟩
  · have d1 : decide ((1 : Int) ≤ ((bs s).size : Int)) = false := decide_eq_false (by rw [e1]; omega)
    rw [show decide (1 ≤ s.length) = false from decide_eq_false h, Bool.false_and]
    clear e1
    go_enter Tryz.func70, Tryz.ntmps70
    go_wp2_with fail
    go_ret
    exact ⟨rfl, rfl⟩
theorem le_spell (a b : List UInt8) : (Op.bytesLess (bs a).toList (bs b).toList || (bs a).toList == (bs b).toList) = le a b := by
  rw [lvbs_list, lvbs_list, Mm.less_eq]
  unfold le
  rw [Bool.eq_iff_iff]
  simp
theorem lvmay_any (x : Meta) (hx : Sane x) (w : World) : Calls Tryz.prog 28 #[mtv x] w fun e w' => e = .returned (.bool (may x)) ∧ Kept w w' := by
  obtain ⟨f, z, a, b, s⟩ := x
  obtain ⟨b1, b2, b3, b4, b5, b6⟩ := hx
  simp only at b1 b2 b3 b4 b5 b6
  obtain ⟨y, hy⟩ : ∃ y : Nat, IntKind.u64.wrap z = (y : Int) ∧ y ≤ 18446744073709551615 ∧ isN y = isZ z := by
    by_cases hz : 0 ≤ z
    · refine ⟨z.toNat, by rw [IntKind.wrap_u64]; omega, by omega, ?_⟩
      unfold isN isZ
      rw [Bool.eq_iff_iff]; simp; omega
    · refine ⟨(z + 18446744073709551616).toNat, by rw [IntKind.wrap_u64]; omega, by omega, ?_⟩
      unfold isN isZ
      rw [Bool.eq_iff_iff]; simp; omega
  obtain ⟨hw, hy1, hy2⟩ := hy
  have HN1 := Lib.hid (fun W => lvnum_any f b1 W)
  have HN2 := Lib.hid (fun W => lvnum_any y hy1 W)
  have HN3 := Lib.hid (fun W => lvnum_any s b6 W)
  have HK1 := Lib.hid (fun W => lvkey_any a b4 W)
  have HK2 := Lib.hid (fun W => lvkey_any b b5 W)
  have hle := le_spell a b
  have hmay : may ⟨f, z, a, b, s⟩ = (isN f && isN y && isN s && isK a && isK b && le a b) := by rw [hy2]; rfl
  rw [hmay]
  clear hmay hy2
  unfold mtv
  generalize isN f = t1 at *
  generalize isN y = t2 at *
  generalize isN s = t3 at *
  generalize isK a = t4 at *
  generalize isK b = t5 at *
  generalize le a b = t6 at *
  simp only
  cases t1
  · go_enter Tryz.func28, Tryz.ntmps28
    go_wp2_with fail
    refine (HN1.out _).mono ?_
    rintro e w' ⟨rfl, rfl⟩
    go_wp2_with fail
    go_ret
    exact ⟨by simp, (Kept.refl _).alloc _⟩
  · skip
    cases t2
    · go_enter Tryz.func28, Tryz.ntmps28
      go_wp2_with fail
      refine (HN1.out _).mono ?_
      rintro e w' ⟨rfl, rfl⟩
      go_wp2_with fail
      refine (HN2.out _).mono ?_
      rintro e w' ⟨rfl, rfl⟩
      go_wp2_with fail
      go_ret
      exact ⟨by simp, (Kept.refl _).alloc _⟩
    · skip
      cases t3
      · go_enter Tryz.func28, Tryz.ntmps28
        go_wp2_with fail
        refine (HN1.out _).mono ?_
        rintro e w' ⟨rfl, rfl⟩
        go_wp2_with fail
        refine (HN2.out _).mono ?_
        rintro e w' ⟨rfl, rfl⟩
        go_wp2_with fail
        refine (HN3.out _).mono ?_
        rintro e w' ⟨rfl, rfl⟩
        go_wp2_with fail
        go_ret
        exact ⟨by simp, (Kept.refl _).alloc _⟩
      · skip
        cases t4
        · go_enter Tryz.func28, Tryz.ntmps28
          go_wp2_with fail
          refine (HN1.out _).mono ?_
          rintro e w' ⟨rfl, rfl⟩
          go_wp2_with fail
          refine (HN2.out _).mono ?_
          rintro e w' ⟨rfl, rfl⟩
          go_wp2_with fail
          refine (HN3.out _).mono ?_
          rintro e w' ⟨rfl, rfl⟩
          go_wp2_with fail
          refine (HK1.out _).mono ?_
          rintro e w' ⟨rfl, rfl⟩
          go_wp2_with fail
          go_ret
          exact ⟨by simp, (Kept.refl _).alloc _⟩
        · skip
          cases t5
          · go_enter Tryz.func28, Tryz.ntmps28
            go_wp2_with fail
            refine (HN1.out _).mono ?_
            rintro e w' ⟨rfl, rfl⟩
            go_wp2_with fail
            refine (HN2.out _).mono ?_
            rintro e w' ⟨rfl, rfl⟩
            go_wp2_with fail
            refine (HN3.out _).mono ?_
            rintro e w' ⟨rfl, rfl⟩
            go_wp2_with fail
            refine (HK1.out _).mono ?_
            rintro e w' ⟨rfl, rfl⟩
            go_wp2_with fail
            refine (HK2.out _).mono ?_
            rintro e w' ⟨rfl, rfl⟩
            go_wp2_with fail
            go_ret
            exact ⟨by simp, (Kept.refl _).alloc _⟩
          · go_enter Tryz.func28, Tryz.ntmps28
            go_wp2_with fail
            refine (HN1.out _).mono ?_
            rintro e w' ⟨rfl, rfl⟩
            go_wp2_with fail
            refine (HN2.out _).mono ?_
            rintro e w' ⟨rfl, rfl⟩
            go_wp2_with fail
            refine (HN3.out _).mono ?_
            rintro e w' ⟨rfl, rfl⟩
            go_wp2_with fail
            refine (HK1.out _).mono ?_
            rintro e w' ⟨rfl, rfl⟩
            go_wp2_with fail
            refine (HK2.out _).mono ?_
            rintro e w' ⟨rfl, rfl⟩
            go_wp2_with fail
            go_ret
            exact ⟨by simp, (Kept.refl _).alloc _⟩
end Go.Proofs.YtnnmalpnjlnnlaaGreat
