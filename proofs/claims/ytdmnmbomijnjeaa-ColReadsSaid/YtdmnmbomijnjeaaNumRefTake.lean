/-
  What the document's own Take (package screeref01) computes, for every string: the same as the program's Take.
-/
import Derived.Test.YtdmnmbomijnjeaaNumRef
import Derived.Deep.RegionWith
namespace Go.Proofs.Ytdmnmbomijnjeaa
open Go.ChangeShapes Go.WideShapes Go.ChangeAt Go.RowKit
set_option linter.unusedVariables false
set_option maxRecDepth 100000
set_option maxHeartbeats 400000
theorem kept_of_drew {w w1 : World} (h : Kept w.drew w1) : Kept w w1 := ⟨(Below.os h :), (Below.tape h :), (Below.output h :), (Below.size h :), (Below.block h :)⟩
theorem md_le (n : Nat) : (0 : Int) ≤ ((md n : Nat) : Int) ∧ ((md n : Nat) : Int) ≤ 18446744073709551615 := by unfold md; omega
/-- the place's value in round k -/
def pl (k : Nat) : Nat := 128 ^ k % 18446744073709551616
theorem racc_step (V k : Nat) (c : UInt8) :
    IntKind.u64.wrap (((md V : Nat) : Int) + IntKind.u64.wrap (((c.toNat : Nat) : Int) % 128 * ((pl k : Nat) : Int))) = ((md (V + c.toNat % 128 * 128 ^ k) : Nat) : Int) := by
  rw [IntKind.wrap_u64, IntKind.wrap_u64]
  unfold md pl
  generalize 128 ^ k = p
  have hx : ((c.toNat : Nat) : Int) % 128 = ((c.toNat % 128 : Nat) : Int) := by omega
  rw [hx]
  generalize c.toNat % 128 = x
  have e : ((x : Int) * ((p % 18446744073709551616 : Nat) : Int)) % 18446744073709551616 = ((x * p % 18446744073709551616 : Nat) : Int) := by
    rw [← Int.natCast_mul]
    have h := Nat.mul_mod x (p % 18446744073709551616) 18446744073709551616
    rw [Nat.mod_mod, ← Nat.mul_mod] at h
    rw [← h]; rfl
  rw [e]
  generalize x * p = q
  omega
theorem rplace_step (k : Nat) : IntKind.u64.wrap (((pl k : Nat) : Int) * 128) = ((pl (k + 1) : Nat) : Int) := by
  rw [IntKind.wrap_u64]
  unfold pl
  rw [Nat.pow_succ]
  generalize 128 ^ k = p
  omega
set_option maxRecDepth 100000 in
theorem rtake_any (s : ByteArray) (hs : s.size ≤ maxLen) (w : World) :
    Calls Try.prog 48 #[.string s] w fun e w' => e = .returned (.tuple #[.int .u64 (Nm.takeN s.data.toList), .string (bs (Nm.takeR s.data.toList)), .bool (Nm.takeB s.data.toList)]) ∧ Kept w w' := by
  unfold maxLen at hs
  go_enter Try.func48, Try.ntmps48
  go_wp2_with fail
  go_loop [5, 6, 7] (fun t p i => ∃ k : Nat, k ≤ 10 ∧ k ≤ s.size ∧ i = .int .i64 k ∧ t = .int .u64 (md (Nm.val (s.data.toList.take k))) ∧ p = .int .u64 (pl k) ∧ Nm.More s.data.toList k) (fun _ _ i => 10 - (intOf i).toNat)
  case atStart => exact ⟨0, Nat.zero_le _, Nat.zero_le _, rfl, rfl, rfl, Nm.More.zero _⟩
  case round =>
    obtain ⟨k, hk, hks, rfl, rfl, rfl, hM⟩ := hrel
    have hsl : s.data.toList.length = s.size := by simp
    have HL := Lib.hid hsl; clear hsl
    by_cases hlt : k < 10 ∧ k < s.size
    · obtain ⟨hk1, hk2⟩ := hlt
      have hc8 := s[k].toNat_lt
      have HV := Lib.hid (val_step s k hk2)
      have HA := Lib.hid (racc_step (Nm.val (s.data.toList.take k)) k s[k])
      have HP := Lib.hid (rplace_step k)
      have HG := Lib.hid (getD_of s k hk2)
      have hcw : IntKind.u64.wrap (s[k].toNat : Int) = s[k].toNat := by rw [IntKind.wrap_u64]; omega
      by_cases hc : 128 ≤ s[k].toNat
      · go_wp2_with fail
        go_round
        case rel => exact ⟨k + 1, by omega, by omega, by go_num, by rw [HV.out, HA.out], by rw [HP.out], hM.next (by rw [HL.out]; exact hk2) (by rw [HG.out]; exact hc)⟩
        case measure => simp [intOf]; omega
      · have HT := Lib.hid (hM.last hk1 (by rw [HL.out]; exact hk2) (by rw [HG.out]; exact hc))
        have HS := Lib.hid (hM.same hk1 (by rw [HL.out]; exact hk2) (by rw [HG.out]; exact hc))
        have hx : (s.extract 0 (k + 1)).toList = s.data.toList.take (k + 1) := by rw [Lib.toList_data, Lib.extract_data]; simp
        have HX := Lib.hid hx; clear hx
        go_wp2_with fail
        rw [HA.out, ← HV.out]
        obtain ⟨m1, m2⟩ := md_le (Nm.val (s.data.toList.take (k + 1)))
        generalize hM2 : md (Nm.val (s.data.toList.take (k + 1))) = M at *
        have HM2 := Lib.hid hM2; clear hM2
        have hsame : ((bs (Nm.short M)).toList == (s.extract 0 (k + 1)).toList) = Nm.endB k s[k] := by
          rw [HX.out, Lib.toList_data, bs_data, Bool.eq_iff_iff, beq_iff_eq, ← HM2.out]
          rw [← HG.out]; exact HS.out
        have HQ := Lib.hid hsame; clear hsame
        have q1 : IntKind.i64.wrap ((k : Int) + 1) = (k : Int) + 1 := IntWalk.i64_in _ (by omega)
        have q2 : (0 : Int) ≤ (k : Int) + 1 := by omega
        have q3 : ((k : Int) + 1).toNat = k + 1 := by omega
        have q4 : k + 1 ≤ s.size := by omega
        have q5 : (k : Int) + 1 ≤ (s.size : Int) := by omega
        rcases Bool.eq_false_or_eq_true (Nm.endB k s[k]) with he | he
        · have hb1 : ((bs (Nm.short M)).toList == (s.extract 0 (k + 1)).toList) = true := by rw [HQ.out, he]
          go_region_with (go_at_call 30; refine (rshort_any _ m1 m2 _).mono ?_; rintro e w1 ⟨rfl, g1⟩; rw [Int.toNat_natCast])
          go_wp2_with fail
          go_quiet (fail)
          clear q1 q3
          go_wp2_with fail
          go_ret3
          rw [extract_end]
          have hT := HT.out
          rw [HG.out, if_pos he] at hT
          have hm := HM2.out
          rw [md_id (Nm.take_back _ _ _ hT).2] at hm
          exact ⟨ret_take _ hT (by rw [hm]; rfl) rfl rfl, kept_trans (kept_of_drew g1) (kept_drewN _ _)⟩
        · have hb1 : ((bs (Nm.short M)).toList == (s.extract 0 (k + 1)).toList) = false := by rw [HQ.out, he]
          go_region_with (go_at_call 30; refine (rshort_any _ m1 m2 _).mono ?_; rintro e w1 ⟨rfl, g1⟩; rw [Int.toNat_natCast])
          clear q1 q3
          go_wp2_with fail
          go_ret3
          exact ⟨ret_take none (by rw [HT.out, HG.out, he]; rfl) rfl rfl rfl, kept_of_drew g1⟩
    · go_wp2_with fail
      all_goals
        go_ret3
        exact ⟨ret_take none (hM.nothing (by rw [HL.out]; omega)) rfl rfl rfl, Kept.refl _⟩
end Go.Proofs.Ytdmnmbomijnjeaa
