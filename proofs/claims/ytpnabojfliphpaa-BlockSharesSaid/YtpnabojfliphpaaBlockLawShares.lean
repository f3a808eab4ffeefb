/-
  The walk of screelaw09.BlockShares.
-/
import Derived.Test.YtpnabojfliphpaaBlockAwake
namespace Go.Proofs.Ytpnabojfliphpaa
open Go.ChangeShapes Go.WideShapes Go.ChangeAt Go.RowKit
set_option linter.unusedVariables false
set_option maxRecDepth 100000
set_option maxHeartbeats 4000000

theorem kshared_n (a b : List UInt8) (ha : a.length ≤ maxLen) (hb : b.length ≤ maxLen) (W : World) (n : Nat) :
    Calls Try.prog 18 #[.string (bs a), .string (bs b)] (W.drewN n) fun e w' => e = .returned (.int .i64 (Bk.sh a b : Nat)) ∧ ∃ q, w' = W.drewN q :=
  (kshared_q a b ha hb (W.drewN n)).mono fun e w' ⟨h1, q, h2⟩ => ⟨h1, by rw [h2]; exact drew_more ⟨n, rfl⟩ q⟩
theorem BlockShares_walk (S1 S2 S3 : ByteArray) {w : World} (h1 : S1.size ≤ maxLen) (h2 : S2.size ≤ maxLen) (h3 : S3.size ≤ maxLen) :
    Calls Try.prog 9 #[.string S1, .string S2, .string S3] w fun e w' => e = .returned (.bool true) ∧ Kept w w' := by
  obtain ⟨a, rfl, ea⟩ : ∃ K, S1 = bs K ∧ K.length = S1.size := ⟨S1.data.toList, (mbs_self S1).symm, by simp⟩
  obtain ⟨b, rfl, eb⟩ : ∃ K, S2 = bs K ∧ K.length = S2.size := ⟨S2.data.toList, (mbs_self S2).symm, by simp⟩
  obtain ⟨m, rfl, em⟩ : ∃ K, S3 = bs K ∧ K.length = S3.size := ⟨S3.data.toList, (mbs_self S3).symm, by simp⟩
  unfold maxLen at h1 h2 h3
  by_cases l1 : 300 < (bs a).size
  · have d1 : decide ((300 : Int) < ((bs a).size : Int)) = true := decide_eq_true (by omega)
    clear ea eb em
    go_enter Try.func9, Try.ntmps9
    go_wp2_with fail
    refine (kawake_any w).mono ?_
    rintro e w1 ⟨rfl, g1⟩
    go_wp2_with fail
    go_ret
    exact ⟨rfl, g1⟩
  · have d1 : decide ((300 : Int) < ((bs a).size : Int)) = false := decide_eq_false (by omega)
    by_cases l2 : 300 < (bs b).size
    · have d2 : decide ((300 : Int) < ((bs b).size : Int)) = true := decide_eq_true (by omega)
      clear ea eb em
      go_enter Try.func9, Try.ntmps9
      go_wp2_with fail
      refine (kawake_any w).mono ?_
      rintro e w1 ⟨rfl, g1⟩
      go_wp2_with fail
      go_ret
      exact ⟨rfl, g1⟩
    · have d2 : decide ((300 : Int) < ((bs b).size : Int)) = false := decide_eq_false (by omega)
      by_cases l3 : 300 < (bs m).size
      · have d3 : decide ((300 : Int) < ((bs m).size : Int)) = true := decide_eq_true (by omega)
        clear ea eb em
        go_enter Try.func9, Try.ntmps9
        go_wp2_with fail
        refine (kawake_any w).mono ?_
        rintro e w1 ⟨rfl, g1⟩
        go_wp2_with fail
        go_ret
        exact ⟨rfl, g1⟩
      · have d3 : decide ((300 : Int) < ((bs m).size : Int)) = false := decide_eq_false (by omega)
        have HAB := Lib.hid (kshared_any a b (by unfold maxLen; omega) (by unfold maxLen; omega))
        have HBA := Lib.hid (kshared_n b a (by unfold maxLen; omega) (by unfold maxLen; omega))
        have HAA := Lib.hid (kshared_any a a (by unfold maxLen; omega) (by unfold maxLen; omega))
        have hmm := kshared_any (m ++ a) (m ++ b) (by rw [List.length_append]; unfold maxLen; omega) (by rw [List.length_append]; unfold maxLen; omega)
        rw [Bk.sh_app, ← fbs_app, ← fbs_app] at hmm
        have HMM := Lib.hid hmm
        rw [Bk.sh_comm b a] at HBA
        rw [Bk.sh_self a] at HAA
        have q1 := Bk.sh_le a b
        have HT := Lib.hid (Bk.sh_take a b)
        have HX := Lib.hid (Bk.sh_end a b)
        generalize Bk.sh a b = n at *
        have hna : n ≤ (bs a).size := by omega
        have hnb : n ≤ (bs b).size := by omega
        have x1 : (bs a).extract 0 n = bs (a.take n) := extract_take a n
        have x2 : (bs b).extract 0 n = bs (a.take n) := by rw [HT.out]; exact extract_take b n
        have hmn : min ((bs a).size : Int) ((bs b).size : Int) = ((min (bs a).size (bs b).size : Nat) : Int) := by omega
        have c1 : decide (min (bs a).size (bs b).size < n) = false := decide_eq_false (by omega)
        have c0 : decide ((n : Int) < 0) = false := decide_eq_false (by omega)
        have z1 : (bs m ++ bs a).size ≤ 600 := by rw [ByteArray.size_append]; omega
        have z2 : (bs m ++ bs b).size ≤ 600 := by rw [ByteArray.size_append]; omega
        have em2 : (m.length : Int) = ((bs m).size : Int) := by omega
        have em3 : ((m.length + n : Nat) : Int) = ((bs m).size : Int) + (n : Int) := by omega
        have ea2 : (a.length : Int) = ((bs a).size : Int) := by omega
        rw [em3] at HMM
        rw [ea2] at HAA
        clear hmm
        by_cases hlt : n < min (bs a).size (bs b).size
        · have hna2 : n < (bs a).size := by omega
          have hnb2 : n < (bs b).size := by omega
          have c2 : decide (n < min (bs a).size (bs b).size) = true := decide_eq_true (by omega)
          have hne : (((bs a)[n].toNat : Int) == ((bs b)[n].toNat : Int)) = false := by
            rw [beq_eq_false_iff_ne]
            intro q
            have hq : (bs a)[n] = (bs b)[n] := UInt8.toNat_inj.1 (by omega)
            refine HX.out (by omega) (by omega) ?_
            rw [List.getElem?_eq_getElem (show n < a.length by omega), List.getElem?_eq_getElem (show n < b.length by omega)]
            exact congrArg some hq
          clear ea eb em em2 em3 ea2 hlt
          generalize hM : min (bs a).size (bs b).size = M at *
          have HM := Lib.hid hM
          clear hM
          go_enter Try.func9, Try.ntmps9
          go_wp2_with fail
          refine (kawake_any w).mono ?_
          rintro e w1 ⟨rfl, g1⟩
          go_wp2_with fail
          refine (HAB.out _).mono ?_
          rintro e w2 ⟨rfl, g2⟩
          have HBA2 := Lib.hid (HBA.out w2)
          go_wp2_with fail
          go_quiet ((go_at_call 18; exact HBA2.out _))
          go_wp2_with fail
          refine (HMM.out _).mono ?_
          rintro e w3 ⟨rfl, g3⟩
          go_wp2_with fail
          refine (HAA.out _).mono ?_
          rintro e w4 ⟨rfl, g4⟩
          go_wp2_with fail
          go_ret
          exact ⟨rfl, kept_trans g1 (kept_trans g2 (kept_trans (kept_drewN _ _) (kept_trans g3 g4)))⟩
        · have c2 : decide (n < min (bs a).size (bs b).size) = false := decide_eq_false (by omega)
          clear ea eb em em2 em3 ea2 hlt
          generalize hM : min (bs a).size (bs b).size = M at *
          have HM := Lib.hid hM
          clear hM
          go_enter Try.func9, Try.ntmps9
          go_wp2_with fail
          refine (kawake_any w).mono ?_
          rintro e w1 ⟨rfl, g1⟩
          go_wp2_with fail
          refine (HAB.out _).mono ?_
          rintro e w2 ⟨rfl, g2⟩
          have HBA2 := Lib.hid (HBA.out w2)
          go_wp2_with fail
          go_quiet ((go_at_call 18; exact HBA2.out _))
          go_wp2_with fail
          refine (HMM.out _).mono ?_
          rintro e w3 ⟨rfl, g3⟩
          go_wp2_with fail
          refine (HAA.out _).mono ?_
          rintro e w4 ⟨rfl, g4⟩
          go_wp2_with fail
          go_ret
          exact ⟨rfl, kept_trans g1 (kept_trans g2 (kept_trans (kept_drewN _ _) (kept_trans g3 g4)))⟩
end Go.Proofs.Ytpnabojfliphpaa
