/-
  FrameTurned of the statements of layer 4 returns true, whatever string, byte and turn.
-/
import Derived.Test.YtbaekbddfnfbeaaFrameLawTakes
import Derived.OpenShut
namespace Go.Proofs.Ytbaekbddfnfbeaa
open Go.ChangeShapes Go.WideShapes Go.ChangeAt Go.RowKit
set_option linter.unusedVariables false
set_option maxHeartbeats 1000000

theorem fkept_set {w w' : World} (h : Kept w w') {a : Addr} (ha : w.heap.size ≤ a.block) (u : Value) : Kept w (w'.setCell a u) := Below.setCell h ha u
/-- a row of just laid bytes of which one is turned, as a string -/
theorem turn_conv {W0 : World} {b L cap k : Nat} {M : List UInt8} (hL : L = M.length) (hcell : ∀ j, j < L → W0.cell? ⟨b, j, none⟩ = some (.int .u8 ((M.getD j 0).toNat : Int))) (hk : k < L) (x : UInt8) :
    (convert 39 9 (.slice (some ⟨b, 0, none⟩) L cap)).run Try.prog (W0.setCell ⟨b, k, none⟩ (.int .u8 ((x.toNat : Nat) : Int))) = .ok (.string (bs (M.set k x))) (W0.setCell ⟨b, k, none⟩ (.int .u8 ((x.toNat : Nat) : Int))) := by
  refine conv_cells (M.set k x) (by simp [hL]) ?_
  intro j hj
  have hj1 : j < M.length := by simpa using hj
  by_cases hjk : j = k
  · subst hjk
    rw [World.cell?_setCell_same (h := hcell j hk)]
    simp
  · rw [World.cell?_setCell_other _ _ _ _ (by simp), hcell j (by omega)]
    rw [List.getElem_set_ne (by omega)]
    simp [List.getD_eq_getElem?_getD, hj1]
set_option maxRecDepth 100000 in
theorem turned_go (s : ByteArray) (t : Int) (d : UInt8) (h8 : s.size ≤ 8000) (ht0 : 0 ≤ t) (ht1 : t ≤ 65535) (hd0 : (((d.toNat : Nat) : Int) == 0) = false) (M : List UInt8) (k : Nat)
    (HM : Hid (∀ w, Calls Try.prog 19 #[.string s] w fun e w' => e = .returned (.tuple #[.string (bs M), .int .i64 0]) ∧ Kept w w'))
    (hM : (bs M).size ≤ 9000) (hM2 : s.size + 2 ≤ (bs M).size) (hk : k < (bs M).size) (hkk : wrap64 (((bs M).size : Int) - 1 - t % ((s.size : Int) + 1)) = (k : Int))
    (HT : Hid (∀ w, Calls Try.prog 15 #[.string (bs (M.set k (M.getD k 0 ^^^ d)))] w fun e w' => e = .returned (.tuple #[.string (bs []), .string (bs []), .int .i64 2]) ∧ Kept w w')) (w : World) :
    Calls Try.prog 7 #[.string s, .int .u16 t, .int .u8 ((d.toNat : Nat) : Int)] w fun e w' => e = .returned (.bool true) ∧ Kept w w' := by
  have d1 : decide ((8000 : Int) < (s.size : Int)) = false := by simp; omega
  have d2 : decide (((bs M).size : Int) < (s.size : Int) + 2) = false := by simp; omega
  have hE : ((bs []).toList == []) = true := by rw [Lib.toList_data]; rfl
  go_enter Try.func7, Try.ntmps7
  go_wp2_with fail
  refine (fawake_any _).mono ?_
  rintro e w1 ⟨rfl, g1⟩
  go_wp2_with fail
  refine (HM.out _).mono ?_
  rintro e w2 ⟨rfl, g2⟩
  obtain ⟨W0, cap, hcv, hsz, hcell, hfr, hkp⟩ := conv_str (bs M) w2
  rw [bs_data] at hcell
  have hc2 := turn_conv (b := w2.heap.size) (cap := cap) (fbs_size M) hcell hk (M.getD k 0 ^^^ d)
  have hck := hcell k hk
  have hfk := hfr k hk
  have HX := Lib.hid (b_xor8 (M.getD k 0) d)
  have HC2 := Lib.hid hc2; have HSZ := Lib.hid hsz
  clear hc2 hcell hfr hsz
  generalize M.getD k 0 = x at *
  go_wp2_with fail
  rw [HX.out, HC2.out]
  go_wp2_with fail
  refine (HT.out _).mono ?_
  rintro e w3 ⟨rfl, g3⟩
  go_wp2_with fail
  go_ret
  exact ⟨rfl, kept_trans g1 (kept_trans g2 (kept_trans (fkept_set hkp (Nat.le_refl _) _) g3))⟩
theorem turned_not (s : ByteArray) (t y : Int) (hs : s.size ≤ maxLen) (h : 8000 < s.size ∨ y = 0) (w : World) :
    Calls Try.prog 7 #[.string s, .int .u16 t, .int .u8 y] w fun e w' => e = .returned (.bool true) ∧ Kept w w' := by
  unfold maxLen at hs
  by_cases h8 : 8000 < s.size
  · have d1 : decide ((8000 : Int) < (s.size : Int)) = true := by simp; omega
    go_enter Try.func7, Try.ntmps7
    go_wp2_with fail
    refine (fawake_any _).mono ?_
    rintro e w1 ⟨rfl, g1⟩
    go_wp2_with fail
    go_ret
    exact ⟨rfl, g1⟩
  · have d1 : decide ((8000 : Int) < (s.size : Int)) = false := by simp; omega
    have hy : y = 0 := by omega
    subst hy
    go_enter Try.func7, Try.ntmps7
    go_wp2_with fail
    refine (fawake_any _).mono ?_
    rintro e w1 ⟨rfl, g1⟩
    go_wp2_with fail
    go_ret
    exact ⟨rfl, g1⟩
theorem FrameTurned_walk {w : World} (s : ByteArray) (t y : Int) (hs : s.size ≤ maxLen) (ht : (Lit.int .u16 t).wf = true) (hy : (Lit.int .u8 y).wf = true) :
    Calls Try.prog 7 #[.string s, .int .u16 t, .int .u8 y] w fun e w' => e = .returned (.bool true) ∧ Kept w w' := by
  have hb := bounds_u8 hy
  have htb : 0 ≤ t ∧ t ≤ 65535 := by
    simp [Lit.wf, IntKind.min, IntKind.max, IntKind.signed, IntKind.bits] at ht
    omega
  by_cases hn : 8000 < s.size ∨ y = 0
  · exact turned_not s t y hs hn w
  · have h8 : s.size ≤ 8000 := by omega
    have hl8 : s.data.toList.length ≤ 8000 := by rw [toList_size]; exact h8
    have hy0 : y ≠ 0 := by omega
    obtain ⟨d, rfl⟩ : ∃ d : UInt8, y = ((d.toNat : Nat) : Int) := ⟨y.toNat.toUInt8, by rw [Nm.u8_of _ (by omega)]; omega⟩
    have hd : d ≠ 0 := by rintro rfl; exact hy0 rfl
    have HM := make_any s hs
    obtain ⟨e1, e2⟩ := fmk_yes h8
    rw [e1, e2] at HM
    have hml := Fr.mk_len _ hl8
    have hm2 := Fr.mk_lens _ hl8
    rw [toList_size] at hml hm2
    have hmod : t % ((s.size : Int) + 1) = ((t.toNat % (s.size + 1) : Nat) : Int) := by
      rw [Int.natCast_emod, Int.toNat_of_nonneg htb.1]; rfl
    have hj : t.toNat % (s.size + 1) ≤ s.size := by have := Nat.mod_lt t.toNat (show 0 < s.size + 1 by omega); omega
    generalize t.toNat % (s.size + 1) = j0 at hmod hj
    have hnone := Fr.turned hl8 (j := s.size - j0) (by rw [toList_size]; omega) hd
    rw [toList_size] at hnone
    have hTk := ftake_any (bs ((Fr.mk s.data.toList).set (Nm.sz s.size + (s.size - j0)) ((Fr.mk s.data.toList).getD (Nm.sz s.size + (s.size - j0)) 0 ^^^ d))) (by rw [fbs_size, List.length_set]; unfold maxLen; omega)
    rw [bs_data] at hTk
    obtain ⟨f1, f2, f3⟩ := takeT_no (by intro e; have := congrArg List.length e; rw [List.length_set] at this; simp at this; exact Fr.mk_ne _ this) hnone
    rw [f1, f2, f3] at hTk
    refine turned_go s t d h8 htb.1 htb.2 (by simpa using hy0) _ (Nm.sz s.size + (s.size - j0)) (Lib.hid HM) (by rw [fbs_size]; omega) (by rw [fbs_size]; omega) (by rw [fbs_size]; omega) ?_ (Lib.hid hTk) w
    rw [fbs_size, hmod, hml, IntWalk.wrap64_in _ (by constructor <;> omega)]
    omega
end Go.Proofs.Ytbaekbddfnfbeaa
