/-
  A slice of numbers of 64 bits as the library's sort finds it: which number the parting is made round; what scatters some.
-/
import Derived.Test.YtnnmalpnjlnnlaaGreatSortU
import Derived.Test.YtnnmalpnjlnnlaaGreatLaysL
import Derived.Shelf.SlSortCmp.Xorshift
import Derived.Shelf.Small.Bits
import Derived.Sort.Walk7
import Derived.Sort.LotA
import Derived.Lib.Hide
namespace Go.Proofs.YtnnmalpnjlnnlaaGreat
open Go.ChangeShapes Go.WideShapes Go.ChangeAt Go.RowKit
open Go.Sort
open Su
set_option linter.unusedVariables false
set_option maxRecDepth 100000
set_option maxHeartbeats 8000000
variable {w0 w : World} {blk off n : Nat} {d : Array Int}
namespace Su
/-- a world in which one counts at block c -/
structure Cn (w0 : World) (blk off n : Nat) (d : Array Int) (c s : Nat) (W : World) : Prop where
  sw : Sw w0 blk off n d W
  cell : W.cell? ⟨c, 0, none⟩ = some (.int .i64 (s : Nat))
  soft : W.frozen? ⟨c, 0, none⟩ = false
  new : w0.heap.size ≤ c
  lt : c < W.heap.size
theorem Cn.drewN {c s : Nat} (h : Cn w0 blk off n d c s w) (q : Nat) : Cn w0 blk off n d c s (w.drewN q) := ⟨h.sw.drewN q, h.cell, h.soft, h.new, h.lt⟩
theorem Cn.bump {c s : Nat} (h : Cn w0 blk off n d c s w) {t : Int} (ht : t = (s : Int) + 1) : Cn w0 blk off n d c (s + 1) (w.setCell ⟨c, 0, none⟩ (.int .i64 t)) := by
  subst ht
  exact ⟨h.sw.setNew h.new 0 _, (World.cell?_setCell_same _ _ _ h.cell), by rw [World.frozen?_setCell]; exact h.soft, h.new, by simpa using h.lt⟩
end Su
theorem sord_any (B : Base w0 blk off n) {c s lo hi : Nat} (C : Cn w0 blk off n d c s w) (cap x y : Nat) (hx : lo ≤ x ∧ x < hi) (hy : lo ≤ y ∧ y < hi) (hh : hi ≤ n) (hs : s < 1000) :
    Calls Tryz.prog 140 #[.slice (some ⟨blk, off, none⟩) n cap, .int .i64 x, .int .i64 y, .pointer (some ⟨c, 0, none⟩)] w fun e w' =>
      ∃ (p q s' : Nat), e = .returned (.tuple #[.int .i64 (p : Nat), .int .i64 (q : Nat)]) ∧ (lo ≤ p ∧ p < hi) ∧ (lo ≤ q ∧ q < hi) ∧ s' ≤ s + 1 ∧ Cn w0 blk off n d c s' w' := by
  have hfew := B.few
  obtain ⟨G, hG⟩ := gname d
  have hcw : ∀ t, t < n → w.cell? ⟨blk, off + t, none⟩ = some (.int .u64 (G t)) := fun t ht => by rw [hG]; exact C.sw.cells B t ht
  have hfw := C.sw.soft B
  have HC := Lib.hid C
  clear C hG
  go_enter Tryz.func140, Tryz.ntmps140
  go_wp2_with fail
  go_quiet (first | (go_at_call 94; refine Calls.quiet_of_same (sless_any _ _ _)))
  have HC2 := Lib.hid (HC.out.drewN nq)
  clear HC hcw hfw
  generalize w.drewN nq = w2 at HC2 ⊢
  have k1 := HC2.out.cell
  have k2 := HC2.out.soft
  go_wp2
  · go_ret2
    exact ⟨y, x, s + 1, rfl, hy, hx, Nat.le_refl _, HC2.out.bump (by omega)⟩
  · go_ret2
    exact ⟨x, y, s, rfl, hx, hy, by omega, HC2.out⟩
theorem smed_any (B : Base w0 blk off n) {c s lo hi : Nat} (C : Cn w0 blk off n d c s w) (cap x y z : Nat) (hx : lo ≤ x ∧ x < hi) (hy : lo ≤ y ∧ y < hi) (hz : lo ≤ z ∧ z < hi) (hh : hi ≤ n) (hs : s < 900) :
    Calls Tryz.prog 136 #[.slice (some ⟨blk, off, none⟩) n cap, .int .i64 x, .int .i64 y, .int .i64 z, .pointer (some ⟨c, 0, none⟩)] w fun e w' =>
      ∃ (p s' : Nat), e = .returned (.int .i64 (p : Nat)) ∧ (lo ≤ p ∧ p < hi) ∧ s' ≤ s + 3 ∧ Cn w0 blk off n d c s' w' := by
  have hfew := B.few
  have HC := Lib.hid C
  clear C
  go_enter Tryz.func136, Tryz.ntmps136
  go_wp2_with fail
  refine (sord_any B HC.out cap x y hx hy hh (by omega)).mono ?_
  rintro e w1 ⟨p1, q1, s1, rfl, h1, h2, h3, C1⟩
  clear HC
  have HC := Lib.hid C1
  clear C1
  go_wp2_with fail
  refine (sord_any B HC.out cap q1 z h2 hz hh (by omega)).mono ?_
  rintro e w2 ⟨p2, q2, s2, rfl, h4, h5, h6, C1⟩
  clear HC
  have HC := Lib.hid C1
  clear C1
  go_wp2_with fail
  refine (sord_any B HC.out cap p1 p2 h1 h4 hh (by omega)).mono ?_
  rintro e w3 ⟨p3, q3, s3, rfl, h7, h8, h9, C1⟩
  clear HC
  have HC := Lib.hid C1
  clear C1
  go_wp2_with fail
  go_ret
  exact ⟨q3, s3, rfl, h8, by omega, HC.out⟩
theorem smda_any (B : Base w0 blk off n) {c s lo hi : Nat} (C : Cn w0 blk off n d c s w) (cap x : Nat) (hx : lo < x ∧ x + 1 < hi) (hh : hi ≤ n) (hs : s < 900) :
    Calls Tryz.prog 135 #[.slice (some ⟨blk, off, none⟩) n cap, .int .i64 x, .pointer (some ⟨c, 0, none⟩)] w fun e w' =>
      ∃ (p s' : Nat), e = .returned (.int .i64 (p : Nat)) ∧ (lo ≤ p ∧ p < hi) ∧ s' ≤ s + 3 ∧ Cn w0 blk off n d c s' w' := by
  have hfew := B.few
  have HC := Lib.hid C
  clear C
  have e1 : (x : Int) - 1 = ((x - 1 : Nat) : Int) := by omega
  have e2 : (x : Int) + 1 = ((x + 1 : Nat) : Int) := by omega
  obtain ⟨x1, hx1⟩ : ∃ y, y = x - 1 := ⟨_, rfl⟩
  obtain ⟨x2, hx2⟩ : ∃ y, y = x + 1 := ⟨_, rfl⟩
  rw [← hx1] at e1; rw [← hx2] at e2
  have hc := smed_any B HC.out cap x1 x x2 (lo := lo) (hi := hi) (by omega) (by omega) (by omega) hh hs
  rw [← e1, ← e2] at hc
  clear hx1 hx2 e1 e2
  go_enter Tryz.func135, Tryz.ntmps135
  go_wp2_with fail
  refine hc.mono ?_
  rintro e w1 ⟨p1, s1, rfl, h1, h2, C1⟩
  clear HC hc
  have HC := Lib.hid C1
  clear C1
  go_wp2_with fail
  go_ret
  exact ⟨p1, s1, rfl, h1, by omega, HC.out⟩
theorem spiv_any (B : Base w0 blk off n) (S : Sw w0 blk off n d w) (cap a b : Nat) (hab : a < b) (hb : b ≤ n) :
    Calls Tryz.prog 115 #[.slice (some ⟨blk, off, none⟩) n cap, .int .i64 a, .int .i64 b] w fun e w' =>
      ∃ (p h : Nat), e = .returned (.tuple #[.int .i64 (p : Nat), .int .i64 (h : Nat)]) ∧ a ≤ p ∧ p < b ∧ Sw w0 blk off n d w' := by
  have hfew := B.few
  have HC : Hid (Cn w0 blk off n d w.heap.size 0 (w.alloc (.cells #[.int .i64 0] 3))) := ⟨S.alloc _, by simp, by simp, S.old, by simp⟩
  obtain ⟨I, hI⟩ : ∃ I : Nat, I = a + (b - a) / 4 * 1 := ⟨_, rfl⟩
  obtain ⟨J, hJ⟩ : ∃ J : Nat, J = a + (b - a) / 4 * 2 := ⟨_, rfl⟩
  obtain ⟨K, hK⟩ : ∃ K : Nat, K = a + (b - a) / 4 * 3 := ⟨_, rfl⟩
  have eI : ((a : Int) + ((b : Int) - (a : Int)) / 4) = (I : Int) := by omega
  have eJ : ((a : Int) + ((b : Int) - (a : Int)) / 4 * 2) = (J : Int) := by omega
  have eK : ((a : Int) + ((b : Int) - (a : Int)) / 4 * 3) = (K : Int) := by omega
  clear S
  by_cases h8 : b - a ≥ 8
  · by_cases h50 : b - a ≥ 50
    · have hI2 : a < I ∧ I + 1 < b := by omega
      have hJ2 : a < J ∧ J + 1 < b := by omega
      have hK2 : a < K ∧ K + 1 < b := by omega
      clear hI hJ hK
      go_enter Tryz.func115, Tryz.ntmps115
      go_wp2_with fail
      refine (smda_any B HC.out cap I hI2 hb (by omega)).mono ?_
      rintro e w1 ⟨p1, s1, rfl, h1, h2, C1⟩
      clear HC
      have HC := Lib.hid C1
      clear C1
      go_wp2_with fail
      refine (smda_any B HC.out cap J hJ2 hb (by omega)).mono ?_
      rintro e w2 ⟨p2, s2, rfl, h3, h4, C1⟩
      clear HC
      have HC := Lib.hid C1
      clear C1
      go_wp2_with fail
      refine (smda_any B HC.out cap K hK2 hb (by omega)).mono ?_
      rintro e w3 ⟨p3, s3, rfl, h5, h6, C1⟩
      clear HC
      have HC := Lib.hid C1
      clear C1
      go_wp2_with fail
      refine (smed_any B HC.out cap p1 p2 p3 h1 h3 h5 hb (by omega)).mono ?_
      rintro e w4 ⟨p4, s4, rfl, h7, h8, C1⟩
      clear HC
      have HC := Lib.hid C1
      clear C1
      have k1 := HC.out.cell
      go_wp2
      · go_ret2
        exact ⟨p4, 1, rfl, h7.1, h7.2, HC.out.sw⟩
      · go_ret2
        exact ⟨p4, 2, rfl, h7.1, h7.2, HC.out.sw⟩
      · go_ret2
        exact ⟨p4, 0, rfl, h7.1, h7.2, HC.out.sw⟩
    · have hI2 : a ≤ I ∧ I < b := by omega
      have hJ2 : a ≤ J ∧ J < b := by omega
      have hK2 : a ≤ K ∧ K < b := by omega
      clear hI hJ hK
      go_enter Tryz.func115, Tryz.ntmps115
      go_wp2_with fail
      refine (smed_any B HC.out cap I J K hI2 hJ2 hK2 hb (by omega)).mono ?_
      rintro e w4 ⟨p4, s4, rfl, h7, h8, C1⟩
      clear HC
      have HC := Lib.hid C1
      clear C1
      have k1 := HC.out.cell
      go_wp2
      · go_ret2
        exact ⟨p4, 1, rfl, h7.1, h7.2, HC.out.sw⟩
      · go_ret2
        exact ⟨p4, 0, rfl, h7.1, h7.2, HC.out.sw⟩
  · have hJ2 : a ≤ J ∧ J < b := by omega
    clear hI hJ hK
    go_enter Tryz.func115, Tryz.ntmps115
    go_wp2
    go_ret2
    exact ⟨J, 1, rfl, hJ2.1, hJ2.2, HC.out.sw⟩
/-- a world in which the numbers that scatter are drawn at block c -/
structure Rn (w0 : World) (blk off n : Nat) (d : Array Int) (c R : Nat) (W : World) : Prop where
  sw : Sw w0 blk off n d W
  cell : W.cell? ⟨c, 0, none⟩ = some (.int .u64 (R : Nat))
  soft : W.frozen? ⟨c, 0, none⟩ = false
  new : w0.heap.size ≤ c
  lt : c < W.heap.size
theorem Rn.step {c R : Nat} (h : Rn w0 blk off n d c R w) (R' q : Nat) : Rn w0 blk off n d c R' ((w.setCell ⟨c, 0, none⟩ (.int .u64 (R' : Nat))).drewN q) :=
  ⟨(h.sw.setNew h.new 0 _).drewN q, World.cell?_setCell_same _ _ _ h.cell, by show (w.setCell _ _).frozen? _ = _; rw [World.frozen?_setCell]; exact h.soft, h.new, by show c < (w.setCell _ _).heap.size; simpa using h.lt⟩
theorem Rn.swap {c R : Nat} (B : Base w0 blk off n) (h : Rn w0 blk off n d c R w) {i j : Nat} (hi : i < n) (hj : j < n) {x y : Int} (hx : x = d[i]!) (hy : y = d[j]!) :
    Rn w0 blk off n (swp d i j) c R ((w.setCell ⟨blk, off + i, none⟩ (.int .u64 y)).setCell ⟨blk, off + j, none⟩ (.int .u64 x)).drew := by
  have hne : c ≠ blk := by have := h.new; have := B.old; omega
  obtain ⟨h1, h2⟩ := box_kept_swap1 hne h.cell h.soft (off + i) (off + j) (.int .u64 y) (.int .u64 x)
  exact ⟨(h.sw.swap B hi hj hx hy).drew, h1, h2, h.new, by show c < ((w.setCell _ _).setCell _ _).heap.size; simpa using h.lt⟩
theorem sbreak_go (B : Base w0 blk off n) (S : Sw w0 blk off n d w) (cap a L : Nat) (hb : a + L ≤ n) (h8 : 8 ≤ L) :
    Calls Tryz.prog 114 #[.slice (some ⟨blk, off, none⟩) n cap, .int .i64 a, .int .i64 ((a + L : Nat) : Int)] w fun e w' =>
      e = .returned (.tuple #[]) ∧ ∃ d', PermIn a (a + L) d d' ∧ Sw w0 blk off n d' w' := by
  have hfew := B.few
  obtain ⟨M, hM⟩ : ∃ M : Nat, M = 1 <<< bitsLen L := ⟨_, rfl⟩
  have hM1 : 1 ≤ M := by rw [hM, Nat.one_shiftLeft]; exact Nat.two_pow_pos _
  have hM2 : M ≤ 2 * L := by rw [hM, Nat.one_shiftLeft]; exact two_pow_bitsLen_le (by omega)
  have hNP : ∀ w, Calls Tryz.prog 133 #[.int .i64 (L : Int)] w fun e w' => e = .returned (.int .u64 (M : Int)) ∧ w' = w := by rw [hM]; exact fun w => AnyF.nextPowerOfTwo Tryz.powX L (by omega) w
  clear hM
  have HS0 : Hid (Rn w0 blk off n d w.heap.size L (w.alloc (.cells #[.int .u64 (L : Int)] 170))) := ⟨S.alloc _, by simp, by simp, S.old, by simp⟩
  have HN := Lib.hid hNP
  clear S hNP
  go_enter Tryz.func114, Tryz.ntmps114
  go_wp2_with (first | (go_at_call 133; rw [show ((a : Int) + (L : Int) - (a : Int)) = (L : Int) by omega]; refine (HN.out _).mono ?_; rintro e w' ⟨rfl, rfl⟩))
  obtain ⟨c, hc⟩ : ∃ c, c = w.heap.size := ⟨_, rfl⟩
  rw [← hc] at HS0 ⊢
  clear hc
  go_loopw [9] (fun vi wr => ∃ (t R : Nat) (dk : Array Int), vi = .int .i64 ((a + L / 4 * 2 - 1 + t : Nat) : Int) ∧ t ≤ 3 ∧ R < 18446744073709551616 ∧ Hid (Rn w0 blk off n dk c R wr) ∧ Hid (PermIn a (a + L) d dk)) (fun vi _ => a + L / 4 * 2 + 3 - (intOf vi).toNat)
  case atStart => exact ⟨0, L, d, by congr 1; omega, by omega, by omega, HS0, permIn_refl _ _ _⟩
  case round =>
    clear HS0
    obtain ⟨t, R, dk, rfl, ht, lR, HS, HP⟩ := hrel
    obtain ⟨R', hR'⟩ : ∃ R' : Nat, R' = xorNextN R := ⟨_, rfl⟩
    have lR' : R' < 18446744073709551616 := by rw [hR']; exact xorNextN_lt R lR
    obtain ⟨O, hO⟩ : ∃ O : Nat, O = R' &&& (M - 1) := ⟨_, rfl⟩
    have lO : O ≤ M - 1 := by rw [hO]; exact Nat.and_le_right
    have eAnd : bits .and .u64 (R' : Int) ((M : Int) - 1) = (O : Int) := by
      rw [show ((M : Int) - 1) = ((M - 1 : Nat) : Int) by omega, bits_and_u64_nat _ _ lR' (by omega), hO]
    have hNext : Calls Tryz.prog 134 #[.pointer (some ⟨c, 0, none⟩)] wr fun e w' => e = .returned (.int .u64 (R' : Int)) ∧ w' = (wr.setCell ⟨c, 0, none⟩ (.int .u64 (R' : Int))).drewN 3 := by
      rw [hR']; exact AnyF.xorshift_Next Tryz.nextX _ _ R lR wr HS.out.cell HS.out.soft
    have HX := Lib.hid hNext
    clear hNext hR' hO
    go_wp2_with (first | (go_at_call 134; refine HX.out.mono ?_; rintro e w' ⟨rfl, rfl⟩))
    · have hLO : L ≤ O := by omega
      have HS2 : Hid (Rn w0 blk off n dk c R' ((wr.setCell ⟨c, 0, none⟩ (.int .u64 (R' : Int))).drewN 3)) := HS.out.step R' 3
      clear HS HX
      generalize (wr.setCell ⟨c, 0, none⟩ (.int .u64 (R' : Int))).drewN 3 = wr2 at HS2 ⊢
      obtain ⟨G, hG⟩ := gname dk
      have hcw : ∀ t, t < n → wr2.cell? ⟨blk, off + t, none⟩ = some (.int .u64 (G t)) := fun t ht => by rw [hG]; exact HS2.out.sw.cells B t ht
      have hfw := HS2.out.sw.soft B
      have HG : Hid (∀ t, G t = dk[t]!) := hG
      clear hG
      by_cases hEq : a + L / 4 * 2 - 1 + t = a + (O - L)
      all_goals
        go_region
        all_goals go_wp2
        go_roundw
        case rel =>
          refine ⟨t + 1, R', swp dk (a + L / 4 * 2 - 1 + t) (a + (O - L)), by first | rfl | (congr 1 <;> omega), by omega, lR', ?_, permIn_trans _ _ _ _ _ HP.out (swp_permIn dk _ _ _ _ (by omega) (by omega) (by omega) (by omega) (by rw [HS2.out.sw.size]; exact hb))⟩
          have hr := HS2.out.swap B (i := a + L / 4 * 2 - 1 + t) (j := a + (O - L)) (by omega) (by omega) (HG.out _) (HG.out _)
          first | exact hr | (rw [hEq] at hr ⊢; exact hr) | (rw [← hEq] at hr ⊢; exact hr)
        case measure => simp [intOf]; omega
    · have hLO : ¬ L ≤ O := by omega
      have HS2 : Hid (Rn w0 blk off n dk c R' ((wr.setCell ⟨c, 0, none⟩ (.int .u64 (R' : Int))).drewN 3)) := HS.out.step R' 3
      clear HS HX
      generalize (wr.setCell ⟨c, 0, none⟩ (.int .u64 (R' : Int))).drewN 3 = wr2 at HS2 ⊢
      obtain ⟨G, hG⟩ := gname dk
      have hcw : ∀ t, t < n → wr2.cell? ⟨blk, off + t, none⟩ = some (.int .u64 (G t)) := fun t ht => by rw [hG]; exact HS2.out.sw.cells B t ht
      have hfw := HS2.out.sw.soft B
      have HG : Hid (∀ t, G t = dk[t]!) := hG
      clear hG
      by_cases hEq : a + L / 4 * 2 - 1 + t = a + O
      all_goals
        go_region
        all_goals go_wp2
        go_roundw
        case rel =>
          refine ⟨t + 1, R', swp dk (a + L / 4 * 2 - 1 + t) (a + O), by first | rfl | (congr 1 <;> omega), by omega, lR', ?_, permIn_trans _ _ _ _ _ HP.out (swp_permIn dk _ _ _ _ (by omega) (by omega) (by omega) (by omega) (by rw [HS2.out.sw.size]; exact hb))⟩
          have hr := HS2.out.swap B (i := a + L / 4 * 2 - 1 + t) (j := a + O) (by omega) (by omega) (HG.out _) (HG.out _)
          first | exact hr | (rw [hEq] at hr ⊢; exact hr) | (rw [← hEq] at hr ⊢; exact hr)
        case measure => simp [intOf]; omega
    · go_end0
      exact ⟨rfl, dk, HP.out, HS.out.sw⟩
theorem sbreak_any (B : Base w0 blk off n) (S : Sw w0 blk off n d w) (cap a b : Nat) (hab : a ≤ b) (hb : b ≤ n) :
    Calls Tryz.prog 114 #[.slice (some ⟨blk, off, none⟩) n cap, .int .i64 a, .int .i64 b] w fun e w' =>
      e = .returned (.tuple #[]) ∧ ∃ d', PermIn a b d d' ∧ Sw w0 blk off n d' w' := by
  obtain ⟨L, rfl⟩ : ∃ L, b = a + L := ⟨b - a, by omega⟩
  by_cases h8 : 8 ≤ L
  · exact sbreak_go B S cap a L hb h8
  · have hfew := B.few
    have HS := Lib.hid S
    clear S
    go_enter Tryz.func114, Tryz.ntmps114
    go_wp2
    go_end0
    exact ⟨rfl, d, permIn_refl _ _ _, HS.out⟩
end Go.Proofs.YtnnmalpnjlnnlaaGreat
