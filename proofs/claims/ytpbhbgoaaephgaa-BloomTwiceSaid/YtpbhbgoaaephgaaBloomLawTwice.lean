/-
  BloomTwice of the statements of layer 10 returns true, whatever keys and number.
-/
import Derived.Test.YtpbhbgoaaephgaaBloomLawHas
import Derived.Deep.QuietTactic
import Derived.BigQuiet
namespace Go.Proofs.Ytpbhbgoaaephgaa
open Go.ChangeShapes Go.WideShapes Go.ChangeAt Go.RowKit
set_option linter.unusedVariables false
set_option maxRecDepth 100000
set_option maxHeartbeats 1000000

theorem txs_three (w : World) (x y z : ByteArray) (t : TypeId) : Txs (w.alloc (.cells #[.string x, .string y, .string z] t)) (some ⟨w.heap.size, 0, none⟩) [x.data.toList, y.data.toList, z.data.toList] := fun j u hu => by
  refine ⟨w.heap.size, 0, rfl, by simp, ?_⟩
  match j, hu with
  | 0, hu => simp at hu; subst hu; simp [fbs_self]
  | 1, hu => simp at hu; subst hu; simp [fbs_self]
  | 2, hu => simp at hu; subst hu; simp [fbs_self]
  | j + 3, hu => simp at hu
theorem BloomTwice_walk {w : World} (a b : ByteArray) (n : Int) (ha : a.size ≤ maxLen) (hb : b.size ≤ maxLen) (hn : (Lit.int .u16 n).wf = true) :
    Calls Try.prog 9 #[.string a, .string b, .int .u16 n] w fun e w' => e = .returned (.bool true) ∧ Kept w w' := by
  have hnb : 0 ≤ n ∧ n ≤ 65535 := by
    have h : (decide (IntKind.u16.min ≤ n) && decide (n ≤ IntKind.u16.max)) = true := hn
    rw [show IntKind.u16.min = 0 from rfl, show IntKind.u16.max = 65535 from rfl, Bool.and_eq_true, decide_eq_true_iff, decide_eq_true_iff] at h
    exact h
  have hal : a.size ≤ 9223372036854775807 := by unfold maxLen at ha; omega
  have hbl : b.size ≤ 9223372036854775807 := by unfold maxLen at hb; omega
  by_cases h1 : 300 < a.size
  · have d1 : decide ((300 : Int) < (a.size : Int)) = true := by simp; omega
    go_enter Try.func9, Try.ntmps9
    go_wp2_with fail
    refine (bmawake_any _).mono ?_
    rintro e w1 ⟨rfl, g1⟩
    go_wp2_with fail
    go_ret
    exact ⟨rfl, g1⟩
  · have d1 : decide ((300 : Int) < (a.size : Int)) = false := by simp; omega
    by_cases h2 : 300 < b.size
    · have d2 : decide ((300 : Int) < (b.size : Int)) = true := by simp; omega
      go_enter Try.func9, Try.ntmps9
      go_wp2_with fail
      refine (bmawake_any _).mono ?_
      rintro e w1 ⟨rfl, g1⟩
      go_wp2_with fail
      go_ret
      exact ⟨rfl, g1⟩
    · have d2 : decide ((300 : Int) < (b.size : Int)) = false := by simp; omega
      have m1 := fun w => bmake_any (some ⟨w.heap.size, 0, none⟩) 3 [a.data.toList, a.data.toList, b.data.toList] (by simp [maxLen]) (by simp; exact ⟨ha, hb⟩) _ (txs_three w a a b 9)
      have m2 := fun w => bmake_any (some ⟨w.heap.size, 0, none⟩) 3 [b.data.toList, a.data.toList, b.data.toList] (by simp [maxLen]) (by simp; exact ⟨hb, ha, hb⟩) _ (txs_three w b a b 9)
      have e1 := makeS_few [a.data.toList, a.data.toList, b.data.toList] (by simp)
      have e2 := makeS_few [b.data.toList, a.data.toList, b.data.toList] (by simp)
      have e3 : Bm.made [b.data.toList, a.data.toList, b.data.toList] = Bm.made [a.data.toList, a.data.toList, b.data.toList] := Bm.made_same rfl (fun k => by
        simp only [List.mem_cons, List.not_mem_nil, or_false]
        exact ⟨fun h => by rcases h with h | h | h <;> simp [h], fun h => by rcases h with h | h | h <;> simp [h]⟩)
      rw [e1.1, e1.2] at m1
      rw [e2.1, e2.2, e3] at m2
      have hbt := bbits_any a ha n (by omega) (by omega)
      have hl4 : (Bm.bits a.data.toList n.toNat).length ≤ 4 := by rw [Bm.bits_len]; split <;> omega
      have hx1 := bmix_any a ha
      have hx2 := bmix_any b hb
      have hxe : a = b → Bm.mix a.data.toList = Bm.mix b.data.toList := fun h => by rw [h]
      generalize Bm.made [a.data.toList, a.data.toList, b.data.toList] = F at *
      generalize bs F = FB at *
      generalize Bm.bits a.data.toList n.toNat = L at *
      generalize Bm.mix a.data.toList = X at *
      generalize Bm.mix b.data.toList = Y at *
      have wn : IntKind.i64.wrap n = n := by rw [IntKind.wrap_i64]; omega
      have M1 := Lib.hid m1; have M2 := Lib.hid m2; have HB := Lib.hid hbt; have HE := Lib.hid hxe
      clear m1 m2 e1 e2 e3 hbt hxe
      go_enter Try.func9, Try.ntmps9
      go_wp2_with fail
      refine (bmawake_any _).mono ?_
      rintro e w1 ⟨rfl, g1⟩
      go_wp2_with fail
      refine (M1.out _).mono ?_
      rintro e w2 ⟨rfl, g2⟩
      go_wp2_with fail
      refine (M2.out _).mono ?_
      rintro e w3 ⟨rfl, g3⟩
      have G3 := kept_trans (kept_trans (kept_trans g1 ((Kept.refl w1).alloc _)) g2) (kept_trans ((Kept.refl w2).alloc _) g3)
      clear g1 g2 g3
      go_wp2_with fail
      refine (HB.out _).mono ?_
      rintro e w4 ⟨A1, c1, rfl, hI1, _, g4⟩
      go_wp2_with fail
      refine (HB.out _).mono ?_
      rintro e w5 ⟨A2, c2, rfl, hI2, _, g5⟩
      have hJ1 := hI1.kept g5
      have G5 := kept_trans (kept_trans G3 g4) g5
      clear G3 g4 g5 hI1
      go_wp2_with fail
      go_loopw [55] (fun t wr => ∃ k : Nat, k ≤ L.length ∧ t = .int .i64 k ∧ Kept w5 wr) (fun t _ => L.length - (intOf t).toNat)
      case atStart => exact ⟨0, Nat.zero_le _, rfl, Kept.refl _⟩
      case round =>
        obtain ⟨k, hk, rfl, hkr⟩ := hrel
        by_cases hlt : k < L.length
        · have hx : L[k]? = some L[k] := List.getElem?_eq_getElem hlt
          generalize L[k] = x at hx
          obtain ⟨b1, o1, rfl, hb1, hc1⟩ := (hJ1.kept hkr) k x hx
          obtain ⟨b2, o2, rfl, hb2, hc2⟩ := (hI2.kept hkr) k x hx
          clear hx
          go_wp2_with fail
          go_quiet (fail)
          go_wp2_with fail
          go_roundw
          case rel => exact ⟨k + 1, by omega, by go_num, kept_trans hkr (kept_drewN _ _)⟩
          case measure => simp [intOf]; omega
        · have e : k = L.length := by omega
          subst e
          by_cases hab : a = b
          · have hxy := HE.out hab
            subst hxy
            subst hab
            go_wp2_with fail
            refine (hx1 _).mono ?_
            rintro e w6 ⟨rfl, rfl⟩
            go_wp2_with fail
            refine (hx1 _).mono ?_
            rintro e w6 ⟨rfl, rfl⟩
            go_wp2_with fail
            go_ret
            exact ⟨rfl, kept_trans G5 hkr⟩
          · have d3 : (a.toList == b.toList) = false := by
              rw [beq_eq_false_iff_ne]
              intro h
              rw [Lib.toList_data, Lib.toList_data] at h
              exact hab ((fbs_self a).symm.trans ((congrArg bs h).trans (fbs_self b)))
            have d4 : (a.toList != b.toList) = true := by simp only [bne, d3, Bool.not_false]
            go_wp2_with fail
            go_ret
            exact ⟨rfl, kept_trans G5 hkr⟩
end Go.Proofs.Ytpbhbgoaaephgaa
