/-
  The walk of screelaw11.TableFrom.
-/
import Derived.Test.YtecjnebfhbdnaaaTableArgs
import Derived.Test.YtecjnebfhbdnaaaTableAwake
import Derived.Test.YtecjnebfhbdnaaaBlockArgs
import Derived.Test.YtecjnebfhbdnaaaTableLawFromE
import Derived.Test.YtecjnebfhbdnaaaTableLawFromG
import Derived.Test.YtecjnebfhbdnaaaTableLawFromL
import Derived.OpenShut
import Derived.RegionTactic
import Derived.Deep.RegionHeld3
namespace Go.Proofs.Ytecjnebfhbdnaaa
open Go.ChangeShapes Go.WideShapes Go.ChangeAt Go.RowKit
set_option linter.unusedVariables false
set_option maxRecDepth 100000
set_option maxHeartbeats 40000000


theorem tf_count (k : List UInt8) : ∀ l : List Mm.Ent, ∃ K, K ≤ l.length ∧ (∀ i x, i < K → l[i]? = some x → x.key < k) ∧ (∀ x, l[K]? = some x → ¬ x.key < k)
  | [] => ⟨0, Nat.le_refl _, fun i x h => absurd h (Nat.not_lt_zero _), fun x h => by simp at h⟩
  | y :: l => by
    by_cases c : y.key < k
    · obtain ⟨K, h1, h2, h3⟩ := tf_count k l
      refine ⟨K + 1, by simpa using h1, fun i x hi hx => ?_, fun x hx => h3 x (by simpa using hx)⟩
      cases i with
      | zero => simp at hx; subst hx; exact c
      | succ i => exact h2 i x (by omega) (by simpa using hx)
    · exact ⟨0, Nat.zero_le _, fun i x h => absurd h (Nat.not_lt_zero _), fun x hx => by simp at hx; subst hx; exact c⟩
theorem TableFrom_walk (A : Option Addr) (cap : Nat) (l : List Mm.Ent) (S1 : ByteArray) (a1 : Int) {w : World} (ha : Els w A l) (hl : l.length ≤ cap ∧ cap ≤ maxLen ∧ OkEs l) (hS : S1.size ≤ maxLen) (h1 : (Lit.int .i64 a1).wf = true) :
    Calls Try.prog 5 #[.slice A l.length cap, .string S1, .int .i64 a1] w fun e w' => e = .returned (.bool true) ∧ Kept w w' := by
  obtain ⟨hc, hm, ho⟩ := hl
  obtain ⟨k, rfl, ek⟩ := bs_back S1
  have b1 := (bounds_i64 h1).1
  have b2 := (bounds_i64 h1).2
  unfold maxLen at hS
  by_cases h3 : 300 < (bs k).size
  · have d3 : decide ((300 : Int) < ((bs k).size : Int)) = true := decide_eq_true (by omega)
    clear ek
    have HLG := Lib.hid (fun (W : World) (k : Kept w W) => tlarge_any cap (ha.kept k) (by omega) (fun x hx => ⟨(ho x hx).1, (ho x hx).2.1⟩))
    have HBD0 := Lib.hid (fun (W : World) (k : Kept w W) => tbuild_any cap (ha.kept k) hc hm (fun x hx => ⟨(ho x hx).1, (ho x hx).2.1⟩))
    have HAW := Lib.hid (tawake_any w)
    have HT0 := Lib.hid (show Tb.isT l = true ∨ Tb.isT l = false by cases Tb.isT l <;> simp)
    have HELS := Lib.hid ha
    have hkm := hc
    have hcm := hm
    unfold maxLen at hcm
    clear ho ha
    go_enter Try.func5, Try.ntmps5
    go_wp2_with fail
    refine HAW.out.mono ?_
    rintro e w1 ⟨rfl, g1⟩
    have HL1 := Lib.hid (HLG.out w1 g1)
    go_wp2_with fail
    refine HL1.out.mono ?_
    rintro e w2 ⟨B, rfl, g2⟩
    cases B with
    | true =>
      go_wp2_with fail
      go_ret
      exact ⟨rfl, kept_trans g1 g2⟩
    | false =>
      go_wp2_with fail
      go_ret
      exact ⟨rfl, kept_trans g1 g2⟩
  · obtain ⟨K, k1, k2, k3⟩ := tf_count k l
    by_cases c1 : K < l.length
    · exact TableFrom_L_walk A cap l k a1 K c1 k2 k3 h3 b1 b2 ha ⟨hc, hm, ho⟩
    · by_cases c2 : cap = K
      · exact TableFrom_E_walk A cap l k a1 K (by omega) c2 k2 k3 h3 b1 b2 ha ⟨hc, hm, ho⟩
      · exact TableFrom_G_walk A cap l k a1 K (by omega) (by omega) k2 k3 h3 b1 b2 ha ⟨hc, hm, ho⟩
end Go.Proofs.Ytecjnebfhbdnaaa
