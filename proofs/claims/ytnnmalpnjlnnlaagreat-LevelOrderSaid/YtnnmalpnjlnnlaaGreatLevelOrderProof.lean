/-
  LevelOrder answers true for every list of edits: levels but the first are in order, and each table's number is once there, below the next one; condition: none beyond the statement's own.
-/
import Derived.Test.YtnnmalpnjlnnlaaGreatRows
import Derived.Test.YtnnmalpnjlnnlaaGreatLevelLawOrder
import Derived.Test.YtnnmalpnjlnnlaaGreatNumSet
import Derived.Test.YtnnmalpnjlnnlaaGreatLevelOrdMath
import Derived.Test.YtnnmalpnjlnnlaaGreatLevelKit
import Derived.Test.YtnnmalpnjlnnlaaGreatPackLvS
import Derived.Test.YtnnmalpnjlnnlaaGreatArgsPost
import Derived.WalkKit
import Derived.ProofKit
import Derived.OpenShut
import Derived.ShutString
import Derived.Lib.SmallJoins
namespace Go.Proofs.YtnnmalpnjlnnlaaGreat.levelOrder
open Go.ChangeShapes Go.WideShapes Go.ChangeAt Go.RowKit Go.Joins
open Go.ChangeMaps (open_string shut_string)
set_option linter.unusedVariables false

theorem own : ownKnob Tryz.prog.godebug = none := by kernel_rfl
theorem laid : laidOutB Tryz.prog = true := by kernel_rfl
theorem readable : Tryz.f7.params.toList.all (fun t => Tryz.prog.readableRec t && decide (t < Tryz.prog.types.size)) = true := by kernel_rfl

set_option maxRecDepth 100000 in
set_option maxHeartbeats 2000000 in
theorem lifted (os : Os) (started : os.Started) (H : Type) (enc : TypeId × Value → H) :
    ReturnsInHanded {} Tryz.checked os 7 .any (Rows.levelOrderSpec.pre6 enc Tryz.prog Tryz.f7 Rows.levelOrderRow.domain false) (Rows.levelOrderSpec.post enc Tryz.prog Tryz.f7 false true false false) := by
  refine returnsInHanded_of_change (C := Tryz.checked) own started (by kernel_rfl) Tryz.func7
    (ChangeSpec.witness6 (enc := enc) (C := Tryz.checked) false ⟨#[], #[.slice none 0 0], []⟩ 8 (by kernel_rfl) (by kernel_rfl) (by kernel_rfl) (by kernel_rfl)) ?_
  intro W base args ds gs before hval0 hW hcnd _
  have hval : ∀ (j : Nat) t v, Tryz.f7.params[j]? = some t → args[j]? = some v → Value.okWide Tryz.prog W .any base t v := hval0
  have hW' := hW
  obtain ⟨p, q, hA0, hV, rfl, hfz, hnd⟩ := hW
  have hA : DataW.TrodAll enc Tryz.prog W 0 (fun _ => true) true Tryz.f7.params.toList args.toList ds p := hA0
  have hrd : ∀ t ∈ Tryz.f7.params.toList, Tryz.prog.readableRec t = true ∧ t < Tryz.prog.types.size := fun t ht => by
    have := List.all_eq_true.1 readable t ht
    simpa using this
  obtain ⟨rfl, rfl⟩ := trodVars_none hV
  simp only [List.append_nil] at hW'
  have fin : ∀ W', Kept W W' → (Rows.levelOrderSpec.fn H (ds ++ [])).results = [.lit (.bool true)] → (Rows.levelOrderSpec.fn H (ds ++ [])).args = ds → (Rows.levelOrderSpec.fn H (ds ++ [])).vars = [] → Rows.levelOrderSpec.post enc Tryz.prog Tryz.f7 false true false false W args (.bool true) W' :=
    fun W' hk e1 e2 e3 => post_of_law laid hrd rfl Tryz.underlying4 rfl hA0 hW' e1 e2 e3 hk
  rw [Tryz.params7] at hA hval
  obtain ⟨v0, vs0, d0, ds0, p0, q0, hargs, rfl, rfl, h0, r0⟩ := trodAll_cons hA
  obtain ⟨rfl, rfl, rfl⟩ := trodAll_nil r0
  obtain rfl : args = #[v0] := by cases args; simp_all
  obtain ⟨b0, len0, cap0, rfl⟩ := okWide_slice Tryz.underlying22 (hval 0 22 v0 rfl rfl)
  obtain ⟨fu0, hf0⟩ := h0
  obtain ⟨A0, c0, l0, e0, ha0, hl0⟩ := open_eds (w := W) hf0
  obtain ⟨rfl, rfl, rfl⟩ : b0 = A0 ∧ len0 = l0.length ∧ cap0 = c0 := by simpa [Value.cells] using e0
  clear hA0 hval0
  refine (LevelOrder_walk (w := W) b0 cap0 l0 ha0 hl0).mono fun e W' ⟨he, hg⟩ => ?_
  subst he
  exact ⟨_, rfl, fin W' hg rfl rfl rfl⟩

theorem over : Rows.levelOrderRow.holds Tryz.pinned (OpenSpec.ofChange Rows.levelOrderSpec) :=
  OpenClaim.holds_of_wide 7 Tryz.f7 rfl rfl rfl rfl rfl rfl rfl ⟨rfl, rfl, rfl, rfl, rfl⟩ rfl rfl rfl rfl rfl (by kernel_rfl) Tryz.func7 (by kernel_rfl)
    (of_decide_eq_true (by kernel_rfl)) (by unfold Func.isWrapper; first | (rw [if_pos (by decide +kernel)]; kernel_rfl) | (rw [if_neg (by decide +kernel)]; exact ⟨rfl, rfl⟩))
    (fun os started H enc _ => lifted os started H enc)

theorem proved : Rows.LevelOrderSaid :=
  over
end Go.Proofs.YtnnmalpnjlnnlaaGreat.levelOrder

namespace Go.Proofs.YtnnmalpnjlnnlaaGreat
theorem LevelOrder_holds : Rows.LevelOrderSaid := levelOrder.proved
#print axioms LevelOrder_holds
end Go.Proofs.YtnnmalpnjlnnlaaGreat
