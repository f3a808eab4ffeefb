/-
  LevelBack answers true for every edit and every text: what is encoded is decoded to the same, what is decoded has just these bytes, and a version's edit makes it of nothing; condition: none beyond the statement's own.
-/
import Derived.Test.YtkedbclojhlcgaaGreatRows
import Derived.Test.YtkedbclojhlcgaaGreatLevelLawBack
import Derived.Test.YtkedbclojhlcgaaGreatLevelKit
import Derived.Test.YtkedbclojhlcgaaGreatPackLvS
import Derived.Test.YtkedbclojhlcgaaGreatArgsPost
import Derived.WalkKit
import Derived.ProofKit
import Derived.OpenShut
import Derived.ShutString
import Derived.Lib.SmallJoins
namespace Go.Proofs.YtkedbclojhlcgaaGreat.levelBack
open Go.ChangeShapes Go.WideShapes Go.ChangeAt Go.RowKit Go.Joins
open Go.ChangeMaps (open_string shut_string)
set_option linter.unusedVariables false

theorem own : ownKnob Tryz.prog.godebug = none := by kernel_rfl
theorem laid : laidOutB Tryz.prog = true := by kernel_rfl
theorem readable : Tryz.f6.params.toList.all (fun t => Tryz.prog.readableRec t && decide (t < Tryz.prog.types.size)) = true := by kernel_rfl

set_option maxRecDepth 100000 in
set_option maxHeartbeats 2000000 in
theorem lifted (os : Os) (started : os.Started) (H : Type) (enc : TypeId × Value → H) :
    ReturnsInHanded {} Tryz.checked os 6 .any (Rows.levelBackSpec.pre6 enc Tryz.prog Tryz.f6 Rows.levelBackRow.domain false) (Rows.levelBackSpec.post enc Tryz.prog Tryz.f6 false true false false) := by
  refine returnsInHanded_of_change (C := Tryz.checked) own started (by kernel_rfl) Tryz.func6
    (ChangeSpec.witness6 (enc := enc) (C := Tryz.checked) false ⟨#[], #[.agg #[.slice none 0 0, .slice none 0 0, .slice none 0 0, .slice none 0 0, .slice none 0 0, .int .u64 0, .int .u64 0, .int .u64 0], .string ByteArray.empty], []⟩ 8 (by kernel_rfl) (by kernel_rfl) (by kernel_rfl) (by kernel_rfl)) ?_
  intro W base args ds gs before hval0 hW hcnd _
  have hval : ∀ (j : Nat) t v, Tryz.f6.params[j]? = some t → args[j]? = some v → Value.okWide Tryz.prog W .any base t v := hval0
  have hW' := hW
  obtain ⟨p, q, hA0, hV, rfl, hfz, hnd⟩ := hW
  have hA : DataW.TrodAll enc Tryz.prog W 0 (fun _ => true) true Tryz.f6.params.toList args.toList ds p := hA0
  have hrd : ∀ t ∈ Tryz.f6.params.toList, Tryz.prog.readableRec t = true ∧ t < Tryz.prog.types.size := fun t ht => by
    have := List.all_eq_true.1 readable t ht
    simpa using this
  obtain ⟨rfl, rfl⟩ := trodVars_none hV
  simp only [List.append_nil] at hW'
  have fin : ∀ W', Kept W W' → (Rows.levelBackSpec.fn H (ds ++ [])).results = [.lit (.bool true)] → (Rows.levelBackSpec.fn H (ds ++ [])).args = ds → (Rows.levelBackSpec.fn H (ds ++ [])).vars = [] → Rows.levelBackSpec.post enc Tryz.prog Tryz.f6 false true false false W args (.bool true) W' :=
    fun W' hk e1 e2 e3 => post_of_law laid hrd rfl Tryz.underlying4 rfl hA0 hW' e1 e2 e3 hk
  rw [Tryz.params6] at hA hval
  obtain ⟨v0, vs0, d0, ds0, p0, q0, hargs, rfl, rfl, h0, r0⟩ := trodAll_cons hA
  obtain ⟨v1, vs1, d1, ds1, p1, q1, rfl, rfl, rfl, h1, r1⟩ := trodAll_cons r0
  obtain ⟨rfl, rfl, rfl⟩ := trodAll_nil r1
  obtain rfl : args = #[v0, v1] := by cases args; simp_all
  obtain ⟨cs0, rfl, _⟩ := okWide_struct Tryz.underlying34 (hval 0 34 v0 rfl rfl)
  obtain ⟨fu0, hf0⟩ := h0
  obtain ⟨ed0, ecs0, hw0⟩ := open_ed8 (w := W) hf0
  obtain rfl : cs0 = #[.slice ed0.A ed0.gone.length ed0.c, (ed0.T 0).v, (ed0.T 1).v, (ed0.T 2).v, (ed0.T 3).v, .int .u64 (ed0.nx : Nat), .int .u64 (ed0.lg : Nat), .int .u64 (ed0.sq : Nat)] := Array.toList_inj.1 (by simpa [Value.cells] using ecs0)
  obtain ⟨a1, rfl, rfl, rfl, w1⟩ := open_string Tryz.underlying9 (hval 1 9 v1 rfl rfl) h1
  clear hA0 hval0
  refine (LevelBack_walk (w := W) ed0 a1 hw0 w1).mono fun e W' ⟨he, hg⟩ => ?_
  subst he
  exact ⟨_, rfl, fin W' hg rfl rfl rfl⟩

theorem over : Rows.levelBackRow.holds Tryz.pinned (OpenSpec.ofChange Rows.levelBackSpec) :=
  OpenClaim.holds_of_wide 6 Tryz.f6 rfl rfl rfl rfl rfl rfl rfl ⟨rfl, rfl, rfl, rfl, rfl⟩ rfl rfl rfl rfl rfl (by kernel_rfl) Tryz.func6 (by kernel_rfl)
    (of_decide_eq_true (by kernel_rfl)) (by unfold Func.isWrapper; first | (rw [if_pos (by decide +kernel)]; kernel_rfl) | (rw [if_neg (by decide +kernel)]; exact ⟨rfl, rfl⟩))
    (fun os started H enc _ => lifted os started H enc)

theorem proved : Rows.LevelBackSaid :=
  over
end Go.Proofs.YtkedbclojhlcgaaGreat.levelBack

namespace Go.Proofs.YtkedbclojhlcgaaGreat
theorem LevelBack_holds : Rows.LevelBackSaid := levelBack.proved
#print axioms LevelBack_holds
end Go.Proofs.YtkedbclojhlcgaaGreat
