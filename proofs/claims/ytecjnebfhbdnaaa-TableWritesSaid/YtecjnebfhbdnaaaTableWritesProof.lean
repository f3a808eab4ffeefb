/-
  The call of screelaw11.TableWrites returns true for every list of entries (of lengths that the form reads) and leaves what was there as it was; no other condition.
-/
import Derived.Test.YtecjnebfhbdnaaaRows
import Derived.Test.YtecjnebfhbdnaaaTableLawWrites
import Derived.Test.YtecjnebfhbdnaaaArgsPost
import Derived.WalkKit
import Derived.ProofKit
import Derived.SizedLaws
import Derived.OpenShut
import Derived.ShutString
import Derived.Lib.SmallJoins
namespace Go.Proofs.Ytecjnebfhbdnaaa.tableWrites
open Go.ChangeShapes Go.WideShapes Go.ChangeAt Go.RowKit Go.Joins
open Go.ChangeMaps (open_string shut_string)
set_option linter.unusedVariables false

theorem own : ownKnob Try.prog.godebug = none := by kernel_rfl
theorem laid : laidOutB Try.prog = true := by kernel_rfl
theorem readable : Try.f3.params.toList.all (fun t => Try.prog.readableRec t && decide (t < Try.prog.types.size)) = true := by kernel_rfl

set_option maxRecDepth 100000 in
set_option maxHeartbeats 2000000 in
theorem lifted (os : Os) (started : os.Started) (H : Type) (enc : TypeId × Value → H) :
    ReturnsInHanded {} Try.checked os 3 .any (Rows.tableWritesSpec.pre6 enc Try.prog Try.f3 Rows.tableWritesRow.domain false) (Rows.tableWritesSpec.post enc Try.prog Try.f3 false true false false) := by
  refine returnsInHanded_of_change_sized (C := Try.checked) own started (by kernel_rfl) Try.func3
    (ChangeSpec.witness6 (enc := enc) (C := Try.checked) false ⟨#[], #[.slice none 0 0], []⟩ 8 (by kernel_rfl) (by kernel_rfl) (by kernel_rfl) (by kernel_rfl)) ?_
  intro W base args ds gs before hval0 hW hcnd0 hsz0 _
  have hsz : (DataW.weightsEach Try.prog (Try.f3.params.toList ++ Rows.tableWritesSpec.plain.varTypes Try.prog) (ds ++ gs)).all (· ≤ reachBytes) = true := hsz0
  have hval : ∀ (j : Nat) t v, Try.f3.params[j]? = some t → args[j]? = some v → Value.okWide Try.prog W .any base t v := hval0
  have hW' := hW
  obtain ⟨p, q, hA0, hV, rfl, hfz, hnd⟩ := hW
  have hA : DataW.TrodAll enc Try.prog W 0 (fun _ => true) true Try.f3.params.toList args.toList ds p := hA0
  have hrd : ∀ t ∈ Try.f3.params.toList, Try.prog.readableRec t = true ∧ t < Try.prog.types.size := fun t ht => by
    have := List.all_eq_true.1 readable t ht
    simpa using this
  obtain ⟨rfl, rfl⟩ := trodVars_none hV
  simp only [List.append_nil] at hW'
  have fin : ∀ W', Kept W W' → (Rows.tableWritesSpec.fn H (ds ++ [])).results = [.lit (.bool true)] → (Rows.tableWritesSpec.fn H (ds ++ [])).args = ds → (Rows.tableWritesSpec.fn H (ds ++ [])).vars = [] → Rows.tableWritesSpec.post enc Try.prog Try.f3 false true false false W args (.bool true) W' :=
    fun W' hk e1 e2 e3 => post_of_law laid hrd rfl Try.underlying4 rfl hA0 hW' e1 e2 e3 hk
  rw [Try.params3] at hA hval hsz
  obtain ⟨v0, vs0, d0, ds0, p0, q0, hargs, rfl, rfl, h0, r0⟩ := trodAll_cons hA
  obtain ⟨rfl, rfl, rfl⟩ := trodAll_nil r0
  obtain rfl : args = #[v0] := by cases args; simp_all
  obtain ⟨b0, len0, cap0, rfl⟩ := okWide_slice Try.underlying22 (hval 0 22 v0 rfl rfl)
  obtain ⟨fu0, hf0⟩ := h0
  obtain ⟨A0, c0, l0, e0, ha0, hl0⟩ := open_es (w := W) hf0
  have hz0 : l0.length * 48 ≤ 140737488355328 := by
    rcases slice_reach hf0 e0 with h0' | ⟨el, sp, hd, hlen⟩
    · rw [h0']; omega
    · subst hd
      have := sized_slice hsz (j := 0) (t := 22) (e := 37) rfl rfl Try.underlying22
      rw [entBytes] at this
      simp only [reachBytes] at this
      omega
  obtain ⟨rfl, rfl, rfl⟩ : b0 = A0 ∧ len0 = l0.length ∧ cap0 = c0 := by simpa [Value.cells] using e0
  clear hA0 hval0
  refine (TableWrites_walk (w := W) b0 cap0 l0 ha0 hl0 hz0).mono fun e W' ⟨he, hg⟩ => ?_
  subst he
  exact ⟨_, rfl, fin W' hg rfl rfl rfl⟩

theorem over : Rows.tableWritesRow.holds Try.pinned (OpenSpec.ofChange Rows.tableWritesSpec) :=
  OpenClaim.holds_of_wide 3 Try.f3 rfl rfl rfl rfl rfl rfl rfl ⟨rfl, rfl, rfl, rfl, rfl⟩ rfl rfl rfl rfl rfl (by kernel_rfl) Try.func3 (by kernel_rfl)
    (of_decide_eq_true (by kernel_rfl)) (by unfold Func.isWrapper; first | (rw [if_pos (by decide +kernel)]; kernel_rfl) | (rw [if_neg (by decide +kernel)]; exact ⟨rfl, rfl⟩))
    (fun os started H enc _ => lifted os started H enc)

theorem proved : Rows.TableWritesSaid :=
  over
end Go.Proofs.Ytecjnebfhbdnaaa.tableWrites

namespace Go.Proofs.Ytecjnebfhbdnaaa
theorem TableWrites_holds : Rows.TableWritesSaid := tableWrites.proved
#print axioms TableWrites_holds
end Go.Proofs.Ytecjnebfhbdnaaa
