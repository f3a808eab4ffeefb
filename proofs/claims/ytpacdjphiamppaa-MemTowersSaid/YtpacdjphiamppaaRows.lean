/-
  No cell of these rows narrows 'for every input' (looked for: loops, veiled, ifaces, maps, wideKeys, modest, calm, conditions, laid).
  DERIVED. THE GIVEN ROWS OF THIS SEAT. 7 by the template 'for every input the law returns true; each argument reads behind the call as it read before'; 0 by the template 'total and deterministic' (their statements: YtpacdjphiamppaaTotals.lean).
  GIVEN WITH THE SEED: the statements are not yours to turn. If you find one false, say at which input.
  Laid BY PROGRAM, IN A SANDBOX (cutbox-rows.mjs): the forced cells as the released guide's own fill.sh prints them over the translation a03912ed09856a1b… (all of the seat's roots in one cut). By AI agents, Wed Nov 11 2026. No macro, syntax, notation, axiom, sorry.
-/
import Derived.Test.YtpacdjphiamppaaChecked
import GoSem.Claim
import GoSem.ClaimJoined
import GoSem.ClaimMapViews
import Derived.JoinedTies
import Derived.KernelRfl
namespace Go.Proofs.Ytpacdjphiamppaa
/- THE CELL 'sum', in the pinned program and in every row, IS THE sha256 OF THE DUMP (.gsa) THAT YtpacdjphiamppaaProg.lean LOADS. Nothing in Lean hashes anything: it is a label: what it is worth is what the hold of that sum in a sandbox is worth. -/
noncomputable def Try.pinned : Pinned := { name := "ytpacdjphiamppaa", sum := "a03912ed09856a1be4b6ad8f69f34f534ab53c4c0fa5bafe802424e94dff5753", checked := Try.checked }
namespace Rows
def none {H : Type} : Left H := { results := [], args := [] }

/-- 'screelaw07.MemDoes': WHATEVER THE INPUT: true; the input reads as it did. -/
def memDoesSpec : ChangeSpec := { name := "memDoes", fn := fun _ => fun
  | [d1, d2, d3, d4] => { results := [.lit (.bool true)], args := [d1, d2, d3, d4] }
  | _ => none }
def memDoesRow : OpenClaim := { program := "ytpacdjphiamppaa", sum := "a03912ed09856a1be4b6ad8f69f34f534ab53c4c0fa5bafe802424e94dff5753", func := "scree/screelaw07.MemDoes", spec := "memDoes", plainKeys := false, apart := false }
def MemDoesSaid : Prop := memDoesRow.holds Try.pinned (OpenSpec.ofChange memDoesSpec)

/-- ITS FALSE NEIGHBOUR: 'it returns false'. Refute it at one input. -/
def memDoesWrong : ChangeSpec := { name := "memDoes", fn := fun _ => fun
  | [d1, d2, d3, d4] => { results := [.lit (.bool false)], args := [d1, d2, d3, d4] }
  | _ => none }
def MemDoesWrongFalsely : Prop := memDoesRow.holds Try.pinned (OpenSpec.ofChange memDoesWrong)

/-- 'screelaw07.MemOrder': WHATEVER THE INPUT: true; the input reads as it did. -/
def memOrderSpec : ChangeSpec := { name := "memOrder", fn := fun _ => fun
  | [d] => { results := [.lit (.bool true)], args := [d] }
  | _ => none }
def memOrderRow : OpenClaim := { program := "ytpacdjphiamppaa", sum := "a03912ed09856a1be4b6ad8f69f34f534ab53c4c0fa5bafe802424e94dff5753", func := "scree/screelaw07.MemOrder", spec := "memOrder", plainKeys := false, apart := false }
def MemOrderSaid : Prop := memOrderRow.holds Try.pinned (OpenSpec.ofChange memOrderSpec)

/-- ITS FALSE NEIGHBOUR: 'it returns false'. Refute it at one input. -/
def memOrderWrong : ChangeSpec := { name := "memOrder", fn := fun _ => fun
  | [d] => { results := [.lit (.bool false)], args := [d] }
  | _ => none }
def MemOrderWrongFalsely : Prop := memOrderRow.holds Try.pinned (OpenSpec.ofChange memOrderWrong)

/-- 'screelaw07.MemHeights': WHATEVER THE INPUT: true; the input reads as it did. -/
def memHeightsSpec : ChangeSpec := { name := "memHeights", fn := fun _ => fun
  | [d1, d2, d3] => { results := [.lit (.bool true)], args := [d1, d2, d3] }
  | _ => none }
def memHeightsRow : OpenClaim := { program := "ytpacdjphiamppaa", sum := "a03912ed09856a1be4b6ad8f69f34f534ab53c4c0fa5bafe802424e94dff5753", func := "scree/screelaw07.MemHeights", spec := "memHeights", plainKeys := false, apart := false }
def MemHeightsSaid : Prop := memHeightsRow.holds Try.pinned (OpenSpec.ofChange memHeightsSpec)

/-- ITS FALSE NEIGHBOUR: 'it returns false'. Refute it at one input. -/
def memHeightsWrong : ChangeSpec := { name := "memHeights", fn := fun _ => fun
  | [d1, d2, d3] => { results := [.lit (.bool false)], args := [d1, d2, d3] }
  | _ => none }
def MemHeightsWrongFalsely : Prop := memHeightsRow.holds Try.pinned (OpenSpec.ofChange memHeightsWrong)

/-- 'screelaw07.MemNewest': WHATEVER THE INPUT: true; the input reads as it did. -/
def memNewestSpec : ChangeSpec := { name := "memNewest", fn := fun _ => fun
  | [d1, d2, d3] => { results := [.lit (.bool true)], args := [d1, d2, d3] }
  | _ => none }
def memNewestRow : OpenClaim := { program := "ytpacdjphiamppaa", sum := "a03912ed09856a1be4b6ad8f69f34f534ab53c4c0fa5bafe802424e94dff5753", func := "scree/screelaw07.MemNewest", spec := "memNewest", plainKeys := false, apart := false }
def MemNewestSaid : Prop := memNewestRow.holds Try.pinned (OpenSpec.ofChange memNewestSpec)

/-- ITS FALSE NEIGHBOUR: 'it returns false'. Refute it at one input. -/
def memNewestWrong : ChangeSpec := { name := "memNewest", fn := fun _ => fun
  | [d1, d2, d3] => { results := [.lit (.bool false)], args := [d1, d2, d3] }
  | _ => none }
def MemNewestWrongFalsely : Prop := memNewestRow.holds Try.pinned (OpenSpec.ofChange memNewestWrong)

/-- 'screelaw07.MemFrom': WHATEVER THE INPUT: true; the input reads as it did. -/
def memFromSpec : ChangeSpec := { name := "memFrom", fn := fun _ => fun
  | [d1, d2, d3] => { results := [.lit (.bool true)], args := [d1, d2, d3] }
  | _ => none }
def memFromRow : OpenClaim := { program := "ytpacdjphiamppaa", sum := "a03912ed09856a1be4b6ad8f69f34f534ab53c4c0fa5bafe802424e94dff5753", func := "scree/screelaw07.MemFrom", spec := "memFrom", plainKeys := false, apart := false }
def MemFromSaid : Prop := memFromRow.holds Try.pinned (OpenSpec.ofChange memFromSpec)

/-- ITS FALSE NEIGHBOUR: 'it returns false'. Refute it at one input. -/
def memFromWrong : ChangeSpec := { name := "memFrom", fn := fun _ => fun
  | [d1, d2, d3] => { results := [.lit (.bool false)], args := [d1, d2, d3] }
  | _ => none }
def MemFromWrongFalsely : Prop := memFromRow.holds Try.pinned (OpenSpec.ofChange memFromWrong)

/-- 'screelaw07.MemSteps': WHATEVER THE INPUT: true; the input reads as it did. -/
def memStepsSpec : ChangeSpec := { name := "memSteps", fn := fun _ => fun
  | [d1, d2, d3, d4] => { results := [.lit (.bool true)], args := [d1, d2, d3, d4] }
  | _ => none }
def memStepsRow : OpenClaim := { program := "ytpacdjphiamppaa", sum := "a03912ed09856a1be4b6ad8f69f34f534ab53c4c0fa5bafe802424e94dff5753", func := "scree/screelaw07.MemSteps", spec := "memSteps", unfollowed := true, recurses := true, plainKeys := false, apart := false }
def MemStepsSaid : Prop := memStepsRow.holds Try.pinned (OpenSpec.ofChange memStepsSpec)

/-- ITS FALSE NEIGHBOUR: 'it returns false'. Refute it at one input. -/
def memStepsWrong : ChangeSpec := { name := "memSteps", fn := fun _ => fun
  | [d1, d2, d3, d4] => { results := [.lit (.bool false)], args := [d1, d2, d3, d4] }
  | _ => none }
def MemStepsWrongFalsely : Prop := memStepsRow.holds Try.pinned (OpenSpec.ofChange memStepsWrong)

/-- 'screelaw07.MemTowers': WHATEVER THE INPUT: true; the input reads as it did. -/
def memTowersSpec : ChangeSpec := { name := "memTowers", fn := fun _ => fun
  | [d] => { results := [.lit (.bool true)], args := [d] }
  | _ => none }
def memTowersRow : OpenClaim := { program := "ytpacdjphiamppaa", sum := "a03912ed09856a1be4b6ad8f69f34f534ab53c4c0fa5bafe802424e94dff5753", func := "scree/screelaw07.MemTowers", spec := "memTowers", plainKeys := false, apart := false }
def MemTowersSaid : Prop := memTowersRow.holds Try.pinned (OpenSpec.ofChange memTowersSpec)

/-- ITS FALSE NEIGHBOUR: 'it returns false'. Refute it at one input. -/
def memTowersWrong : ChangeSpec := { name := "memTowers", fn := fun _ => fun
  | [d] => { results := [.lit (.bool false)], args := [d] }
  | _ => none }
def MemTowersWrongFalsely : Prop := memTowersRow.holds Try.pinned (OpenSpec.ofChange memTowersWrong)

/- THE SECOND FORM. 'bulk': how many values and letters a reading holds, each counted each time it is reached (what is shared counts as often as it is met; a slice's spare places count too). A statement '..UptoSaid' is the law's where the arguments, and the package variables that the reading takes, are together of bulk at most 1048576: NARROWER than '..Said'. Prove '..Said' where nothing that the law and all that it calls make is longer than what came in: it says more and counts as full. Else prove '..UptoSaid'. A law counts once. -/
mutual
def uptoBulk {H : Type} : DataW H → Nat
  | .lit (.string bytes) => bytes.length + 1
  | .lit _ => 1
  | .nil => 1
  | .ptr d => uptoBulk d + 1
  | .slice elems spare => uptoBulkAll elems + uptoBulkAll spare + 1
  | .agg parts => uptoBulkAll parts + 1
  | .iface _ d => uptoBulk d + 1
  | .map entries => uptoBulkEntries entries + 1
  | .held _ => 1
def uptoBulkAll {H : Type} : List (DataW H) → Nat
  | [] => 0
  | d :: r => uptoBulk d + uptoBulkAll r
def uptoBulkEntries {H : Type} : List (Lit × DataW H) → Nat
  | [] => 0
  | x :: r => uptoBulkEntry x + uptoBulkEntries r
def uptoBulkEntry {H : Type} : Lit × DataW H → Nat
  | (.string bytes, d) => bytes.length + uptoBulk d + 1
  | (_, d) => uptoBulk d + 1
 end
def uptoSmall : (H : Type) → List (DataW H) → Bool := fun _ ds => decide (uptoBulkAll ds ≤ 1048576)
def OpenSpec.upto (s : _root_.Go.ChangeSpec) : _root_.Go.OpenSpec := { _root_.Go.OpenSpec.ofChange s with cond := some uptoSmall }

/-- 'screelaw07.MemDoes', WHERE WHAT IT READS IS OF BULK AT MOST 1048576: true; the input reads as it did. -/
def memDoesUptoRow : OpenClaim := { program := "ytpacdjphiamppaa", sum := "a03912ed09856a1be4b6ad8f69f34f534ab53c4c0fa5bafe802424e94dff5753", func := "scree/screelaw07.MemDoes", spec := "memDoes", plainKeys := false, apart := false, narrowed := true }
def MemDoesUptoSaid : Prop := memDoesUptoRow.holds Try.pinned (OpenSpec.upto memDoesSpec)

/-- 'screelaw07.MemOrder', WHERE WHAT IT READS IS OF BULK AT MOST 1048576: true; the input reads as it did. -/
def memOrderUptoRow : OpenClaim := { program := "ytpacdjphiamppaa", sum := "a03912ed09856a1be4b6ad8f69f34f534ab53c4c0fa5bafe802424e94dff5753", func := "scree/screelaw07.MemOrder", spec := "memOrder", plainKeys := false, apart := false, narrowed := true }
def MemOrderUptoSaid : Prop := memOrderUptoRow.holds Try.pinned (OpenSpec.upto memOrderSpec)

/-- 'screelaw07.MemHeights', WHERE WHAT IT READS IS OF BULK AT MOST 1048576: true; the input reads as it did. -/
def memHeightsUptoRow : OpenClaim := { program := "ytpacdjphiamppaa", sum := "a03912ed09856a1be4b6ad8f69f34f534ab53c4c0fa5bafe802424e94dff5753", func := "scree/screelaw07.MemHeights", spec := "memHeights", plainKeys := false, apart := false, narrowed := true }
def MemHeightsUptoSaid : Prop := memHeightsUptoRow.holds Try.pinned (OpenSpec.upto memHeightsSpec)

/-- 'screelaw07.MemNewest', WHERE WHAT IT READS IS OF BULK AT MOST 1048576: true; the input reads as it did. -/
def memNewestUptoRow : OpenClaim := { program := "ytpacdjphiamppaa", sum := "a03912ed09856a1be4b6ad8f69f34f534ab53c4c0fa5bafe802424e94dff5753", func := "scree/screelaw07.MemNewest", spec := "memNewest", plainKeys := false, apart := false, narrowed := true }
def MemNewestUptoSaid : Prop := memNewestUptoRow.holds Try.pinned (OpenSpec.upto memNewestSpec)

/-- 'screelaw07.MemFrom', WHERE WHAT IT READS IS OF BULK AT MOST 1048576: true; the input reads as it did. -/
def memFromUptoRow : OpenClaim := { program := "ytpacdjphiamppaa", sum := "a03912ed09856a1be4b6ad8f69f34f534ab53c4c0fa5bafe802424e94dff5753", func := "scree/screelaw07.MemFrom", spec := "memFrom", plainKeys := false, apart := false, narrowed := true }
def MemFromUptoSaid : Prop := memFromUptoRow.holds Try.pinned (OpenSpec.upto memFromSpec)

/-- 'screelaw07.MemSteps', WHERE WHAT IT READS IS OF BULK AT MOST 1048576: true; the input reads as it did. -/
def memStepsUptoRow : OpenClaim := { program := "ytpacdjphiamppaa", sum := "a03912ed09856a1be4b6ad8f69f34f534ab53c4c0fa5bafe802424e94dff5753", func := "scree/screelaw07.MemSteps", spec := "memSteps", unfollowed := true, recurses := true, plainKeys := false, apart := false, narrowed := true }
def MemStepsUptoSaid : Prop := memStepsUptoRow.holds Try.pinned (OpenSpec.upto memStepsSpec)

/-- 'screelaw07.MemTowers', WHERE WHAT IT READS IS OF BULK AT MOST 1048576: true; the input reads as it did. -/
def memTowersUptoRow : OpenClaim := { program := "ytpacdjphiamppaa", sum := "a03912ed09856a1be4b6ad8f69f34f534ab53c4c0fa5bafe802424e94dff5753", func := "scree/screelaw07.MemTowers", spec := "memTowers", plainKeys := false, apart := false, narrowed := true }
def MemTowersUptoSaid : Prop := memTowersUptoRow.holds Try.pinned (OpenSpec.upto memTowersSpec)

end Rows
end Go.Proofs.Ytpacdjphiamppaa
