/-
  No cell of these rows narrows 'for every input' (looked for: loops, veiled, ifaces, maps, wideKeys, modest, calm, conditions, laid).
  DERIVED. THE GIVEN ROWS OF THIS SEAT. 8 by the template 'for every input the law returns true; each argument reads behind the call as it read before'; 0 by the template 'total and deterministic' (their statements: YtikknoojgeeflaaTotals.lean).
  GIVEN WITH THE SEED: the statements are not yours to turn. If you find one false, say at which input.
  Laid BY PROGRAM, IN A SANDBOX (cutbox-rows.mjs): the forced cells as the released guide's own fill.sh prints them over the translation 5868ee4b6e17d506… (all of the seat's roots in one cut). By AI agents, Wed Nov 11 2026. No macro, syntax, notation, axiom, sorry.
-/
import Derived.Test.YtikknoojgeeflaaChecked
import GoSem.Claim
import GoSem.ClaimJoined
import GoSem.ClaimMapViews
import Derived.JoinedTies
import Derived.KernelRfl
namespace Go.Proofs.Ytikknoojgeeflaa
/- THE CELL 'sum', in the pinned program and in every row, IS THE sha256 OF THE DUMP (.gsa) THAT YtikknoojgeeflaaProg.lean LOADS. Nothing in Lean hashes anything: it is a label: what it is worth is what the hold of that sum in a sandbox is worth. -/
noncomputable def Try.pinned : Pinned := { name := "ytikknoojgeeflaa", sum := "5868ee4b6e17d506c122d9954a33c45023fa35c224efc8ac62596fbf6452416b", checked := Try.checked }
namespace Rows
def none {H : Type} : Left H := { results := [], args := [] }

/-- 'screelaw07.MemDoes': WHATEVER THE INPUT: true; the input reads as it did. -/
def memDoesSpec : ChangeSpec := { name := "memDoes", fn := fun _ => fun
  | [d1, d2, d3, d4] => { results := [.lit (.bool true)], args := [d1, d2, d3, d4] }
  | _ => none }
def memDoesRow : OpenClaim := { program := "ytikknoojgeeflaa", sum := "5868ee4b6e17d506c122d9954a33c45023fa35c224efc8ac62596fbf6452416b", func := "scree/screelaw07.MemDoes", spec := "memDoes", plainKeys := false, apart := false }
def MemDoesSaid : Prop := memDoesRow.holds Try.pinned (OpenSpec.ofChange memDoesSpec)

/-- ITS FALSE NEIGHBOUR: 'it returns false'. Refute it at one input. -/
def memDoesWrong : ChangeSpec := { name := "memDoes", fn := fun _ => fun
  | [d1, d2, d3, d4] => { results := [.lit (.bool false)], args := [d1, d2, d3, d4] }
  | _ => none }
def MemDoesWrongFalsely : Prop := memDoesRow.holds Try.pinned (OpenSpec.ofChange memDoesWrong)

/-- 'screelaw08.MergeTells': WHATEVER THE INPUT: true; the input reads as it did. -/
def mergeTellsSpec : ChangeSpec := { name := "mergeTells", fn := fun _ => fun
  | [d1, d2, d3, d4] => { results := [.lit (.bool true)], args := [d1, d2, d3, d4] }
  | _ => none }
def mergeTellsRow : OpenClaim := { program := "ytikknoojgeeflaa", sum := "5868ee4b6e17d506c122d9954a33c45023fa35c224efc8ac62596fbf6452416b", func := "scree/screelaw08.MergeTells", spec := "mergeTells", unfollowed := true, recurses := true, plainKeys := false, apart := false }
def MergeTellsSaid : Prop := mergeTellsRow.holds Try.pinned (OpenSpec.ofChange mergeTellsSpec)

/-- ITS FALSE NEIGHBOUR: 'it returns false'. Refute it at one input. -/
def mergeTellsWrong : ChangeSpec := { name := "mergeTells", fn := fun _ => fun
  | [d1, d2, d3, d4] => { results := [.lit (.bool false)], args := [d1, d2, d3, d4] }
  | _ => none }
def MergeTellsWrongFalsely : Prop := mergeTellsRow.holds Try.pinned (OpenSpec.ofChange mergeTellsWrong)

/-- 'screelaw08.MergeGroups': WHATEVER THE INPUT: true; the input reads as it did. -/
def mergeGroupsSpec : ChangeSpec := { name := "mergeGroups", fn := fun _ => fun
  | [d1, d2] => { results := [.lit (.bool true)], args := [d1, d2] }
  | _ => none }
def mergeGroupsRow : OpenClaim := { program := "ytikknoojgeeflaa", sum := "5868ee4b6e17d506c122d9954a33c45023fa35c224efc8ac62596fbf6452416b", func := "scree/screelaw08.MergeGroups", spec := "mergeGroups", unfollowed := true, recurses := true, plainKeys := false, apart := false }
def MergeGroupsSaid : Prop := mergeGroupsRow.holds Try.pinned (OpenSpec.ofChange mergeGroupsSpec)

/-- ITS FALSE NEIGHBOUR: 'it returns false'. Refute it at one input. -/
def mergeGroupsWrong : ChangeSpec := { name := "mergeGroups", fn := fun _ => fun
  | [d1, d2] => { results := [.lit (.bool false)], args := [d1, d2] }
  | _ => none }
def MergeGroupsWrongFalsely : Prop := mergeGroupsRow.holds Try.pinned (OpenSpec.ofChange mergeGroupsWrong)

/-- 'screelaw08.MergeHas': WHATEVER THE INPUT: true; the input reads as it did. -/
def mergeHasSpec : ChangeSpec := { name := "mergeHas", fn := fun _ => fun
  | [d] => { results := [.lit (.bool true)], args := [d] }
  | _ => none }
def mergeHasRow : OpenClaim := { program := "ytikknoojgeeflaa", sum := "5868ee4b6e17d506c122d9954a33c45023fa35c224efc8ac62596fbf6452416b", func := "scree/screelaw08.MergeHas", spec := "mergeHas", unfollowed := true, recurses := true, plainKeys := false, apart := false }
def MergeHasSaid : Prop := mergeHasRow.holds Try.pinned (OpenSpec.ofChange mergeHasSpec)

/-- ITS FALSE NEIGHBOUR: 'it returns false'. Refute it at one input. -/
def mergeHasWrong : ChangeSpec := { name := "mergeHas", fn := fun _ => fun
  | [d] => { results := [.lit (.bool false)], args := [d] }
  | _ => none }
def MergeHasWrongFalsely : Prop := mergeHasRow.holds Try.pinned (OpenSpec.ofChange mergeHasWrong)

/-- 'screelaw08.MergeNewest': WHATEVER THE INPUT: true; the input reads as it did. -/
def mergeNewestSpec : ChangeSpec := { name := "mergeNewest", fn := fun _ => fun
  | [d1, d2, d3] => { results := [.lit (.bool true)], args := [d1, d2, d3] }
  | _ => none }
def mergeNewestRow : OpenClaim := { program := "ytikknoojgeeflaa", sum := "5868ee4b6e17d506c122d9954a33c45023fa35c224efc8ac62596fbf6452416b", func := "scree/screelaw08.MergeNewest", spec := "mergeNewest", unfollowed := true, recurses := true, plainKeys := false, apart := false }
def MergeNewestSaid : Prop := mergeNewestRow.holds Try.pinned (OpenSpec.ofChange mergeNewestSpec)

/-- ITS FALSE NEIGHBOUR: 'it returns false'. Refute it at one input. -/
def mergeNewestWrong : ChangeSpec := { name := "mergeNewest", fn := fun _ => fun
  | [d1, d2, d3] => { results := [.lit (.bool false)], args := [d1, d2, d3] }
  | _ => none }
def MergeNewestWrongFalsely : Prop := mergeNewestRow.holds Try.pinned (OpenSpec.ofChange mergeNewestWrong)

/-- 'screelaw08.MergeGets': WHATEVER THE INPUT: true; the input reads as it did. -/
def mergeGetsSpec : ChangeSpec := { name := "mergeGets", fn := fun _ => fun
  | [d1, d2, d3] => { results := [.lit (.bool true)], args := [d1, d2, d3] }
  | _ => none }
def mergeGetsRow : OpenClaim := { program := "ytikknoojgeeflaa", sum := "5868ee4b6e17d506c122d9954a33c45023fa35c224efc8ac62596fbf6452416b", func := "scree/screelaw08.MergeGets", spec := "mergeGets", unfollowed := true, recurses := true, plainKeys := false, apart := false }
def MergeGetsSaid : Prop := mergeGetsRow.holds Try.pinned (OpenSpec.ofChange mergeGetsSpec)

/-- ITS FALSE NEIGHBOUR: 'it returns false'. Refute it at one input. -/
def mergeGetsWrong : ChangeSpec := { name := "mergeGets", fn := fun _ => fun
  | [d1, d2, d3] => { results := [.lit (.bool false)], args := [d1, d2, d3] }
  | _ => none }
def MergeGetsWrongFalsely : Prop := mergeGetsRow.holds Try.pinned (OpenSpec.ofChange mergeGetsWrong)

/-- 'screelaw08.MergeParts': WHATEVER THE INPUT: true; the input reads as it did. -/
def mergePartsSpec : ChangeSpec := { name := "mergeParts", fn := fun _ => fun
  | [d1, d2, d3] => { results := [.lit (.bool true)], args := [d1, d2, d3] }
  | _ => none }
def mergePartsRow : OpenClaim := { program := "ytikknoojgeeflaa", sum := "5868ee4b6e17d506c122d9954a33c45023fa35c224efc8ac62596fbf6452416b", func := "scree/screelaw08.MergeParts", spec := "mergeParts", unfollowed := true, recurses := true, plainKeys := false, apart := false }
def MergePartsSaid : Prop := mergePartsRow.holds Try.pinned (OpenSpec.ofChange mergePartsSpec)

/-- ITS FALSE NEIGHBOUR: 'it returns false'. Refute it at one input. -/
def mergePartsWrong : ChangeSpec := { name := "mergeParts", fn := fun _ => fun
  | [d1, d2, d3] => { results := [.lit (.bool false)], args := [d1, d2, d3] }
  | _ => none }
def MergePartsWrongFalsely : Prop := mergePartsRow.holds Try.pinned (OpenSpec.ofChange mergePartsWrong)

/-- 'screelaw08.MergeSeen': WHATEVER THE INPUT: true; the input reads as it did. -/
def mergeSeenSpec : ChangeSpec := { name := "mergeSeen", fn := fun _ => fun
  | [d1, d2, d3] => { results := [.lit (.bool true)], args := [d1, d2, d3] }
  | _ => none }
def mergeSeenRow : OpenClaim := { program := "ytikknoojgeeflaa", sum := "5868ee4b6e17d506c122d9954a33c45023fa35c224efc8ac62596fbf6452416b", func := "scree/screelaw08.MergeSeen", spec := "mergeSeen", unfollowed := true, recurses := true, plainKeys := false, apart := false }
def MergeSeenSaid : Prop := mergeSeenRow.holds Try.pinned (OpenSpec.ofChange mergeSeenSpec)

/-- ITS FALSE NEIGHBOUR: 'it returns false'. Refute it at one input. -/
def mergeSeenWrong : ChangeSpec := { name := "mergeSeen", fn := fun _ => fun
  | [d1, d2, d3] => { results := [.lit (.bool false)], args := [d1, d2, d3] }
  | _ => none }
def MergeSeenWrongFalsely : Prop := mergeSeenRow.holds Try.pinned (OpenSpec.ofChange mergeSeenWrong)

/- THE SECOND FORM. 'bulk': how many values and letters a reading holds, each counted each time it is reached (what is shared counts as often as it is met; a slice's spare places count too). A statement '..UptoSaid' is the law's where the arguments, and the package variables that the reading takes, are together of bulk at most 1048576: NARROWER than '..Said'. Prove '..Said' where nothing that the law and all that it calls make is longer than what came in: it says more and counts as full. Else prove '..UptoSaid'. A law counts once. -/
mutual
def uptoBulk {H : Type} : DataW H → Nat
  | .lit (.string bytes) => bytes.length + 1
  | .lit _ => 1
  | .nil => 1
  | .ptr d => uptoBulk d + 1
  | .slice elems spare => uptoBulkAll elems + uptoBulkAll spare + 1
  | .agg parts => uptoBulkAll parts + 1
  | .iface _ d => uptoBulk d + 1
  | .map entries => uptoBulkEntries entries + 1
  | .held _ => 1
def uptoBulkAll {H : Type} : List (DataW H) → Nat
  | [] => 0
  | d :: r => uptoBulk d + uptoBulkAll r
def uptoBulkEntries {H : Type} : List (Lit × DataW H) → Nat
  | [] => 0
  | x :: r => uptoBulkEntry x + uptoBulkEntries r
def uptoBulkEntry {H : Type} : Lit × DataW H → Nat
  | (.string bytes, d) => bytes.length + uptoBulk d + 1
  | (_, d) => uptoBulk d + 1
 end
def uptoSmall : (H : Type) → List (DataW H) → Bool := fun _ ds => decide (uptoBulkAll ds ≤ 1048576)
def OpenSpec.upto (s : _root_.Go.ChangeSpec) : _root_.Go.OpenSpec := { _root_.Go.OpenSpec.ofChange s with cond := some uptoSmall }

/-- 'screelaw07.MemDoes', WHERE WHAT IT READS IS OF BULK AT MOST 1048576: true; the input reads as it did. -/
def memDoesUptoRow : OpenClaim := { program := "ytikknoojgeeflaa", sum := "5868ee4b6e17d506c122d9954a33c45023fa35c224efc8ac62596fbf6452416b", func := "scree/screelaw07.MemDoes", spec := "memDoes", plainKeys := false, apart := false, narrowed := true }
def MemDoesUptoSaid : Prop := memDoesUptoRow.holds Try.pinned (OpenSpec.upto memDoesSpec)

/-- 'screelaw08.MergeTells', WHERE WHAT IT READS IS OF BULK AT MOST 1048576: true; the input reads as it did. -/
def mergeTellsUptoRow : OpenClaim := { program := "ytikknoojgeeflaa", sum := "5868ee4b6e17d506c122d9954a33c45023fa35c224efc8ac62596fbf6452416b", func := "scree/screelaw08.MergeTells", spec := "mergeTells", unfollowed := true, recurses := true, plainKeys := false, apart := false, narrowed := true }
def MergeTellsUptoSaid : Prop := mergeTellsUptoRow.holds Try.pinned (OpenSpec.upto mergeTellsSpec)

/-- 'screelaw08.MergeGroups', WHERE WHAT IT READS IS OF BULK AT MOST 1048576: true; the input reads as it did. -/
def mergeGroupsUptoRow : OpenClaim := { program := "ytikknoojgeeflaa", sum := "5868ee4b6e17d506c122d9954a33c45023fa35c224efc8ac62596fbf6452416b", func := "scree/screelaw08.MergeGroups", spec := "mergeGroups", unfollowed := true, recurses := true, plainKeys := false, apart := false, narrowed := true }
def MergeGroupsUptoSaid : Prop := mergeGroupsUptoRow.holds Try.pinned (OpenSpec.upto mergeGroupsSpec)

/-- 'screelaw08.MergeHas', WHERE WHAT IT READS IS OF BULK AT MOST 1048576: true; the input reads as it did. -/
def mergeHasUptoRow : OpenClaim := { program := "ytikknoojgeeflaa", sum := "5868ee4b6e17d506c122d9954a33c45023fa35c224efc8ac62596fbf6452416b", func := "scree/screelaw08.MergeHas", spec := "mergeHas", unfollowed := true, recurses := true, plainKeys := false, apart := false, narrowed := true }
def MergeHasUptoSaid : Prop := mergeHasUptoRow.holds Try.pinned (OpenSpec.upto mergeHasSpec)

/-- 'screelaw08.MergeNewest', WHERE WHAT IT READS IS OF BULK AT MOST 1048576: true; the input reads as it did. -/
def mergeNewestUptoRow : OpenClaim := { program := "ytikknoojgeeflaa", sum := "5868ee4b6e17d506c122d9954a33c45023fa35c224efc8ac62596fbf6452416b", func := "scree/screelaw08.MergeNewest", spec := "mergeNewest", unfollowed := true, recurses := true, plainKeys := false, apart := false, narrowed := true }
def MergeNewestUptoSaid : Prop := mergeNewestUptoRow.holds Try.pinned (OpenSpec.upto mergeNewestSpec)

/-- 'screelaw08.MergeGets', WHERE WHAT IT READS IS OF BULK AT MOST 1048576: true; the input reads as it did. -/
def mergeGetsUptoRow : OpenClaim := { program := "ytikknoojgeeflaa", sum := "5868ee4b6e17d506c122d9954a33c45023fa35c224efc8ac62596fbf6452416b", func := "scree/screelaw08.MergeGets", spec := "mergeGets", unfollowed := true, recurses := true, plainKeys := false, apart := false, narrowed := true }
def MergeGetsUptoSaid : Prop := mergeGetsUptoRow.holds Try.pinned (OpenSpec.upto mergeGetsSpec)

/-- 'screelaw08.MergeParts', WHERE WHAT IT READS IS OF BULK AT MOST 1048576: true; the input reads as it did. -/
def mergePartsUptoRow : OpenClaim := { program := "ytikknoojgeeflaa", sum := "5868ee4b6e17d506c122d9954a33c45023fa35c224efc8ac62596fbf6452416b", func := "scree/screelaw08.MergeParts", spec := "mergeParts", unfollowed := true, recurses := true, plainKeys := false, apart := false, narrowed := true }
def MergePartsUptoSaid : Prop := mergePartsUptoRow.holds Try.pinned (OpenSpec.upto mergePartsSpec)

/-- 'screelaw08.MergeSeen', WHERE WHAT IT READS IS OF BULK AT MOST 1048576: true; the input reads as it did. -/
def mergeSeenUptoRow : OpenClaim := { program := "ytikknoojgeeflaa", sum := "5868ee4b6e17d506c122d9954a33c45023fa35c224efc8ac62596fbf6452416b", func := "scree/screelaw08.MergeSeen", spec := "mergeSeen", unfollowed := true, recurses := true, plainKeys := false, apart := false, narrowed := true }
def MergeSeenUptoSaid : Prop := mergeSeenUptoRow.holds Try.pinned (OpenSpec.upto mergeSeenSpec)

end Rows
end Go.Proofs.Ytikknoojgeeflaa
