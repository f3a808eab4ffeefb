/-
  No cell of these rows narrows 'for every input' (looked for: loops, veiled, ifaces, maps, wideKeys, modest, calm, conditions, laid).
  DERIVED. THE GIVEN ROWS OF THIS SEAT. 8 by the template 'for every input the law returns true; each argument reads behind the call as it read before'; 0 by the template 'total and deterministic' (their statements: YtnnmalpnjlnnlaaGreatTotals.lean).
  GIVEN WITH THE SEED: the statements are not yours to turn. If you find one false, say at which input.
  Laid BY PROGRAM, IN A SANDBOX (cutbox-rows.mjs): the forced cells as the released guide's own fill.sh prints them over the translation 21adf3f0f11ae421… (all of the seat's roots in one cut). By AI agents, Wed Nov 11 2026. No macro, syntax, notation, axiom, sorry.
-/
import Derived.Test.YtnnmalpnjlnnlaaGreatChecked
import GoSem.Claim
import GoSem.ClaimJoined
import GoSem.ClaimMapViews
import Derived.JoinedTies
import Derived.KernelRfl
namespace Go.Proofs.YtnnmalpnjlnnlaaGreat
/- THE CELL 'sum', in the pinned program and in every row, IS THE sha256 OF THE DUMP (.gsa) THAT YtnnmalpnjlnnlaaGreatProg.lean LOADS. Nothing in Lean hashes anything: it is a label: what it is worth is what the hold of that sum in a sandbox is worth. -/
noncomputable def Tryz.pinned : Pinned := { name := "ytnnmalpnjlnnlaagreat", sum := "21adf3f0f11ae421b30047df23047ea07cb4dbe326ed70de6a5e676e8bf04058", checked := Tryz.checked }
namespace Rows
def none {H : Type} : Left H := { results := [], args := [] }

/-- 'screelaw12.LevelApplies': WHATEVER THE INPUT: true; the input reads as it did. -/
def levelAppliesSpec : ChangeSpec := { name := "levelApplies", fn := fun _ => fun
  | [d] => { results := [.lit (.bool true)], args := [d] }
  | _ => none }
def levelAppliesRow : OpenClaim := { program := "ytnnmalpnjlnnlaagreat", sum := "21adf3f0f11ae421b30047df23047ea07cb4dbe326ed70de6a5e676e8bf04058", func := "scree/screelaw12.LevelApplies", spec := "levelApplies", inPlace := ["internal/abi.NoEscape"], unfollowed := true, recurses := true, apart := false }
def LevelAppliesSaid : Prop := levelAppliesRow.holds Tryz.pinned (OpenSpec.ofChange levelAppliesSpec)

/-- ITS FALSE NEIGHBOUR: 'it returns false'. Refute it at one input. -/
def levelAppliesWrong : ChangeSpec := { name := "levelApplies", fn := fun _ => fun
  | [d] => { results := [.lit (.bool false)], args := [d] }
  | _ => none }
def LevelAppliesWrongFalsely : Prop := levelAppliesRow.holds Tryz.pinned (OpenSpec.ofChange levelAppliesWrong)

/-- 'screelaw12.LevelPicks': WHATEVER THE INPUT: true; the input reads as it did. -/
def levelPicksSpec : ChangeSpec := { name := "levelPicks", fn := fun _ => fun
  | [d1, d2, d3, d4, d5] => { results := [.lit (.bool true)], args := [d1, d2, d3, d4, d5] }
  | _ => none }
def levelPicksRow : OpenClaim := { program := "ytnnmalpnjlnnlaagreat", sum := "21adf3f0f11ae421b30047df23047ea07cb4dbe326ed70de6a5e676e8bf04058", func := "scree/screelaw12.LevelPicks", spec := "levelPicks", inPlace := ["internal/abi.NoEscape"], unfollowed := true, recurses := true, apart := false }
def LevelPicksSaid : Prop := levelPicksRow.holds Tryz.pinned (OpenSpec.ofChange levelPicksSpec)

/-- ITS FALSE NEIGHBOUR: 'it returns false'. Refute it at one input. -/
def levelPicksWrong : ChangeSpec := { name := "levelPicks", fn := fun _ => fun
  | [d1, d2, d3, d4, d5] => { results := [.lit (.bool false)], args := [d1, d2, d3, d4, d5] }
  | _ => none }
def LevelPicksWrongFalsely : Prop := levelPicksRow.holds Tryz.pinned (OpenSpec.ofChange levelPicksWrong)

/-- 'screelaw12.LevelBytes': WHATEVER THE INPUT: true; the input reads as it did. -/
def levelBytesSpec : ChangeSpec := { name := "levelBytes", fn := fun _ => fun
  | [d1, d2] => { results := [.lit (.bool true)], args := [d1, d2] }
  | _ => none }
def levelBytesRow : OpenClaim := { program := "ytnnmalpnjlnnlaagreat", sum := "21adf3f0f11ae421b30047df23047ea07cb4dbe326ed70de6a5e676e8bf04058", func := "scree/screelaw12.LevelBytes", spec := "levelBytes", inPlace := ["internal/abi.NoEscape"], unfollowed := true, recurses := true, apart := false }
def LevelBytesSaid : Prop := levelBytesRow.holds Tryz.pinned (OpenSpec.ofChange levelBytesSpec)

/-- ITS FALSE NEIGHBOUR: 'it returns false'. Refute it at one input. -/
def levelBytesWrong : ChangeSpec := { name := "levelBytes", fn := fun _ => fun
  | [d1, d2] => { results := [.lit (.bool false)], args := [d1, d2] }
  | _ => none }
def LevelBytesWrongFalsely : Prop := levelBytesRow.holds Tryz.pinned (OpenSpec.ofChange levelBytesWrong)

/-- 'screelaw12.LevelBack': WHATEVER THE INPUT: true; the input reads as it did. -/
def levelBackSpec : ChangeSpec := { name := "levelBack", fn := fun _ => fun
  | [d1, d2] => { results := [.lit (.bool true)], args := [d1, d2] }
  | _ => none }
def levelBackRow : OpenClaim := { program := "ytnnmalpnjlnnlaagreat", sum := "21adf3f0f11ae421b30047df23047ea07cb4dbe326ed70de6a5e676e8bf04058", func := "scree/screelaw12.LevelBack", spec := "levelBack", inPlace := ["internal/abi.NoEscape"], unfollowed := true, recurses := true, apart := false }
def LevelBackSaid : Prop := levelBackRow.holds Tryz.pinned (OpenSpec.ofChange levelBackSpec)

/-- ITS FALSE NEIGHBOUR: 'it returns false'. Refute it at one input. -/
def levelBackWrong : ChangeSpec := { name := "levelBack", fn := fun _ => fun
  | [d1, d2] => { results := [.lit (.bool false)], args := [d1, d2] }
  | _ => none }
def LevelBackWrongFalsely : Prop := levelBackRow.holds Tryz.pinned (OpenSpec.ofChange levelBackWrong)

/-- 'screelaw12.LevelOrder': WHATEVER THE INPUT: true; the input reads as it did. -/
def levelOrderSpec : ChangeSpec := { name := "levelOrder", fn := fun _ => fun
  | [d] => { results := [.lit (.bool true)], args := [d] }
  | _ => none }
def levelOrderRow : OpenClaim := { program := "ytnnmalpnjlnnlaagreat", sum := "21adf3f0f11ae421b30047df23047ea07cb4dbe326ed70de6a5e676e8bf04058", func := "scree/screelaw12.LevelOrder", spec := "levelOrder", inPlace := ["internal/abi.NoEscape"], unfollowed := true, recurses := true, apart := false }
def LevelOrderSaid : Prop := levelOrderRow.holds Tryz.pinned (OpenSpec.ofChange levelOrderSpec)

/-- ITS FALSE NEIGHBOUR: 'it returns false'. Refute it at one input. -/
def levelOrderWrong : ChangeSpec := { name := "levelOrder", fn := fun _ => fun
  | [d] => { results := [.lit (.bool false)], args := [d] }
  | _ => none }
def LevelOrderWrongFalsely : Prop := levelOrderRow.holds Tryz.pinned (OpenSpec.ofChange levelOrderWrong)

/-- 'screelaw12.LevelPicked': WHATEVER THE INPUT: true; the input reads as it did. -/
def levelPickedSpec : ChangeSpec := { name := "levelPicked", fn := fun _ => fun
  | [d1, d2, d3] => { results := [.lit (.bool true)], args := [d1, d2, d3] }
  | _ => none }
def levelPickedRow : OpenClaim := { program := "ytnnmalpnjlnnlaagreat", sum := "21adf3f0f11ae421b30047df23047ea07cb4dbe326ed70de6a5e676e8bf04058", func := "scree/screelaw12.LevelPicked", spec := "levelPicked", inPlace := ["internal/abi.NoEscape"], unfollowed := true, recurses := true, apart := false }
def LevelPickedSaid : Prop := levelPickedRow.holds Tryz.pinned (OpenSpec.ofChange levelPickedSpec)

/-- ITS FALSE NEIGHBOUR: 'it returns false'. Refute it at one input. -/
def levelPickedWrong : ChangeSpec := { name := "levelPicked", fn := fun _ => fun
  | [d1, d2, d3] => { results := [.lit (.bool false)], args := [d1, d2, d3] }
  | _ => none }
def LevelPickedWrongFalsely : Prop := levelPickedRow.holds Tryz.pinned (OpenSpec.ofChange levelPickedWrong)

/-- 'screelaw12.LevelMeets': WHATEVER THE INPUT: true; the input reads as it did. -/
def levelMeetsSpec : ChangeSpec := { name := "levelMeets", fn := fun _ => fun
  | [d1, d2, d3, d4, d5] => { results := [.lit (.bool true)], args := [d1, d2, d3, d4, d5] }
  | _ => none }
def levelMeetsRow : OpenClaim := { program := "ytnnmalpnjlnnlaagreat", sum := "21adf3f0f11ae421b30047df23047ea07cb4dbe326ed70de6a5e676e8bf04058", func := "scree/screelaw12.LevelMeets", spec := "levelMeets", inPlace := ["internal/abi.NoEscape"], unfollowed := true, recurses := true, apart := false }
def LevelMeetsSaid : Prop := levelMeetsRow.holds Tryz.pinned (OpenSpec.ofChange levelMeetsSpec)

/-- ITS FALSE NEIGHBOUR: 'it returns false'. Refute it at one input. -/
def levelMeetsWrong : ChangeSpec := { name := "levelMeets", fn := fun _ => fun
  | [d1, d2, d3, d4, d5] => { results := [.lit (.bool false)], args := [d1, d2, d3, d4, d5] }
  | _ => none }
def LevelMeetsWrongFalsely : Prop := levelMeetsRow.holds Tryz.pinned (OpenSpec.ofChange levelMeetsWrong)

/-- 'screelaw12.LevelNumbers': WHATEVER THE INPUT: true; the input reads as it did. -/
def levelNumbersSpec : ChangeSpec := { name := "levelNumbers", fn := fun _ => fun
  | [d] => { results := [.lit (.bool true)], args := [d] }
  | _ => none }
def levelNumbersRow : OpenClaim := { program := "ytnnmalpnjlnnlaagreat", sum := "21adf3f0f11ae421b30047df23047ea07cb4dbe326ed70de6a5e676e8bf04058", func := "scree/screelaw12.LevelNumbers", spec := "levelNumbers", inPlace := ["internal/abi.NoEscape"], unfollowed := true, recurses := true, apart := false }
def LevelNumbersSaid : Prop := levelNumbersRow.holds Tryz.pinned (OpenSpec.ofChange levelNumbersSpec)

/-- ITS FALSE NEIGHBOUR: 'it returns false'. Refute it at one input. -/
def levelNumbersWrong : ChangeSpec := { name := "levelNumbers", fn := fun _ => fun
  | [d] => { results := [.lit (.bool false)], args := [d] }
  | _ => none }
def LevelNumbersWrongFalsely : Prop := levelNumbersRow.holds Tryz.pinned (OpenSpec.ofChange levelNumbersWrong)

/- THE SECOND FORM. 'bulk': how many values and letters a reading holds, each counted each time it is reached (what is shared counts as often as it is met; a slice's spare places count too). A statement '..UptoSaid' is the law's where the arguments, and the package variables that the reading takes, are together of bulk at most 1048576: NARROWER than '..Said'. Prove '..Said' where nothing that the law and all that it calls make is longer than what came in: it says more and counts as full. Else prove '..UptoSaid'. A law counts once. -/
mutual
def uptoBulk {H : Type} : DataW H → Nat
  | .lit (.string bytes) => bytes.length + 1
  | .lit _ => 1
  | .nil => 1
  | .ptr d => uptoBulk d + 1
  | .slice elems spare => uptoBulkAll elems + uptoBulkAll spare + 1
  | .agg parts => uptoBulkAll parts + 1
  | .iface _ d => uptoBulk d + 1
  | .map entries => uptoBulkEntries entries + 1
  | .held _ => 1
def uptoBulkAll {H : Type} : List (DataW H) → Nat
  | [] => 0
  | d :: r => uptoBulk d + uptoBulkAll r
def uptoBulkEntries {H : Type} : List (Lit × DataW H) → Nat
  | [] => 0
  | x :: r => uptoBulkEntry x + uptoBulkEntries r
def uptoBulkEntry {H : Type} : Lit × DataW H → Nat
  | (.string bytes, d) => bytes.length + uptoBulk d + 1
  | (_, d) => uptoBulk d + 1
 end
def uptoSmall : (H : Type) → List (DataW H) → Bool := fun _ ds => decide (uptoBulkAll ds ≤ 1048576)
def OpenSpec.upto (s : _root_.Go.ChangeSpec) : _root_.Go.OpenSpec := { _root_.Go.OpenSpec.ofChange s with cond := some uptoSmall }

/-- 'screelaw12.LevelApplies', WHERE WHAT IT READS IS OF BULK AT MOST 1048576: true; the input reads as it did. -/
def levelAppliesUptoRow : OpenClaim := { program := "ytnnmalpnjlnnlaagreat", sum := "21adf3f0f11ae421b30047df23047ea07cb4dbe326ed70de6a5e676e8bf04058", func := "scree/screelaw12.LevelApplies", spec := "levelApplies", inPlace := ["internal/abi.NoEscape"], unfollowed := true, recurses := true, apart := false, narrowed := true }
def LevelAppliesUptoSaid : Prop := levelAppliesUptoRow.holds Tryz.pinned (OpenSpec.upto levelAppliesSpec)

/-- 'screelaw12.LevelPicks', WHERE WHAT IT READS IS OF BULK AT MOST 1048576: true; the input reads as it did. -/
def levelPicksUptoRow : OpenClaim := { program := "ytnnmalpnjlnnlaagreat", sum := "21adf3f0f11ae421b30047df23047ea07cb4dbe326ed70de6a5e676e8bf04058", func := "scree/screelaw12.LevelPicks", spec := "levelPicks", inPlace := ["internal/abi.NoEscape"], unfollowed := true, recurses := true, apart := false, narrowed := true }
def LevelPicksUptoSaid : Prop := levelPicksUptoRow.holds Tryz.pinned (OpenSpec.upto levelPicksSpec)

/-- 'screelaw12.LevelBytes', WHERE WHAT IT READS IS OF BULK AT MOST 1048576: true; the input reads as it did. -/
def levelBytesUptoRow : OpenClaim := { program := "ytnnmalpnjlnnlaagreat", sum := "21adf3f0f11ae421b30047df23047ea07cb4dbe326ed70de6a5e676e8bf04058", func := "scree/screelaw12.LevelBytes", spec := "levelBytes", inPlace := ["internal/abi.NoEscape"], unfollowed := true, recurses := true, apart := false, narrowed := true }
def LevelBytesUptoSaid : Prop := levelBytesUptoRow.holds Tryz.pinned (OpenSpec.upto levelBytesSpec)

/-- 'screelaw12.LevelBack', WHERE WHAT IT READS IS OF BULK AT MOST 1048576: true; the input reads as it did. -/
def levelBackUptoRow : OpenClaim := { program := "ytnnmalpnjlnnlaagreat", sum := "21adf3f0f11ae421b30047df23047ea07cb4dbe326ed70de6a5e676e8bf04058", func := "scree/screelaw12.LevelBack", spec := "levelBack", inPlace := ["internal/abi.NoEscape"], unfollowed := true, recurses := true, apart := false, narrowed := true }
def LevelBackUptoSaid : Prop := levelBackUptoRow.holds Tryz.pinned (OpenSpec.upto levelBackSpec)

/-- 'screelaw12.LevelOrder', WHERE WHAT IT READS IS OF BULK AT MOST 1048576: true; the input reads as it did. -/
def levelOrderUptoRow : OpenClaim := { program := "ytnnmalpnjlnnlaagreat", sum := "21adf3f0f11ae421b30047df23047ea07cb4dbe326ed70de6a5e676e8bf04058", func := "scree/screelaw12.LevelOrder", spec := "levelOrder", inPlace := ["internal/abi.NoEscape"], unfollowed := true, recurses := true, apart := false, narrowed := true }
def LevelOrderUptoSaid : Prop := levelOrderUptoRow.holds Tryz.pinned (OpenSpec.upto levelOrderSpec)

/-- 'screelaw12.LevelPicked', WHERE WHAT IT READS IS OF BULK AT MOST 1048576: true; the input reads as it did. -/
def levelPickedUptoRow : OpenClaim := { program := "ytnnmalpnjlnnlaagreat", sum := "21adf3f0f11ae421b30047df23047ea07cb4dbe326ed70de6a5e676e8bf04058", func := "scree/screelaw12.LevelPicked", spec := "levelPicked", inPlace := ["internal/abi.NoEscape"], unfollowed := true, recurses := true, apart := false, narrowed := true }
def LevelPickedUptoSaid : Prop := levelPickedUptoRow.holds Tryz.pinned (OpenSpec.upto levelPickedSpec)

/-- 'screelaw12.LevelMeets', WHERE WHAT IT READS IS OF BULK AT MOST 1048576: true; the input reads as it did. -/
def levelMeetsUptoRow : OpenClaim := { program := "ytnnmalpnjlnnlaagreat", sum := "21adf3f0f11ae421b30047df23047ea07cb4dbe326ed70de6a5e676e8bf04058", func := "scree/screelaw12.LevelMeets", spec := "levelMeets", inPlace := ["internal/abi.NoEscape"], unfollowed := true, recurses := true, apart := false, narrowed := true }
def LevelMeetsUptoSaid : Prop := levelMeetsUptoRow.holds Tryz.pinned (OpenSpec.upto levelMeetsSpec)

/-- 'screelaw12.LevelNumbers', WHERE WHAT IT READS IS OF BULK AT MOST 1048576: true; the input reads as it did. -/
def levelNumbersUptoRow : OpenClaim := { program := "ytnnmalpnjlnnlaagreat", sum := "21adf3f0f11ae421b30047df23047ea07cb4dbe326ed70de6a5e676e8bf04058", func := "scree/screelaw12.LevelNumbers", spec := "levelNumbers", inPlace := ["internal/abi.NoEscape"], unfollowed := true, recurses := true, apart := false, narrowed := true }
def LevelNumbersUptoSaid : Prop := levelNumbersUptoRow.holds Tryz.pinned (OpenSpec.upto levelNumbersSpec)

end Rows
end Go.Proofs.YtnnmalpnjlnnlaaGreat
