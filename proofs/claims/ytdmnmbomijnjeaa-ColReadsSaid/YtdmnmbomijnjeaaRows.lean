/-
  No cell of these rows narrows 'for every input' (looked for: loops, veiled, ifaces, maps, wideKeys, modest, calm, conditions, laid).
  DERIVED. THE GIVEN ROWS OF THIS SEAT. 7 by the template 'for every input the law returns true; each argument reads behind the call as it read before'; 0 by the template 'total and deterministic' (their statements: YtdmnmbomijnjeaaTotals.lean).
  GIVEN WITH THE SEED: the statements are not yours to turn. If you find one false, say at which input.
  Laid BY PROGRAM, IN A SANDBOX (cutbox-rows.mjs): the forced cells as the released guide's own fill.sh prints them over the translation bb9583942a4d9acc… (all of the seat's roots in one cut). By AI agents, Wed Nov 11 2026. No macro, syntax, notation, axiom, sorry.
-/
import Derived.Test.YtdmnmbomijnjeaaChecked
import GoSem.Claim
import GoSem.ClaimJoined
import GoSem.ClaimMapViews
import Derived.JoinedTies
import Derived.KernelRfl
namespace Go.Proofs.Ytdmnmbomijnjeaa
/- THE CELL 'sum', in the pinned program and in every row, IS THE sha256 OF THE DUMP (.gsa) THAT YtdmnmbomijnjeaaProg.lean LOADS. Nothing in Lean hashes anything: it is a label: what it is worth is what the hold of that sum in a sandbox is worth. -/
noncomputable def Try.pinned : Pinned := { name := "ytdmnmbomijnjeaa", sum := "bb9583942a4d9accddeea107dfe990e3218ab17f1cecbea8866a019d86361937", checked := Try.checked }
namespace Rows
def none {H : Type} : Left H := { results := [], args := [] }

/-- 'screelaw15.ColWrites': WHATEVER THE INPUT: true; the input reads as it did. -/
def colWritesSpec : ChangeSpec := { name := "colWrites", fn := fun _ => fun
  | [d1, d2, d3] => { results := [.lit (.bool true)], args := [d1, d2, d3] }
  | _ => none }
def colWritesRow : OpenClaim := { program := "ytdmnmbomijnjeaa", sum := "bb9583942a4d9accddeea107dfe990e3218ab17f1cecbea8866a019d86361937", func := "scree/screelaw15.ColWrites", spec := "colWrites", inPlace := ["internal/abi.NoEscape"], unfollowed := true, recurses := true, apart := false }
def ColWritesSaid : Prop := colWritesRow.holds Try.pinned (OpenSpec.ofChange colWritesSpec)

/-- ITS FALSE NEIGHBOUR: 'it returns false'. Refute it at one input. -/
def colWritesWrong : ChangeSpec := { name := "colWrites", fn := fun _ => fun
  | [d1, d2, d3] => { results := [.lit (.bool false)], args := [d1, d2, d3] }
  | _ => none }
def ColWritesWrongFalsely : Prop := colWritesRow.holds Try.pinned (OpenSpec.ofChange colWritesWrong)

/-- 'screelaw15.ColReads': WHATEVER THE INPUT: true; the input reads as it did. -/
def colReadsSpec : ChangeSpec := { name := "colReads", fn := fun _ => fun
  | [d] => { results := [.lit (.bool true)], args := [d] }
  | _ => none }
def colReadsRow : OpenClaim := { program := "ytdmnmbomijnjeaa", sum := "bb9583942a4d9accddeea107dfe990e3218ab17f1cecbea8866a019d86361937", func := "scree/screelaw15.ColReads", spec := "colReads", inPlace := ["internal/abi.NoEscape"], unfollowed := true, recurses := true, apart := false }
def ColReadsSaid : Prop := colReadsRow.holds Try.pinned (OpenSpec.ofChange colReadsSpec)

/-- ITS FALSE NEIGHBOUR: 'it returns false'. Refute it at one input. -/
def colReadsWrong : ChangeSpec := { name := "colReads", fn := fun _ => fun
  | [d] => { results := [.lit (.bool false)], args := [d] }
  | _ => none }
def ColReadsWrongFalsely : Prop := colReadsRow.holds Try.pinned (OpenSpec.ofChange colReadsWrong)

/-- 'screelaw15.ColBack': WHATEVER THE INPUT: true; the input reads as it did. -/
def colBackSpec : ChangeSpec := { name := "colBack", fn := fun _ => fun
  | [d1, d2, d3, d4] => { results := [.lit (.bool true)], args := [d1, d2, d3, d4] }
  | _ => none }
def colBackRow : OpenClaim := { program := "ytdmnmbomijnjeaa", sum := "bb9583942a4d9accddeea107dfe990e3218ab17f1cecbea8866a019d86361937", func := "scree/screelaw15.ColBack", spec := "colBack", inPlace := ["internal/abi.NoEscape"], unfollowed := true, recurses := true, apart := false }
def ColBackSaid : Prop := colBackRow.holds Try.pinned (OpenSpec.ofChange colBackSpec)

/-- ITS FALSE NEIGHBOUR: 'it returns false'. Refute it at one input. -/
def colBackWrong : ChangeSpec := { name := "colBack", fn := fun _ => fun
  | [d1, d2, d3, d4] => { results := [.lit (.bool false)], args := [d1, d2, d3, d4] }
  | _ => none }
def ColBackWrongFalsely : Prop := colBackRow.holds Try.pinned (OpenSpec.ofChange colBackWrong)

/-- 'screelaw15.ColApart': WHATEVER THE INPUT: true; the input reads as it did. -/
def colApartSpec : ChangeSpec := { name := "colApart", fn := fun _ => fun
  | [d1, d2, d3, d4] => { results := [.lit (.bool true)], args := [d1, d2, d3, d4] }
  | _ => none }
def colApartRow : OpenClaim := { program := "ytdmnmbomijnjeaa", sum := "bb9583942a4d9accddeea107dfe990e3218ab17f1cecbea8866a019d86361937", func := "scree/screelaw15.ColApart", spec := "colApart", inPlace := ["internal/abi.NoEscape"], unfollowed := true, recurses := true, apart := false }
def ColApartSaid : Prop := colApartRow.holds Try.pinned (OpenSpec.ofChange colApartSpec)

/-- ITS FALSE NEIGHBOUR: 'it returns false'. Refute it at one input. -/
def colApartWrong : ChangeSpec := { name := "colApart", fn := fun _ => fun
  | [d1, d2, d3, d4] => { results := [.lit (.bool false)], args := [d1, d2, d3, d4] }
  | _ => none }
def ColApartWrongFalsely : Prop := colApartRow.holds Try.pinned (OpenSpec.ofChange colApartWrong)

/-- 'screelaw15.ColOrder': WHATEVER THE INPUT: true; the input reads as it did. -/
def colOrderSpec : ChangeSpec := { name := "colOrder", fn := fun _ => fun
  | [d1, d2] => { results := [.lit (.bool true)], args := [d1, d2] }
  | _ => none }
def colOrderRow : OpenClaim := { program := "ytdmnmbomijnjeaa", sum := "bb9583942a4d9accddeea107dfe990e3218ab17f1cecbea8866a019d86361937", func := "scree/screelaw15.ColOrder", spec := "colOrder", inPlace := ["internal/abi.NoEscape"], unfollowed := true, recurses := true, apart := false }
def ColOrderSaid : Prop := colOrderRow.holds Try.pinned (OpenSpec.ofChange colOrderSpec)

/-- ITS FALSE NEIGHBOUR: 'it returns false'. Refute it at one input. -/
def colOrderWrong : ChangeSpec := { name := "colOrder", fn := fun _ => fun
  | [d1, d2] => { results := [.lit (.bool false)], args := [d1, d2] }
  | _ => none }
def ColOrderWrongFalsely : Prop := colOrderRow.holds Try.pinned (OpenSpec.ofChange colOrderWrong)

/-- 'screelaw15.ColShort': WHATEVER THE INPUT: true; the input reads as it did. -/
def colShortSpec : ChangeSpec := { name := "colShort", fn := fun _ => fun
  | [d1, d2, d3] => { results := [.lit (.bool true)], args := [d1, d2, d3] }
  | _ => none }
def colShortRow : OpenClaim := { program := "ytdmnmbomijnjeaa", sum := "bb9583942a4d9accddeea107dfe990e3218ab17f1cecbea8866a019d86361937", func := "scree/screelaw15.ColShort", spec := "colShort", inPlace := ["internal/abi.NoEscape"], unfollowed := true, recurses := true, apart := false }
def ColShortSaid : Prop := colShortRow.holds Try.pinned (OpenSpec.ofChange colShortSpec)

/-- ITS FALSE NEIGHBOUR: 'it returns false'. Refute it at one input. -/
def colShortWrong : ChangeSpec := { name := "colShort", fn := fun _ => fun
  | [d1, d2, d3] => { results := [.lit (.bool false)], args := [d1, d2, d3] }
  | _ => none }
def ColShortWrongFalsely : Prop := colShortRow.holds Try.pinned (OpenSpec.ofChange colShortWrong)

/-- 'screelaw15.ColAlone': WHATEVER THE INPUT: true; the input reads as it did. -/
def colAloneSpec : ChangeSpec := { name := "colAlone", fn := fun _ => fun
  | [d1, d2] => { results := [.lit (.bool true)], args := [d1, d2] }
  | _ => none }
def colAloneRow : OpenClaim := { program := "ytdmnmbomijnjeaa", sum := "bb9583942a4d9accddeea107dfe990e3218ab17f1cecbea8866a019d86361937", func := "scree/screelaw15.ColAlone", spec := "colAlone", inPlace := ["internal/abi.NoEscape"], unfollowed := true, recurses := true, apart := false }
def ColAloneSaid : Prop := colAloneRow.holds Try.pinned (OpenSpec.ofChange colAloneSpec)

/-- ITS FALSE NEIGHBOUR: 'it returns false'. Refute it at one input. -/
def colAloneWrong : ChangeSpec := { name := "colAlone", fn := fun _ => fun
  | [d1, d2] => { results := [.lit (.bool false)], args := [d1, d2] }
  | _ => none }
def ColAloneWrongFalsely : Prop := colAloneRow.holds Try.pinned (OpenSpec.ofChange colAloneWrong)

/- THE SECOND FORM. 'bulk': how many values and letters a reading holds, each counted each time it is reached (what is shared counts as often as it is met; a slice's spare places count too). A statement '..UptoSaid' is the law's where the arguments, and the package variables that the reading takes, are together of bulk at most 1048576: NARROWER than '..Said'. Prove '..Said' where nothing that the law and all that it calls make is longer than what came in: it says more and counts as full. Else prove '..UptoSaid'. A law counts once. -/
mutual
def uptoBulk {H : Type} : DataW H → Nat
  | .lit (.string bytes) => bytes.length + 1
  | .lit _ => 1
  | .nil => 1
  | .ptr d => uptoBulk d + 1
  | .slice elems spare => uptoBulkAll elems + uptoBulkAll spare + 1
  | .agg parts => uptoBulkAll parts + 1
  | .iface _ d => uptoBulk d + 1
  | .map entries => uptoBulkEntries entries + 1
  | .held _ => 1
def uptoBulkAll {H : Type} : List (DataW H) → Nat
  | [] => 0
  | d :: r => uptoBulk d + uptoBulkAll r
def uptoBulkEntries {H : Type} : List (Lit × DataW H) → Nat
  | [] => 0
  | x :: r => uptoBulkEntry x + uptoBulkEntries r
def uptoBulkEntry {H : Type} : Lit × DataW H → Nat
  | (.string bytes, d) => bytes.length + uptoBulk d + 1
  | (_, d) => uptoBulk d + 1
 end
def uptoSmall : (H : Type) → List (DataW H) → Bool := fun _ ds => decide (uptoBulkAll ds ≤ 1048576)
def OpenSpec.upto (s : _root_.Go.ChangeSpec) : _root_.Go.OpenSpec := { _root_.Go.OpenSpec.ofChange s with cond := some uptoSmall }

/-- 'screelaw15.ColWrites', WHERE WHAT IT READS IS OF BULK AT MOST 1048576: true; the input reads as it did. -/
def colWritesUptoRow : OpenClaim := { program := "ytdmnmbomijnjeaa", sum := "bb9583942a4d9accddeea107dfe990e3218ab17f1cecbea8866a019d86361937", func := "scree/screelaw15.ColWrites", spec := "colWrites", inPlace := ["internal/abi.NoEscape"], unfollowed := true, recurses := true, apart := false, narrowed := true }
def ColWritesUptoSaid : Prop := colWritesUptoRow.holds Try.pinned (OpenSpec.upto colWritesSpec)

/-- 'screelaw15.ColReads', WHERE WHAT IT READS IS OF BULK AT MOST 1048576: true; the input reads as it did. -/
def colReadsUptoRow : OpenClaim := { program := "ytdmnmbomijnjeaa", sum := "bb9583942a4d9accddeea107dfe990e3218ab17f1cecbea8866a019d86361937", func := "scree/screelaw15.ColReads", spec := "colReads", inPlace := ["internal/abi.NoEscape"], unfollowed := true, recurses := true, apart := false, narrowed := true }
def ColReadsUptoSaid : Prop := colReadsUptoRow.holds Try.pinned (OpenSpec.upto colReadsSpec)

/-- 'screelaw15.ColBack', WHERE WHAT IT READS IS OF BULK AT MOST 1048576: true; the input reads as it did. -/
def colBackUptoRow : OpenClaim := { program := "ytdmnmbomijnjeaa", sum := "bb9583942a4d9accddeea107dfe990e3218ab17f1cecbea8866a019d86361937", func := "scree/screelaw15.ColBack", spec := "colBack", inPlace := ["internal/abi.NoEscape"], unfollowed := true, recurses := true, apart := false, narrowed := true }
def ColBackUptoSaid : Prop := colBackUptoRow.holds Try.pinned (OpenSpec.upto colBackSpec)

/-- 'screelaw15.ColApart', WHERE WHAT IT READS IS OF BULK AT MOST 1048576: true; the input reads as it did. -/
def colApartUptoRow : OpenClaim := { program := "ytdmnmbomijnjeaa", sum := "bb9583942a4d9accddeea107dfe990e3218ab17f1cecbea8866a019d86361937", func := "scree/screelaw15.ColApart", spec := "colApart", inPlace := ["internal/abi.NoEscape"], unfollowed := true, recurses := true, apart := false, narrowed := true }
def ColApartUptoSaid : Prop := colApartUptoRow.holds Try.pinned (OpenSpec.upto colApartSpec)

/-- 'screelaw15.ColOrder', WHERE WHAT IT READS IS OF BULK AT MOST 1048576: true; the input reads as it did. -/
def colOrderUptoRow : OpenClaim := { program := "ytdmnmbomijnjeaa", sum := "bb9583942a4d9accddeea107dfe990e3218ab17f1cecbea8866a019d86361937", func := "scree/screelaw15.ColOrder", spec := "colOrder", inPlace := ["internal/abi.NoEscape"], unfollowed := true, recurses := true, apart := false, narrowed := true }
def ColOrderUptoSaid : Prop := colOrderUptoRow.holds Try.pinned (OpenSpec.upto colOrderSpec)

/-- 'screelaw15.ColShort', WHERE WHAT IT READS IS OF BULK AT MOST 1048576: true; the input reads as it did. -/
def colShortUptoRow : OpenClaim := { program := "ytdmnmbomijnjeaa", sum := "bb9583942a4d9accddeea107dfe990e3218ab17f1cecbea8866a019d86361937", func := "scree/screelaw15.ColShort", spec := "colShort", inPlace := ["internal/abi.NoEscape"], unfollowed := true, recurses := true, apart := false, narrowed := true }
def ColShortUptoSaid : Prop := colShortUptoRow.holds Try.pinned (OpenSpec.upto colShortSpec)

/-- 'screelaw15.ColAlone', WHERE WHAT IT READS IS OF BULK AT MOST 1048576: true; the input reads as it did. -/
def colAloneUptoRow : OpenClaim := { program := "ytdmnmbomijnjeaa", sum := "bb9583942a4d9accddeea107dfe990e3218ab17f1cecbea8866a019d86361937", func := "scree/screelaw15.ColAlone", spec := "colAlone", inPlace := ["internal/abi.NoEscape"], unfollowed := true, recurses := true, apart := false, narrowed := true }
def ColAloneUptoSaid : Prop := colAloneUptoRow.holds Try.pinned (OpenSpec.upto colAloneSpec)

end Rows
end Go.Proofs.Ytdmnmbomijnjeaa
