/-
  What the listed variables of the library give a walk: the table of the tens' powers and the two errors of strconv hold what they hold at the start.
-/
import Derived.Test.YtlkcdcpdccmodaaGreatDoorRows
import Derived.Test.YtlkcdcpdccmodaaGreatDoorWalName
import Derived.LaidLaws
import Derived.Stop.LaidErr
import Derived.Lib.LaidTab
import Derived.LaidSub
namespace Go.Proofs.YtlkcdcpdccmodaaGreatDoor
open Go.ChangeShapes Go.WideShapes Go.ChangeAt Go.RowKit
set_option linter.unusedVariables false
set_option maxRecDepth 100000

theorem gES : Tryz.prog.globalNamed "strconv.ErrSyntax" = some 0 := by kernel_rfl
theorem gER : Tryz.prog.globalNamed "strconv.ErrRange" = some 1 := by kernel_rfl
theorem tES : (Tryz.prog.globals[0]?).map (·.type) = some 112 := by kernel_rfl
theorem tER : (Tryz.prog.globals[1]?).map (·.type) = some 112 := by kernel_rfl
theorem laid_tail2 {x y : String × DataW Unit} {r : List (String × DataW Unit)} {W : World} (h : laidMet Tryz.prog (x :: y :: r) W) : laidMet Tryz.prog r W := h.tail.tail
def laidR : List (String × DataW Unit) := [("math/bits.deBruijn32tab", Rows.laid_math_bits_deBruijn32tab), ("math/bits.deBruijn64tab", Rows.laid_math_bits_deBruijn64tab), ("internal/strconv.uint64pow10", Rows.laid_internal_strconv_uint64pow10), ("strconv.ErrRange", Rows.laid_strconv_ErrRange), ("strconv.ErrSyntax", Rows.laid_strconv_ErrSyntax)]
theorem laid_plain : (laidR.all fun x => x.2.handleName?.isNone) = true := by kernel_rfl
theorem pow10_data : (Rows.laid_internal_strconv_uint64pow10 : DataW Unit) = Lib.tabData .u64 Lib.pow10Tab := by kernel_rfl
theorem errStar : "*" ++ "errors.errorString" = "*errors.errorString" := by decide
theorem errRow (u : TypeId) (h : Tryz.prog.typeName? 3 u = some "*errors.errorString") : u = 190 :=
  typeName_ptr_named (nm := "errors.errorString") (by rw [errStar]; kernel_rfl) (by kernel_rfl) (by decide) u (by rw [errStar]; exact h)
theorem vars_of_laid {W : World} (h : laidMetH Tryz.prog laidR W) : Vars W := by
  rw [MakeChecks.laidMetH_plain _ _ _ laid_plain] at h
  have h3 := laid_tail2 h
  rw [pow10_data] at h3
  have ht := Lib.tabIs_of_head glob_tab (t := 176) (e := 30) (n := 20) (by kernel_rfl) Tryz.underlying176 Tryz.underlying30 (by kernel_rfl) (by kernel_rfl) h3
  obtain ⟨a0, s0, hv0, -, -, -⟩ := laid_sentinel h3.tail gER tER Tryz.underlying112 errRow Tryz.underlying190 Tryz.underlying192 rfl rfl Tryz.underlying9 (by kernel_rfl) (by kernel_rfl)
  obtain ⟨a1, s1, hv1, -, -, -⟩ := laid_sentinel h3.tail.tail gES tES Tryz.underlying112 errRow Tryz.underlying190 Tryz.underlying192 rfl rfl Tryz.underlying9 (by kernel_rfl) (by kernel_rfl)
  exact ⟨ht, ⟨_, _, by have h0 := World.var?_cell gES hv1 0; simpa using h0⟩, ⟨_, _, by have h0 := World.var?_cell gER hv0 0; simpa using h0⟩⟩
end Go.Proofs.YtlkcdcpdccmodaaGreatDoor
