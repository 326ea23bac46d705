/- What the listed variables hold, for the walk of the law that reads a line; the heap in which they hold it. -/
import Derived.Test.YtblchmcnbcfaaaaDoorOFrame
import Derived.Test.YtblchmcnbcfaaaaDoorR2
import Derived.Lay
namespace Go.Proofs.YtblchmcnbcfaaaaDoor
open Go.RowKit
set_option linter.unusedVariables false
theorem gSyn : Tryd.prog.globalNamed "strconv.ErrSyntax" = some 2 := by kernel_rfl
theorem tSyn : (Tryd.prog.globals[2]?).map (·.type) = some 72 := by kernel_rfl
theorem gRng : Tryd.prog.globalNamed "strconv.ErrRange" = some 3 := by kernel_rfl
theorem tRng : (Tryd.prog.globals[3]?).map (·.type) = some 72 := by kernel_rfl
theorem starE : "*" ++ "errors.errorString" = "*errors.errorString" := by decide
theorem rowErr (u : TypeId) (h : Tryd.prog.typeName? 3 u = some "*errors.errorString") : u = 124 :=
  typeName_ptr_named (nm := "errors.errorString") (by rw [starE]; kernel_rfl) (by kernel_rfl) (by decide) u (by rw [starE]; exact h)
theorem cellsErr : Tryd.prog.cellsOf 126 = 1 := by kernel_rfl
theorem cellsStr : Tryd.prog.cellsOf 9 = 1 := by kernel_rfl
def laid8 : List (String × DataW Unit) := [("math/bits.deBruijn32tab", Rows.laid_math_bits_deBruijn32tab), ("math/bits.deBruijn64tab", Rows.laid_math_bits_deBruijn64tab), ("internal/strconv.uint64pow10", Rows.laid_internal_strconv_uint64pow10), ("unicode/utf8.acceptRanges", Rows.laid_unicode_utf8_acceptRanges), ("strconv.ErrRange", Rows.laid_strconv_ErrRange), ("strconv.ErrSyntax", Rows.laid_strconv_ErrSyntax), ("hourglass/op.words", Rows.laid_hourglass_op_words), ("unicode/utf8.first", Rows.laid_unicode_utf8_first)]
theorem of_laid8 {W : World} (h : laidMetH Tryd.prog laid8 W) : Vo W ∧ Ve W := by
  rw [MakeChecks.laidMetH_plain _ _ _ (by kernel_rfl)] at h
  have h3 := laidMet.tail (laidMet.tail h)
  have h5 := laidMet.tail (laidMet.tail h3)
  have h6 := laidMet.tail h5
  have h7 := laidMet.tail h6
  obtain ⟨a0, s0, hv0, -, -, -⟩ := laid_sentinel h6 gSyn tSyn Tryd.underlying72 rowErr Tryd.underlying124 Tryd.underlying126 rfl rfl Tryd.underlying9 cellsErr cellsStr
  obtain ⟨a1, s1, hv1, -, -, -⟩ := laid_sentinel h5 gRng tRng Tryd.underlying72 rowErr Tryd.underlying124 Tryd.underlying126 rfl rfl Tryd.underlying9 cellsErr cellsStr
  exact ⟨⟨Lib.tabIs_of_head gPow tPow Tryd.underlying114 Tryd.underlying30 (by kernel_rfl) (by kernel_rfl) h3, wds_of_head h7⟩, ⟨⟨_, _, hv0⟩, ⟨_, _, hv1⟩⟩⟩
set_option maxRecDepth 100000 in
theorem door_met8 (os : Os) (args : Array Value) : laidMetH Tryd.prog laid8 ((World.laidAll Tryd.prog os laid8).forCall (fun _ _ => 0) ⟨#[], args, []⟩).memory := by
  rw [MakeChecks.laidMetH_plain _ _ _ (by kernel_rfl)]
  exact laidMet_laidAll _ (by kernel_rfl) (by kernel_rfl)
end Go.Proofs.YtblchmcnbcfaaaaDoor
