/- What the listed variables hold, for the walks of the operations' laws; the heap in which they hold it. -/
import Derived.Test.YtblchmcnbcfaaaaDoorRows
import Derived.Test.YtblchmcnbcfaaaaDoorOVar
import Derived.Stop.LaidErr
import Derived.Stop.Joined
namespace Go.Proofs.YtblchmcnbcfaaaaDoor
open Go.RowKit
set_option linter.unusedVariables false
/-- What the rows of this seat list. -/
def laid4 : List (String × DataW Unit) := [("math/bits.deBruijn32tab", Rows.laid_math_bits_deBruijn32tab), ("math/bits.deBruijn64tab", Rows.laid_math_bits_deBruijn64tab), ("internal/strconv.uint64pow10", Rows.laid_internal_strconv_uint64pow10), ("hourglass/op.words", Rows.laid_hourglass_op_words)]
theorem of_laid4 {W : World} (h : laidMetH Tryd.prog laid4 W) : Vo W := by
  rw [MakeChecks.laidMetH_plain _ _ _ (by kernel_rfl)] at h
  have h3 := laidMet.tail (laidMet.tail h)
  have h4 := laidMet.tail h3
  exact ⟨Lib.tabIs_of_head gPow tPow Tryd.underlying114 Tryd.underlying30 (by kernel_rfl) (by kernel_rfl) h3, wds_of_head h4⟩
set_option maxRecDepth 100000 in
/-- The door's own heap meets the condition. -/
theorem door_met4 (os : Os) (args : Array Value) : laidMetH Tryd.prog laid4 ((World.doorLaid Tryd.prog 77 os).forCall (fun _ _ => 0) ⟨#[], args, []⟩).memory :=
  laidMetH_of_parts3 (fuel := 8) (laidMet_of_run' 8 (by kernel_rfl) (by kernel_rfl)) (by kernel_rfl) (by kernel_rfl)
end Go.Proofs.YtblchmcnbcfaaaaDoor
