/-
  For every input the law CrownHolds answers true and leaves its arguments as they were. No conditions.
-/
import Derived.Test.YtoblffeiclnlhaaRows
import Derived.Test.YtoblffeiclnlhaaCrownHoldsWalk
import Derived.Test.YtoblffeiclnlhaaOpenPage
import Derived.WalkKit
import Derived.ProofKit
import Derived.OpenShut
import Derived.ShutString
import Derived.ChangeOld
import Derived.Below
namespace Go.Proofs.Ytoblffeiclnlhaa.crownHolds
open Go.ChangeShapes Go.WideShapes Go.ChangeAt Go.RowKit
open Go.ChangeMaps (open_string shut_string)
set_option linter.unusedVariables false
open Go.Proofs.Ytoblffeiclnlhaa

theorem own : ownKnob Try.prog.godebug = none := by kernel_rfl
theorem laidOut : laidOutB Try.prog = true := by kernel_rfl

end Go.Proofs.Ytoblffeiclnlhaa.crownHolds
