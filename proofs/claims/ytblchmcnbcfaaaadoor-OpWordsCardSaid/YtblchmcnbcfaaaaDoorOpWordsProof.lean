/-
  For every input the law OpWords answers true and leaves its arguments as they were. No conditions of ours: the listed variables are tied to the program's text by the card.
-/
import Derived.Test.YtblchmcnbcfaaaaDoorRows
import Derived.Test.YtblchmcnbcfaaaaDoorCards
import Derived.Test.YtblchmcnbcfaaaaDoorTie
import Derived.Test.YtblchmcnbcfaaaaDoorOFrame
import Derived.Test.YtblchmcnbcfaaaaDoorKOpen
import Derived.WalkKit
import Derived.ProofKit
import Derived.OpenShut
import Derived.ShutString
import Derived.ChangeOld
import Derived.Below
import Derived.SevenTiedAt
namespace Go.Proofs.YtblchmcnbcfaaaaDoor.opWords
open Go Go.ChangeShapes Go.WideShapes Go.ChangeAt Go.RowKit
open Go.ChangeMaps (open_string shut_string)
set_option linter.unusedVariables false
open Go.Proofs.YtblchmcnbcfaaaaDoor

theorem own : ownKnob Tryd.prog.godebug = none := by kernel_rfl
theorem laidOut : laidOutB Tryd.prog = true := by kernel_rfl

end Go.Proofs.YtblchmcnbcfaaaaDoor.opWords
