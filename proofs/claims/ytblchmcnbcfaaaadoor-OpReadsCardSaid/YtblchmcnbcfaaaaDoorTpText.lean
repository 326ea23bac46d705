/- Contracts: a Reader's Text and Bool; a nil Reader. -/
import Derived.Test.YtblchmcnbcfaaaaDoorTpRead
namespace Go.Proofs.YtblchmcnbcfaaaaDoor
open Go.RowKit
set_option linter.unusedSimpArgs false
set_option linter.unusedVariables false

def takeBool (l : List Nat) : Bool × List Nat × Bool := if 1 < (takeByte l).1 then (false, [], false) else ((takeByte l).1 == 1, (takeByte l).2.1, (takeByte l).2.2)
/-- The text that is taken, and what is left. -/
def takeText (l : List Nat) (most : Nat) : List Nat × List Nat × Bool :=
  if (takeNum l most).2.1.length < (takeNum l most).1 then ([], [], false) else ((takeNum l most).2.1.take (takeNum l most).1, (takeNum l most).2.1.drop (takeNum l most).1, (takeNum l most).2.2)
end Go.Proofs.YtblchmcnbcfaaaaDoor
