/- Contracts: the tokens of a text. -/
import Derived.Test.YtfnobibjphnmdaaGreatDoorKToks
namespace Go.Proofs.YtfnobibjphnmdaaGreatDoor
open Go.RowKit
set_option linter.unusedSimpArgs false
set_option linter.unusedVariables false
/-- What All answers of a text that is not too long. -/
def AllR (w : World) (ty : TypeId) (r : Option (List Tok)) (e : Ending) (w' : World) : Prop :=
  (∀ ts, r = some ts → ∃ v, e = .returned (.tuple #[v, .int .i64 0]) ∧ TRow w' w.heap.size ty v ts) ∧ (r = none → e = .returned (.tuple #[.slice none 0 0, .int .i64 20])) ∧ Below w.heap.size w w'
end Go.Proofs.YtfnobibjphnmdaaGreatDoor
