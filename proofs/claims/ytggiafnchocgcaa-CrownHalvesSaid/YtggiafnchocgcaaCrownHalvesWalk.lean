/- The walk of the law CrownHalves: it answers true for every crown and number of sectors, and writes nothing that was there. -/
import Derived.Test.YtggiafnchocgcaaCHalfA
import Derived.Test.YtggiafnchocgcaaCHalfB
namespace Go.Proofs.Ytggiafnchocgcaa
open Go.RowKit

theorem halves_core (w : World) (gen half ser n : Nat) (hh : half < 256) (hg : gen < 4294967296) (hs : ser < 4294967296) (hn2 : n < 65536) :
    Calls Try.prog 5 #[.agg #[.int .u32 (gen : Int), .int .u8 (half : Int), .int .u32 (ser : Int)], .int .u16 (n : Int)] w fun e w' => e = .returned (.bool true) ∧ Below w.heap.size w w' := by
  by_cases h : half % 2 = 0
  · exact halves_0 w gen half ser n hh hg hs hn2 h
  · exact halves_1 w gen half ser n hh hg hs hn2 (by omega)
end Go.Proofs.Ytggiafnchocgcaa
