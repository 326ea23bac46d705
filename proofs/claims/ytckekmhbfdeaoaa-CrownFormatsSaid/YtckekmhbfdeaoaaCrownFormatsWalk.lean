/- The walk of the law CrownFormats: it answers true for any two sectors and any number, and writes nothing that was there. -/
import Derived.Test.YtckekmhbfdeaoaaCFormatsA
import Derived.Test.YtckekmhbfdeaoaaCFormatsB
import Derived.Test.YtckekmhbfdeaoaaCFormatsC
namespace Go.Proofs.Ytckekmhbfdeaoaa
open Go.RowKit

theorem crownFormats_walk (a0 : Option Addr) (len0 cap0 : Nat) (z0 : List Int) (a1 : Option Addr) (len1 cap1 : Nat) (z1 : List Int) (a2 : Int) (w : World) (w0 : IsRow .u8 w a0 len0 cap0 z0) (w1 : IsRow .u8 w a1 len1 cap1 z1) (w2 : (Lit.int .u8 a2).wf = true) :
    Calls Try.prog 6 #[.slice a0 len0 cap0, .slice a1 len1 cap1, .int .u8 a2] w fun e w' => e = .returned (.bool true) ∧ Below w.heap.size w w' := by
  obtain ⟨l0, hp0, _⟩ := bytes_of_row w0
  obtain ⟨l1, hp1, _⟩ := bytes_of_row w1
  have b2 := bounds_u8 w2
  obtain ⟨m, rfl⟩ := Int.eq_ofNat_of_zero_le b2.1
  rcases (show m % 9 = 0 ∨ (2 ≤ 1 + m % 9 ∧ 1 + m % 9 < 4) ∨ 4 ≤ 1 + m % 9 by omega) with h | h | h
  · exact formats_one w m (by omega) h _ _ l0 hp0
  · exact formats_few w m (by omega) _ rfl h.1 h.2 _ _ l0 l1 hp0 hp1
  · exact formats_full w m (by omega) _ rfl h _ _ l0 l1 hp0 hp1
end Go.Proofs.Ytckekmhbfdeaoaa
