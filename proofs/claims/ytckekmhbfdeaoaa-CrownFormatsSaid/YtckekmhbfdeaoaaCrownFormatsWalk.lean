/- The walk of the law CrownFormats: it answers true for any two sectors and any number, and writes nothing that was there. -/
import Derived.Test.YtckekmhbfdeaoaaCFormatsA
import Derived.Test.YtckekmhbfdeaoaaCFormatsB
import Derived.Test.YtckekmhbfdeaoaaCFormatsC
namespace Go.Proofs.Ytckekmhbfdeaoaa
open Go.RowKit

theorem crownFormats_walk (a0 : Option Addr) (len0 cap0 : Nat) (z0 : List Int) (a1 : Option Addr) (len1 cap1 : Nat) (z1 : List Int) (a2 : Int) (w : World) (w0 : ((a0 = none ∧ len0 = 0 ∧ cap0 = 0 ∧ z0 = []) ∨ ∃ x, a0 = some x ∧ len0 ≤ cap0 ∧ cap0 ≤ maxLen ∧ z0.length = cap0 ∧ (∀ i, i < z0.length → w.cell? (x.add i) = some (.int .u8 (z0.getD i 0))) ∧ ∀ n ∈ z0, (Lit.int .u8 n).wf = true)) (w1 : ((a1 = none ∧ len1 = 0 ∧ cap1 = 0 ∧ z1 = []) ∨ ∃ x, a1 = some x ∧ len1 ≤ cap1 ∧ cap1 ≤ maxLen ∧ z1.length = cap1 ∧ (∀ i, i < z1.length → w.cell? (x.add i) = some (.int .u8 (z1.getD i 0))) ∧ ∀ n ∈ z1, (Lit.int .u8 n).wf = true)) (w2 : (Lit.int .u8 a2).wf = true) :
    Calls Try.prog 6 #[.slice a0 len0 cap0, .slice a1 len1 cap1, .int .u8 a2] w fun e w' => e = .returned (.bool true) ∧ Below w.heap.size w w' := by
  obtain ⟨l0, hp0, _⟩ := bytes_of_row w0
  obtain ⟨l1, hp1, _⟩ := bytes_of_row w1
  have b2 := bounds_u8 w2
  obtain ⟨m, rfl⟩ := Int.eq_ofNat_of_zero_le b2.1
  rcases (show m % 9 = 0 ∨ (2 ≤ 1 + m % 9 ∧ 1 + m % 9 < 4) ∨ 4 ≤ 1 + m % 9 by omega) with h | h | h
  · exact formats_one w m (by omega) h _ _ l0 hp0
  · exact formats_few w m (by omega) _ rfl h.1 h.2 _ _ l0 l1 hp0 hp1
  · exact formats_full w m (by omega) _ rfl h _ _ l0 l1 hp0 hp1
end Go.Proofs.Ytckekmhbfdeaoaa
