/- Contract: the document's example of the disk holds: awake answers true. -/
import Derived.Test.YtoblffeiclnlhaaDCrash
import Derived.Test.YtoblffeiclnlhaaDBlank
namespace Go.Proofs.Ytoblffeiclnlhaa
open Go.RowKit
set_option linter.unusedSimpArgs false

/-- A text of one's own stays where only other blocks turn. -/
theorem Mine.only {w w' : World} {base m c : Nat} {A : Option Addr} {l : List Nat} {p : Nat → Prop} (h : Mine w base A m c l) (ho : OnlyAt w w' p) (hp : ∀ k, base ≤ k → k < w.heap.size → ¬ p k) : Mine w' base A m c l := by
  refine ⟨?_, h.len, h.small⟩
  obtain ⟨hl, hv⟩ := id h.own
  refine ⟨hl, ?_⟩
  rcases hv with hv | ⟨g, cap, cur, h0, h1, h2, h3⟩
  · exact .inl hv
  · refine .inr ⟨g, cap, cur, h0, h1, ?_, h3⟩
    have hlt : g < w.heap.size := (Array.getElem?_eq_some_iff.1 h2).1
    rw [ho.block g hlt (hp g h1 hlt)]
    exact h2
theorem full_sec {l : List Nat} (h : ∀ b ∈ l, b < 256) : IsSec (full l) := ⟨full_length l, full_small h⟩
theorem less_free : less (-1) = -1 := rfl
theorem flags_block {w : World} {g n c : Nat} {t : TypeId} {fr : Nat × Nat} {ks : List Bool} (hb : w.heap[g]? = some (.cells (ks.map Value.bool).toArray t fr)) (hg : g < w.heap.size) (hn : n = ks.length) : Flags w (.slice (some ⟨g, 0, none⟩) n c) ks := by
  subst hn
  have h := lies_block (B := w.heap.size) hb hg
  exact ⟨_, c, rfl, h⟩
end Go.Proofs.Ytoblffeiclnlhaa
