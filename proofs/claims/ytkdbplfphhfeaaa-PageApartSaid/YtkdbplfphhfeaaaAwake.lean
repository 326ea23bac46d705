/- Blocks known whole, as slices. -/
import Derived.Test.YtkdbplfphhfeaaaSum
import Derived.Test.YtkdbplfphhfeaaaCut
import Derived.Lib.SlBytesConst
namespace Go.Proofs.Ytkdbplfphhfeaaa
open Go.RowKit

theorem lies_block {w : World} {B g : Nat} {cs : Array Value} {t : TypeId} {fr : Nat × Nat} (hb : w.heap[g]? = some (.cells cs t fr)) (hB : g < B) : Lies w B (some ⟨g, 0, none⟩) cs.toList := fun j v hj => by
  refine ⟨⟨g, 0, none⟩, rfl, hB, ?_⟩
  have h1 : (⟨g, 0, none⟩ : Addr).add j = ⟨g, j, none⟩ := by
    unfold Addr.add
    split
    · simp_all
    · simp
  rw [h1, cell_of_row w g j cs t fr hb]
  simpa using hj

/-- The slice value that a block known whole makes. -/
theorem bytes_block {w : World} {B g : Nat} {l : List Nat} {n c : Nat} {fr : Nat × Nat} (hb : w.heap[g]? = some (.cells (byt l).toArray 5 fr)) (hB : g < B) (hn : n = l.length) (hc : n ≤ c) (hs : ∀ b ∈ l, b < 256) (hl : l.length ≤ maxLen) :
    Bytes w B (.slice (some ⟨g, 0, none⟩) n c) l := by
  subst hn
  have h := lies_block (B := B) hb hB
  simp only [] at h
  exact ⟨⟨_, c, rfl, h, hc, fun h => by cases h⟩, hs, hl⟩

/-- A list of slices in a block known whole. -/
theorem parts_block {w : World} {B g : Nat} {vs : Array Value} {t : TypeId} {ls : List (List Nat)} {n c : Nat} (hb : w.heap[g]? = some (.cells vs t (0, 0))) (hB : g < B) (hn : n = ls.length) (hv : vs.size = ls.length)
    (hall : ∀ (j : Nat) (u : Value) (l : List Nat), vs[j]? = some u → ls[j]? = some l → Bytes w B u l) (hl : ls.length ≤ maxLen) :
    Parts w B (.slice (some ⟨g, 0, none⟩) n c) ls := by
  subst hn
  exact ⟨⟨_, c, vs.toList, rfl, by simpa using hv, lies_block hb hB, fun j u l h1 h2 => hall j u l (by simpa using h1) h2⟩, hl⟩
end Go.Proofs.Ytkdbplfphhfeaaa
