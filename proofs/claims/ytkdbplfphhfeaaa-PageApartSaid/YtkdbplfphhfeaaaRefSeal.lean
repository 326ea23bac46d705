/- Contracts: what the reference's low, Seal and Open answer. Of texts of at most a million bytes. -/
import Derived.Test.YtkdbplfphhfeaaaOpen
namespace Go.Proofs.Ytkdbplfphhfeaaa
open Go.RowKit

/-- Two slices behind one another, joined. -/
theorem parts_two {y : World} {v u : Value} {l1 l2 : List Nat} {B gx : Nat} (hy : y.heap[gx]? = some (.cells #[v, u] 23 (0, 0))) (h : Bytes y B v l1) (h2 : Bytes y B u l2) (hB : B ≤ y.heap.size) :
    Parts y y.heap.size (.slice (some ⟨gx, 0, none⟩) 2 2) [l1, l2] := by
  refine parts_block hy ?_ rfl rfl ?_ (by unfold maxLen; simp)
  · rcases Nat.lt_or_ge gx y.heap.size with h1 | h1
    · exact h1
    · rw [Array.getElem?_eq_none h1] at hy; cases hy
  intro j u l h1 h3
  match j, h1, h3 with
  | 0, h1, h3 =>
    simp at h1 h3
    subst h1 h3
    exact h.up hB
  | 1, h1, h3 =>
    simp at h1 h3
    subst h1 h3
    exact h2.up hB
  | j + 2, h1, h3 => simp at h1
theorem unhide {p : Prop} (h : Hid p) : p := h
theorem hide {p : Prop} (h : p) : Hid p := h
theorem Mine.lower {w : World} {base base' n c : Nat} {A : Option Addr} {l : List Nat} (h : Mine w base A n c l) (hb : base' ≤ base) : Mine w base' A n c l := by
  have h1 := h.own
  have hl := h.len
  subst hl
  exact ⟨own_lower (l := l) h1 hb, rfl, h.small⟩
theorem seal_small {l : List Nat} (h : ∀ b ∈ l, b < 256) : ∀ b ∈ l ++ le4 (crc l), b < 256 := fun b hb => by
  rcases List.mem_append.1 hb with h1 | h1
  · exact h b h1
  · exact le4_small _ b h1
theorem le4_length (s : Nat) : (le4 s).length = 4 := rfl
/-- What low leaves, read as bytes. -/
theorem low_bytes (w : World) (s : Nat) : Bytes (w.alloc (.cells (byt (le4 s)).toArray 5)) (w.heap.size + 1) (.slice (some ⟨w.heap.size, 0, none⟩) 4 4) (le4 s) :=
  bytes_block (Go.heap_alloc_new w _) (by omega) rfl (by omega) (le4_small s) (by rw [le4_length]; unfold maxLen; omega)

def OpenSays (w : World) (b : Bool) (e : Ending) (w' : World) : Prop := e = .returned (.bool b) ∧ Below w.heap.size w w'

theorem same_yes (w : World) (v u : Value) (l : List Nat) (hp : Bytes w w.heap.size v l) (hq : Bytes w w.heap.size u l) : Calls Try.prog 12 #[v, u] w (Quietly w (.bool true)) := by
  have h := same_any w v u l l hp hq
  have e : decide (l = l) = true := decide_eq_true rfl
  rw [e] at h
  exact h
theorem Bytes.along {w w' : World} {v : Value} {l : List Nat} (h : Bytes w w.heap.size v l) (hb : Below w.heap.size w w') : Bytes w' w'.heap.size v l := (h.below hb).up hb.size
theorem Bytes.quiet {w : World} {v : Value} {l : List Nat} (h : Bytes w w.heap.size v l) (k : Nat) : Bytes (w.drewN k) (w.drewN k).heap.size v l := h.of_cells fun _ _ => rfl
theorem below_on {a w w' : World} (h : Below a.heap.size a w) (k : Below w.heap.size w w') : Below a.heap.size a w' := h.trans (k.mono h.size)
end Go.Proofs.Ytkdbplfphhfeaaa
