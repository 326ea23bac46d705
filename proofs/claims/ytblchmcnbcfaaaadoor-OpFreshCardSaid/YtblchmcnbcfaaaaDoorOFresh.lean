/- Contracts: new IDs. -/
import Derived.Test.YtblchmcnbcfaaaaDoorOWord
namespace Go.Proofs.YtblchmcnbcfaaaaDoor
open Go.RowKit
set_option linter.unusedVariables false
set_option linter.unusedSimpArgs false
def firstN (t : Nat) : Nat := 65536 * t
def lastN (t : Nat) : Nat := if t = 0 then 0 else 65536 * t + 65535
/-- The boxes of a teller of new IDs. -/
def Tell (w : World) (g n l : Nat) : Prop := w.heap[g]? = some (.cells #[.int .u64 (n : Int)] 31 (0, 0)) ∧ w.heap[g + 1]? = some (.cells #[.int .u64 (l : Int)] 31 (0, 0))
theorem Tell.cells {w : World} {g n l : Nat} (h : Tell w g n l) : w.cell? ⟨g, 0, none⟩ = some (.int .u64 (n : Int)) ∧ w.cell? ⟨g + 1, 0, none⟩ = some (.int .u64 (l : Int)) ∧ w.frozen? ⟨g, 0, none⟩ = false := by
  obtain ⟨h0, h1⟩ := h
  refine ⟨?_, ?_, ?_⟩
  · unfold World.cell?; simp only [h0]; rfl
  · unfold World.cell?; simp only [h1]; rfl
  · unfold World.frozen?; simp only [h0]; simp
theorem tell_alloc (w : World) (x y : Value) (t : TypeId) : ((w.alloc (.cells #[x] t)).alloc (.cells #[y] t)).heap[w.heap.size]? = some (.cells #[x] t (0, 0)) ∧ ((w.alloc (.cells #[x] t)).alloc (.cells #[y] t)).heap[w.heap.size + 1]? = some (.cells #[y] t (0, 0)) := by
  constructor
  · show ((w.heap.push _).push _)[_]? = _
    simp [Array.getElem?_push]
  · show ((w.heap.push _).push _)[_]? = _
    rw [Array.getElem?_push, if_pos (by simp)]
set_option maxRecDepth 100000 in
theorem fresh_any (w : World) (t : Nat) (ht : t < 4294967296) :
    Calls Tryd.prog 17 #[.int .u32 (t : Int)] w fun e w' => e = .returned (.func (.func 34) #[] #[.pointer (some ⟨w.heap.size, 0, none⟩), .pointer (some ⟨w.heap.size + 1, 0, none⟩)]) ∧
      Tell w' w.heap.size (firstN t) (lastN t) ∧ Below w.heap.size w w' ∧ w'.heap.size = w.heap.size + 2 := by
  by_cases h : t = 0
  · subst h
    go_enter Tryd.func17, Tryd.ntmps17
    go_wp2
    go_ret
    exact ⟨rfl, tell_alloc _ _ _ _, ((Below.refl _ _).alloc (Nat.le_refl _) _).alloc (by simp) _, by simp⟩
  · have hx : ((t : Int) == 0) = false := by rw [beq_eq_false_iff_ne]; omega
    have e1 : lastN t = 65536 * t + 65535 := if_neg h
    clear h
    go_enter Tryd.func17, Tryd.ntmps17
    go_wp2
    go_ret
    have e2 : (t : Int) * 65536 = ((firstN t : Nat) : Int) := by unfold firstN; omega
    have e3 : ((firstN t : Nat) : Int) + 65536 - 1 = ((lastN t : Nat) : Int) := by rw [e1]; unfold firstN; omega
    rw [e2, e3]
    exact ⟨rfl, tell_alloc _ _ _ _, ((Below.refl _ _).alloc (Nat.le_refl _) _).alloc (by simp) _, by simp⟩
set_option maxRecDepth 100000 in
theorem next_more (w : World) (g n l : Nat) (hn : n < l) (hl : l < 18446744073709551616) (h : Tell w g n l) :
    Calls Tryd.prog 34 #[.pointer (some ⟨g, 0, none⟩), .pointer (some ⟨g + 1, 0, none⟩)] w fun e w' => e = .returned (.tuple #[.int .u64 ((n + 1 : Nat) : Int), .bool true]) ∧ w' = w.setCell ⟨g, 0, none⟩ (.int .u64 ((n + 1 : Nat) : Int)) := by
  obtain ⟨z0, z1, z2⟩ := h.cells
  have hx : ((n : Int) == (l : Int)) = false := by rw [beq_eq_false_iff_ne]; omega
  clear h
  go_enter Tryd.func34, Tryd.ntmps34
  go_wp2
  go_ret2
  exact ⟨rfl, rfl⟩
set_option maxRecDepth 100000 in
theorem next_none (w : World) (g n : Nat) (h : Tell w g n n) :
    Calls Tryd.prog 34 #[.pointer (some ⟨g, 0, none⟩), .pointer (some ⟨g + 1, 0, none⟩)] w fun e w' => e = .returned (.tuple #[.int .u64 0, .bool false]) ∧ w' = w := by
  obtain ⟨z0, z1, z2⟩ := h.cells
  go_enter Tryd.func34, Tryd.ntmps34
  go_wp2
  go_ret2
  exact ⟨rfl, rfl⟩
end Go.Proofs.YtblchmcnbcfaaaaDoor
