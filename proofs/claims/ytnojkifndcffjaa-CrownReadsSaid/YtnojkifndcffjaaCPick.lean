/- What a sector is to the crowns: blank, a crown of its own, or neither. -/
import Derived.Test.YtnojkifndcffjaaCAny
namespace Go.Proofs.Ytnojkifndcffjaa
open Go.RowKit
set_option linter.unusedSimpArgs false
set_option linter.unusedVariables false
/-- The half that a page of one byte names. -/
def halfOf (s : List Nat) : Nat := (dataOf s).headD 0
/-- Sector i has a crown that belongs there. -/
def OwnC (s : List Nat) (i : Nat) : Prop := errOf s = 0 ∧ (dataOf s).length = 1 ∧ halfOf s ≤ 1 ∧ numbOf s = 0 ∧ kinOf s = 9 ∧ genOf s % 2 = i
instance (s : List Nat) (i : Nat) : Decidable (OwnC s i) := by unfold OwnC; exact inferInstance
theorem data_half {s : List Nat} (h : (dataOf s).length = 1) : dataOf s = [halfOf s] := by
  unfold halfOf
  rcases hd : dataOf s with _ | ⟨b, r⟩
  · rw [hd] at h; simp at h
  · rw [hd] at h
    have : r = [] := List.length_eq_zero_iff.1 (by simpa using h)
    subst this
    rfl
theorem err_three {s : List Nat} (hl : s.length = 512) (h : errOf s = 3) : s = noughts := by
  have hz : ∀ b ∈ s, b = 0 := by
    refine Classical.byContradiction fun hz => ?_
    unfold errOf at h
    rw [if_pos hl, if_neg hz] at h
    split at h
    · split at h <;> cases h
    · cases h
  have h2 := List.eq_replicate_iff.2 ⟨rfl, hz⟩
  rw [hl] at h2
  exact h2
theorem err_noughts : errOf noughts = 3 := err_blank (by unfold noughts; rw [List.length_replicate]) fun b hb => List.eq_of_mem_replicate hb
/-- What a sector that is no neither has. -/
def pickO (s0 s1 : List Nat) : Nat → Option (Nat × Nat × Nat)
  | 0 => if errOf s0 = 3 then none else some (genOf s0, halfOf s0, serOf s0)
  | _ => if errOf s1 = 3 then none else some (genOf s1, halfOf s1, serOf s1)
theorem holds_one {s : List Nat} {i : Nat} (hs : ∀ b ∈ s, b < 256) (hl : s.length = 512) (h : errOf s = 3 ∨ OwnC s i) : Holds s i (if errOf s = 3 then none else some (genOf s, halfOf s, serOf s)) := by
  by_cases h3 : errOf s = 3
  · rw [if_pos h3]
    exact err_three hl h3
  · rw [if_neg h3]
    obtain ⟨e0, e1, e2, e3, e4, e5⟩ := h.resolve_left h3
    obtain ⟨q1, _, _, q2, q3, _⟩ := parts_page hs e0
    refine ⟨?_, q2, e2, q3, e5⟩
    show s = crownSec (genOf s) (halfOf s) (serOf s)
    unfold crownSec
    rw [← data_half e1, ← e3, ← e4]
    exact q1.symm
/-- What Read tells of two sectors: the crown, the sector, the error. -/
def readOf (s0 s1 : List Nat) : (Nat × Nat × Nat) × Nat × Nat :=
  if errOf s0 ≠ 3 ∧ ¬ OwnC s0 0 then ((0, 0, 0), 0, 7)
  else if errOf s1 ≠ 3 ∧ ¬ OwnC s1 1 then ((0, 0, 0), 1, 7)
  else match bestOf (pickO s0 s1) 2 with
    | none => ((0, 0, 0), 0, 3)
    | some c => (c, 0, 0)
end Go.Proofs.Ytnojkifndcffjaa
