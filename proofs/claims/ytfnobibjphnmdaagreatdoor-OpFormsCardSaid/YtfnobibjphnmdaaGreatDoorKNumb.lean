/- Contracts: is a run of letters and digits a number, to the program and to the reference; its value. -/
import Derived.Test.YtfnobibjphnmdaaGreatDoorKNum
namespace Go.Proofs.YtfnobibjphnmdaaGreatDoor
open Go.RowKit
set_option linter.unusedSimpArgs false
set_option linter.unusedVariables false
/-- The value of a number; below 0: it is none. -/
def numV (l : List Nat) : Int := if numL l then (valL l : Int) else -1
theorem numV_bad {l : List Nat} (h : numL l = false) : numV l = -1 := by unfold numV; rw [h]; rfl
theorem cls_two {c : Nat} : clsL c = 2 ↔ isDig c = true := by
  unfold clsL
  split
  · rename_i h
    simp [let_not_dig h]
  · split
    · simp [*]
    · split <;> simp [*]
theorem valA_take {l : List Nat} {k b : Nat} (h : l[k]? = some b) : valA 0 (l.take (k + 1)) = 10 * valA 0 (l.take k) + (b - 48) := by
  rw [List.take_add_one, h]
  exact valA_append _ _ _
theorem digL_bad {l : List Nat} {k b : Nat} (h : l[k]? = some b) (hb : isDig b = false) : digL l = false := by
  unfold digL
  rcases ha : l.all isDig with _ | _
  · rfl
  · rw [List.all_eq_true] at ha
    rw [ha b (List.mem_of_getElem? h)] at hb
    cases hb
theorem digL_good {l : List Nat} (h : ∀ (j b : Nat), l[j]? = some b → isDig b = true) : digL l = true := by
  unfold digL
  rw [List.all_eq_true]
  intro b hb
  obtain ⟨j, hj⟩ := List.mem_iff_getElem?.1 hb
  exact h j b hj
def NumR (l : List Nat) (n i : Value) : Prop := ∃ k v : Nat, i = .int .i64 (k : Int) ∧ n = .int .u64 (v : Int) ∧ k ≤ l.length ∧ v = valA 0 (l.take k) ∧ v < 10 ^ k ∧ ∀ (j b : Nat), j < k → l[j]? = some b → isDig b = true
end Go.Proofs.YtfnobibjphnmdaaGreatDoor
