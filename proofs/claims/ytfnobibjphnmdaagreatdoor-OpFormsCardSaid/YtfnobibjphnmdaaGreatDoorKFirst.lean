/- Contracts: what the token at the front is, and how long. -/
import Derived.Test.YtfnobibjphnmdaaGreatDoorKNumb
import Derived.Test.YtfnobibjphnmdaaGreatDoorKSign
namespace Go.Proofs.YtfnobibjphnmdaaGreatDoor
open Go.RowKit
set_option linter.unusedSimpArgs false
set_option linter.unusedVariables false
theorem runL_take : ∀ l : List Nat, runL (l.take (runL l)) = runL l
  | [] => rfl
  | b :: l => by
    simp only [runL]
    split
    · rename_i h
      rw [List.take_succ_cons]
      simp only [runL]
      rw [if_pos h, runL_take l]
    · rfl
theorem first_sign {l : List Nat} (h : runL l = 0) : ((firstL l).1 : Int) = sgnK (signL l) ∧ (firstL l).2 = signL l := by
  unfold firstL sgnK
  rw [if_pos h]
  split
  · rename_i h2; rw [h2]; exact ⟨rfl, rfl⟩
  · exact ⟨rfl, rfl⟩
theorem first_word {l : List Nat} (h : runL l ≠ 0) (h2 : inL (l.take (runL l)) wordsL = true) : firstL l = (3, runL l) := by
  unfold firstL
  rw [if_neg h, if_pos (of_decide_eq_true h2)]
theorem first_name {l : List Nat} (h : runL l ≠ 0) (h2 : inL (l.take (runL l)) wordsL = false) (h3 : nameL (l.take (runL l)) = true) : firstL l = (1, runL l) := by
  unfold firstL
  rw [if_neg h, if_neg (of_decide_eq_false h2), if_pos h3]
theorem first_num {l : List Nat} (h : runL l ≠ 0) (h2 : inL (l.take (runL l)) wordsL = false) (h3 : nameL (l.take (runL l)) = false) (h4 : numL (l.take (runL l)) = true) : firstL l = (2, runL l) := by
  unfold firstL
  rw [if_neg h, if_neg (of_decide_eq_false h2), if_neg (by rw [h3]; simp), if_pos h4]
theorem first_bad {l : List Nat} (h : runL l ≠ 0) (h2 : inL (l.take (runL l)) wordsL = false) (h3 : nameL (l.take (runL l)) = false) (h4 : numL (l.take (runL l)) = false) : firstL l = (0, 0) := by
  unfold firstL
  rw [if_neg h, if_neg (of_decide_eq_false h2), if_neg (by rw [h3]; simp), if_neg (by rw [h4]; simp)]
end Go.Proofs.YtfnobibjphnmdaaGreatDoor
