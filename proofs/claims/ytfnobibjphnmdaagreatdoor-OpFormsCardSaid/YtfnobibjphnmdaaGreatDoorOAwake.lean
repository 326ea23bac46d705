/- The law's own question. -/
import Derived.Test.YtfnobibjphnmdaaGreatDoorR5
namespace Go.Proofs.YtfnobibjphnmdaaGreatDoor
open Go.RowKit
set_option linter.unusedVariables false
set_option linter.unusedSimpArgs false
theorem right_one : rightO 1 2 0 (str ⟨#[109]⟩) = true := by decide
theorem text_one : ba (textO 1 2 0 (str ⟨#[109]⟩)) = ⟨#[114, 101, 110, 97, 109, 101, 45, 109, 111, 100, 117, 108, 101, 32, 50, 32, 109]⟩ := by
  have h : decL 2 = [50] := decL_small (by omega)
  unfold textO partsO optL
  rw [h]
  rfl
set_option maxRecDepth 100000 in
theorem opawake (w : World) (hv : Vo w) :
    Calls Tryz.prog 4 #[] w fun e w' => e = .returned (.bool true) ∧ Below w.heap.size w w' := by
  have HT := text_good w 1 2 0 ⟨#[109]⟩ (by omega) (by decide) (by omega) (by omega) hv right_one
  rw [text_one] at HT
  have HT2 := hide HT
  unfold opV at HT2
  rw [show ((1 : Nat) : Int) = 1 from rfl, show ((2 : Nat) : Int) = 2 from rfl, show ((0 : Nat) : Int) = 0 from rfl] at HT2
  have HW := fun (x : World) (h : Below w.heap.size w x) => hide (word_any x 14 (by omega) (hv.below h))
  rw [show ba (wordK 14) = ⟨#[115, 119, 97, 112, 45, 112, 97, 114, 116, 115]⟩ from rfl, show ((14 : Nat) : Int) = 14 from rfl] at HW
  clear hv HT
  go_enter Tryz.func4, Tryz.ntmps4
  go_wp2_with (first
    | (go_at_call 11; (with_reducible refine (unhide HT2).mono ?_); rintro e w1 ⟨rfl, hb1⟩; go_loud (
        have HB1 := Lib.hid hb1;
        clear hb1))
    | (go_at_call 18; (with_reducible refine (unhide (HW _ HB1.out)).mono ?_); rintro e w2 ⟨rfl, rfl⟩))
  go_ret
  exact ⟨rfl, HB1.out⟩
end Go.Proofs.YtfnobibjphnmdaaGreatDoor
