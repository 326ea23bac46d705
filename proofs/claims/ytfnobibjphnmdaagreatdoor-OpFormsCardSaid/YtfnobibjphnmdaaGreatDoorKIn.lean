/- Contracts: is it a keyword; is it in a list; the sign at the front. -/
import Derived.Test.YtfnobibjphnmdaaGreatDoorKRows
import Derived.Test.YtfnobibjphnmdaaGreatDoorKGap
namespace Go.Proofs.YtfnobibjphnmdaaGreatDoor
open Go.RowKit
set_option linter.unusedSimpArgs false
set_option linter.unusedVariables false
/-- Is it in the list? -/
def inL (x : List Nat) (zs : List (List Nat)) : Bool := decide (x ∈ zs)
theorem mem_str {zs : List ByteArray} {x : ByteArray} : x ∈ zs ↔ str x ∈ zs.map str := by
  rw [List.mem_map]
  exact ⟨fun h => ⟨x, h, rfl⟩, fun ⟨y, hy, e⟩ => by rw [← str_inj e]; exact hy⟩
theorem contains_str (zs : List ByteArray) (x : ByteArray) : Lib.containsS zs x = inL (str x) (zs.map str) := by
  unfold inL
  rw [Bool.eq_iff_iff, Lib.containsS_iff, decide_eq_true_eq]
  exact mem_str
set_option maxRecDepth 100000 in
set_option maxHeartbeats 1000000 in
theorem isword_any (w : World) (s : ByteArray) :
    Calls Tryz.prog 50 #[.string s] w fun e w' => e = .returned (.bool (inL (str s) wordsL)) ∧ Below w.heap.size w w' := by
  have HW := fun (x : World) => hide (words_any x)
  have HC := fun (x : World) (b : Nat) h => hide (contains_any x b wordsB.length wordsB.length wordsB s rfl (by decide) h)
  go_enter Tryz.func50, Tryz.ntmps50
  go_wp2_with (first
    | (go_at_call 65; (with_reducible refine (unhide (HW _)).mono ?_); rintro e w1 ⟨v, rfl, b, rfl, hb1, hb2, hc, hb⟩; go_loud (
        have HB := Lib.hid hb;
        have HX := HC w1 b hc;
        clear hb))
    | (go_at_call 64; (with_reducible refine (unhide HX).mono ?_); rintro e w2 ⟨rfl, rfl⟩))
  go_ret
  refine ⟨?_, HB.out⟩
  rw [contains_str, wordsB_str]
  rfl
def InR (zs : List ByteArray) (x : ByteArray) (i : Value) : Prop := ∃ k : Nat, i = .int .i64 (k : Int) ∧ k ≤ zs.length ∧ ∀ j y, j < k → zs[j]? = some y → y ≠ x
end Go.Proofs.YtfnobibjphnmdaaGreatDoor
