/- Contracts: numbers compared. -/
import Derived.Test.YtogkeoainejfcaaAMap
import Derived.Test.YtogkeoainejfcaaWords
import Derived.WalkKit
import Derived.OwnWalk
import Derived.Below
import Derived.OneCell
import Derived.Laws.BitsAllLaws
import Derived.Laws.Bits64
import Derived.Lib.Hide
namespace Go.Proofs.Ytogkeoainejfcaa
open Go.RowKit
set_option linter.unusedSimpArgs false
set_option linter.unusedVariables false
set_option maxRecDepth 100000
theorem isNaN_any (w : World) (k : Nat) : Calls Try.prog 101 #[.int .u64 (k : Int)] w fun e w' => e = .returned (.bool false) ∧ w = w' := by
  go_enter Try.func101, Try.ntmps101
  go_wp2
  go_ret
  simp
def cmpN (a b : Nat) : Int := if a < b then -1 else if b < a then 1 else 0
theorem compare_any (w : World) (a b : Nat) : Calls Try.prog 86 #[.int .u64 (a : Int), .int .u64 (b : Int)] w fun e w' => e = .returned (.int .i64 (cmpN a b)) ∧ w = w' := by
  have h1 := isNaN_any w a
  have h2 := isNaN_any w b
  have H1 := Lib.hid h1
  have H2 := Lib.hid h2
  clear h1 h2
  rcases Nat.lt_trichotomy a b with h | h | h
  · have e1 : (a : Int) < (b : Int) := by omega
    have e2 : cmpN a b = -1 := by unfold cmpN; rw [if_pos h]
    rw [e2]
    clear h e2
    go_enter Try.func86, Try.ntmps86
    go_wp2_with (first
      | (go_at_call 101; (with_reducible refine (H1.out).mono ?_); rintro e w1 ⟨rfl, rfl⟩)
      | (go_at_call 101; (with_reducible refine (H2.out).mono ?_); rintro e w1 ⟨rfl, rfl⟩))
    go_ret
    exact ⟨rfl, rfl⟩
  · subst h
    have e2 : cmpN a a = 0 := by unfold cmpN; rw [if_neg (Nat.lt_irrefl _), if_neg (Nat.lt_irrefl _)]
    rw [e2]
    clear e2
    go_enter Try.func86, Try.ntmps86
    go_wp2_with (first
      | (go_at_call 101; (with_reducible refine (H1.out).mono ?_); rintro e w1 ⟨rfl, rfl⟩)
      | (go_at_call 101; (with_reducible refine (H2.out).mono ?_); rintro e w1 ⟨rfl, rfl⟩))
    go_ret
    exact ⟨rfl, rfl⟩
  · have e1 : ¬ (a : Int) < (b : Int) := by omega
    have e3 : (a : Int) > (b : Int) := by omega
    have e2 : cmpN a b = 1 := by unfold cmpN; rw [if_neg (by omega), if_pos h]
    rw [e2]
    clear h e2
    go_enter Try.func86, Try.ntmps86
    go_wp2_with (first
      | (go_at_call 101; (with_reducible refine (H1.out).mono ?_); rintro e w1 ⟨rfl, rfl⟩)
      | (go_at_call 101; (with_reducible refine (H2.out).mono ?_); rintro e w1 ⟨rfl, rfl⟩))
    go_ret
    exact ⟨rfl, rfl⟩
theorem closure_any (w : World) (p c b : Nat) : Calls Try.prog 85 #[.agg #[.int .u64 (p : Int), .int .i64 (c : Int)], .int .u64 (b : Int)] w fun e w' => e = .returned (.int .i64 (cmpN p b)) ∧ Below w.heap.size w w' := by
  go_enter Try.func85, Try.ntmps85
  go_wp2_with (first
    | (go_at_call 86; (with_reducible refine (compare_any _ p b).mono ?_); rintro e w1 ⟨rfl, rfl⟩))
  go_ret
  exact ⟨rfl, by first | exact Below.refl _ _ | exact (Below.refl _ _).alloc (Nat.le_refl _) _⟩
end Go.Proofs.Ytogkeoainejfcaa
