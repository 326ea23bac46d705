/- The walk of the law DiskArgs: it answers true for every number, place and mask, and writes nothing that was there. -/
import Derived.Test.YtbcfjhngigkjmaaAwake
import Derived.Test.YtbcfjhngigkjmaaNils
import Derived.RegionTactic
import Derived.ChangeAlike
import Derived.OpenShut
namespace Go.Proofs.Ytbcfjhngigkjmaa
open Go.RowKit
set_option linter.unusedSimpArgs false
set_option linter.unusedVariables false

theorem new_arg (w : World) (n : Int) : Calls Try.prog 10 #[.int .i64 n] w fun e w' => ∃ d, e = .returned (.tuple #[d, .int .i64 (if 1 ≤ n ∧ n ≤ 4096 then 0 else 1)]) ∧ Below w.heap.size w w' := by
  by_cases h : 1 ≤ n ∧ n ≤ 4096
  · obtain ⟨k, rfl⟩ : ∃ k : Nat, n = (k : Int) := ⟨n.toNat, by omega⟩
    refine (new_good w k (by omega) (by omega)).mono ?_
    rintro e w' ⟨gs, b, rfl, _, _, _, _, _, hb⟩
    exact ⟨_, by rw [if_pos h], hb⟩
  · refine (new_bad w n (by omega)).mono ?_
    rintro e w' ⟨rfl, rfl⟩
    exact ⟨_, by rw [if_neg h], Below.refl _ _⟩

set_option maxRecDepth 100000 in
set_option maxHeartbeats 4000000 in
theorem diskArgs_walk (a0 a1 a2 a3 a4 : Int) (w0 : (Lit.int .i64 a0).wf = true) (w1 : (Lit.int .i64 a1).wf = true) (w2 : (Lit.int .i64 a2).wf = true) (w3 : (Lit.int .i64 a3).wf = true) (w4 : (Lit.int .u32 a4).wf = true) (w : World) :
    Calls Try.prog 6 #[.int .i64 a0, .int .i64 a1, .int .i64 a2, .int .i64 a3, .int .u32 a4] w fun e w' => e = .returned (.bool true) ∧ Below w.heap.size w w' := by
  have HA := hide (awake_true w)
  clear w0 w1 w2 w3 w4
  obtain ⟨er, her⟩ : ∃ er : Int, er = if 1 ≤ a0 ∧ a0 ≤ 4096 then 0 else 1 := ⟨_, rfl⟩
  have hN := fun x => hide (new_arg x a0)
  rw [← her] at hN
  have hcase : (1 ≤ a0 ∧ a0 ≤ 4096 ∧ er = 0) ∨ (a0 < 1 ∧ er = 1) ∨ (4096 < a0 ∧ 1 ≤ a0 ∧ decide (a0 ≤ 4096) = false ∧ er = 1) := by
    by_cases h : 1 ≤ a0 ∧ a0 ≤ 4096
    · rw [if_pos h] at her; exact .inl ⟨h.1, h.2, her⟩
    · rw [if_neg h] at her
      by_cases h1 : a0 < 1
      · exact .inr (.inl ⟨h1, her⟩)
      · exact .inr (.inr ⟨by omega, by omega, decide_eq_false (by omega), her⟩)
  clear her
  rcases hcase with ⟨h1, h2, rfl⟩ | ⟨h1, rfl⟩ | ⟨h1, h2, h3, rfl⟩
  all_goals
    go_enter Try.func6, Try.ntmps6
    go_wp2_with (first
      | (go_at_call 9; (with_reducible refine (unhide HA).mono ?_); rintro e w1 ⟨rfl, hb1⟩; have HN := hN w1)
      | (go_at_call 10; (with_reducible refine (unhide HN).mono ?_); rintro e w2 ⟨d, rfl, hb2⟩)
      | (go_at_call 26; (with_reducible refine (limit_nil _ _).mono ?_); rintro e w' ⟨v, rfl, rfl⟩)
      | (go_at_call 21; (with_reducible refine (read_nil _ _).mono ?_); rintro e w' ⟨rfl, rfl⟩)
      | (go_at_call 20; (with_reducible refine (crash_nil _ _).mono ?_); rintro e w' ⟨rfl, rfl⟩)
      | (go_at_call 18; (with_reducible refine (write_nil _ _ _).mono ?_); rintro e w' ⟨rfl, rfl⟩)
      | (go_at_call 19; (with_reducible refine (sync_nil _).mono ?_); rintro e w' ⟨rfl, rfl⟩)
      | (go_at_call 24; (with_reducible refine (rot_nil _ _ _ _ _).mono ?_); rintro e w' ⟨rfl, rfl⟩)
      | (go_at_call 27; (with_reducible refine (sectors_nil _).mono ?_); rintro e w' ⟨rfl, rfl⟩)
      | (go_at_call 15; (with_reducible refine (writes_nil _).mono ?_); rintro e w' ⟨rfl, rfl⟩)
      | (go_at_call 23; (with_reducible refine (waiting_nil _).mono ?_); rintro e w' ⟨rfl, rfl⟩)
      | (go_at_call 25; (with_reducible refine (blank_nil _ _).mono ?_); rintro e w' ⟨rfl, rfl⟩)
      | (go_at_call 16; (with_reducible refine (copy_nil _).mono ?_); rintro e w' ⟨rfl, rfl⟩))
    go_ret
    exact ⟨rfl, (hb1.trans (hb2.mono hb1.size)).alloc (hb1.trans (hb2.mono hb1.size)).size _⟩
end Go.Proofs.Ytbcfjhngigkjmaa
