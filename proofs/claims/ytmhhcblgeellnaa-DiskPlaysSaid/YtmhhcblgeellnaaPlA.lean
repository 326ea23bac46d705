/- Contracts of a disk's small calls: how many sectors, how many writes; a rot that there cannot be. -/
import Derived.Test.YtmhhcblgeellnaaRot
namespace Go.Proofs.Ytmhhcblgeellnaa
open Go.RowKit
set_option linter.unusedSimpArgs false
set_option linter.unusedVariables false

theorem sectors_any {w : World} {gs : Nat} {b : DB} {dur : List (List Nat)} {pend : List (Nat × List Nat)} {nw bud : Int} (h : Disk w gs b dur pend nw bud) :
    Calls Try.prog 27 #[.pointer (some ⟨gs, 0, none⟩)] w fun e w' => e = .returned (.int .i64 (dur.length : Int)) ∧ w = w' := by
  have c0 := h.c0
  clear h
  go_enter Try.func27, Try.ntmps27
  go_wp2
  go_ret
  exact ⟨rfl, rfl⟩
theorem writes_any {w : World} {gs : Nat} {b : DB} {dur : List (List Nat)} {pend : List (Nat × List Nat)} {nw bud : Int} (h : Disk w gs b dur pend nw bud) :
    Calls Try.prog 15 #[.pointer (some ⟨gs, 0, none⟩)] w fun e w' => e = .returned (.int .i64 nw) ∧ w = w' := by
  have c0 := h.c3
  clear h
  go_enter Try.func15, Try.ntmps15
  go_wp2
  go_ret
  exact ⟨rfl, rfl⟩
set_option maxRecDepth 100000 in
set_option maxHeartbeats 4000000 in
theorem rot_arg {w : World} (gs : Nat) (i bit n : Int) (mask : Nat) (hbad : n < 0 ∨ 32 < n ∨ bit < 0 ∨ 4096 < bit ∨ 4096 < bit + n) :
    Calls Try.prog 24 #[.pointer (some ⟨gs, 0, none⟩), .int .i64 i, .int .i64 bit, .int .i64 n, .int .u32 (mask : Int)] w fun e w' => e = .returned (.int .i64 1) ∧ w = w' := by
  go_enter Try.func24, Try.ntmps24
  by_cases hc : n < 0
  · have dd0 : decide (n < 0) = true := decide_eq_true (by omega)
    go_wp2
    go_ret
    exact ⟨rfl, rfl⟩
  by_cases hc2 : 32 < n
  · have dd0 : decide (n < 0) = false := decide_eq_false (by omega)
    have dd1 : decide (n > 32) = true := decide_eq_true (by omega)
    go_wp2
    go_ret
    exact ⟨rfl, rfl⟩
  by_cases hc3 : bit < 0
  · have dd0 : decide (n < 0) = false := decide_eq_false (by omega)
    have dd1 : decide (n > 32) = false := decide_eq_false (by omega)
    have dd2 : decide (bit < 0) = true := decide_eq_true (by omega)
    go_wp2
    go_ret
    exact ⟨rfl, rfl⟩
  have dd0 : decide (n < 0) = false := decide_eq_false (by omega)
  have dd1 : decide (n > 32) = false := decide_eq_false (by omega)
  have dd2 : decide (bit < 0) = false := decide_eq_false (by omega)
  have dd3 : decide (bit > 4096 - n) = true := decide_eq_true (by omega)
  have b1 : 0 ≤ n := by omega
  have b2 : n ≤ 32 := by omega
  go_wp2
  go_ret
  exact ⟨rfl, rfl⟩
set_option maxRecDepth 100000 in
set_option maxHeartbeats 4000000 in
theorem rot_index {w : World} {gs : Nat} {b : DB} {dur : List (List Nat)} {pend : List (Nat × List Nat)} {nw bud : Int} (h : Disk w gs b dur pend nw bud) (i bit n : Int) (mask : Nat) (hi : i < 0 ∨ (dur.length : Int) ≤ i) (hn1 : 0 ≤ n) (hn2 : n ≤ 32) (hb1 : 0 ≤ bit) (hb3 : bit + n ≤ 4096) :
    Calls Try.prog 24 #[.pointer (some ⟨gs, 0, none⟩), .int .i64 i, .int .i64 bit, .int .i64 n, .int .u32 (mask : Int)] w fun e w' => e = .returned (.int .i64 6) ∧ w = w' := by
  have HH := hide (has_no h i hi)
  clear h hi
  have dd0 : decide (n < 0) = false := decide_eq_false (by omega)
  have dd1 : decide (n > 32) = false := decide_eq_false (by omega)
  have dd2 : decide (bit < 0) = false := decide_eq_false (by omega)
  have dd3 : decide (bit > 4096 - n) = false := decide_eq_false (by omega)
  go_enter Try.func24, Try.ntmps24
  go_wp2_with (go_at_call 36; (with_reducible refine (unhide HH).mono ?_); rintro e w' ⟨rfl, rfl⟩)
  go_ret
  exact ⟨rfl, rfl⟩
end Go.Proofs.Ytmhhcblgeellnaa
