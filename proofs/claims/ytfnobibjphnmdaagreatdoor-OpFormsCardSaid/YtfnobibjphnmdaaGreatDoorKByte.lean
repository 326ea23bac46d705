/- Contracts: what a byte is. (By tools/genbyte.py.) -/
import Derived.Test.YtfnobibjphnmdaaGreatDoorKStep
namespace Go.Proofs.YtfnobibjphnmdaaGreatDoor
open Go.RowKit
set_option linter.unusedSimpArgs false
set_option linter.unusedVariables false
/-- 1 a letter, 2 a digit, 3 a blank, 0 else. -/
def clsL (c : Nat) : Nat := if isLet c then 1 else if isDig c then 2 else if c = 32 ∨ c = 9 ∨ c = 10 then 3 else 0
theorem let_eq {c : Nat} {b : Bool} (h : b = true ↔ (97 ≤ c ∧ c ≤ 122 ∨ 65 ≤ c ∧ c ≤ 90 ∨ c = 95)) : isLet c = b := by
  rw [Bool.eq_iff_iff, h]
  simp [isLet, or_assoc]
theorem dig_eq {c : Nat} {b : Bool} (h : b = true ↔ (48 ≤ c ∧ c ≤ 57)) : isDig c = b := by
  rw [Bool.eq_iff_iff, h]
  simp [isDig]

set_option maxRecDepth 100000 in
set_option maxHeartbeats 1000000 in
theorem digit_any (w : World) (c : Nat) (hc : c < 256) :
    Calls Tryz.prog 48 #[.int .u8 (c : Int)] w fun e w' => e = .returned (.bool (isDig c)) ∧ w = w' := by
  rcases (show (0 ≤ c ∧ c ≤ 47) ∨ (48 ≤ c ∧ c ≤ 57) ∨ (58 ≤ c ∧ c ≤ 255) by omega) with ⟨h, h2⟩ | ⟨h, h2⟩ | ⟨h, h2⟩
  · have hr : isDig c = false := dig_eq (by simp; omega)
    rw [hr]
    clear hr
    have hg97 : decide (97 ≤ (c : Int)) = false := decide_eq_false (by omega)
    have hg65 : decide (65 ≤ (c : Int)) = false := decide_eq_false (by omega)
    have hg48 : decide (48 ≤ (c : Int)) = false := decide_eq_false (by omega)
    have hl122 : decide ((c : Int) ≤ 122) = true := decide_eq_true (by omega)
    have hl90 : decide ((c : Int) ≤ 90) = true := decide_eq_true (by omega)
    have hl57 : decide ((c : Int) ≤ 57) = true := decide_eq_true (by omega)
    have he95 : ((c : Int) == 95) = false := by rw [beq_eq_false_iff_ne]; omega
    clear h h2 hc
    go_enter Tryz.func48, Tryz.ntmps48
    go_wp2
    go_ret
    exact ⟨rfl, rfl⟩
  · have hr : isDig c = true := dig_eq (by simp; omega)
    rw [hr]
    clear hr
    have hg97 : decide (97 ≤ (c : Int)) = false := decide_eq_false (by omega)
    have hg65 : decide (65 ≤ (c : Int)) = false := decide_eq_false (by omega)
    have hg48 : decide (48 ≤ (c : Int)) = true := decide_eq_true (by omega)
    have hl122 : decide ((c : Int) ≤ 122) = true := decide_eq_true (by omega)
    have hl90 : decide ((c : Int) ≤ 90) = true := decide_eq_true (by omega)
    have hl57 : decide ((c : Int) ≤ 57) = true := decide_eq_true (by omega)
    have he95 : ((c : Int) == 95) = false := by rw [beq_eq_false_iff_ne]; omega
    have he32 : ((c : Int) == 32) = false := by rw [beq_eq_false_iff_ne]; omega
    have he9 : ((c : Int) == 9) = false := by rw [beq_eq_false_iff_ne]; omega
    have he10 : ((c : Int) == 10) = false := by rw [beq_eq_false_iff_ne]; omega
    clear h h2 hc
    go_enter Tryz.func48, Tryz.ntmps48
    go_wp2
    go_ret
    exact ⟨rfl, rfl⟩
  · have hr : isDig c = false := dig_eq (by simp; omega)
    rw [hr]
    clear hr
    have hg48 : decide (48 ≤ (c : Int)) = true := decide_eq_true (by omega)
    have hl57 : decide ((c : Int) ≤ 57) = false := decide_eq_false (by omega)
    have he32 : ((c : Int) == 32) = false := by rw [beq_eq_false_iff_ne]; omega
    have he9 : ((c : Int) == 9) = false := by rw [beq_eq_false_iff_ne]; omega
    have he10 : ((c : Int) == 10) = false := by rw [beq_eq_false_iff_ne]; omega
    clear h h2 hc
    go_enter Tryz.func48, Tryz.ntmps48
    go_wp2
    go_ret
    exact ⟨rfl, rfl⟩
set_option maxRecDepth 100000 in
set_option maxHeartbeats 1000000 in
theorem letter_any (w : World) (c : Nat) (hc : c < 256) :
    Calls Tryz.prog 63 #[.int .u8 (c : Int)] w fun e w' => e = .returned (.bool (isLet c)) ∧ w = w' := by
  rcases (show (0 ≤ c ∧ c ≤ 64) ∨ (65 ≤ c ∧ c ≤ 90) ∨ (91 ≤ c ∧ c ≤ 94) ∨ (95 ≤ c ∧ c ≤ 95) ∨ (96 ≤ c ∧ c ≤ 96) ∨ (97 ≤ c ∧ c ≤ 122) ∨ (123 ≤ c ∧ c ≤ 255) by omega) with ⟨h, h2⟩ | ⟨h, h2⟩ | ⟨h, h2⟩ | ⟨h, h2⟩ | ⟨h, h2⟩ | ⟨h, h2⟩ | ⟨h, h2⟩
  · have hr : isLet c = false := let_eq (by simp; omega)
    rw [hr]
    clear hr
    have hg97 : decide (97 ≤ (c : Int)) = false := decide_eq_false (by omega)
    have hg65 : decide (65 ≤ (c : Int)) = false := decide_eq_false (by omega)
    have hl122 : decide ((c : Int) ≤ 122) = true := decide_eq_true (by omega)
    have hl90 : decide ((c : Int) ≤ 90) = true := decide_eq_true (by omega)
    have he95 : ((c : Int) == 95) = false := by rw [beq_eq_false_iff_ne]; omega
    clear h h2 hc
    go_enter Tryz.func63, Tryz.ntmps63
    go_wp2
    go_ret
    exact ⟨rfl, rfl⟩
  · have hr : isLet c = true := let_eq (by simp; omega)
    rw [hr]
    clear hr
    have hg97 : decide (97 ≤ (c : Int)) = false := decide_eq_false (by omega)
    have hg65 : decide (65 ≤ (c : Int)) = true := decide_eq_true (by omega)
    have hg48 : decide (48 ≤ (c : Int)) = true := decide_eq_true (by omega)
    have hl122 : decide ((c : Int) ≤ 122) = true := decide_eq_true (by omega)
    have hl90 : decide ((c : Int) ≤ 90) = true := decide_eq_true (by omega)
    have hl57 : decide ((c : Int) ≤ 57) = false := decide_eq_false (by omega)
    have he95 : ((c : Int) == 95) = false := by rw [beq_eq_false_iff_ne]; omega
    have he32 : ((c : Int) == 32) = false := by rw [beq_eq_false_iff_ne]; omega
    have he9 : ((c : Int) == 9) = false := by rw [beq_eq_false_iff_ne]; omega
    have he10 : ((c : Int) == 10) = false := by rw [beq_eq_false_iff_ne]; omega
    clear h h2 hc
    go_enter Tryz.func63, Tryz.ntmps63
    go_wp2
    go_ret
    exact ⟨rfl, rfl⟩
  · have hr : isLet c = false := let_eq (by simp; omega)
    rw [hr]
    clear hr
    have hg97 : decide (97 ≤ (c : Int)) = false := decide_eq_false (by omega)
    have hg65 : decide (65 ≤ (c : Int)) = true := decide_eq_true (by omega)
    have hg48 : decide (48 ≤ (c : Int)) = true := decide_eq_true (by omega)
    have hl122 : decide ((c : Int) ≤ 122) = true := decide_eq_true (by omega)
    have hl90 : decide ((c : Int) ≤ 90) = false := decide_eq_false (by omega)
    have hl57 : decide ((c : Int) ≤ 57) = false := decide_eq_false (by omega)
    have he95 : ((c : Int) == 95) = false := by rw [beq_eq_false_iff_ne]; omega
    have he32 : ((c : Int) == 32) = false := by rw [beq_eq_false_iff_ne]; omega
    have he9 : ((c : Int) == 9) = false := by rw [beq_eq_false_iff_ne]; omega
    have he10 : ((c : Int) == 10) = false := by rw [beq_eq_false_iff_ne]; omega
    clear h h2 hc
    go_enter Tryz.func63, Tryz.ntmps63
    go_wp2
    go_ret
    exact ⟨rfl, rfl⟩
  · have hr : isLet c = true := let_eq (by simp; omega)
    rw [hr]
    clear hr
    have hg97 : decide (97 ≤ (c : Int)) = false := decide_eq_false (by omega)
    have hg65 : decide (65 ≤ (c : Int)) = true := decide_eq_true (by omega)
    have hg48 : decide (48 ≤ (c : Int)) = true := decide_eq_true (by omega)
    have hl122 : decide ((c : Int) ≤ 122) = true := decide_eq_true (by omega)
    have hl90 : decide ((c : Int) ≤ 90) = false := decide_eq_false (by omega)
    have hl57 : decide ((c : Int) ≤ 57) = false := decide_eq_false (by omega)
    have he95 : ((c : Int) == 95) = true := by rw [beq_iff_eq]; omega
    have he32 : ((c : Int) == 32) = false := by rw [beq_eq_false_iff_ne]; omega
    have he9 : ((c : Int) == 9) = false := by rw [beq_eq_false_iff_ne]; omega
    have he10 : ((c : Int) == 10) = false := by rw [beq_eq_false_iff_ne]; omega
    clear h h2 hc
    go_enter Tryz.func63, Tryz.ntmps63
    go_wp2
    go_ret
    exact ⟨rfl, rfl⟩
  · have hr : isLet c = false := let_eq (by simp; omega)
    rw [hr]
    clear hr
    have hg97 : decide (97 ≤ (c : Int)) = false := decide_eq_false (by omega)
    have hg65 : decide (65 ≤ (c : Int)) = true := decide_eq_true (by omega)
    have hg48 : decide (48 ≤ (c : Int)) = true := decide_eq_true (by omega)
    have hl122 : decide ((c : Int) ≤ 122) = true := decide_eq_true (by omega)
    have hl90 : decide ((c : Int) ≤ 90) = false := decide_eq_false (by omega)
    have hl57 : decide ((c : Int) ≤ 57) = false := decide_eq_false (by omega)
    have he95 : ((c : Int) == 95) = false := by rw [beq_eq_false_iff_ne]; omega
    have he32 : ((c : Int) == 32) = false := by rw [beq_eq_false_iff_ne]; omega
    have he9 : ((c : Int) == 9) = false := by rw [beq_eq_false_iff_ne]; omega
    have he10 : ((c : Int) == 10) = false := by rw [beq_eq_false_iff_ne]; omega
    clear h h2 hc
    go_enter Tryz.func63, Tryz.ntmps63
    go_wp2
    go_ret
    exact ⟨rfl, rfl⟩
  · have hr : isLet c = true := let_eq (by simp; omega)
    rw [hr]
    clear hr
    have hg97 : decide (97 ≤ (c : Int)) = true := decide_eq_true (by omega)
    have hg65 : decide (65 ≤ (c : Int)) = true := decide_eq_true (by omega)
    have hg48 : decide (48 ≤ (c : Int)) = true := decide_eq_true (by omega)
    have hl122 : decide ((c : Int) ≤ 122) = true := decide_eq_true (by omega)
    have hl90 : decide ((c : Int) ≤ 90) = false := decide_eq_false (by omega)
    have hl57 : decide ((c : Int) ≤ 57) = false := decide_eq_false (by omega)
    have he95 : ((c : Int) == 95) = false := by rw [beq_eq_false_iff_ne]; omega
    have he32 : ((c : Int) == 32) = false := by rw [beq_eq_false_iff_ne]; omega
    have he9 : ((c : Int) == 9) = false := by rw [beq_eq_false_iff_ne]; omega
    have he10 : ((c : Int) == 10) = false := by rw [beq_eq_false_iff_ne]; omega
    clear h h2 hc
    go_enter Tryz.func63, Tryz.ntmps63
    go_wp2
    go_ret
    exact ⟨rfl, rfl⟩
  · have hr : isLet c = false := let_eq (by simp; omega)
    rw [hr]
    clear hr
    have hg97 : decide (97 ≤ (c : Int)) = true := decide_eq_true (by omega)
    have hg65 : decide (65 ≤ (c : Int)) = true := decide_eq_true (by omega)
    have hg48 : decide (48 ≤ (c : Int)) = true := decide_eq_true (by omega)
    have hl122 : decide ((c : Int) ≤ 122) = false := decide_eq_false (by omega)
    have hl90 : decide ((c : Int) ≤ 90) = false := decide_eq_false (by omega)
    have hl57 : decide ((c : Int) ≤ 57) = false := decide_eq_false (by omega)
    have he95 : ((c : Int) == 95) = false := by rw [beq_eq_false_iff_ne]; omega
    have he32 : ((c : Int) == 32) = false := by rw [beq_eq_false_iff_ne]; omega
    have he9 : ((c : Int) == 9) = false := by rw [beq_eq_false_iff_ne]; omega
    have he10 : ((c : Int) == 10) = false := by rw [beq_eq_false_iff_ne]; omega
    clear h h2 hc
    go_enter Tryz.func63, Tryz.ntmps63
    go_wp2
    go_ret
    exact ⟨rfl, rfl⟩
set_option maxRecDepth 100000 in
set_option maxHeartbeats 1000000 in
theorem class_any (w : World) (c : Nat) (hc : c < 256) :
    Calls Tryz.prog 62 #[.int .u8 (c : Int)] w fun e w' => e = .returned (.int .i64 (clsL c : Int)) ∧ w = w' := by
  rcases (show (0 ≤ c ∧ c ≤ 8) ∨ (9 ≤ c ∧ c ≤ 9) ∨ (10 ≤ c ∧ c ≤ 10) ∨ (11 ≤ c ∧ c ≤ 31) ∨ (32 ≤ c ∧ c ≤ 32) ∨ (33 ≤ c ∧ c ≤ 47) ∨ (48 ≤ c ∧ c ≤ 57) ∨ (58 ≤ c ∧ c ≤ 64) ∨ (65 ≤ c ∧ c ≤ 90) ∨ (91 ≤ c ∧ c ≤ 94) ∨ (95 ≤ c ∧ c ≤ 95) ∨ (96 ≤ c ∧ c ≤ 96) ∨ (97 ≤ c ∧ c ≤ 122) ∨ (123 ≤ c ∧ c ≤ 255) by omega) with ⟨h, h2⟩ | ⟨h, h2⟩ | ⟨h, h2⟩ | ⟨h, h2⟩ | ⟨h, h2⟩ | ⟨h, h2⟩ | ⟨h, h2⟩ | ⟨h, h2⟩ | ⟨h, h2⟩ | ⟨h, h2⟩ | ⟨h, h2⟩ | ⟨h, h2⟩ | ⟨h, h2⟩ | ⟨h, h2⟩
  · have hr : clsL c = 0 := (if_neg (by rw [let_eq (b := false) (by simp; omega)]; simp)).trans ((if_neg (by rw [dig_eq (b := false) (by simp; omega)]; simp)).trans (if_neg (by omega)))
    rw [hr]
    clear hr
    have hg97 : decide (97 ≤ (c : Int)) = false := decide_eq_false (by omega)
    have hg65 : decide (65 ≤ (c : Int)) = false := decide_eq_false (by omega)
    have hg48 : decide (48 ≤ (c : Int)) = false := decide_eq_false (by omega)
    have hl122 : decide ((c : Int) ≤ 122) = true := decide_eq_true (by omega)
    have hl90 : decide ((c : Int) ≤ 90) = true := decide_eq_true (by omega)
    have hl57 : decide ((c : Int) ≤ 57) = true := decide_eq_true (by omega)
    have he95 : ((c : Int) == 95) = false := by rw [beq_eq_false_iff_ne]; omega
    have he32 : ((c : Int) == 32) = false := by rw [beq_eq_false_iff_ne]; omega
    have he9 : ((c : Int) == 9) = false := by rw [beq_eq_false_iff_ne]; omega
    have he10 : ((c : Int) == 10) = false := by rw [beq_eq_false_iff_ne]; omega
    clear h h2 hc
    go_enter Tryz.func62, Tryz.ntmps62
    go_wp2
    go_ret
    exact ⟨rfl, rfl⟩
  · have hr : clsL c = 3 := (if_neg (by rw [let_eq (b := false) (by simp; omega)]; simp)).trans ((if_neg (by rw [dig_eq (b := false) (by simp; omega)]; simp)).trans (if_pos (by omega)))
    rw [hr]
    clear hr
    have hg97 : decide (97 ≤ (c : Int)) = false := decide_eq_false (by omega)
    have hg65 : decide (65 ≤ (c : Int)) = false := decide_eq_false (by omega)
    have hg48 : decide (48 ≤ (c : Int)) = false := decide_eq_false (by omega)
    have hl122 : decide ((c : Int) ≤ 122) = true := decide_eq_true (by omega)
    have hl90 : decide ((c : Int) ≤ 90) = true := decide_eq_true (by omega)
    have hl57 : decide ((c : Int) ≤ 57) = true := decide_eq_true (by omega)
    have he95 : ((c : Int) == 95) = false := by rw [beq_eq_false_iff_ne]; omega
    have he32 : ((c : Int) == 32) = false := by rw [beq_eq_false_iff_ne]; omega
    have he9 : ((c : Int) == 9) = true := by rw [beq_iff_eq]; omega
    have he10 : ((c : Int) == 10) = false := by rw [beq_eq_false_iff_ne]; omega
    clear h h2 hc
    go_enter Tryz.func62, Tryz.ntmps62
    go_wp2
    go_ret
    exact ⟨rfl, rfl⟩
  · have hr : clsL c = 3 := (if_neg (by rw [let_eq (b := false) (by simp; omega)]; simp)).trans ((if_neg (by rw [dig_eq (b := false) (by simp; omega)]; simp)).trans (if_pos (by omega)))
    rw [hr]
    clear hr
    have hg97 : decide (97 ≤ (c : Int)) = false := decide_eq_false (by omega)
    have hg65 : decide (65 ≤ (c : Int)) = false := decide_eq_false (by omega)
    have hg48 : decide (48 ≤ (c : Int)) = false := decide_eq_false (by omega)
    have hl122 : decide ((c : Int) ≤ 122) = true := decide_eq_true (by omega)
    have hl90 : decide ((c : Int) ≤ 90) = true := decide_eq_true (by omega)
    have hl57 : decide ((c : Int) ≤ 57) = true := decide_eq_true (by omega)
    have he95 : ((c : Int) == 95) = false := by rw [beq_eq_false_iff_ne]; omega
    have he32 : ((c : Int) == 32) = false := by rw [beq_eq_false_iff_ne]; omega
    have he9 : ((c : Int) == 9) = false := by rw [beq_eq_false_iff_ne]; omega
    have he10 : ((c : Int) == 10) = true := by rw [beq_iff_eq]; omega
    clear h h2 hc
    go_enter Tryz.func62, Tryz.ntmps62
    go_wp2
    go_ret
    exact ⟨rfl, rfl⟩
  · have hr : clsL c = 0 := (if_neg (by rw [let_eq (b := false) (by simp; omega)]; simp)).trans ((if_neg (by rw [dig_eq (b := false) (by simp; omega)]; simp)).trans (if_neg (by omega)))
    rw [hr]
    clear hr
    have hg97 : decide (97 ≤ (c : Int)) = false := decide_eq_false (by omega)
    have hg65 : decide (65 ≤ (c : Int)) = false := decide_eq_false (by omega)
    have hg48 : decide (48 ≤ (c : Int)) = false := decide_eq_false (by omega)
    have hl122 : decide ((c : Int) ≤ 122) = true := decide_eq_true (by omega)
    have hl90 : decide ((c : Int) ≤ 90) = true := decide_eq_true (by omega)
    have hl57 : decide ((c : Int) ≤ 57) = true := decide_eq_true (by omega)
    have he95 : ((c : Int) == 95) = false := by rw [beq_eq_false_iff_ne]; omega
    have he32 : ((c : Int) == 32) = false := by rw [beq_eq_false_iff_ne]; omega
    have he9 : ((c : Int) == 9) = false := by rw [beq_eq_false_iff_ne]; omega
    have he10 : ((c : Int) == 10) = false := by rw [beq_eq_false_iff_ne]; omega
    clear h h2 hc
    go_enter Tryz.func62, Tryz.ntmps62
    go_wp2
    go_ret
    exact ⟨rfl, rfl⟩
  · have hr : clsL c = 3 := (if_neg (by rw [let_eq (b := false) (by simp; omega)]; simp)).trans ((if_neg (by rw [dig_eq (b := false) (by simp; omega)]; simp)).trans (if_pos (by omega)))
    rw [hr]
    clear hr
    have hg97 : decide (97 ≤ (c : Int)) = false := decide_eq_false (by omega)
    have hg65 : decide (65 ≤ (c : Int)) = false := decide_eq_false (by omega)
    have hg48 : decide (48 ≤ (c : Int)) = false := decide_eq_false (by omega)
    have hl122 : decide ((c : Int) ≤ 122) = true := decide_eq_true (by omega)
    have hl90 : decide ((c : Int) ≤ 90) = true := decide_eq_true (by omega)
    have hl57 : decide ((c : Int) ≤ 57) = true := decide_eq_true (by omega)
    have he95 : ((c : Int) == 95) = false := by rw [beq_eq_false_iff_ne]; omega
    have he32 : ((c : Int) == 32) = true := by rw [beq_iff_eq]; omega
    have he9 : ((c : Int) == 9) = false := by rw [beq_eq_false_iff_ne]; omega
    have he10 : ((c : Int) == 10) = false := by rw [beq_eq_false_iff_ne]; omega
    clear h h2 hc
    go_enter Tryz.func62, Tryz.ntmps62
    go_wp2
    go_ret
    exact ⟨rfl, rfl⟩
  · have hr : clsL c = 0 := (if_neg (by rw [let_eq (b := false) (by simp; omega)]; simp)).trans ((if_neg (by rw [dig_eq (b := false) (by simp; omega)]; simp)).trans (if_neg (by omega)))
    rw [hr]
    clear hr
    have hg97 : decide (97 ≤ (c : Int)) = false := decide_eq_false (by omega)
    have hg65 : decide (65 ≤ (c : Int)) = false := decide_eq_false (by omega)
    have hg48 : decide (48 ≤ (c : Int)) = false := decide_eq_false (by omega)
    have hl122 : decide ((c : Int) ≤ 122) = true := decide_eq_true (by omega)
    have hl90 : decide ((c : Int) ≤ 90) = true := decide_eq_true (by omega)
    have hl57 : decide ((c : Int) ≤ 57) = true := decide_eq_true (by omega)
    have he95 : ((c : Int) == 95) = false := by rw [beq_eq_false_iff_ne]; omega
    have he32 : ((c : Int) == 32) = false := by rw [beq_eq_false_iff_ne]; omega
    have he9 : ((c : Int) == 9) = false := by rw [beq_eq_false_iff_ne]; omega
    have he10 : ((c : Int) == 10) = false := by rw [beq_eq_false_iff_ne]; omega
    clear h h2 hc
    go_enter Tryz.func62, Tryz.ntmps62
    go_wp2
    go_ret
    exact ⟨rfl, rfl⟩
  · have hr : clsL c = 2 := (if_neg (by rw [let_eq (b := false) (by simp; omega)]; simp)).trans (if_pos (dig_eq (by simp; omega)))
    rw [hr]
    clear hr
    have hg97 : decide (97 ≤ (c : Int)) = false := decide_eq_false (by omega)
    have hg65 : decide (65 ≤ (c : Int)) = false := decide_eq_false (by omega)
    have hg48 : decide (48 ≤ (c : Int)) = true := decide_eq_true (by omega)
    have hl122 : decide ((c : Int) ≤ 122) = true := decide_eq_true (by omega)
    have hl90 : decide ((c : Int) ≤ 90) = true := decide_eq_true (by omega)
    have hl57 : decide ((c : Int) ≤ 57) = true := decide_eq_true (by omega)
    have he95 : ((c : Int) == 95) = false := by rw [beq_eq_false_iff_ne]; omega
    have he32 : ((c : Int) == 32) = false := by rw [beq_eq_false_iff_ne]; omega
    have he9 : ((c : Int) == 9) = false := by rw [beq_eq_false_iff_ne]; omega
    have he10 : ((c : Int) == 10) = false := by rw [beq_eq_false_iff_ne]; omega
    clear h h2 hc
    go_enter Tryz.func62, Tryz.ntmps62
    go_wp2
    go_ret
    exact ⟨rfl, rfl⟩
  · have hr : clsL c = 0 := (if_neg (by rw [let_eq (b := false) (by simp; omega)]; simp)).trans ((if_neg (by rw [dig_eq (b := false) (by simp; omega)]; simp)).trans (if_neg (by omega)))
    rw [hr]
    clear hr
    have hg97 : decide (97 ≤ (c : Int)) = false := decide_eq_false (by omega)
    have hg65 : decide (65 ≤ (c : Int)) = false := decide_eq_false (by omega)
    have hg48 : decide (48 ≤ (c : Int)) = true := decide_eq_true (by omega)
    have hl122 : decide ((c : Int) ≤ 122) = true := decide_eq_true (by omega)
    have hl90 : decide ((c : Int) ≤ 90) = true := decide_eq_true (by omega)
    have hl57 : decide ((c : Int) ≤ 57) = false := decide_eq_false (by omega)
    have he95 : ((c : Int) == 95) = false := by rw [beq_eq_false_iff_ne]; omega
    have he32 : ((c : Int) == 32) = false := by rw [beq_eq_false_iff_ne]; omega
    have he9 : ((c : Int) == 9) = false := by rw [beq_eq_false_iff_ne]; omega
    have he10 : ((c : Int) == 10) = false := by rw [beq_eq_false_iff_ne]; omega
    clear h h2 hc
    go_enter Tryz.func62, Tryz.ntmps62
    go_wp2
    go_ret
    exact ⟨rfl, rfl⟩
  · have hr : clsL c = 1 := if_pos (let_eq (by simp; omega))
    rw [hr]
    clear hr
    have hg97 : decide (97 ≤ (c : Int)) = false := decide_eq_false (by omega)
    have hg65 : decide (65 ≤ (c : Int)) = true := decide_eq_true (by omega)
    have hg48 : decide (48 ≤ (c : Int)) = true := decide_eq_true (by omega)
    have hl122 : decide ((c : Int) ≤ 122) = true := decide_eq_true (by omega)
    have hl90 : decide ((c : Int) ≤ 90) = true := decide_eq_true (by omega)
    have hl57 : decide ((c : Int) ≤ 57) = false := decide_eq_false (by omega)
    have he95 : ((c : Int) == 95) = false := by rw [beq_eq_false_iff_ne]; omega
    have he32 : ((c : Int) == 32) = false := by rw [beq_eq_false_iff_ne]; omega
    have he9 : ((c : Int) == 9) = false := by rw [beq_eq_false_iff_ne]; omega
    have he10 : ((c : Int) == 10) = false := by rw [beq_eq_false_iff_ne]; omega
    clear h h2 hc
    go_enter Tryz.func62, Tryz.ntmps62
    go_wp2
    go_ret
    exact ⟨rfl, rfl⟩
  · have hr : clsL c = 0 := (if_neg (by rw [let_eq (b := false) (by simp; omega)]; simp)).trans ((if_neg (by rw [dig_eq (b := false) (by simp; omega)]; simp)).trans (if_neg (by omega)))
    rw [hr]
    clear hr
    have hg97 : decide (97 ≤ (c : Int)) = false := decide_eq_false (by omega)
    have hg65 : decide (65 ≤ (c : Int)) = true := decide_eq_true (by omega)
    have hg48 : decide (48 ≤ (c : Int)) = true := decide_eq_true (by omega)
    have hl122 : decide ((c : Int) ≤ 122) = true := decide_eq_true (by omega)
    have hl90 : decide ((c : Int) ≤ 90) = false := decide_eq_false (by omega)
    have hl57 : decide ((c : Int) ≤ 57) = false := decide_eq_false (by omega)
    have he95 : ((c : Int) == 95) = false := by rw [beq_eq_false_iff_ne]; omega
    have he32 : ((c : Int) == 32) = false := by rw [beq_eq_false_iff_ne]; omega
    have he9 : ((c : Int) == 9) = false := by rw [beq_eq_false_iff_ne]; omega
    have he10 : ((c : Int) == 10) = false := by rw [beq_eq_false_iff_ne]; omega
    clear h h2 hc
    go_enter Tryz.func62, Tryz.ntmps62
    go_wp2
    go_ret
    exact ⟨rfl, rfl⟩
  · have hr : clsL c = 1 := if_pos (let_eq (by simp; omega))
    rw [hr]
    clear hr
    have hg97 : decide (97 ≤ (c : Int)) = false := decide_eq_false (by omega)
    have hg65 : decide (65 ≤ (c : Int)) = true := decide_eq_true (by omega)
    have hg48 : decide (48 ≤ (c : Int)) = true := decide_eq_true (by omega)
    have hl122 : decide ((c : Int) ≤ 122) = true := decide_eq_true (by omega)
    have hl90 : decide ((c : Int) ≤ 90) = false := decide_eq_false (by omega)
    have hl57 : decide ((c : Int) ≤ 57) = false := decide_eq_false (by omega)
    have he95 : ((c : Int) == 95) = true := by rw [beq_iff_eq]; omega
    have he32 : ((c : Int) == 32) = false := by rw [beq_eq_false_iff_ne]; omega
    have he9 : ((c : Int) == 9) = false := by rw [beq_eq_false_iff_ne]; omega
    have he10 : ((c : Int) == 10) = false := by rw [beq_eq_false_iff_ne]; omega
    clear h h2 hc
    go_enter Tryz.func62, Tryz.ntmps62
    go_wp2
    go_ret
    exact ⟨rfl, rfl⟩
  · have hr : clsL c = 0 := (if_neg (by rw [let_eq (b := false) (by simp; omega)]; simp)).trans ((if_neg (by rw [dig_eq (b := false) (by simp; omega)]; simp)).trans (if_neg (by omega)))
    rw [hr]
    clear hr
    have hg97 : decide (97 ≤ (c : Int)) = false := decide_eq_false (by omega)
    have hg65 : decide (65 ≤ (c : Int)) = true := decide_eq_true (by omega)
    have hg48 : decide (48 ≤ (c : Int)) = true := decide_eq_true (by omega)
    have hl122 : decide ((c : Int) ≤ 122) = true := decide_eq_true (by omega)
    have hl90 : decide ((c : Int) ≤ 90) = false := decide_eq_false (by omega)
    have hl57 : decide ((c : Int) ≤ 57) = false := decide_eq_false (by omega)
    have he95 : ((c : Int) == 95) = false := by rw [beq_eq_false_iff_ne]; omega
    have he32 : ((c : Int) == 32) = false := by rw [beq_eq_false_iff_ne]; omega
    have he9 : ((c : Int) == 9) = false := by rw [beq_eq_false_iff_ne]; omega
    have he10 : ((c : Int) == 10) = false := by rw [beq_eq_false_iff_ne]; omega
    clear h h2 hc
    go_enter Tryz.func62, Tryz.ntmps62
    go_wp2
    go_ret
    exact ⟨rfl, rfl⟩
  · have hr : clsL c = 1 := if_pos (let_eq (by simp; omega))
    rw [hr]
    clear hr
    have hg97 : decide (97 ≤ (c : Int)) = true := decide_eq_true (by omega)
    have hg65 : decide (65 ≤ (c : Int)) = true := decide_eq_true (by omega)
    have hg48 : decide (48 ≤ (c : Int)) = true := decide_eq_true (by omega)
    have hl122 : decide ((c : Int) ≤ 122) = true := decide_eq_true (by omega)
    have hl90 : decide ((c : Int) ≤ 90) = false := decide_eq_false (by omega)
    have hl57 : decide ((c : Int) ≤ 57) = false := decide_eq_false (by omega)
    have he95 : ((c : Int) == 95) = false := by rw [beq_eq_false_iff_ne]; omega
    have he32 : ((c : Int) == 32) = false := by rw [beq_eq_false_iff_ne]; omega
    have he9 : ((c : Int) == 9) = false := by rw [beq_eq_false_iff_ne]; omega
    have he10 : ((c : Int) == 10) = false := by rw [beq_eq_false_iff_ne]; omega
    clear h h2 hc
    go_enter Tryz.func62, Tryz.ntmps62
    go_wp2
    go_ret
    exact ⟨rfl, rfl⟩
  · have hr : clsL c = 0 := (if_neg (by rw [let_eq (b := false) (by simp; omega)]; simp)).trans ((if_neg (by rw [dig_eq (b := false) (by simp; omega)]; simp)).trans (if_neg (by omega)))
    rw [hr]
    clear hr
    have hg97 : decide (97 ≤ (c : Int)) = true := decide_eq_true (by omega)
    have hg65 : decide (65 ≤ (c : Int)) = true := decide_eq_true (by omega)
    have hg48 : decide (48 ≤ (c : Int)) = true := decide_eq_true (by omega)
    have hl122 : decide ((c : Int) ≤ 122) = false := decide_eq_false (by omega)
    have hl90 : decide ((c : Int) ≤ 90) = false := decide_eq_false (by omega)
    have hl57 : decide ((c : Int) ≤ 57) = false := decide_eq_false (by omega)
    have he95 : ((c : Int) == 95) = false := by rw [beq_eq_false_iff_ne]; omega
    have he32 : ((c : Int) == 32) = false := by rw [beq_eq_false_iff_ne]; omega
    have he9 : ((c : Int) == 9) = false := by rw [beq_eq_false_iff_ne]; omega
    have he10 : ((c : Int) == 10) = false := by rw [beq_eq_false_iff_ne]; omega
    clear h h2 hc
    go_enter Tryz.func62, Tryz.ntmps62
    go_wp2
    go_ret
    exact ⟨rfl, rfl⟩
end Go.Proofs.YtfnobibjphnmdaaGreatDoor
