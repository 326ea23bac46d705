/- Contracts: the next crown, where a crown's half lies; a field, two crowns compared. -/
import Derived.Test.YtckekmhbfdeaoaaCAwake
namespace Go.Proofs.Ytckekmhbfdeaoaa
open Go.RowKit
set_option linter.unusedSimpArgs false
set_option linter.unusedVariables false

set_option maxRecDepth 100000 in
set_option maxHeartbeats 1000000 in
theorem next_zero (w : World) (g s : Int) : Calls Try.prog 18 #[.agg #[.int .u32 g, .int .u8 0, .int .u32 s]] w fun e w' => e = .returned (.agg #[.int .u32 ((g + 1) % 4294967296), .int .u8 1, .int .u32 ((s + 1) % 4294967296)]) ∧ Below w.heap.size w w' := by
  have hx : bits .xor .u8 0 1 = 1 := by decide
  go_enter Try.func18, Try.ntmps18
  go_wp2
  exact bodyPost_ret_by (results_cell_row rfl _ _ _ _ _ _ _ rfl (Go.heap_alloc2_new w _ _) Try.underlying24 rfl crownInfo) rfl ⟨rfl, below_two⟩
set_option maxRecDepth 100000 in
set_option maxHeartbeats 1000000 in
theorem next_two (w : World) (g s : Int) : Calls Try.prog 18 #[.agg #[.int .u32 g, .int .u8 1, .int .u32 s]] w fun e w' => e = .returned (.agg #[.int .u32 ((g + 1) % 4294967296), .int .u8 0, .int .u32 ((s + 1) % 4294967296)]) ∧ Below w.heap.size w w' := by
  have hx : bits .xor .u8 1 1 = 0 := by decide
  go_enter Try.func18, Try.ntmps18
  go_wp2
  exact bodyPost_ret_by (results_cell_row rfl _ _ _ _ _ _ _ rfl (Go.heap_alloc2_new w _ _) Try.underlying24 rfl crownInfo) rfl ⟨rfl, below_two⟩
set_option maxRecDepth 100000 in
set_option maxHeartbeats 1000000 in
theorem from_few (w : World) (g s h : Int) (n : Nat) (hn : n < 4) : Calls Try.prog 26 #[.agg #[.int .u32 g, .int .u8 h, .int .u32 s], .int .i64 (n : Int)] w fun e w' => e = .returned (.tuple #[.int .i64 0, .int .i64 0]) ∧ Below w.heap.size w w' := by
  have hn1 : (n : Int) < 4 := by omega
  go_enter Try.func26, Try.ntmps26
  go_wp2
  go_ret2
  exact ⟨rfl, (Below.refl _ _).alloc (Nat.le_refl _) _⟩
set_option maxRecDepth 100000 in
set_option maxHeartbeats 1000000 in
theorem from_zero (w : World) (g s : Int) (n k : Nat) (hn : 4 ≤ n) (hn2 : n < 65536) (hk : k = (n - 2) / 2) : Calls Try.prog 26 #[.agg #[.int .u32 g, .int .u8 0, .int .u32 s], .int .i64 (n : Int)] w fun e w' => e = .returned (.tuple #[.int .i64 2, .int .i64 (k : Int)]) ∧ Below w.heap.size w w' := by
  have hn1 : ¬ (n : Int) < 4 := by omega
  have hd : ((n : Int) - 2).tdiv 2 = (k : Int) := by rw [Int.tdiv_eq_ediv_of_nonneg (by omega)]; omega
  have hd2 : ((n : Int) - 2) / 2 = (k : Int) := by omega
  clear hk
  go_enter Try.func26, Try.ntmps26
  go_wp2
  go_ret2
  exact ⟨rfl, (Below.refl _ _).alloc (Nat.le_refl _) _⟩
set_option maxRecDepth 100000 in
set_option maxHeartbeats 1000000 in
theorem from_one (w : World) (g s : Int) (n k q : Nat) (hn : 4 ≤ n) (hn2 : n < 65536) (hk : k = (n - 2) / 2) (hq : q = 2 + k) : Calls Try.prog 26 #[.agg #[.int .u32 g, .int .u8 1, .int .u32 s], .int .i64 (n : Int)] w fun e w' => e = .returned (.tuple #[.int .i64 (q : Int), .int .i64 (k : Int)]) ∧ Below w.heap.size w w' := by
  have hn1 : ¬ (n : Int) < 4 := by omega
  have hd : ((n : Int) - 2).tdiv 2 = (k : Int) := by rw [Int.tdiv_eq_ediv_of_nonneg (by omega)]; omega
  have hd2 : ((n : Int) - 2) / 2 = (k : Int) := by omega
  have hk2 : k < 65536 := by omega
  have HQ : Hid ((2 : Int) + (k : Int) = (q : Int)) := Lib.hid (by omega)
  clear hk hq
  go_enter Try.func26, Try.ntmps26
  go_wp2
  go_ret2
  exact ⟨by rw [← HQ.out]; rfl, (Below.refl _ _).alloc (Nat.le_refl _) _⟩
theorem run_half (x : World) (a h s : Int) : (Instr.field 24 (.agg #[.int .u32 a, .int .u8 h, .int .u32 s]) 1).run Try.prog x = .ok (.int .u8 h) x := by kernel_rfl
theorem run_eq_first (x : World) : (binOp .eql 24 (.agg #[.int .u32 1, .int .u8 0, .int .u32 0]) (.agg #[.int .u32 1, .int .u8 0, .int .u32 0])).run Try.prog x = .ok (.bool true) x := by kernel_rfl
theorem held_six {A0 A1 A2 A3 A4 A5 P : Prop} (h : A0 ∧ A1 ∧ A2 ∧ A3 ∧ A4 ∧ A5 ∧ P) : P := h.2.2.2.2.2.2
end Go.Proofs.Ytckekmhbfdeaoaa
