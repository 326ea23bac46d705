/- Contracts: a crown's functions over no disk, over a disk of fewer than four sectors; a crown of no half. -/
import Derived.Test.YtckekmhbfdeaoaaCRead
import Derived.Test.YtckekmhbfdeaoaaDNils
namespace Go.Proofs.Ytckekmhbfdeaoaa
open Go.RowKit
set_option linter.unusedSimpArgs false
set_option linter.unusedVariables false

set_option maxRecDepth 100000 in
set_option maxHeartbeats 1000000 in
theorem cread_nil (w : World) : Calls Try.prog 14 #[.pointer none] w fun e w' => e = .returned (.tuple #[.agg #[.int .u32 0, .int .u8 0, .int .u32 0], .int .i64 0, .int .i64 3]) ∧ Below w.heap.size w w' := by
  go_enter Try.func14, Try.ntmps14
  go_wp2_with (first
    | (go_at_call 36; (with_reducible refine (sectors_nil _).mono ?_); rintro e w1 ⟨rfl, rfl⟩))
  exact read_ret rfl rfl rfl rfl (Go.heap_alloc_new w _) rfl ⟨rfl, (Below.refl _ _).alloc (Nat.le_refl _) _⟩
set_option maxRecDepth 100000 in
set_option maxHeartbeats 1000000 in
theorem cread_few {w : World} {gs : Nat} {b : DB} {dur : List (List Nat)} {pend : List (Nat × List Nat)} {nw bud : Int} (h : Disk w gs b dur pend nw bud) (hl : dur.length < 4) :
    Calls Try.prog 14 #[.pointer (some ⟨gs, 0, none⟩)] w fun e w' => e = .returned (.tuple #[.agg #[.int .u32 0, .int .u8 0, .int .u32 0], .int .i64 0, .int .i64 3]) ∧ Below w.heap.size w w' := by
  have HS := hide (sectors_any (h.below ((Below.refl w.heap.size w).alloc (Nat.le_refl _) (.cells #[.int .u32 0, .int .u8 0, .int .u32 0] 24))))
  have hn : (dur.length : Int) < 4 := by omega
  clear h
  go_enter Try.func14, Try.ntmps14
  go_wp2_with (first
    | (go_at_call 36; (with_reducible refine (unhide HS).mono ?_); rintro e w1 ⟨rfl, rfl⟩))
  exact read_ret rfl rfl rfl rfl (Go.heap_alloc_new w _) rfl ⟨rfl, (Below.refl _ _).alloc (Nat.le_refl _) _⟩
set_option maxRecDepth 100000 in
set_option maxHeartbeats 1000000 in
theorem cformat_nil (w : World) : Calls Try.prog 16 #[.pointer none] w fun e w' => e = .returned (.int .i64 3) ∧ w = w' := by
  go_enter Try.func16, Try.ntmps16
  go_wp2
  go_ret
  exact ⟨rfl, rfl⟩
set_option maxRecDepth 100000 in
set_option maxHeartbeats 1000000 in
theorem cformat_few {w : World} {gs : Nat} {b : DB} {dur : List (List Nat)} {pend : List (Nat × List Nat)} {nw bud : Int} (h : Disk w gs b dur pend nw bud) (hl : dur.length < 4) :
    Calls Try.prog 16 #[.pointer (some ⟨gs, 0, none⟩)] w fun e w' => e = .returned (.int .i64 1) ∧ w = w' := by
  have HS := hide (sectors_any h)
  have hn : (dur.length : Int) < 4 := by omega
  clear h
  go_enter Try.func16, Try.ntmps16
  go_wp2_with (first
    | (go_at_call 36; (with_reducible refine (unhide HS).mono ?_); rintro e w1 ⟨rfl, rfl⟩))
  go_ret
  exact ⟨rfl, rfl⟩
set_option maxRecDepth 100000 in
set_option maxHeartbeats 1000000 in
theorem cwrite_half (w : World) (v : Value) (g s : Int) : Calls Try.prog 19 #[v, .agg #[.int .u32 g, .int .u8 2, .int .u32 s]] w fun e w' => e = .returned (.int .i64 1) ∧ Below w.heap.size w w' := by
  go_enter Try.func19, Try.ntmps19
  go_wp2
  go_ret
  exact ⟨rfl, (Below.refl _ _).alloc (Nat.le_refl _) _⟩
set_option maxRecDepth 100000 in
set_option maxHeartbeats 1000000 in
theorem cwrite_nil (w : World) (gen half ser : Nat) (hg : gen < 4294967296) (hh : half ≤ 1) (hs : ser < 4294967296) : Calls Try.prog 19 #[.pointer none, .agg #[.int .u32 (gen : Int), .int .u8 (half : Int), .int .u32 (ser : Int)]] w fun e w' => e = .returned (.int .i64 3) ∧ Below w.heap.size w w' := by
  have HC0 := fun o => hide (cpage_any (w.alloc o) gen half ser (by omega))
  have hn1 : ¬ (half : Int) > 1 := by omega
  go_enter Try.func19, Try.ntmps19
  go_wp2_with (first
    | (go_at_call 39; (with_reducible refine (unhide (HC0 _)).mono ?_); rintro e w2 ⟨A2, n2, c2, rfl, rfl, hB2, hb2⟩; go_loud (
       have HC1 := hide (bytes_good w2 gen ser 0 9 A2 1 c2 [half] hg hs (by decide) (by decide) hB2 (by decide));
       rw [show ((0 : Nat) : Int) = 0 from rfl, show ((9 : Nat) : Int) = 9 from rfl] at HC1))
    | (go_at_call 40; (with_reducible refine (unhide HC1).mono ?_); rintro e w3 ⟨A3, n3, c3, rfl, hM3, hb3⟩; go_loud (
       have hb1 := (Below.refl w.heap.size w).alloc (Nat.le_refl _) (.cells #[.int .u32 (gen : Int), .int .u8 (half : Int), .int .u32 (ser : Int)] 24);
       have hb13 := hb2.trans (hb3.mono hb2.size);
       have hbw3 := hb1.trans (hb13.mono hb1.size)))
    | (go_at_call 21; (with_reducible refine (sync_nil _).mono ?_); rintro e w4 ⟨rfl, rfl⟩))
  go_ret
  exact ⟨rfl, hbw3⟩
end Go.Proofs.Ytckekmhbfdeaoaa
