/- Contracts: Limit; what Write and Sync answer where nothing is done. -/
import Derived.Test.YtmhhcblgeellnaaWrite
namespace Go.Proofs.Ytmhhcblgeellnaa
open Go.RowKit
set_option linter.unusedSimpArgs false

theorem limit_any {w : World} {gs : Nat} {b : DB} {dur : List (List Nat)} {pend : List (Nat × List Nat)} {wr bud : Int} (h : Disk w gs b dur pend wr bud) (n : Int) :
    Calls Try.prog 26 #[.pointer (some ⟨gs, 0, none⟩), .int .i64 n] w fun e w' => ∃ v, e = .returned v ∧ Disk w' gs b dur pend wr n ∧ OnlyAt w w' (fun k => k = gs) := by
  have c4 := h.c4
  have f4 := h.fz 4
  go_enter Try.func26, Try.ntmps26
  go_wp2
  (try simp only [Exit.inBlock, Exit.then])
  refine bodyPost_end (results_none rfl _ _ _) rfl ⟨_, rfl, ?_, OnlyAt.setCell _ _ _ _⟩
  exact h.turn (by rw [heap_setCell_same w gs 4 _ _ _ h.st]; rfl) (setCell_others w gs 4 _)
theorem write_arg {w : World} (gs : Nat) (i : Int) (A : Option Addr) (n c : Nat) (hn : n ≠ 512) :
    Calls Try.prog 18 #[.pointer (some ⟨gs, 0, none⟩), .int .i64 i, .slice A n c] w fun e w' => e = .returned (.int .i64 1) ∧ w = w' := by
  have h1 : ((n : Int) == 512) = false := by rw [beq_eq_false_iff_ne]; omega
  have h2 : ¬ (n : Int) = 512 := by omega
  go_enter Try.func18, Try.ntmps18
  go_wp2
  go_ret
  exact ⟨rfl, rfl⟩
theorem write_index {w : World} {gs : Nat} {b : DB} {dur : List (List Nat)} {pend : List (Nat × List Nat)} {wr bud : Int} (h : Disk w gs b dur pend wr bud) (i : Int) (hi : i < 0 ∨ (dur.length : Int) ≤ i) (A : Option Addr) (c : Nat) :
    Calls Try.prog 18 #[.pointer (some ⟨gs, 0, none⟩), .int .i64 i, .slice A 512 c] w fun e w' => e = .returned (.int .i64 6) ∧ w = w' := by
  have HH := hide (has_no h i hi)
  clear h hi
  go_enter Try.func18, Try.ntmps18
  go_wp2_with (go_at_call 36; (with_reducible refine (unhide HH).mono ?_); rintro e w' ⟨rfl, rfl⟩)
  go_ret
  exact ⟨rfl, rfl⟩
theorem write_off {w : World} {gs : Nat} {b : DB} {dur : List (List Nat)} {pend : List (Nat × List Nat)} {wr : Int} (h : Disk w gs b dur pend wr 0) (i : Nat) (hi : i < dur.length) (A : Option Addr) (c : Nat) :
    Calls Try.prog 18 #[.pointer (some ⟨gs, 0, none⟩), .int .i64 (i : Int), .slice A 512 c] w fun e w' => e = .returned (.int .i64 8) ∧ w = w' := by
  have HH := hide (has_yes h i hi)
  have HS := hide (spend_no h)
  clear h hi
  go_enter Try.func18, Try.ntmps18
  go_wp2_with (first
    | (go_at_call 36; (with_reducible refine (unhide HH).mono ?_); rintro e w' ⟨rfl, rfl⟩)
    | (go_at_call 37; (with_reducible refine (unhide HS).mono ?_); rintro e w' ⟨rfl, rfl⟩))
  go_ret
  exact ⟨rfl, rfl⟩
theorem sync_off {w : World} {gs : Nat} {b : DB} {dur : List (List Nat)} {pend : List (Nat × List Nat)} {wr : Int} (h : Disk w gs b dur pend wr 0) :
    Calls Try.prog 19 #[.pointer (some ⟨gs, 0, none⟩)] w fun e w' => e = .returned (.int .i64 8) ∧ w = w' := by
  have HS := hide (spend_no h)
  clear h
  go_enter Try.func19, Try.ntmps19
  go_wp2_with (go_at_call 37; (with_reducible refine (unhide HS).mono ?_); rintro e w' ⟨rfl, rfl⟩)
  go_ret
  exact ⟨rfl, rfl⟩
end Go.Proofs.Ytmhhcblgeellnaa
