/- Contracts: what sum.Make answers: the table of all 256 bytes' steps. -/
import Derived.Test.YtkdbplfphhfeaaaStep
import Derived.Laws.OwnMore
import Derived.Laws.Rows
import Derived.Laws.ResultCell
import Derived.Deep.Draws
import Derived.Deep.AppendLies
import Derived.OwnWalk
import Derived.Laws.CopyOwn
namespace Go.Proofs.Ytkdbplfphhfeaaa
open Go.RowKit

/-- The table's first cells, so many; behind them noughts. -/
def tabTo (k : Nat) : Array Value := Array.ofFn (n := 256) fun i => .int .u32 (if i.val < k then (zk 8 i.val : Nat) else (0 : Nat))
theorem tabTo_at {k : Nat} (h : k < 256) : (tabTo k)[k]? = some (.int .u32 0) := by
  unfold tabTo
  rw [Array.getElem?_ofFn, dif_pos h]
  simp
theorem tabTo_get (k i : Nat) (h : i < 256) : (tabTo k)[i]? = some (.int .u32 ((if i < k then (zk 8 i : Nat) else (0 : Nat) : Nat) : Int)) := by
  unfold tabTo
  rw [Array.getElem?_ofFn, dif_pos h]
  by_cases hi : i < k
  · rw [if_pos hi, if_pos hi]
  · rw [if_neg hi, if_neg hi]
theorem tabTo_size (k : Nat) : (tabTo k).size = 256 := by unfold tabTo; exact Array.size_ofFn
theorem tabTo_next {k : Nat} (h : k < 256) : (tabTo k).setIfInBounds k (.int .u32 ((zk 8 k : Nat) : Int)) = tabTo (k + 1) := by
  apply Array.ext_getElem?
  intro i
  rw [Array.getElem?_setIfInBounds]
  by_cases hi : i < 256
  · rw [tabTo_get k i hi, tabTo_get (k + 1) i hi, tabTo_size]
    by_cases e : k = i
    · subst e
      rw [if_pos rfl, if_pos h, if_pos (by omega)]
    · rw [if_neg e]
      by_cases h2 : i < k
      · rw [if_pos h2, if_pos (by omega)]
      · rw [if_neg h2, if_neg (by omega)]
  · rw [if_neg (by omega), Array.getElem?_eq_none (by rw [tabTo_size]; omega), Array.getElem?_eq_none (by rw [tabTo_size]; omega)]
theorem zero_tab (w : World) : (zeroValue 45).run Try.prog w = .ok (.agg (tabTo 0)) w := by kernel_rfl

set_option maxRecDepth 100000 in
/-- Over any row of tables that begin with noughts and bear one step more each. -/
theorem make_core (T : Nat → Array Value) (z0 : ∀ w, (zeroValue 45).run Try.prog w = .ok (.agg (T 0)) w)
    (hsz : ∀ k, (T k).size = 256) (h1 : ∀ k, (T k).all (·.oneCell') = true)
    (hat : ∀ k, k < 256 → (T k)[k]? = some (.int .u32 0)) (hnx : ∀ k, k < 256 → (T k).setIfInBounds k (.int .u32 ((zk 8 k : Nat) : Int)) = T (k + 1)) (w : World) :
    Calls Try.prog 17 #[] w fun e w' => e = .returned (.agg (T 256)) ∧ Below w.heap.size w w' := by
  have Hat := Lib.hid hat
  have Hnx := Lib.hid hnx
  have Hsz := Lib.hid hsz
  have H1 := Lib.hid h1
  clear hat hnx hsz h1
  go_enter Try.func17, Try.ntmps17
  go_wp2
  clear z0
  go_loopw [3] (fun i wr => ∃ k : Nat, k ≤ 256 ∧ i = .int .i64 k ∧ wr = (w.alloc (.cells (T 0) 45)).alloc (.cells (T k) 45)) (fun i _ => 256 - (intOf i).toNat)
  case atStart => exact ⟨0, by omega, rfl, rfl⟩
  case round =>
    obtain ⟨k, hk, rfl, rfl⟩ := hrel
    by_cases hlt : k < 256
    · have hc := Hat.out k hlt
      go_wp2_with (go_at_call 24; refine (step_any 0 k (by omega) hlt _).mono ?_; rintro e w' ⟨rfl, rfl⟩)
      have hn := Hnx.out k hlt
      go_roundw
      case rel => exact ⟨k + 1, by omega, by go_num, by rw [stp_zero, hn]⟩
      case measure => simp [intOf]; omega
    · have hi : (Try.prog.info? 45).map (·.size) = some (T k).size := by rw [Hsz.out]; kernel_rfl
      have HI := Lib.hid hi
      clear hi
      have hs : (T 0).size = (T k).size := by rw [Hsz.out, Hsz.out]
      have HS := Lib.hid hs
      clear hs
      go_wp2_with (first
        | refine wpList_load_row rfl 45 _ rfl (w.heap.size + 1) rfl 45 (T k) (0, 0) _ (heap_alloc2_new w _ _) Try.underlying45 rfl HI.out ?_
        | refine wpList_store_row rfl 45 _ _ rfl w.heap.size (T k) rfl rfl 45 (T 0) (heap_alloc2_old w _ _) HI.out HS.out (H1.out k) ?_)
      refine bodyPost_ret (v := .agg (T k)) (results_cell_row Try.results17 _ _ w.heap.size 45 (T k) (0, 0) _ rfl (setRow_heap _ _ _ _ _ _ (heap_alloc2_old w _ _)) Try.underlying45 rfl HI.out) rfl ⟨?_, ?_⟩
      · obtain rfl : k = 256 := by omega
        rfl
      · exact below_setRow (((Below.refl _ _).alloc (Nat.le_refl _) _).alloc (by simp) _) (Nat.le_refl _) _

theorem tabTo_one (k : Nat) : (tabTo k).all (·.oneCell') = true := by
  rw [Array.all_eq_true]
  intro i h
  have h2 : (tabTo k)[i]? = some ((tabTo k)[i]) := Array.getElem?_eq_getElem h
  have h3 := Option.some.inj ((tabTo_get k i (by rw [tabTo_size] at h; exact h)).symm.trans h2)
  rw [← h3]
  rfl
theorem make_any (w : World) : Calls Try.prog 17 #[] w fun e w' => e = .returned (.agg (tabTo 256)) ∧ Below w.heap.size w w' := by
  have hat : ∀ k, k < 256 → (tabTo k)[k]? = some (.int .u32 0) := fun _ h => tabTo_at h
  have hnx : ∀ k, k < 256 → (tabTo k).setIfInBounds k (.int .u32 ((zk 8 k : Nat) : Int)) = tabTo (k + 1) := fun _ h => tabTo_next h
  have h := make_core tabTo zero_tab tabTo_size tabTo_one hat hnx w
  exact h
end Go.Proofs.Ytkdbplfphhfeaaa
