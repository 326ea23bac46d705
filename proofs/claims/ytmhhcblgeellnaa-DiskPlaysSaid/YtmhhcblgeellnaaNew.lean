/- Contracts: what disk.New leaves: a disk of noughts; of a number out of range, nil and ErrArg. -/
import Derived.Test.YtmhhcblgeellnaaDisk
namespace Go.Proofs.Ytmhhcblgeellnaa
open Go.RowKit

set_option maxRecDepth 100000 in
set_option maxHeartbeats 1000000 in
theorem start_any (w : World) (gd cd n : Nat) (dur : List (List Nat)) (hn : n = dur.length) (hd : w.ownsRow 0 72 512 (.slice (some ⟨gd, 0, none⟩) dur.length cd) dur.length (scells dur)) (hs : ∀ s ∈ dur, IsSec s) (hf : 1 ≤ dur.length ∧ dur.length ≤ 4096) :
    Calls Try.prog 28 #[.slice (some ⟨gd, 0, none⟩) n cd] w fun e w' => ∃ gs b, e = .returned (.pointer (some ⟨gs, 0, none⟩)) ∧ Disk w' gs b dur [] 0 (-1) ∧ w.heap.size ≤ gs ∧ b.gd = gd ∧ b.cd = cd ∧ w.heap.size ≤ b.gl ∧ b.pv = .slice none 0 0 ∧ Below w.heap.size w w' := by
  obtain ⟨i0, hi0, hz0, hz1, hz2⟩ := info_parts infoInt
  have HI := Lib.hid hi0
  have H0 := Lib.hid hz0
  have H1 := Lib.hid hz1
  have H2 := Lib.hid hz2
  have HN := Lib.hid hn
  have hn2 : n ≤ 4096 := by omega
  clear hi0 hz0 hz1 hz2 hn
  go_enter Try.func28, Try.ntmps28
  go_wp2_with (at_make; refine wpList_make_full _ rfl _ _ 49 rfl 0 3 i0 (.int .i64 0) 1 Try.underlying49 HI.out H0.out H1.out _ _ _ _ n rfl rfl rfl rfl ?b1 ?b2 (Nat.zero_le _) ?_)
  case b1 => rw [H2.out]; omega
  case b2 => unfold maxLen; omega
  intro w1 hown1 hg1
  go_wp2
  go_ret
  have hb1 : Below w.heap.size w w1 := (Below.refl _ _).grown hg1 (Nat.le_refl _) (fun _ h => by cases h)
  refine ⟨w1.heap.size, ⟨gd, cd, w.heap.size, n, .slice none 0 0⟩, rfl, ⟨?_, ?_, ?_, ?_, hs, by simp, hf, by simp⟩, hb1.size, rfl, rfl, Nat.le_refl _, rfl, hb1.alloc hb1.size _⟩
  · rw [← HN.out]
    exact Go.heap_alloc_new w1 _
  · exact World.ownsRow.alloc (World.ownsRow.kept hd hg1 (.inr (by simp [Value.ownBlock]))) _
  · exact World.ownsRow_nil _ _ _ _
  · rw [← HN.out, ← made_ints n, Nat.mul_one]
    exact World.ownsRow.alloc hown1 _

set_option maxRecDepth 100000 in
set_option maxHeartbeats 1000000 in
theorem new_good (w : World) (n : Nat) (h1 : 1 ≤ n) (h2 : n ≤ 4096) :
    Calls Try.prog 10 #[.int .i64 (n : Int)] w fun e w' => ∃ gs b, e = .returned (.tuple #[.pointer (some ⟨gs, 0, none⟩), .int .i64 0]) ∧ Disk w' gs b (List.replicate n noughts) [] 0 (-1) ∧ w.heap.size ≤ gs ∧ w.heap.size ≤ b.gd ∧ w.heap.size ≤ b.gl ∧ b.pv = .slice none 0 0 ∧ Below w.heap.size w w' := by
  obtain ⟨i0, hi0, hz0, hz1, hz2⟩ := info_parts infoSec
  have HI := Lib.hid hi0
  have H0 := Lib.hid hz0
  have H1 := Lib.hid hz1
  have H2 := Lib.hid hz2
  have t1 : ¬ (n : Int) < 1 := by omega
  have t2 : ¬ (4096 : Int) < (n : Int) := by omega
  have t3 : decide ((4096 : Int) < (n : Int)) = false := decide_eq_false t2
  have t4 : decide ((n : Int) < 1) = false := decide_eq_false t1
  clear hi0 hz0 hz1 hz2
  go_enter Try.func10, Try.ntmps10
  go_wp2_with (at_make; refine wpList_make_full _ rfl _ _ 61 rfl 0 72 i0 (.agg (byt noughts).toArray) 512 Try.underlying61 HI.out H0.out H1.out _ _ _ _ n rfl rfl rfl rfl ?b1 ?b2 (Nat.zero_le _) ?_)
  case b1 => rw [H2.out]; omega
  case b2 => unfold maxLen; omega
  intro w1 hown1 hg1
  have hb1 : Below w.heap.size w w1 := (Below.refl _ _).grown hg1 (Nat.le_refl _) (fun _ h => by cases h)
  rw [made_noughts n] at hown1
  have HO := Lib.hid hown1
  have hl : (List.replicate n noughts).length = n := List.length_replicate
  have hdu : w1.ownsRow 0 72 512 (.slice (some ⟨w.heap.size, 0, none⟩) (List.replicate n noughts).length n) (List.replicate n noughts).length (scells (List.replicate n noughts)) := by rw [hl]; exact HO.out
  have HS := hide (start_any w1 w.heap.size n n (List.replicate n noughts) hl.symm hdu (fun s hs => by rw [List.eq_of_mem_replicate hs]; exact ⟨noughts_length, noughts_small⟩) (by rw [hl]; exact ⟨h1, h2⟩))
  clear hown1 hg1 hl hdu
  go_wp2_with (go_at_call 28; (with_reducible refine (unhide HS).mono ?_); rintro e w2 ⟨gs, b, rfl, hD, hgs, hgd, hcd, hgl, hpv, hb2⟩)
  go_ret2
  have h3 := hb1.size
  exact ⟨gs, b, rfl, hD, by omega, by omega, by omega, hpv, hb1.trans (hb2.mono h3)⟩
theorem new_bad (w : World) (n : Int) (h : n < 1 ∨ 4096 < n) :
    Calls Try.prog 10 #[.int .i64 n] w fun e w' => e = .returned (.tuple #[.pointer none, .int .i64 1]) ∧ w = w' := by
  by_cases h1 : n < 1
  · go_enter Try.func10, Try.ntmps10
    go_wp2
    go_ret2
    exact ⟨rfl, rfl⟩
  · have h2 : 4096 < n := by omega
    go_enter Try.func10, Try.ntmps10
    go_wp2
    go_ret2
    exact ⟨rfl, rfl⟩
end Go.Proofs.Ytmhhcblgeellnaa
