/- Contract: the document's example of a crown holds: awake answers true. -/
import Derived.Test.YtnojkifndcffjaaCRead
namespace Go.Proofs.Ytnojkifndcffjaa
open Go.RowKit
set_option linter.unusedSimpArgs false
set_option linter.unusedVariables false

def ex0 : List (List Nat) := List.replicate 8 noughts
def ex1 : List (List Nat) := (wiped (applied [] ex0) 2).set 1 (crownSec 1 0 0)
def ex2 : List (List Nat) := (applied [] ex1).set (2 % 2) (crownSec 2 1 1)
def exo1 : Nat → Option (Nat × Nat × Nat) := fun i => if i = 1 then some (1, 0, 0) else none
def exo2 : Nat → Option (Nat × Nat × Nat) := fun i => if i = 1 then some (1, 0, 0) else some (2, 1, 1)
theorem ex1_length : ex1.length = 8 := by unfold ex1; rw [List.length_set, wiped_length, applied_length]; rfl
theorem ex1_at : ∀ i, i < 2 → ∃ s, (applied [] ex1)[i]? = some s ∧ Holds s i (exo1 i) := fun i hi => by
  have e : applied [] ex1 = ex1 := rfl
  rw [e]
  rcases (show i = 0 ∨ i = 1 by omega) with rfl | rfl
  · exact ⟨noughts, by unfold ex1; rw [List.getElem?_set_ne (by decide)]; rfl, rfl⟩
  · exact ⟨crownSec 1 0 0, by unfold ex1; rw [List.getElem?_set_self (by rw [wiped_length, applied_length]; decide)], rfl, by decide, by decide, by decide, by decide⟩
theorem ex2_at : ∀ i, i < 2 → ∃ s, (applied [] ex2)[i]? = some s ∧ Holds s i (exo2 i) := fun i hi => by
  have e : applied [] ex2 = ex1.set 0 (crownSec 2 1 1) := rfl
  rw [e]
  rcases (show i = 0 ∨ i = 1 by omega) with rfl | rfl
  · exact ⟨crownSec 2 1 1, by rw [List.getElem?_set_self (by rw [ex1_length]; decide)], rfl, by decide, by decide, by decide, by decide⟩
  · refine ⟨crownSec 1 0 0, ?_, rfl, by decide, by decide, by decide, by decide⟩
    rw [List.getElem?_set_ne (by decide)]
    unfold ex1
    rw [List.getElem?_set_self (by rw [wiped_length, applied_length]; decide)]
theorem next_one (x : World) : Calls Try.prog 17 #[.agg #[.int .u32 1, .int .u8 0, .int .u32 0]] x fun e w' => e = .returned (.agg #[.int .u32 2, .int .u8 1, .int .u32 1]) ∧ Below x.heap.size x w' :=
  (next_any x 1 0 0 (by decide) (by decide) (by decide)).mono fun e w' ⟨he, hb⟩ => ⟨by rw [he]; rfl, hb⟩
set_option maxRecDepth 100000 in
set_option maxHeartbeats 4000000 in
theorem awake_true (w : World) : Calls Try.prog 7 #[] w fun e w' => e = .returned (.bool true) ∧ Below w.heap.size w w' := by
  have HN := hide (new_good w 8 (by omega) (by omega))
  rw [show List.replicate 8 noughts = ex0 from rfl, show ((8 : Nat) : Int) = 8 from rfl] at HN
  go_enter Try.func7, Try.ntmps7
  go_wp2_with (first
    | (go_at_call 8; (with_reducible refine (unhide HN).mono ?_); rintro e w1 ⟨gs, b, rfl, hD1, hgs, hgd, hgl, hpv, hw1⟩; go_loud (
       have HF := hide (cformat_good hD1 (by decide) (by decide) (by decide))))
    | (go_at_call 15; (with_reducible refine (unhide HF).mono ?_); rintro e w2 ⟨rfl, cd, cl, n2, hD2, hn2, hn3, hO2⟩; go_loud (
       have hD2' : Disk w2 gs ⟨b.gd, cd, b.gl, cl, .slice none 0 0⟩ ex1 [] n2 (-1) := hD2;
       have HR1 := hide (cread_good hD2' (by rw [ex1_length]; decide) exo1 ex1_at (1, 0, 0) rfl)))
    | (go_at_call 13; (with_reducible refine (unhide HR1).mono ?_); rintro e w3 ⟨rfl, hb3⟩; go_loud (
       have HNx := fun x : World => hide (next_one x)))
    | (go_at_call 17; (with_reducible refine (unhide (HNx _)).mono ?_); rintro e w4 ⟨rfl, hb4⟩; go_loud (
       have hbx := (Below.refl w3.heap.size w3).alloc (Nat.le_refl _) (.cells #[.int .u32 1, .int .u8 0, .int .u32 0] 24);
       have hb34 := hbx.trans (hb4.mono hbx.size);
       have hb24 := hb3.trans (hb34.mono hb3.size);
       have g4 : w4.heap[w3.heap.size]? = some (.cells #[.int .u32 1, .int .u8 0, .int .u32 0] 24 (0, 0)) := (hb4.block w3.heap.size (by simp)).trans (Go.heap_alloc_new w3 _);
       have hD4 := hD2'.below hb24;
       have l34 : w3.heap.size < w4.heap.size := (Array.getElem?_eq_some_iff.1 g4).1;
       have HW := hide (cwrite_good hD4 2 1 1 (by decide) (by decide) (by decide) (by rw [ex1_length]; decide) (by omega));
       rw [show ((2 : Nat) : Int) = 2 from rfl, show ((1 : Nat) : Int) = 1 from rfl] at HW))
    | (go_at_call 18; (with_reducible refine (unhide HW).mono ?_); rintro e w5 ⟨rfl, cd5, cl5, hD5, hO5⟩; go_loud (
       have hD5' : Disk w5 gs ⟨b.gd, cd5, b.gl, cl5, .slice none 0 0⟩ ex2 [] (n2 + 1) (-1) := hD5;
       have q1 := hD2'.lt;
       have q2 := (World.ownsRow.lt hD2'.la b.gl rfl).2;
       have q3 := (World.ownsRow.lt hD2'.du b.gd rfl).2;
       have q4 := hb3.size;
       have g5 := (hO5.block w3.heap.size l34 (by intro h; rcases h with h | h | h <;> omega)).trans g4;
       have HR2 := hide (cread_good hD5' (by unfold ex2; rw [List.length_set, applied_length, ex1_length]; decide) exo2 ex2_at (2, 1, 1) rfl)))
    | (go_at_call 13; (with_reducible refine (unhide HR2).mono ?_); rintro e w6 ⟨rfl, hb6⟩; go_loud (
       have l5 : w3.heap.size < w5.heap.size := (Array.getElem?_eq_some_iff.1 g5).1;
       have g6 := (hb6.block w3.heap.size l5).trans g5;
       have l6 : w3.heap.size < w6.heap.size := (Array.getElem?_eq_some_iff.1 g6).1;
       have n6 : ¬ w3.heap.size = w6.heap.size := by omega;
       obtain ⟨k0, k1, k2, -, -, -⟩ := crown_facts g6)))
  go_ret
  have s1 := hw1.size
  have z1 := hw1
  have z2 := z1.trans (hO2.below (B := w.heap.size) (fun k hk => by
    rcases hk with (h | h | h | h) | h
    · omega
    · omega
    · omega
    · rw [hpv] at h; cases h
    · omega) z1.size)
  have z4 := z2.trans (hb24.mono z2.size)
  have z5 := z4.trans (hO5.below (B := w.heap.size) (fun k hk => by
    rcases hk with h | h | h
    · omega
    · rw [h]; exact hgd
    · rw [h]; exact hgl) z4.size)
  have z6 := z5.trans (hb6.mono z5.size)
  exact ⟨rfl, z6.alloc z6.size _⟩
end Go.Proofs.Ytnojkifndcffjaa
