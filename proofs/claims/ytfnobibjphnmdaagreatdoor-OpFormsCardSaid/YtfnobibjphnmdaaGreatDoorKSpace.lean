/- Where a text's tokens stand. -/
import Derived.Test.YtfnobibjphnmdaaGreatDoorKAwake
import Derived.Test.YtfnobibjphnmdaaGreatDoorKSkip
namespace Go.Proofs.YtfnobibjphnmdaaGreatDoor
open Go.RowKit
set_option linter.unusedSimpArgs false
set_option linter.unusedVariables false
theorem below_drewN' {B : Nat} {a w : World} (h : Below B a w) (n : Nat) : Below B a (w.drewN n) := ⟨h.os, h.tape, h.output, h.size, h.block⟩
theorem box_stays_q {w w1 : World} {x y z : Value} {t : TypeId} {q : Nat} (hb : Below ((w.alloc (.cells #[x, y, z] t)).drewN q).heap.size ((w.alloc (.cells #[x, y, z] t)).drewN q) w1) :
    w1.cell? ⟨w.heap.size, 0, none⟩ = some x ∧ w1.cell? ⟨w.heap.size, 1, none⟩ = some y ∧ w1.cell? ⟨w.heap.size, 2, none⟩ = some z := by
  have hl : w.heap.size < ((w.alloc (.cells #[x, y, z] t)).drewN q).heap.size := by
    show w.heap.size < (w.alloc (.cells #[x, y, z] t)).heap.size
    simp
  refine ⟨(hb.cell (p := ⟨w.heap.size, 0, none⟩) hl).trans ?_, (hb.cell (p := ⟨w.heap.size, 1, none⟩) hl).trans ?_, (hb.cell (p := ⟨w.heap.size, 2, none⟩) hl).trans ?_⟩
  · exact (World.cell?_alloc_at (w := w) _ _ _ _ rfl).trans rfl
  · exact (World.cell?_alloc_at (w := w) _ _ _ _ rfl).trans rfl
  · exact (World.cell?_alloc_at (w := w) _ _ _ _ rfl).trans rfl
theorem gapC_take : ∀ (c : Bool) (l : List Nat), gapC c (l.take (gapC c l)) = gapC c l
  | c, [] => by simp [gapC]
  | true, b :: l => by
    simp only [gapC]
    rw [List.take_succ_cons]
    simp only [gapC]
    rw [gapC_take]
  | false, b :: l => by
    simp only [gapC]
    split
    · rename_i h
      rw [List.take_succ_cons]
      simp only [gapC]
      rw [if_pos h, gapC_take]
    · rename_i h
      split
      · rename_i h2
        rw [List.take_succ_cons]
        simp only [gapC]
        rw [if_neg h, if_pos h2, gapC_take]
      · rfl
theorem scan_gap (l : List Nat) (a : Nat) : scan (l.take (gapL l)) a = some [] := scan_end (by
  have := gapC_take false l
  unfold gapL
  rw [this, List.length_take]
  omega)
theorem scan_inv {m : List Nat} {a : Nat} {t : Tok} {ts : List Tok} (h : scan m a = some (t :: ts)) :
    gapL m < m.length ∧ (firstL (m.drop (gapL m))).1 ≠ 0 ∧ t = ⟨(firstL (m.drop (gapL m))).1, (m.drop (gapL m)).take (firstL (m.drop (gapL m))).2, a + gapL m⟩ ∧ scan (m.drop (gapL m + (firstL (m.drop (gapL m))).2)) (a + gapL m + (firstL (m.drop (gapL m))).2) = some ts := by
  by_cases h1 : m.length ≤ gapL m
  · rw [scan_end h1] at h
    cases h
  · by_cases h2 : (firstL (m.drop (gapL m))).1 = 0
    · rw [scan_bad (by omega) h2] at h
      cases h
    · rw [scan_next (by omega) h2] at h
      obtain ⟨x, hx, he⟩ := Option.map_eq_some_iff.1 h
      injection he with h3 h4
      subst h4
      exact ⟨by omega, h2, h3.symm, hx⟩
theorem scan_len : ∀ (ts : List Tok) (m : List Nat) (a : Nat), scan m a = some ts → ts.length ≤ m.length
  | [], _, _, _ => by simp
  | t :: ts, m, a, h => by
    obtain ⟨h1, h2, h3, h4⟩ := scan_inv h
    have hp := firstL_pos _ h2
    have := scan_len ts _ _ h4
    rw [List.length_drop] at this
    rw [List.length_cons]
    omega
/-- One behind the other, from a place on. -/
def Spaced (l : List Nat) : Nat → List Tok → Prop
  | _, [] => True
  | a, t :: ts => a ≤ t.at_ ∧ t.at_ + t.text.length ≤ l.length ∧ t.text = (l.drop t.at_).take t.text.length ∧ 1 ≤ t.text.length ∧ scan ((l.drop a).take (t.at_ - a)) 0 = some [] ∧ Spaced l (t.at_ + t.text.length) ts
theorem spaced_of : ∀ (ts : List Tok) (l : List Nat) (a : Nat), a ≤ l.length → scan (l.drop a) a = some ts → Spaced l a ts
  | [], _, _, _, _ => trivial
  | t :: ts, l, a, ha, h => by
    obtain ⟨h1, h2, h3, h4⟩ := scan_inv h
    have hp := firstL_pos _ h2
    have hle := firstL_le ((l.drop a).drop (gapL (l.drop a)))
    rw [List.length_drop] at h1
    rw [List.length_drop, List.length_drop] at hle
    have hl : t.text.length = (firstL ((l.drop a).drop (gapL (l.drop a)))).2 := by
      rw [h3]
      show (List.take _ _).length = _
      rw [List.length_take, List.length_drop, List.length_drop]
      omega
    have hat : t.at_ = a + gapL (l.drop a) := by rw [h3]
    refine ⟨by omega, by omega, ?_, by omega, ?_, ?_⟩
    · rw [hl, hat, ← List.drop_drop]
      rw [h3]
    · rw [hat, Nat.add_sub_cancel_left]
      exact scan_gap _ _
    · refine spaced_of ts l _ (by omega) ?_
      rw [hl, hat, Nat.add_assoc, ← List.drop_drop]
      rw [Nat.add_assoc] at h4
      exact h4
end Go.Proofs.YtfnobibjphnmdaaGreatDoor
