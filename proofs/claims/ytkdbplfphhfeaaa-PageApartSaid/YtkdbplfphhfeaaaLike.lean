/- Contracts: whether two pages are alike, as the program and as the document have it; a page that isn't too great; the document's example of a page holds. -/
import Derived.Test.YtkdbplfphhfeaaaPages
namespace Go.Proofs.Ytkdbplfphhfeaaa
open Go.RowKit
set_option linter.unusedSimpArgs false
set_option linter.unusedVariables false

theorem below_two {w : World} {o o2 : Obj} : Below w.heap.size w ((w.alloc o).alloc o2) := ((Below.refl _ _).alloc (Nat.le_refl _) o).alloc (by simp) o2
set_option maxRecDepth 100000 in
set_option maxHeartbeats 2000000 in
theorem same_page (w : World) (x0 x1 x2 x3 y0 y1 y2 y3 : Nat) (A B : Option Addr) (n m c k : Nat) (d f : List Nat) (hp : Bytes w w.heap.size (.slice A n c) d) (hq : Bytes w w.heap.size (.slice B m k) f) :
    Calls Try.prog 11 #[.agg #[.int .u32 (x0 : Int), .int .u32 (x1 : Int), .int .u32 (x2 : Int), .int .u8 (x3 : Int), .slice A n c], .agg #[.int .u32 (y0 : Int), .int .u32 (y1 : Int), .int .u32 (y2 : Int), .int .u8 (y3 : Int), .slice B m k]] w fun e w' =>
      e = .returned (.bool (decide (x0 = y0 ∧ x1 = y1 ∧ x2 = y2 ∧ x3 = y3 ∧ d = f))) ∧ Below w.heap.size w w' := by
  have HB := fun o o2 => hide (equal_any ((w.alloc o).alloc o2) _ _ _ _ (hp.along below_two) (hq.along below_two))
  obtain ⟨r, hr⟩ : ∃ r, r = decide (x0 = y0 ∧ x1 = y1 ∧ x2 = y2 ∧ x3 = y3 ∧ d = f) := ⟨_, rfl⟩
  rw [← hr]
  have HR := Lib.hid hr
  clear hp hq hr
  by_cases h0 : x0 = y0
  · subst h0
    by_cases h1 : x1 = y1
    · subst h1
      by_cases h2 : x2 = y2
      · subst h2
        by_cases h3 : x3 = y3
        · subst h3
          obtain ⟨s, hs⟩ : ∃ s, s = decide (d = f) := ⟨_, rfl⟩
          rw [← hs] at HB
          have hrs : r = s := by rw [HR.out, hs]; simp
          subst hrs
          clear hs HR
          go_enter Try.func11, Try.ntmps11
          go_wp2_with (go_at_call 23; (with_reducible refine (unhide (HB _ _)).mono ?_); rintro e w1 ⟨rfl, nq, rfl⟩)
          go_ret
          exact ⟨rfl, below_drewN below_two nq⟩
        · have hf : r = false := by rw [HR.out]; exact decide_eq_false fun h => h3 h.2.2.2.1
          subst hf
          have g3 : ((x3 : Int) == (y3 : Int)) = false := by rw [beq_eq_false_iff_ne]; omega
          have g3' : ¬ (x3 : Int) = (y3 : Int) := by omega
          clear HR h3
          go_enter Try.func11, Try.ntmps11
          go_wp2
          go_ret
          exact ⟨rfl, below_two⟩
      · have hf : r = false := by rw [HR.out]; exact decide_eq_false fun h => h2 h.2.2.1
        subst hf
        have g2 : ((x2 : Int) == (y2 : Int)) = false := by rw [beq_eq_false_iff_ne]; omega
        have g2' : ¬ (x2 : Int) = (y2 : Int) := by omega
        clear HR h2
        go_enter Try.func11, Try.ntmps11
        go_wp2
        go_ret
        exact ⟨rfl, below_two⟩
    · have hf : r = false := by rw [HR.out]; exact decide_eq_false fun h => h1 h.2.1
      subst hf
      have g1 : ((x1 : Int) == (y1 : Int)) = false := by rw [beq_eq_false_iff_ne]; omega
      have g1' : ¬ (x1 : Int) = (y1 : Int) := by omega
      clear HR h1
      go_enter Try.func11, Try.ntmps11
      go_wp2
      go_ret
      exact ⟨rfl, below_two⟩
  · have hf : r = false := by rw [HR.out]; exact decide_eq_false fun h => h0 h.1
    subst hf
    have g0 : ((x0 : Int) == (y0 : Int)) = false := by rw [beq_eq_false_iff_ne]; omega
    have g0' : ¬ (x0 : Int) = (y0 : Int) := by omega
    clear HR h0
    go_enter Try.func11, Try.ntmps11
    go_wp2
    go_ret
    exact ⟨rfl, below_two⟩
end Go.Proofs.Ytkdbplfphhfeaaa
