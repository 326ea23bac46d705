/- Contracts of the law's own helpers: a page that isn't too great (few); a page as the document has it (own); whether both are alike (like). -/
import Derived.Test.YtkdbplfphhfeaaaWoke
namespace Go.Proofs.Ytkdbplfphhfeaaa
open Go.RowKit
set_option linter.unusedSimpArgs false
set_option linter.unusedVariables false

theorem ownInfo : (Try.prog.info? 40).map (·.size) = some 5 := by kernel_rfl
set_option maxRecDepth 100000 in
set_option maxHeartbeats 2000000 in
theorem own_any (w : World) (x0 x1 x2 x3 : Int) (A : Option Addr) (n c : Nat) :
    Calls Try.prog 15 #[.agg #[.int .u32 x0, .int .u32 x1, .int .u32 x2, .int .u8 x3, .slice A n c]] w fun e w' => e = .returned (.agg #[.int .u32 x0, .int .u32 x1, .int .u32 x2, .int .u8 x3, .slice A n c]) ∧ Below w.heap.size w w' := by
  go_enter Try.func15, Try.ntmps15
  go_wp2
  exact bodyPost_ret_by (results_cell_row rfl _ _ _ _ _ _ _ rfl (Go.heap_alloc2_new w _ _) Try.underlying40 rfl ownInfo) rfl ⟨rfl, below_two⟩
theorem box_facts {x : World} {g : Nat} {v0 v1 v2 v3 v4 : Value} (h : x.heap[g]? = some (.cells #[v0, v1, v2, v3, v4] 25 (0, 0))) :
    x.cell? ⟨g, 0, none⟩ = some v0 ∧ x.cell? ⟨g, 1, none⟩ = some v1 ∧ x.cell? ⟨g, 2, none⟩ = some v2 ∧ x.cell? ⟨g, 3, none⟩ = some v3 ∧ x.cell? ⟨g, 4, none⟩ = some v4 ∧
    x.frozen? ⟨g, 0, none⟩ = false ∧ x.frozen? ⟨g, 1, none⟩ = false ∧ x.frozen? ⟨g, 2, none⟩ = false ∧ x.frozen? ⟨g, 3, none⟩ = false ∧ x.frozen? ⟨g, 4, none⟩ = false := by
  refine ⟨?_, ?_, ?_, ?_, ?_, frozen_of_row x g _ _ _ h, frozen_of_row x g _ _ _ h, frozen_of_row x g _ _ _ h, frozen_of_row x g _ _ _ h, frozen_of_row x g _ _ _ h⟩
  all_goals (rw [cell_of_row x g _ _ _ _ h]; rfl)
set_option maxRecDepth 100000 in
set_option maxHeartbeats 2000000 in
theorem few_any (w : World) (x0 x1 x2 x3 : Int) (A : Option Addr) (n c : Nat) (d : List Nat) (hp : Bytes w w.heap.size (.slice A n c) d) :
    Calls Try.prog 7 #[.agg #[.int .u32 x0, .int .u32 x1, .int .u32 x2, .int .u8 x3, .slice A n c]] w fun e w' => ∃ A2 n2 c2, e = .returned (.agg #[.int .u32 x0, .int .u32 x1, .int .u32 x2, .int .u8 x3, .slice A2 n2 c2]) ∧ Mine w' w.heap.size A2 n2 c2 (d.take 520) ∧ Below w.heap.size w w' := by
  have HB := fun o o2 => hide (cut_mine ((w.alloc o).alloc o2) (.slice A n c) d 520 520 rfl (hp.along below_two) (by omega))
  clear hp
  go_enter Try.func7, Try.ntmps7
  go_wp2_with (go_at_call 8; (with_reducible refine (unhide (HB _ _)).mono ?_); rintro e w2 ⟨A2, n2, c2, rfl, hM2, hb2⟩; go_loud (
    have hg1 : w2.heap[w.heap.size]? = _ := (hb2.block w.heap.size (by simp; omega)).trans ((Go.heap_alloc_old _ _ (by simp)).trans (Go.heap_alloc_new w _));
    have hg2 : w2.heap[w.heap.size + 1]? = _ := (hb2.block (w.heap.size + 1) (by simp)).trans (Go.heap_alloc2_new w _ _);
    obtain ⟨k0, k1, k2, k3, k4, f0, f1, f2, f3, f4⟩ := box_facts hg1;
    obtain ⟨z0, z1, z2, z3, z4, e0, e1, e2, e3, e4⟩ := cell_facts hg2;
    have HG2 := Lib.hid hg2;
    have HM2 := Lib.hid hM2;
    have HBB := Lib.hid ((below_two (w := w)).trans (hb2.mono (by simp; omega)));
    clear hg1 hg2 hM2 hb2))
  have hlt2 : w.heap.size + 1 < ((w.alloc (.cells #[.int .u32 x0, .int .u32 x1, .int .u32 x2, .int .u8 x3, .slice A n c] 25)).alloc (.cells #[.int .u32 0, .int .u32 0, .int .u32 0, .int .u8 0, .slice none 0 0] 25)).heap.size := by simp
  have hz : (w2.setCell ⟨w.heap.size, 4, none⟩ (.slice A2 n2 c2)).heap[w.heap.size + 1]? = some (.cells zcells 25 (0, 0)) := by
    rw [heap_setCell_other w2 ⟨w.heap.size, 4, none⟩ (w.heap.size + 1) _ (by simp)]
    exact HG2.out
  have hm1 := mine_other (i := 4) (g := w.heap.size) (.slice A2 n2 c2) HM2.out (by omega)
  exact bodyPost_ret_by (results_cell_row rfl _ _ _ _ _ _ _ rfl (set_five hz) Try.underlying25 rfl pageInfo) rfl ⟨A2, n2, c2, rfl, (mine_five hm1 hlt2).lower (by omega), below_five (HBB.out.setCell (p := ⟨w.heap.size, 4, none⟩) (Nat.le_refl _) _) (by omega)⟩
set_option maxRecDepth 100000 in
set_option maxHeartbeats 2000000 in
theorem like_any (w : World) (x0 x1 x2 x3 y0 y1 y2 y3 : Nat) (A B : Option Addr) (n m c k : Nat) (d f : List Nat) (hp : Bytes w w.heap.size (.slice A n c) d) (hq : Bytes w w.heap.size (.slice B m k) f) :
    Calls Try.prog 14 #[.agg #[.int .u32 (x0 : Int), .int .u32 (x1 : Int), .int .u32 (x2 : Int), .int .u8 (x3 : Int), .slice A n c], .agg #[.int .u32 (y0 : Int), .int .u32 (y1 : Int), .int .u32 (y2 : Int), .int .u8 (y3 : Int), .slice B m k]] w fun e w' =>
      e = .returned (.bool (decide (x0 = y0 ∧ x1 = y1 ∧ x2 = y2 ∧ x3 = y3 ∧ d = f))) ∧ Below w.heap.size w w' := by
  have HB := fun o o2 => hide (same_any ((w.alloc o).alloc o2) _ _ _ _ (hp.along below_two) (hq.along below_two))
  obtain ⟨r, hr⟩ : ∃ r, r = decide (x0 = y0 ∧ x1 = y1 ∧ x2 = y2 ∧ x3 = y3 ∧ d = f) := ⟨_, rfl⟩
  rw [← hr]
  have HR := Lib.hid hr
  clear hp hq hr
  by_cases h0 : x0 = y0
  · subst h0
    by_cases h1 : x1 = y1
    · subst h1
      by_cases h2 : x2 = y2
      · subst h2
        by_cases h3 : x3 = y3
        · subst h3
          obtain ⟨s, hs⟩ : ∃ s, s = decide (d = f) := ⟨_, rfl⟩
          rw [← hs] at HB
          have hrs : r = s := by rw [HR.out, hs]; simp
          subst hrs
          clear hs HR
          go_enter Try.func14, Try.ntmps14
          go_wp2_with (go_at_call 12; (with_reducible refine (unhide (HB _ _)).mono ?_); rintro e w1 ⟨rfl, nq, rfl⟩)
          go_ret
          exact ⟨rfl, below_drewN below_two nq⟩
        · have hf : r = false := by rw [HR.out]; exact decide_eq_false fun h => h3 h.2.2.2.1
          subst hf
          have g3 : ((x3 : Int) == (y3 : Int)) = false := by rw [beq_eq_false_iff_ne]; omega
          have g3' : ¬ (x3 : Int) = (y3 : Int) := by omega
          clear HR h3
          go_enter Try.func14, Try.ntmps14
          go_wp2
          go_ret
          exact ⟨rfl, below_two⟩
      · have hf : r = false := by rw [HR.out]; exact decide_eq_false fun h => h2 h.2.2.1
        subst hf
        have g2 : ((x2 : Int) == (y2 : Int)) = false := by rw [beq_eq_false_iff_ne]; omega
        have g2' : ¬ (x2 : Int) = (y2 : Int) := by omega
        clear HR h2
        go_enter Try.func14, Try.ntmps14
        go_wp2
        go_ret
        exact ⟨rfl, below_two⟩
    · have hf : r = false := by rw [HR.out]; exact decide_eq_false fun h => h1 h.2.1
      subst hf
      have g1 : ((x1 : Int) == (y1 : Int)) = false := by rw [beq_eq_false_iff_ne]; omega
      have g1' : ¬ (x1 : Int) = (y1 : Int) := by omega
      clear HR h1
      go_enter Try.func14, Try.ntmps14
      go_wp2
      go_ret
      exact ⟨rfl, below_two⟩
  · have hf : r = false := by rw [HR.out]; exact decide_eq_false fun h => h0 h.1
    subst hf
    have g0 : ((x0 : Int) == (y0 : Int)) = false := by rw [beq_eq_false_iff_ne]; omega
    have g0' : ¬ (x0 : Int) = (y0 : Int) := by omega
    clear HR h0
    go_enter Try.func14, Try.ntmps14
    go_wp2
    go_ret
    exact ⟨rfl, below_two⟩
end Go.Proofs.Ytkdbplfphhfeaaa
