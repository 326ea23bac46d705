/- Contracts: what stored answers of a sector: the crown that belongs there; none of a sector that is corrupt. -/
import Derived.Test.YtnojkifndcffjaaCFormat
import Derived.Deep.RegionLaw
import Derived.Deep.DeepCutAuto
namespace Go.Proofs.Ytnojkifndcffjaa
open Go.RowKit
set_option linter.unusedSimpArgs false
set_option linter.unusedVariables false

theorem stored_ret {a : Act} {w : World} {R : Ending → World → Prop} {g : Nat} {cs : Array Value} {v : Value} (hd : a.defers = []) (h2 : a.tmps.getD 4 undef = .pointer (some ⟨g, 0, none⟩)) (h3 : a.tmps.getD 5 undef = v)
    (hg : w.heap[g]? = some (.cells cs 24 (0, 0))) (hs : cs.size = 3) (hR : R (.returned (.tuple #[.agg cs, v])) w) : bodyPost Try.prog Try.f35 R .ret a w := by
  refine bodyPost_ret_by (v := .tuple #[.agg cs, v]) ?_ hd hR
  have hl := run_loadVar_row (P := Try.prog) w g 24 24 cs (0, 0) _ hg Try.underlying24 rfl (by rw [crownInfo, hs])
  rw [results_cell_tmp (p := 4) (ty := 24) (u := 5) rfl, h2, h3]
  simp [asAddr, Result.andThen, hl]
theorem crown_facts {x : World} {g : Nat} {v0 v1 v2 : Value} (h : x.heap[g]? = some (.cells #[v0, v1, v2] 24 (0, 0))) :
    x.cell? ⟨g, 0, none⟩ = some v0 ∧ x.cell? ⟨g, 1, none⟩ = some v1 ∧ x.cell? ⟨g, 2, none⟩ = some v2 ∧ x.frozen? ⟨g, 0, none⟩ = false ∧ x.frozen? ⟨g, 1, none⟩ = false ∧ x.frozen? ⟨g, 2, none⟩ = false := by
  refine ⟨?_, ?_, ?_, frozen_of_row x g _ _ _ h, frozen_of_row x g _ _ _ h, frozen_of_row x g _ _ _ h⟩
  all_goals (rw [cell_of_row x g _ _ _ _ h]; rfl)
theorem set_crown {w : World} {g : Nat} {u0 u1 u2 v0 v1 v2 : Value} (h : w.heap[g]? = some (.cells #[u0, u1, u2] 24 (0, 0))) :
    (((w.setCell ⟨g, 0, none⟩ v0).setCell ⟨g, 1, none⟩ v1).setCell ⟨g, 2, none⟩ v2).heap[g]? = some (.cells #[v0, v1, v2] 24 (0, 0)) := by
  rw [heap_setCell_same _ g 2 _ _ _ (heap_setCell_same _ g 1 _ _ _ (heap_setCell_same _ g 0 _ _ _ h))]
  rfl
theorem below_crown {B : Nat} {a w : World} {g : Nat} {v0 v1 v2 : Value} (h : Below B a w) (hg : B ≤ g) : Below B a (((w.setCell ⟨g, 0, none⟩ v0).setCell ⟨g, 1, none⟩ v1).setCell ⟨g, 2, none⟩ v2) :=
  ((h.setCell (p := ⟨g, 0, none⟩) hg _).setCell (p := ⟨g, 1, none⟩) hg _).setCell (p := ⟨g, 2, none⟩) hg _
theorem box_facts {x : World} {g : Nat} {v0 v1 v2 v3 v4 : Value} (h : x.heap[g]? = some (.cells #[v0, v1, v2, v3, v4] 81 (0, 0))) :
    x.cell? ⟨g, 0, none⟩ = some v0 ∧ x.cell? ⟨g, 1, none⟩ = some v1 ∧ x.cell? ⟨g, 2, none⟩ = some v2 ∧ x.cell? ⟨g, 3, none⟩ = some v3 ∧ x.cell? ⟨g, 4, none⟩ = some v4 := by
  refine ⟨?_, ?_, ?_, ?_, ?_⟩
  all_goals (rw [cell_of_row x g _ _ _ _ h]; rfl)
set_option maxRecDepth 100000 in
set_option maxHeartbeats 4000000 in
theorem stored_good {w : World} {gs : Nat} {b : DB} {dur : List (List Nat)} {pend : List (Nat × List Nat)} {nw bud : Int} (h : Disk w gs b dur pend nw bud) (i : Nat) (hi : i < dur.length) (gen half ser : Nat) (hs : (applied pend dur)[i]? = some (crownSec gen half ser)) (hg : gen < 4294967296) (hh : half ≤ 1) (hse : ser < 4294967296) (hgi : gen % 2 = i) :
    Calls Try.prog 35 #[.pointer (some ⟨gs, 0, none⟩), .int .i64 (i : Int)] w fun e w' => e = .returned (.tuple #[.agg #[.int .u32 (gen : Int), .int .u8 (half : Int), .int .u32 (ser : Int)], .bool true]) ∧ Below w.heap.size w w' := by
  have hb0 := (Below.refl w.heap.size w).alloc (Nat.le_refl _) (.cells #[.int .u32 0, .int .u8 0, .int .u32 0] 24)
  have HRd := hide (read_any (h.below hb0) i hi _ hs)
  have HB0 := Lib.hid hb0
  have hh1 : (half : Int) ≤ 1 := by omega
  clear hs h hb0
  go_enter Try.func35, Try.ntmps35
  go_wp2_with (first
    | (go_at_call 23; (with_reducible refine (unhide HRd).mono ?_); rintro e w1 ⟨g1, rfl, hM1, hb1⟩; go_loud (
       have HP := hide (parse_page w1 (some ⟨g1, 0, none⟩) 512 512 gen ser 0 9 [half] hg hse (by decide) (by decide) (by simp) hM1.bytes);
       rw [show ((0 : Nat) : Int) = 0 from rfl, show ((9 : Nat) : Int) = 9 from rfl] at HP))
    | (go_at_call 45; (with_reducible refine (unhide HP).mono ?_); rintro e w2 ⟨A2, n2, c2, rfl, hM2, hb2⟩; go_loud (
       obtain rfl : n2 = 1 := hM2.len;
       obtain ⟨g2, y2, rfl, hg2, hy2, -, k2, -⟩ := hM2.at_ (k := 0) (by decide);
       obtain rfl : half = y2 := by simpa using hy2;
       have hb12 := hb1.trans (hb2.mono hb1.size);
       have hbw2 := HB0.out.trans (hb12.mono HB0.out.size);
       have g4 : w2.heap[w.heap.size]? = _ := (hb12.block w.heap.size (by simp)).trans (Go.heap_alloc_new w _);
       have l4 : w.heap.size < w2.heap.size := Nat.lt_of_lt_of_le (by simp) hb12.size;
       have l2 := World.block_lt_of_cell? w2 _ k2;
       dsimp only at l2;
       have n4 : ¬ w.heap.size = w2.heap.size := by omega;
       have n2' : ¬ g2 = w2.heap.size := by omega)))
  obtain ⟨X, hX⟩ : ∃ X, X = w2.alloc (.cells #[.int .u32 (gen : Int), .int .u32 (ser : Int), .int .u32 0, .int .u8 9, .slice (some ⟨g2, 0, none⟩) 1 c2] 81) := ⟨_, rfl⟩
  have hXs : X.heap.size = w2.heap.size + 1 := by rw [hX]; simp
  have gX : X.heap[w2.heap.size]? = some (.cells #[.int .u32 (gen : Int), .int .u32 (ser : Int), .int .u32 0, .int .u8 9, .slice (some ⟨g2, 0, none⟩) 1 c2] 81 (0, 0)) := by rw [hX]; exact Go.heap_alloc_new w2 (.cells #[.int .u32 (gen : Int), .int .u32 (ser : Int), .int .u32 0, .int .u8 9, .slice (some ⟨g2, 0, none⟩) 1 c2] 81)
  have hbX : Below w2.heap.size w2 X := by rw [hX]; exact (Below.refl _ _).alloc (Nat.le_refl _) _
  have p0 : X.cell? ⟨w2.heap.size, 0, none⟩ = some (.int .u32 (gen : Int)) := by rw [cell_of_row X w2.heap.size 0 _ _ _ gX]; rfl
  have p1 : X.cell? ⟨w2.heap.size, 1, none⟩ = some (.int .u32 (ser : Int)) := by rw [cell_of_row X w2.heap.size 1 _ _ _ gX]; rfl
  have p4 : X.cell? ⟨w2.heap.size, 4, none⟩ = some (.slice (some ⟨g2, 0, none⟩) 1 c2) := by rw [cell_of_row X w2.heap.size 4 _ _ _ gX]; rfl
  have kX : X.cell? ⟨g2, 0, none⟩ = some (.int .u8 (half : Int)) := (hbX.cell (p := ⟨g2, 0, none⟩) l2).trans k2
  have lX2 : ¬ g2 = X.heap.size := by omega
  have lXp : ¬ w2.heap.size = X.heap.size := by omega
  rw [← hX]
  have HXX := Lib.hid hX
  clear hX
  go_cut [9] (fun v9 wx => v9 = .pointer (some ⟨w2.heap.size + 1, 0, none⟩) ∧ wx.heap[w2.heap.size + 1]? = some (.cells #[.int .u32 (gen : Int), .int .u8 (half : Int), .int .u32 (ser : Int)] 24 (0, 0)) ∧ Below (w2.heap.size + 1) X wx)
  case first =>
    go_region
    all_goals
      go_wp2_with fail
      go_meet
      have e1 := Go.heap_alloc_new X (.cells #[.int .u32 (gen : Int), .int .u8 (half : Int), .int .u32 (ser : Int)] 24)
      have e2 := (Below.refl X.heap.size X).alloc (Nat.le_refl _) (.cells #[.int .u32 (gen : Int), .int .u8 (half : Int), .int .u32 (ser : Int)] 24)
      rw [hXs] at e1 e2
      first
        | exact ⟨rfl, e1, e2⟩
        | exact ⟨rfl, e1, e2.drew⟩
  case rest =>
  obtain ⟨rfl, hg9, hb9⟩ := hcut
  have lw : w2.heap.size + 1 < wc.heap.size := by
    rcases Nat.lt_or_ge (w2.heap.size + 1) wc.heap.size with h | h
    · exact h
    · rw [Array.getElem?_eq_none h] at hg9; cases hg9
  have hbXc : Below w2.heap.size w2 wc := hbX.trans (hb9.mono (by omega))
  have gP : wc.heap[w2.heap.size]? = _ := (hb9.block w2.heap.size (by omega)).trans gX
  have gW : wc.heap[w.heap.size]? = _ := (hbXc.block w.heap.size l4).trans g4
  have hBy := hM2.bytes.along hbXc
  have hbwc := hbw2.trans (hbXc.mono hbw2.size)
  obtain ⟨c0, c1, c2', -, -, -⟩ := crown_facts hg9
  obtain ⟨q0, q1, q2, q3, q4⟩ := box_facts gP
  have HP1 := hide (place_any wc.drew gen half ser)
  rw [hgi] at HP1
  have HG9 := Lib.hid hg9
  have HGP := Lib.hid gP
  have HGW := Lib.hid gW
  have HBY := Lib.hid hBy
  have HBW := Lib.hid hbwc
  clear hXs hg9 gP gW hBy hbwc hbXc hb9 gX hbX p0 p1 p4 kX hM2 hM1 hb1 hb2 hb12 hbw2 g4 HP HRd k2
  go_wp2
  go_region_law (first
    | (go_simp; go_at_call 39; (with_reducible refine (unhide HP1).mono ?_); rintro e w5 ⟨rfl, hb5⟩; go_loud (
       have b5 := below_on (Below.refl _ _).drew hb5;
       obtain ⟨r0, r1, r2, -, -, -⟩ := crown_facts ((b5.block _ lw).trans HG9.out);
       obtain ⟨s0, s1, s2, s3, s4⟩ := box_facts ((b5.block _ (by omega)).trans HGP.out);
       have HB5 := Lib.hid b5;
       have HP2 := hide (cpage_any w5 gen half ser (by omega));
       clear b5 hb5))
    | (go_simp; go_at_call 37; (with_reducible refine (unhide HP2).mono ?_); rintro e w6 ⟨A6, n6, c6, rfl, rfl, hB6, hb6⟩; go_loud (
       have b6 := below_on HB5.out hb6;
       obtain ⟨t0, t1, t2, -, -, -⟩ := crown_facts ((b6.block _ lw).trans HG9.out);
       obtain ⟨u0, u1, u2, u3, u4⟩ := box_facts ((b6.block _ (by omega)).trans HGP.out);
       have HB6 := Lib.hid b6;
       have HP3 := hide (same_page w6 gen ser 0 9 gen ser 0 9 _ _ _ _ _ _ [half] [half] (HBY.out.along b6) hB6);
       rw [decide_eq_true ⟨rfl, rfl, rfl, rfl, rfl⟩, show ((0 : Nat) : Int) = 0 from rfl, show ((9 : Nat) : Int) = 9 from rfl] at HP3;
       clear b6 hb6 hB6))
    | (go_simp; go_at_call 46; (with_reducible refine (unhide HP3).mono ?_); rintro e w7 ⟨rfl, hb7⟩; go_loud (
       have b7 := below_on HB6.out hb7;
       have g7 := (b7.block w.heap.size (by omega)).trans HGW.out;
       obtain ⟨v0, v1, v2, f0, f1, f2⟩ := crown_facts g7;
       obtain ⟨x0, x1, x2, -, -, -⟩ := crown_facts ((b7.block _ lw).trans HG9.out);
       have HG7 := Lib.hid g7;
       have HB7 := Lib.hid (HBW.out.trans (b7.mono HBW.out.size));
       clear b7 hb7 g7)))
  all_goals
    go_wp2
    first
      | exact stored_ret rfl rfl rfl (set_crown HG7.out) rfl ⟨rfl, below_crown HB7.out (Nat.le_refl _)⟩
  done
end Go.Proofs.Ytnojkifndcffjaa
