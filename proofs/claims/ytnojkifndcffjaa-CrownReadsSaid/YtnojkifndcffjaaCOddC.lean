/- Contract: what stored answers of a page of one byte that is no crown there. (By tools/genodd2.py.) -/
import Derived.Test.YtnojkifndcffjaaCOddA
import Derived.Deep.RegionHeld3
namespace Go.Proofs.Ytnojkifndcffjaa
open Go.RowKit
set_option linter.unusedSimpArgs false
set_option linter.unusedVariables false
set_option maxRecDepth 100000 in
set_option maxHeartbeats 4000000 in
theorem stored_kind {w : World} {gs : Nat} {b : DB} {dur : List (List Nat)} {pend : List (Nat × List Nat)} {nw bud : Int} (h : Disk w gs b dur pend nw bud) (i : Nat) (hi : i < dur.length) (s : List Nat) (gen half ser num kind : Nat) (hs : (applied pend dur)[i]? = some s) (he : errOf s = 0) (hd : dataOf s = [half]) (hgn : genOf s = gen) (hsr : serOf s = ser) (hnm : numbOf s = num) (hkn : kinOf s = kind) (hsm : half < 256) (hh : half ≤ 1) (hgi : gen % 2 = i) (hg : gen < 4294967296) (hno : ¬ (num = 0 ∧ kind = 9)) :
    Calls Try.prog 35 #[.pointer (some ⟨gs, 0, none⟩), .int .i64 (i : Int)] w fun e w' => e = .returned (.tuple #[.agg #[.int .u32 (gen : Int), .int .u8 (half : Int), .int .u32 (ser : Int)], .bool false]) ∧ Below w.heap.size w w' := by
  have hb0 := (Below.refl w.heap.size w).alloc (Nat.le_refl _) (.cells #[.int .u32 0, .int .u8 0, .int .u32 0] 24)
  have HRd := hide (read_any (h.below hb0) i hi _ hs)
  have HB0 := Lib.hid hb0
  have hpa := fun x A c hp => parse_all x A 512 c s hp
  unfold Parsed at hpa
  simp only [he, hd, hgn, hsr, hnm, hkn, show ((0 : Nat) : Int) = 0 from rfl] at hpa
  have HPA := fun x A c hp => hide (hpa x A c hp)
  have hh1 : (half : Int) ≤ 1 := by omega
  have HNO := hide hno
  clear hno
  clear hs h hb0 hpa he hd hgn hsr hnm hkn
  go_enter Try.func35, Try.ntmps35
  go_wp2_with (first
    | (go_at_call 23; (with_reducible refine (unhide HRd).mono ?_); rintro e w1 ⟨g1, rfl, hM1, hb1⟩)
    | (go_at_call 45; (with_reducible refine (unhide (HPA w1 (some ⟨g1, 0, none⟩) 512 hM1.bytes)).mono ?_); rintro e w2 ⟨A2, n2, c2, rfl, hM2, hb2⟩; go_loud (
       obtain rfl : n2 = 1 := hM2.len;
       obtain ⟨g2, y2, rfl, hg2, hy2, -, k2, -⟩ := hM2.at_ (k := 0) (by decide);
       obtain rfl : half = y2 := by simpa using hy2;
       have hb12 := hb1.trans (hb2.mono hb1.size);
       have hbw2 := HB0.out.trans (hb12.mono HB0.out.size);
       have g4 : w2.heap[w.heap.size]? = _ := (hb12.block w.heap.size (by simp)).trans (Go.heap_alloc_new w _);
       have l4 : w.heap.size < w2.heap.size := Nat.lt_of_lt_of_le (by simp) hb12.size;
       have l2 := World.block_lt_of_cell? w2 _ k2;
       dsimp only at l2;
       have n4 : ¬ w.heap.size = w2.heap.size := by omega;
       have n2' : ¬ g2 = w2.heap.size := by omega)))
  obtain ⟨X, hX⟩ : ∃ X, X = w2.alloc (.cells #[.int .u32 (gen : Int), .int .u32 (ser : Int), .int .u32 (num : Int), .int .u8 (kind : Int), .slice (some ⟨g2, 0, none⟩) 1 c2] 81) := ⟨_, rfl⟩
  have hXs : X.heap.size = w2.heap.size + 1 := by rw [hX]; simp
  have gX : X.heap[w2.heap.size]? = some (.cells #[.int .u32 (gen : Int), .int .u32 (ser : Int), .int .u32 (num : Int), .int .u8 (kind : Int), .slice (some ⟨g2, 0, none⟩) 1 c2] 81 (0, 0)) := by rw [hX]; exact Go.heap_alloc_new w2 (.cells #[.int .u32 (gen : Int), .int .u32 (ser : Int), .int .u32 (num : Int), .int .u8 (kind : Int), .slice (some ⟨g2, 0, none⟩) 1 c2] 81)
  have hbX : Below w2.heap.size w2 X := by rw [hX]; exact (Below.refl _ _).alloc (Nat.le_refl _) _
  have p0 : X.cell? ⟨w2.heap.size, 0, none⟩ = some (.int .u32 (gen : Int)) := by rw [cell_of_row X w2.heap.size 0 _ _ _ gX]; rfl
  have p1 : X.cell? ⟨w2.heap.size, 1, none⟩ = some (.int .u32 (ser : Int)) := by rw [cell_of_row X w2.heap.size 1 _ _ _ gX]; rfl
  have p4 : X.cell? ⟨w2.heap.size, 4, none⟩ = some (.slice (some ⟨g2, 0, none⟩) 1 c2) := by rw [cell_of_row X w2.heap.size 4 _ _ _ gX]; rfl
  have kX : X.cell? ⟨g2, 0, none⟩ = some (.int .u8 (half : Int)) := (hbX.cell (p := ⟨g2, 0, none⟩) l2).trans k2
  have lX2 : ¬ g2 = X.heap.size := by omega
  have lXp : ¬ w2.heap.size = X.heap.size := by omega
  rw [← hX]
  have HXX := Lib.hid hX
  clear hX
  go_cut [9] (fun v9 wx => v9 = .pointer (some ⟨w2.heap.size + 1, 0, none⟩) ∧ wx.heap[w2.heap.size + 1]? = some (.cells #[.int .u32 (gen : Int), .int .u8 (half : Int), .int .u32 (ser : Int)] 24 (0, 0)) ∧ Below (w2.heap.size + 1) X wx)
  case first =>
    go_region
    all_goals
      go_wp2_with fail
      go_meet
      have e1 := Go.heap_alloc_new X (.cells #[.int .u32 (gen : Int), .int .u8 (half : Int), .int .u32 (ser : Int)] 24)
      have e2 := (Below.refl X.heap.size X).alloc (Nat.le_refl _) (.cells #[.int .u32 (gen : Int), .int .u8 (half : Int), .int .u32 (ser : Int)] 24)
      rw [hXs] at e1 e2
      first
        | exact ⟨rfl, e1, e2⟩
        | exact ⟨rfl, e1, e2.drew⟩
  case rest =>
  obtain ⟨rfl, hg9, hb9⟩ := hcut
  have lw : w2.heap.size + 1 < wc.heap.size := by
    rcases Nat.lt_or_ge (w2.heap.size + 1) wc.heap.size with h | h
    · exact h
    · rw [Array.getElem?_eq_none h] at hg9; cases hg9
  have hbXc : Below w2.heap.size w2 wc := hbX.trans (hb9.mono (by omega))
  have gP : wc.heap[w2.heap.size]? = _ := (hb9.block w2.heap.size (by omega)).trans gX
  have gW : wc.heap[w.heap.size]? = _ := (hbXc.block w.heap.size l4).trans g4
  have hBy := hM2.bytes.along hbXc
  have hbwc := hbw2.trans (hbXc.mono hbw2.size)
  obtain ⟨c0, c1, c2', -, -, -⟩ := crown_facts hg9
  obtain ⟨q0, q1, q2, q3, q4⟩ := box_facts gP
  have HP1 := hide (place_any wc.drew gen half ser)
  rw [hgi] at HP1
  have HG9 := Lib.hid hg9
  have HGP := Lib.hid gP
  have HGW := Lib.hid gW
  have HBY := Lib.hid hBy
  have HBW := Lib.hid hbwc
  clear hXs hg9 gP gW hBy hbwc hbXc hb9 gX hbX p0 p1 p4 kX hM2 hM1 hb1 hb2 hb12 hbw2 g4 HPA HRd k2
  go_wp2
  go_region_law (first
    | (go_simp; go_at_call 39; (with_reducible refine (unhide HP1).mono ?_); rintro e w5 ⟨rfl, hb5⟩; go_loud (
       have b5 := below_on (Below.refl _ _).drew hb5;
       obtain ⟨r0, r1, r2, -, -, -⟩ := crown_facts ((b5.block _ lw).trans HG9.out);
       obtain ⟨s0, s1, s2, s3, s4⟩ := box_facts ((b5.block _ (by omega)).trans HGP.out);
       have HB5 := Lib.hid b5;
       have HP2 := hide (cpage_any w5 gen half ser (by omega));
       clear b5 hb5))
    | (go_simp; go_at_call 37; (with_reducible refine (unhide HP2).mono ?_); rintro e w6 ⟨A6, n6, c6, rfl, rfl, hB6, hb6⟩; go_loud (
       have b6 := below_on HB5.out hb6;
       obtain ⟨t0, t1, t2, -, -, -⟩ := crown_facts ((b6.block _ lw).trans HG9.out);
       obtain ⟨u0, u1, u2, u3, u4⟩ := box_facts ((b6.block _ (by omega)).trans HGP.out);
       have HB6 := Lib.hid b6;
       have HP3 := hide (same_page w6 gen ser num kind gen ser 0 9 _ _ _ _ _ _ [half] [half] (HBY.out.along b6) hB6);
       rw [decide_eq_false (show ¬ (gen = gen ∧ ser = ser ∧ num = 0 ∧ kind = 9 ∧ [half] = [half]) from fun h => unhide HNO ⟨h.2.2.1, h.2.2.2.1⟩), show ((0 : Nat) : Int) = 0 from rfl, show ((9 : Nat) : Int) = 9 from rfl] at HP3;
       clear b6 hb6 hB6))
    | (go_simp; go_at_call 46; (with_reducible refine (unhide HP3).mono ?_); rintro e w7 ⟨rfl, hb7⟩; go_loud (
       have b7 := below_on HB6.out hb7;
       have g7 := (b7.block w.heap.size (by omega)).trans HGW.out;
       obtain ⟨v0, v1, v2, f0, f1, f2⟩ := crown_facts g7;
       obtain ⟨x0, x1, x2, -, -, -⟩ := crown_facts ((b7.block _ lw).trans HG9.out);
       have HG7 := Lib.hid g7;
       have HB7 := Lib.hid (HBW.out.trans (b7.mono HBW.out.size));
       clear b7 hb7 g7)))
  all_goals
    go_wp2
    first
      | exact stored_ret rfl rfl rfl (set_crown HG7.out) rfl ⟨rfl, below_crown HB7.out (Nat.le_refl _)⟩
  done
end Go.Proofs.Ytnojkifndcffjaa
