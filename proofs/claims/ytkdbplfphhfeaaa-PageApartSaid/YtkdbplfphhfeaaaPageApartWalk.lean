/- The walk of the law PageApart: it answers true for every two pages, and writes nothing that was there. -/
import Derived.Test.YtkdbplfphhfeaaaPageShowsWalk
import Derived.Test.YtkdbplfphhfeaaaTill
namespace Go.Proofs.Ytkdbplfphhfeaaa
open Go.RowKit
set_option linter.unusedSimpArgs false
set_option linter.unusedVariables false

theorem boxes_four {w x : World} {g h base base2 n c m k : Nat} {A B A0 B0 : Option Addr} {n0 c0 m0 k0 : Nat} {x0 x1 x2 x3 x4 y0 y1 y2 y3 y4 : Nat} {d f : List Nat} (hA : Mine x base A n c d) (hB : Mine x base2 B m k f) (hne : g ≠ h)
    (hg : x.heap[g]? = some (.cells #[.int .u32 (x0 : Int), .int .u32 (x1 : Int), .int .u32 (x2 : Int), .int .u8 (x3 : Int), .slice A0 n0 c0] 25 (0, 0)))
    (hh : x.heap[h]? = some (.cells #[.int .u32 (y0 : Int), .int .u32 (y1 : Int), .int .u32 (y2 : Int), .int .u8 (y3 : Int), .slice B0 m0 k0] 25 (0, 0)))
    (g1 : g < base ∧ g < base2) (h1 : h < base ∧ h < base2) (hb : Below w.heap.size w x) (hgw : w.heap.size ≤ g) (hhw : w.heap.size ≤ h) :
    Boxes w g h x0 x1 x2 x4 y0 y1 y2 y4 d f ((((x.setCell ⟨g, 3, none⟩ (.int .u8 (x4 : Int))).setCell ⟨h, 3, none⟩ (.int .u8 (y4 : Int))).setCell ⟨g, 4, none⟩ (.slice A n c)).setCell ⟨h, 4, none⟩ (.slice B m k)) := by
  refine ⟨A, n, c, B, m, k, ?_, ?_, (mine_other _ (mine_other _ (mine_other _ (mine_other _ hA g1.1) h1.1) g1.1) h1.1).bytes, (mine_other _ (mine_other _ (mine_other _ (mine_other _ hB g1.2) h1.2) g1.2) h1.2).bytes,
    (((hb.setCell (p := ⟨g, 3, none⟩) hgw _).setCell (p := ⟨h, 3, none⟩) hhw _).setCell (p := ⟨g, 4, none⟩) hgw _).setCell (p := ⟨h, 4, none⟩) hhw _⟩
  · rw [heap_setCell_other _ ⟨h, 4, none⟩ g _ hne]
    rw [heap_setCell_same _ g 4 _ _ _ (by rw [heap_setCell_other _ ⟨h, 3, none⟩ g _ hne]; exact heap_setCell_same _ g 3 _ _ _ hg)]
    rfl
  · rw [heap_setCell_same _ h 4 _ _ _ (by rw [heap_setCell_other _ ⟨g, 4, none⟩ h _ (Ne.symm hne)]; exact heap_setCell_same _ h 3 _ _ _ (by rw [heap_setCell_other _ ⟨g, 3, none⟩ h _ (Ne.symm hne)]; exact hh))]
    rfl
theorem held_fif {A0 A1 A2 A3 A4 A5 A6 A7 A8 A9 B0 B1 B2 B3 B4 P : Prop} (h : A0 ∧ A1 ∧ A2 ∧ A3 ∧ A4 ∧ A5 ∧ A6 ∧ A7 ∧ A8 ∧ A9 ∧ B0 ∧ B1 ∧ B2 ∧ B3 ∧ B4 ∧ P) : P := h.2.2.2.2.2.2.2.2.2.2.2.2.2.2.2
theorem orOne_good {x : Nat} (h : x < 256) : 0 < orOne x ∧ orOne x < 256 := by unfold orOne; split <;> omega
/-- Pages with other parts have other bytes. -/
theorem page_inj {x0 x1 x2 x3 y0 y1 y2 y3 : Nat} {d f : List Nat} (hd : d.length ≤ 491) (hf : f.length ≤ 491) (h0 : x0 < 4294967296) (h1 : x1 < 4294967296) (h2 : x2 < 4294967296) (g0 : y0 < 4294967296) (g1 : y1 < 4294967296) (g2 : y2 < 4294967296) :
    decide (page x0 x1 x2 x3 d = page y0 y1 y2 y3 f) = decide (x0 = y0 ∧ x1 = y1 ∧ x2 = y2 ∧ x3 = y3 ∧ d = f) := by
  apply Bool.eq_iff_iff.2
  rw [decide_eq_true_iff, decide_eq_true_iff]
  constructor
  · intro h
    have e : pg x0 x1 x2 x3 d = pg y0 y1 y2 y3 f := by
      have := congrArg (List.take 508) h
      rwa [page_take hd, page_take hf] at this
    obtain ⟨a1, a2, a3, a4, a5, a6, _⟩ := pg_parts (kind := x3) hd h0 h1 h2
    obtain ⟨b1, b2, b3, b4, b5, b6, _⟩ := pg_parts (kind := y3) hf g0 g1 g2
    rw [e] at a1 a2 a3 a4 a5 a6
    refine ⟨a3.symm.trans b3, a4.symm.trans b4, a5.symm.trans b5, a2.symm.trans b2, ?_⟩
    have hl : d.length = f.length := a1.symm.trans b1
    rw [hl] at a6
    exact a6.symm.trans b6
  · rintro ⟨rfl, rfl, rfl, rfl, rfl⟩
    rfl
set_option maxRecDepth 100000 in
set_option maxHeartbeats 0 in
theorem pageApart_core (w : World) (x0 x1 x2 x3 y0 y1 y2 y3 : Nat) (A B : Option Addr) (n c m k : Nat) (d f : List Nat) (hx0 : x0 < 4294967296) (hx1 : x1 < 4294967296) (hx2 : x2 < 4294967296) (hx3 : x3 < 256) (hy0 : y0 < 4294967296) (hy1 : y1 < 4294967296) (hy2 : y2 < 4294967296) (hy3 : y3 < 256) (hp : Bytes w w.heap.size (.slice A n c) d) (hq : Bytes w w.heap.size (.slice B m k) f) :
    Calls Try.prog 3 #[.agg #[.int .u32 (x0 : Int), .int .u32 (x1 : Int), .int .u32 (x2 : Int), .int .u8 (x3 : Int), .slice A n c], .agg #[.int .u32 (y0 : Int), .int .u32 (y1 : Int), .int .u32 (y2 : Int), .int .u8 (y3 : Int), .slice B m k]] w fun e w' => e = .returned (.bool true) ∧ Below w.heap.size w w' := by
  have HX := Lib.hid (And.intro hx0 (And.intro hx1 (And.intro hx2 hx3)))
  have HYY := Lib.hid (And.intro hy0 (And.intro hy1 (And.intro hy2 hy3)))
  clear hx0 hx1 hx2 hx3 hy0 hy1 hy2 hy3
  have HA := fun o o2 => hide (awake_any ((w.alloc o).alloc o2))
  have HP := Lib.hid hp
  have HQ := Lib.hid hq
  clear hp hq
  go_enter Try.func3, Try.ntmps3
  go_wp2_with (first
    | (go_at_call 6; (with_reducible refine (unhide (HA _ _)).mono ?_); rintro e w1 ⟨rfl, hw1⟩))
  obtain ⟨b1, g1, g2, l1⟩ := below_boxes w _ _ hw1
  obtain ⟨a0, a1, a2, a3, a4, e0, e1, e2, e3, e4⟩ := box_facts g1
  obtain ⟨c0, c1, c2, c3, c4, f0, f1, f2, f3, f4⟩ := box_facts g2
  have HC1 := hide (few_any w1.drew (x0 : Int) (x1 : Int) (x2 : Int) (x3 : Int) A n c d ((HP.out.along b1).quiet 1))
  have HC1' := hide (few_any w1.drew (y0 : Int) (y1 : Int) (y2 : Int) (y3 : Int) B m k f ((HQ.out.along b1).quiet 1))
  have HB1 := Lib.hid b1
  have HG1 := Lib.hid g1
  have HG2 := Lib.hid g2
  have hd1 : Below w1.heap.size w1 w1.drew := (Below.refl _ _).drew
  clear b1 g1 g2 hw1 HA
  go_cut [] (fun wx => Boxes w w.heap.size (w.heap.size + 1) x0 x1 x2 x3 y0 y1 y2 y3 (d.take 520) (f.take 520) wx)
  case first =>
    go_region_law (first
      | (go_simp; go_at_call 7; (with_reducible refine (unhide HC1).mono ?_); rintro e w2 ⟨A2, n2, c2', rfl, hM2, hb2⟩;
         (have b2 := below_on hd1 hb2; have h1 := HG1.out; have h2 := HG2.out;
          have g12 := (b2.block w.heap.size (by omega)).trans h1; have g22 := (b2.block (w.heap.size + 1) (by omega)).trans h2;
          obtain ⟨k0, k1, k2, k3, k4, -, -, -, -, -⟩ := box_facts g12;
          obtain ⟨m0, m1, m2, m3, m4, -, -, -, -, -⟩ := box_facts g22;
          have HG12 := Lib.hid g12; have HG22 := Lib.hid g22; have HM2 := Lib.hid hM2; have HB2 := Lib.hid b2;
          have HC2 := hide (few_any w2 (y0 : Int) (y1 : Int) (y2 : Int) (y3 : Int) B m k f (HQ.out.along (HB1.out.trans (b2.mono HB1.out.size))));
          clear b2 h1 h2 g12 g22 hM2 hb2))
      | (go_simp; go_at_call 7; (with_reducible refine (unhide HC2).mono ?_); rintro e w3 ⟨A3, n3, c3', rfl, hM3, hb3⟩;
         (have hs2 := HB2.out.size;
          have g13 := (hb3.block w.heap.size (by omega)).trans HG12.out; have g23 := (hb3.block (w.heap.size + 1) (by omega)).trans HG22.out;
          obtain ⟨r0, r1, r2, r3, r4, q0, q1, q2, q3, q4⟩ := box_facts g13;
          obtain ⟨s0, s1, s2, s3, s4, t0, t1, t2, t3, t4⟩ := box_facts g23;
          have HG13 := Lib.hid g13; have HG23 := Lib.hid g23; have HM3 := Lib.hid hM3; have HM23 := Lib.hid (HM2.out.below hb3); have HB3 := Lib.hid (HB1.out.trans ((below_on HB2.out hb3).mono HB1.out.size));
          clear hM3 hb3 g13 g23)))
    all_goals
      go_wp2_with fail
      go_meet
      exact boxes_end HM23.out HM3.out (by omega) ⟨_, _, _, _, _, rfl⟩ ⟨_, _, _, _, _, rfl⟩ HG13.out HG23.out ⟨by show w.heap.size < w1.heap.size; omega, by omega⟩ ⟨by show w.heap.size + 1 < w1.heap.size; omega, by omega⟩ HB3.out (Nat.le_refl _) (by omega)
  case rest =>
  obtain ⟨A4, n4, c4', B4, m4, k4, hg1, hg2, hy1, hy2, hbc⟩ := hcut
  have hm1 := run_orOne x3
  have hm2 := run_orOne y3
  obtain ⟨q0, q1, q2, q3, q4, r0, r1, r2, r3, r4⟩ := box_facts hg1
  obtain ⟨s0, s1, s2, s3, s4, t0, t1, t2, t3, t4⟩ := box_facts hg2
  have hlt : w.heap.size + 1 < wc.heap.size := by
    rcases Nat.lt_or_ge (w.heap.size + 1) wc.heap.size with h | h
    · exact h
    · rw [Array.getElem?_eq_none h] at hg2; cases hg2
  have HC4 := hide (cut_mine wc.drew (.slice A4 n4 c4') (d.take 520) 491 491 rfl (hy1.quiet 1) (by omega))
  have HG41 := Lib.hid hg1
  have HG42 := Lib.hid hg2
  have HY2 := Lib.hid hy2
  have HBC := Lib.hid hbc
  clear hg1 hg2 hy1 hy2 hbc HC1 HC1' HB1 HG1 HG2 a0 a1 a2 a3 a4 e0 e1 e2 e3 e4 c0 c1 c2 c3 c4 f0 f1 f2 f3 f4
  have HSA := Lib.hid (fun (x : World) (hx : Below wc.heap.size wc x) => (show Below wc.heap.size wc x ∧ x.cell? ⟨w.heap.size, 3, none⟩ = some (.int .u8 (x3 : Int)) ∧ x.cell? ⟨w.heap.size, 4, none⟩ = some (.slice A4 n4 c4') ∧ x.cell? ⟨w.heap.size + 1, 4, none⟩ = some (.slice B4 m4 k4) ∧ True from
    ⟨hx, (hx.cell (p := ⟨w.heap.size, 3, none⟩) (by show w.heap.size < _; omega)).trans q3, (hx.cell (p := ⟨w.heap.size, 4, none⟩) (by show w.heap.size < _; omega)).trans q4, (hx.cell (p := ⟨w.heap.size + 1, 4, none⟩) hlt).trans s4, trivial⟩))
  have HSB := Lib.hid (fun (x : World) (hx : Below wc.heap.size wc x) => (show x.cell? ⟨w.heap.size + 1, 3, none⟩ = some (.int .u8 (y3 : Int)) from (hx.cell (p := ⟨w.heap.size + 1, 3, none⟩) hlt).trans s3))
  clear q0 q1 q2 q3 q4 r0 r1 r2 r3 r4 s0 s1 s2 s3 s4 t0 t1 t2 t3 t4
  go_wp2
  go_cut [] (fun wx => Boxes w w.heap.size (w.heap.size + 1) x0 x1 x2 (orOne x3) y0 y1 y2 (orOne y3) ((d.take 520).take 491) ((f.take 520).take 491) wx)
  case first =>
    refine wp_region_noPanic ?_
    refine region_till [13, 15, 17, 19] (twoC 13 15 (fun x : World => Below wc.heap.size wc x ∧ x.cell? ⟨w.heap.size, 3, none⟩ = some (.int .u8 (x3 : Int)) ∧ x.cell? ⟨w.heap.size, 4, none⟩ = some (.slice A4 n4 c4') ∧ x.cell? ⟨w.heap.size + 1, 4, none⟩ = some (.slice B4 m4 k4) ∧ True) (fun x : World => x.cell? ⟨w.heap.size + 1, 3, none⟩ = some (.int .u8 (y3 : Int)))) (by kernel_rfl) (fun s => ⟨fun _ => HSA.out _ (Below.refl _ _).drew, fun _ => HSB.out _ (Below.refl _ _).drew⟩) (fun hHeld => ?_)
    refine till_take 13 (i := 0) (v := ?_) (some 17) rfl rfl (by kernel_rfl) (by kernel_rfl) (by kernel_rfl) (by kernel_rfl) (fun _ _ _ h => h) (Or.inl ⟨by rfl, ?_⟩) (by assumption) (fun hHeld2 => ?_)
    rotate_left
    · intro w hSw
      obtain ⟨hSb, z0, z1, z2, z3⟩ := twoC_one hSw
      first | (go_simp; done) | (go_simp; with_reducible rfl)
    clear hHeld
    have hHeld := hHeld2
    clear hHeld2
    try simp only [Act.put, List.setIfInBounds_toArray, List.set_cons_zero, List.set_cons_succ]
    refine till_take 13 (i := 1) (v := ?_) (some 18) rfl rfl (by kernel_rfl) (by kernel_rfl) (by kernel_rfl) (by kernel_rfl) (fun _ _ _ h => h) (Or.inl ⟨by rfl, ?_⟩) (by assumption) (fun hHeld2 => ?_)
    rotate_left
    · intro w hSw
      obtain ⟨hSb, z0, z1, z2, z3⟩ := twoC_one hSw
      first | (go_simp; done) | (go_simp; with_reducible rfl)
    clear hHeld
    have hHeld := hHeld2
    clear hHeld2
    try simp only [Act.put, List.setIfInBounds_toArray, List.set_cons_zero, List.set_cons_succ]
    refine till_take 13 (i := 2) (v := ?_) (some 19) rfl rfl (by kernel_rfl) (by kernel_rfl) (by kernel_rfl) (by kernel_rfl) (fun _ _ _ h => h) (Or.inl ⟨by rfl, ?_⟩) (by assumption) (fun hHeld2 => ?_)
    rotate_left
    · intro w hSw
      obtain ⟨hSb, z0, z1, z2, z3⟩ := twoC_one hSw
      first | (go_simp; done) | (go_simp; with_reducible rfl)
    clear hHeld
    have hHeld := hHeld2
    clear hHeld2
    try simp only [Act.put, List.setIfInBounds_toArray, List.set_cons_zero, List.set_cons_succ]
    refine till_take 15 (i := 3) (v := ?_) (some 20) rfl rfl (by kernel_rfl) (by kernel_rfl) (by kernel_rfl) (by kernel_rfl) (fun _ _ _ h => h) (Or.inl ⟨by rfl, ?_⟩) (by assumption) (fun hHeld2 => ?_)
    rotate_left
    · intro w hSw
      have z4 := twoC_two hSw
      first | (go_simp; done) | (go_simp; with_reducible rfl)
    clear hHeld
    have hHeld := hHeld2
    clear hHeld2
    try simp only [Act.put, List.setIfInBounds_toArray, List.set_cons_zero, List.set_cons_succ]
    refine till_take 15 (i := 4) (v := ?_) (some 21) rfl rfl (by kernel_rfl) (by kernel_rfl) (by kernel_rfl) (by kernel_rfl) (fun _ _ _ h => h) (Or.inl ⟨by rfl, ?_⟩) (by assumption) (fun hHeld2 => ?_)
    rotate_left
    · intro w hSw
      have z4 := twoC_two hSw
      first | (go_simp; done) | (go_simp; with_reducible rfl)
    clear hHeld
    have hHeld := hHeld2
    clear hHeld2
    try simp only [Act.put, List.setIfInBounds_toArray, List.set_cons_zero, List.set_cons_succ]
    refine till_take 15 (i := 5) (v := ?_) (some 22) rfl rfl (by kernel_rfl) (by kernel_rfl) (by kernel_rfl) (by kernel_rfl) (fun _ _ _ h => h) (Or.inl ⟨by rfl, ?_⟩) (by assumption) (fun hHeld2 => ?_)
    rotate_left
    · intro w hSw
      have z4 := twoC_two hSw
      first | (go_simp; done) | (go_simp; with_reducible rfl)
    clear hHeld
    have hHeld := hHeld2
    clear hHeld2
    try simp only [Act.put, List.setIfInBounds_toArray, List.set_cons_zero, List.set_cons_succ]
    refine till_take 13 (i := 6) (v := ?_) (some 23) rfl rfl (by kernel_rfl) (by kernel_rfl) (by kernel_rfl) (by kernel_rfl) (fun _ _ _ h => h) (Or.inl ⟨by rfl, ?_⟩) (by assumption) (fun hHeld2 => ?_)
    rotate_left
    · intro w hSw
      obtain ⟨hSb, z0, z1, z2, z3⟩ := twoC_one hSw
      first | (go_simp; done) | (go_simp; with_reducible rfl)
    clear hHeld
    have hHeld := hHeld2
    clear hHeld2
    try simp only [Act.put, List.setIfInBounds_toArray, List.set_cons_zero, List.set_cons_succ]
    refine till_take 13 (i := 7) (v := ?_) (some 24) rfl rfl (by kernel_rfl) (by kernel_rfl) (by kernel_rfl) (by kernel_rfl) (fun _ _ _ h => h) (Or.inl ⟨by rfl, ?_⟩) (by assumption) (fun hHeld2 => ?_)
    rotate_left
    · intro w hSw
      obtain ⟨hSb, z0, z1, z2, z3⟩ := twoC_one hSw
      first | (go_simp; done) | (go_simp; with_reducible rfl)
    clear hHeld
    have hHeld := hHeld2
    clear hHeld2
    try simp only [Act.put, List.setIfInBounds_toArray, List.set_cons_zero, List.set_cons_succ]
    refine till_take 13 (i := 9) (v := ?_) (some 26) rfl rfl (by kernel_rfl) (by kernel_rfl) (by kernel_rfl) (by kernel_rfl) (fun _ _ _ h => h) (Or.inl ⟨by rfl, ?_⟩) (by assumption) (fun hHeld2 => ?_)
    rotate_left
    · intro w hSw
      obtain ⟨hSb, z0, z1, z2, z3⟩ := twoC_one hSw
      first | (go_simp; done) | (go_simp; with_reducible rfl)
    clear hHeld
    have hHeld := hHeld2
    clear hHeld2
    try simp only [Act.put, List.setIfInBounds_toArray, List.set_cons_zero, List.set_cons_succ]
    refine till_take 13 (i := 10) (v := ?_) (some 27) rfl rfl (by kernel_rfl) (by kernel_rfl) (by kernel_rfl) (by kernel_rfl) (fun _ _ _ h => h) (Or.inl ⟨by rfl, ?_⟩) (by assumption) (fun hHeld2 => ?_)
    rotate_left
    · intro w hSw
      obtain ⟨hSb, z0, z1, z2, z3⟩ := twoC_one hSw
      first | (go_simp; done) | (go_simp; with_reducible rfl)
    clear hHeld
    have hHeld := hHeld2
    clear hHeld2
    try simp only [Act.put, List.setIfInBounds_toArray, List.set_cons_zero, List.set_cons_succ]
    refine till_take 13 (i := 12) (v := ?_) (some 29) rfl rfl (by kernel_rfl) (by kernel_rfl) (by kernel_rfl) (by kernel_rfl) (fun _ _ _ h => h) (Or.inl ⟨by rfl, ?_⟩) (by assumption) (fun hHeld2 => ?_)
    rotate_left
    · intro w hSw
      obtain ⟨hSb, z0, z1, z2, z3⟩ := twoC_one hSw
      first | (go_simp; done) | (go_simp; with_reducible rfl)
    clear hHeld
    have hHeld := hHeld2
    clear hHeld2
    try simp only [Act.put, List.setIfInBounds_toArray, List.set_cons_zero, List.set_cons_succ]
    refine till_ready (rs := [8]) (by kernel_rfl) (by simp) ?_
    refine AllTill.cons rfl (fun K hK => ?_) AllTill.nil
    go_simp
    refine (unhide HC4).mono ?_
    rintro e w5 ⟨A5, n5, c5, rfl, hM5, hb5⟩
    have b5 : Below wc.heap.size wc w5 := below_on (Below.refl _ _).drew hb5
    have HM5 := Lib.hid hM5
    have HB5 := Lib.hid b5
    have HC5 := hide (cut_mine w5 (.slice B4 m4 k4) (f.take 520) 491 491 rfl (HY2.out.along b5) (by omega))
    clear hM5 b5 hb5 HC4
    refine hK.out _ _ ?_ (fun hHeld2 => ?_)
    · exact held_two (fun _ => HSA.out _ HB5.out) (fun _ => HSB.out _ HB5.out)
    clear hK K
    clear hHeld
    have hHeld := hHeld2
    clear hHeld2
    try simp only [Act.put, List.setIfInBounds_toArray, List.set_cons_zero, List.set_cons_succ]
    refine till_ready (rs := [11]) (by kernel_rfl) (by simp) ?_
    refine AllTill.cons rfl (fun K hK => ?_) AllTill.nil
    go_simp
    refine (unhide HC5).mono ?_
    rintro e w6 ⟨A6, n6, c6, rfl, hM6, hb6⟩
    have b6 : Below wc.heap.size wc w6 := below_on HB5.out hb6
    have HM56 := Lib.hid (HM5.out.below hb6)
    have HM6 := Lib.hid hM6
    have HB6 := Lib.hid b6
    have g16 := (b6.block w.heap.size (by omega)).trans HG41.out
    have g26 := (b6.block (w.heap.size + 1) (by omega)).trans HG42.out
    obtain ⟨u0, u1, u2, u3, u4, v0, v1, v2, v3, v4⟩ := box_facts g16
    obtain ⟨z0, z1, z2, z3, z4, o0, o1, o2, o3, o4⟩ := box_facts g26
    have HG16 := Lib.hid g16
    have HG26 := Lib.hid g26
    have hs5 := HB5.out.size
    clear hM6 b6 hb6 HC5 g16 g26
    refine hK.out _ _ ?_ (fun hHeld2 => ?_)
    · exact held_two (fun _ => HSA.out _ HB6.out) (fun _ => HSB.out _ HB6.out)
    clear hK K
    clear hHeld
    have hHeld := hHeld2
    clear hHeld2
    try simp only [Act.put, List.setIfInBounds_toArray, List.set_cons_zero, List.set_cons_succ]
    refine till_ready (rs := [13]) (by kernel_rfl) (by simp) ?_
    refine AllTill.cons rfl (fun K hK => ?_) AllTill.nil
    go_simp
    refine hK.out _ _ ?_ (fun hHeld2 => ?_)
    · exact held_two (fun h => by cases h) (fun _ => by show World.cell? _ _ = _; go_simp)
    clear hK K
    clear hHeld
    have hHeld := hHeld2
    clear hHeld2
    try simp only [Act.put, List.setIfInBounds_toArray, List.set_cons_zero, List.set_cons_succ]
    refine till_take 15 (i := 14) (v := ?_) (some 30) rfl rfl (by kernel_rfl) (by kernel_rfl) (by kernel_rfl) (by kernel_rfl) (fun _ _ _ h => h) (Or.inl ⟨by rfl, ?_⟩) (by assumption) (fun hHeld2 => ?_)
    rotate_left
    · intro w hSw
      have z4 := twoC_two hSw
      first | (go_simp; done) | (go_simp; with_reducible rfl)
    clear hHeld
    have hHeld := hHeld2
    clear hHeld2
    try simp only [Act.put, List.setIfInBounds_toArray, List.set_cons_zero, List.set_cons_succ]
    refine till_ready (rs := [15]) (by kernel_rfl) (by simp) ?_
    refine AllTill.cons rfl (fun K hK => ?_) AllTill.nil
    go_simp
    refine hK.out _ _ ?_ (fun hHeld2 => ?_)
    · exact held_two (fun h => by cases h) (fun h => by cases h)
    clear hK K
    clear hHeld
    have hHeld := hHeld2
    clear hHeld2
    try simp only [Act.put, List.setIfInBounds_toArray, List.set_cons_zero, List.set_cons_succ]
    refine till_take 17 (i := 16) (v := ?_) (some 31) rfl rfl (by kernel_rfl) (by kernel_rfl) (by kernel_rfl) (by kernel_rfl) (fun _ _ _ h => h) (Or.inl ⟨by rfl, ?_⟩) (by assumption) (fun hHeld2 => ?_)
    rotate_left
    · intro w hSw
      skip
      first | (go_simp; done) | (go_simp; with_reducible rfl)
    clear hHeld
    have hHeld := hHeld2
    clear hHeld2
    try simp only [Act.put, List.setIfInBounds_toArray, List.set_cons_zero, List.set_cons_succ]
    refine till_ready (rs := [17]) (by kernel_rfl) (by simp) ?_
    refine AllTill.cons rfl (fun K hK => ?_) AllTill.nil
    go_simp
    refine hK.out _ _ ?_ (fun hHeld2 => ?_)
    · exact held_two (fun h => by cases h) (fun h => by cases h)
    clear hK K
    clear hHeld
    have hHeld := hHeld2
    clear hHeld2
    try simp only [Act.put, List.setIfInBounds_toArray, List.set_cons_zero, List.set_cons_succ]
    refine till_take 19 (i := 18) (v := ?_) (some 32) rfl rfl (by kernel_rfl) (by kernel_rfl) (by kernel_rfl) (by kernel_rfl) (fun _ _ _ h => h) (Or.inl ⟨by rfl, ?_⟩) (by assumption) (fun hHeld2 => ?_)
    rotate_left
    · intro w hSw
      skip
      first | (go_simp; done) | (go_simp; with_reducible rfl)
    clear hHeld
    have hHeld := hHeld2
    clear hHeld2
    try simp only [Act.put, List.setIfInBounds_toArray, List.set_cons_zero, List.set_cons_succ]
    refine till_ready (rs := [19]) (by kernel_rfl) (by simp) ?_
    refine AllTill.cons rfl (fun K hK => ?_) AllTill.nil
    go_simp
    refine hK.out _ _ ?_ (fun hHeld2 => ?_)
    · exact held_two (fun h => by cases h) (fun h => by cases h)
    clear hK K
    clear hHeld
    have hHeld := hHeld2
    clear hHeld2
    try simp only [Act.put, List.setIfInBounds_toArray, List.set_cons_zero, List.set_cons_succ]
    refine till_done (by kernel_rfl) ?_ _
    refine NoPanic.normal ?_
    go_wp2_with fail
    go_meet
    exact boxes_four HM56.out HM6.out (by omega) HG16.out HG26.out ⟨by show w.heap.size < wc.heap.size; omega, by omega⟩ ⟨by show w.heap.size + 1 < wc.heap.size; omega, by omega⟩ (HBC.out.trans (HB6.out.mono HBC.out.size)) (Nat.le_refl _) (by omega)
  case rest =>
  clear HSA HSB HC4 HG41 HG42 HY2 HBC hm1 hm2 hlt
  obtain ⟨A7, n7, c7, B7, m7, k7, hg1, hg2, hy1, hy2, hbc⟩ := hcut
  obtain ⟨D, hD⟩ : ∃ D, D = (d.take 520).take 491 := ⟨_, rfl⟩
  obtain ⟨F, hF⟩ : ∃ F, F = (f.take 520).take 491 := ⟨_, rfl⟩
  rw [← hD] at hy1
  rw [← hF] at hy2
  have HDL : Hid (D.length ≤ 491) := by
    show D.length ≤ 491
    rw [hD, List.length_take]; omega
  have HFL : Hid (F.length ≤ 491) := by
    show F.length ≤ 491
    rw [hF, List.length_take]; omega
  obtain ⟨X, hX⟩ : ∃ X, X = orOne x3 := ⟨_, rfl⟩
  obtain ⟨Y, hY⟩ : ∃ Y, Y = orOne y3 := ⟨_, rfl⟩
  have HXG : Hid (0 < X ∧ X < 256) := by
    show 0 < X ∧ X < 256
    rw [hX]; exact orOne_good HX.out.2.2.2
  have HYG : Hid (0 < Y ∧ Y < 256) := by
    show 0 < Y ∧ Y < 256
    rw [hY]; exact orOne_good HYY.out.2.2.2
  rw [← hX] at hg1
  rw [← hY] at hg2
  clear hD hF hX hY
  have hn7 : n7 ≤ 491 := by
    obtain ⟨⟨A1, c1, hv, _⟩, _, _⟩ := id hy1
    injection hv with _ h _
    rw [h]; exact HDL.out
  have hm7 : m7 ≤ 491 := by
    obtain ⟨⟨A1, c1, hv, _⟩, _, _⟩ := id hy2
    injection hv with _ h _
    rw [h]; exact HFL.out
  obtain ⟨q0, q1, q2, q3, q4, r0, r1, r2, r3, r4⟩ := box_facts hg1
  obtain ⟨s0, s1, s2, s3, s4, t0, t1, t2, t3, t4⟩ := box_facts hg2
  have hlt : w.heap.size + 1 < wc.heap.size := by
    rcases Nat.lt_or_ge (w.heap.size + 1) wc.heap.size with h | h
    · exact h
    · rw [Array.getElem?_eq_none h] at hg2; cases hg2
  have HC6 := hide (bytes_good wc x0 x1 x2 X A7 n7 c7 D HX.out.1 HX.out.2.1 HX.out.2.2.1 HXG.out hy1 hn7)
  rw [show pg x0 x1 x2 X D ++ le4 (crc (pg x0 x1 x2 X D)) = page x0 x1 x2 X D from rfl] at HC6
  have HG71 := Lib.hid hg1
  have HG72 := Lib.hid hg2
  have HY71 := Lib.hid hy1
  have HY72 := Lib.hid hy2
  have HBC := Lib.hid hbc
  clear hg1 hg2 hy1 hy2 hbc
  go_wp2_with (first
    | (go_at_call 9; (with_reducible refine (unhide HC6).mono ?_); rintro e w8 ⟨A8, n8, c8, rfl, hM8, hb8⟩; go_loud (
       have g18 := (hb8.block w.heap.size (by omega)).trans HG71.out;
       have g28 := (hb8.block (w.heap.size + 1) hlt).trans HG72.out;
       obtain ⟨b0, b1, b2, b3, b4, -, -, -, -, -⟩ := box_facts g28;
       have HM8 := Lib.hid hM8;
       have HB8 := Lib.hid hb8;
       have HC7 := hide (bytes_good w8 y0 y1 y2 Y B7 m7 k7 F HYY.out.1 HYY.out.2.1 HYY.out.2.2.1 HYG.out (HY72.out.along hb8) hm7);
       rw [show pg y0 y1 y2 Y F ++ le4 (crc (pg y0 y1 y2 Y F)) = page y0 y1 y2 Y F from rfl] at HC7;
       have HG18 := Lib.hid g18; have HG28 := Lib.hid g28;
       have hs8 := hb8.size;
       clear hM8 hb8 g18 g28))
    | (go_at_call 9; (with_reducible refine (unhide HC7).mono ?_); rintro e w9 ⟨A9, n9, c9, rfl, hM9, hb9⟩; go_loud (
       have HM9 := Lib.hid hM9;
       have HM89 := Lib.hid (HM8.out.below hb9);
       have HM9X := Lib.hid hb9;
       have b9 := HB8.out.trans (hb9.mono HB8.out.size);
       have HB9 := Lib.hid b9;
       have HC8 := hide (parse_page w9 A8 n8 c8 x0 x1 x2 X D HX.out.1 HX.out.2.1 HX.out.2.2.1 HXG.out.1 HDL.out HM89.out.bytes);
       have hs9 := hb9.size;
       clear hM9 hb9 b9))
    | (go_at_call 10; (with_reducible refine (unhide HC8).mono ?_); rintro e w10 ⟨A10, n10, c10, rfl, hM10, hb10⟩; go_loud (
       have HM10 := Lib.hid hM10;
       have HB10 := Lib.hid hb10;
       have hs10 := hb10.size;
       clear hM10 hb10)))
  obtain ⟨wz, hwz⟩ : ∃ wz, wz = w10.alloc (.cells #[.int .u32 (x0 : Int), .int .u32 (x1 : Int), .int .u32 (x2 : Int), .int .u8 (X : Int), .slice A10 n10 c10] 25) := ⟨_, rfl⟩
  have hz10 : Below w10.heap.size w10 wz := by rw [hwz]; exact (Below.refl _ _).alloc (Nat.le_refl _) _
  have hzb : wz.heap[w10.heap.size]? = some (.cells #[.int .u32 (x0 : Int), .int .u32 (x1 : Int), .int .u32 (x2 : Int), .int .u8 (X : Int), .slice A10 n10 c10] 25 (0, 0)) := by rw [hwz]; exact Go.heap_alloc_new w10 _
  have hzl : w10.heap.size < wz.heap.size := by rw [hwz]; simp
  rw [← hwz]
  clear hwz
  have hz8 : Below w8.heap.size w8 wz := (Below.trans (HM9X.out) ((HB10.out.trans (hz10.mono HB10.out.size)).mono HM9X.out.size))
  have hzw : Below w.heap.size w wz := HBC.out.trans ((HB8.out.trans (hz8.mono HB8.out.size)).mono HBC.out.size)
  have hy1z := HY71.out.along (HB8.out.trans (hz8.mono HB8.out.size))
  have hy2z := HY72.out.along (HB8.out.trans (hz8.mono HB8.out.size))
  have hp8z : Bytes wz wz.heap.size (.slice A8 n8 c8) (page x0 x1 x2 X D) := (HM89.out.below (HB10.out.trans (hz10.mono HB10.out.size))).bytes
  have hp9z : Bytes wz wz.heap.size (.slice A9 n9 c9) (page y0 y1 y2 Y F) := (HM9.out.below (HB10.out.trans (hz10.mono HB10.out.size))).bytes
  have hxz : Bytes wz wz.heap.size (.slice A10 n10 c10) D := (HM10.out.below hz10).bytes
  have HSB : Hid (∀ x : World, Below wz.heap.size wz x → x.cell? ⟨w10.heap.size, 0, none⟩ = some (.int .u32 (x0 : Int)) ∧ x.cell? ⟨w10.heap.size, 1, none⟩ = some (.int .u32 (x1 : Int)) ∧ x.cell? ⟨w10.heap.size, 2, none⟩ = some (.int .u32 (x2 : Int)) ∧ x.cell? ⟨w10.heap.size, 3, none⟩ = some (.int .u8 (X : Int)) ∧ x.cell? ⟨w10.heap.size, 4, none⟩ = some (.slice A10 n10 c10) ∧ x.cell? ⟨w.heap.size, 0, none⟩ = some (.int .u32 (x0 : Int)) ∧ x.cell? ⟨w.heap.size, 1, none⟩ = some (.int .u32 (x1 : Int)) ∧ x.cell? ⟨w.heap.size, 2, none⟩ = some (.int .u32 (x2 : Int)) ∧ x.cell? ⟨w.heap.size, 3, none⟩ = some (.int .u8 (X : Int)) ∧ x.cell? ⟨w.heap.size, 4, none⟩ = some (.slice A7 n7 c7) ∧ x.cell? ⟨w.heap.size + 1, 0, none⟩ = some (.int .u32 (y0 : Int)) ∧ x.cell? ⟨w.heap.size + 1, 1, none⟩ = some (.int .u32 (y1 : Int)) ∧ x.cell? ⟨w.heap.size + 1, 2, none⟩ = some (.int .u32 (y2 : Int)) ∧ x.cell? ⟨w.heap.size + 1, 3, none⟩ = some (.int .u8 (Y : Int)) ∧ x.cell? ⟨w.heap.size + 1, 4, none⟩ = some (.slice B7 m7 k7) ∧ Below wz.heap.size wz x) := fun x hx => by
    obtain ⟨i0, i1, i2, i3, i4, -, -, -, -, -⟩ := box_facts ((hx.block w10.heap.size hzl).trans hzb)
    obtain ⟨k0, k1, k2, k3, k4, -, -, -, -, -⟩ := box_facts ((hx.block w.heap.size (by omega)).trans ((hz8.block w.heap.size (by omega)).trans HG18.out))
    obtain ⟨m0, m1, m2, m3, m4, -, -, -, -, -⟩ := box_facts ((hx.block (w.heap.size + 1) (by omega)).trans ((hz8.block (w.heap.size + 1) (by omega)).trans HG28.out))
    exact ⟨i0, i1, i2, i3, i4, k0, k1, k2, k3, k4, m0, m1, m2, m3, m4, hx⟩
  obtain ⟨r, hr⟩ : ∃ r, r = decide (x0 = y0 ∧ x1 = y1 ∧ x2 = y2 ∧ X = Y ∧ D = F) := ⟨_, rfl⟩
  have HC9 : Hid (∀ x, Below wz.heap.size wz x → Calls Try.prog 11 #[.agg #[.int .u32 (x0 : Int), .int .u32 (x1 : Int), .int .u32 (x2 : Int), .int .u8 (X : Int), .slice A10 n10 c10], .agg #[.int .u32 (x0 : Int), .int .u32 (x1 : Int), .int .u32 (x2 : Int), .int .u8 (X : Int), .slice A7 n7 c7]] x fun e w' => e = .returned (.bool true) ∧ Below x.heap.size x w') := fun x hx => by
    have h := same_page x x0 x1 x2 X x0 x1 x2 X A10 A7 n10 n7 c10 c7 D D (hxz.along hx) (hy1z.along hx)
    rw [decide_eq_true ⟨rfl, rfl, rfl, rfl, rfl⟩] at h
    exact h
  have HC10 : Hid (∀ x, Below wz.heap.size wz x → Calls Try.prog 11 #[.agg #[.int .u32 (x0 : Int), .int .u32 (x1 : Int), .int .u32 (x2 : Int), .int .u8 (X : Int), .slice A7 n7 c7], .agg #[.int .u32 (y0 : Int), .int .u32 (y1 : Int), .int .u32 (y2 : Int), .int .u8 (Y : Int), .slice B7 m7 k7]] x fun e w' => e = .returned (.bool r) ∧ Below x.heap.size x w') := fun x hx => by
    have h := same_page x x0 x1 x2 X y0 y1 y2 Y A7 B7 n7 m7 c7 k7 D F (hy1z.along hx) (hy2z.along hx)
    rw [← hr] at h
    exact h
  have HC11 : Hid (∀ x, Below wz.heap.size wz x → Calls Try.prog 12 #[.slice A8 n8 c8, .slice A9 n9 c9] x fun e w' => e = .returned (.bool r) ∧ Below x.heap.size x w') := fun x hx => by
    have h := same_any x (.slice A8 n8 c8) (.slice A9 n9 c9) _ _ (hp8z.along hx) (hp9z.along hx)
    rw [page_inj HDL.out HFL.out HX.out.1 HX.out.2.1 HX.out.2.2.1 HYY.out.1 HYY.out.2.1 HYY.out.2.2.1, ← hr] at h
    exact h.mono fun e w' ⟨h1, q, h2⟩ => ⟨h1, h2 ▸ below_drewN (Below.refl _ _) q⟩
  have HZW := Lib.hid hzw
  clear hr hz8 hy1z hy2z hp8z hp9z hxz hzb hz10 hzl hzw HC6 HC7 HC8 HG18 HG28 HG71 HG72 HY71 HY72 HM8 HM9 HM89 HM10 HB8 HB9 HB10 HM9X hn7 hm7 hlt hs8 hs9 hs10
  clear q0 q1 q2 q3 q4 r0 r1 r2 r3 r4 s0 s1 s2 s3 s4 t0 t1 t2 t3 t4 b0 b1 b2 b3 b4
  go_region_held3 (fun x => x.cell? ⟨w10.heap.size, 0, none⟩ = some (.int .u32 (x0 : Int)) ∧ x.cell? ⟨w10.heap.size, 1, none⟩ = some (.int .u32 (x1 : Int)) ∧ x.cell? ⟨w10.heap.size, 2, none⟩ = some (.int .u32 (x2 : Int)) ∧ x.cell? ⟨w10.heap.size, 3, none⟩ = some (.int .u8 (X : Int)) ∧ x.cell? ⟨w10.heap.size, 4, none⟩ = some (.slice A10 n10 c10) ∧ x.cell? ⟨w.heap.size, 0, none⟩ = some (.int .u32 (x0 : Int)) ∧ x.cell? ⟨w.heap.size, 1, none⟩ = some (.int .u32 (x1 : Int)) ∧ x.cell? ⟨w.heap.size, 2, none⟩ = some (.int .u32 (x2 : Int)) ∧ x.cell? ⟨w.heap.size, 3, none⟩ = some (.int .u8 (X : Int)) ∧ x.cell? ⟨w.heap.size, 4, none⟩ = some (.slice A7 n7 c7) ∧ x.cell? ⟨w.heap.size + 1, 0, none⟩ = some (.int .u32 (y0 : Int)) ∧ x.cell? ⟨w.heap.size + 1, 1, none⟩ = some (.int .u32 (y1 : Int)) ∧ x.cell? ⟨w.heap.size + 1, 2, none⟩ = some (.int .u32 (y2 : Int)) ∧ x.cell? ⟨w.heap.size + 1, 3, none⟩ = some (.int .u8 (Y : Int)) ∧ x.cell? ⟨w.heap.size + 1, 4, none⟩ = some (.slice B7 m7 k7) ∧ Below wz.heap.size wz x)
    (first
      | exact HSB.out _ (Below.refl _ _).drew
      | exact HSB.out _ (below_on (held_fif (by assumption)) (by assumption))
      | exact (by assumption))
    ((first
      | ((go_at_call 11)
         (first
          | (with_reducible refine (HC9.out _ (held_fif (by assumption))).mono ?_)
          | (with_reducible refine (HC10.out _ (held_fif (by assumption))).mono ?_))
         rintro e w' ⟨rfl, hb'⟩)
      | ((go_at_call 12)
         (with_reducible refine (HC11.out _ (held_fif (by assumption))).mono ?_)
         rintro e w' ⟨rfl, hb'⟩)))
  all_goals
    have hfin := held_fif (by assumption)
    go_wp2_with fail
    go_ret
    exact ⟨rfl, HZW.out.trans (hfin.mono HZW.out.size)⟩
end Go.Proofs.Ytkdbplfphhfeaaa
