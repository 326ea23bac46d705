/- The walk of the law PageSame: it answers true for every two pages, and writes nothing that was there. -/
import Derived.Test.YtkdbplfphhfeaaaFew
import Derived.Deep.DeepCutAuto
namespace Go.Proofs.Ytkdbplfphhfeaaa
open Go.RowKit
set_option linter.unusedSimpArgs false
set_option linter.unusedVariables false

/-- Both pages in their boxes, each with data that aren't too great. -/
def Boxes (w : World) (g h : Nat) (x0 x1 x2 x3 y0 y1 y2 y3 : Nat) (d f : List Nat) (wx : World) : Prop :=
  ∃ A n c B m k, wx.heap[g]? = some (.cells #[.int .u32 (x0 : Int), .int .u32 (x1 : Int), .int .u32 (x2 : Int), .int .u8 (x3 : Int), .slice A n c] 25 (0, 0)) ∧
    wx.heap[h]? = some (.cells #[.int .u32 (y0 : Int), .int .u32 (y1 : Int), .int .u32 (y2 : Int), .int .u8 (y3 : Int), .slice B m k] 25 (0, 0)) ∧
    Bytes wx wx.heap.size (.slice A n c) d ∧ Bytes wx wx.heap.size (.slice B m k) f ∧ Below w.heap.size w wx
theorem below_boxes (w : World) (o o2 : Obj) {x : World} (h : Below ((w.alloc o).alloc o2).heap.size ((w.alloc o).alloc o2) x) : Below w.heap.size w x ∧ x.heap[w.heap.size]? = some o ∧ x.heap[w.heap.size + 1]? = some o2 ∧ w.heap.size + 1 < x.heap.size := by
  have hs : ((w.alloc o).alloc o2).heap.size = w.heap.size + 2 := by simp
  have h2 := h.size
  exact ⟨(below_two (w := w)).trans (h.mono (by omega)), (h.block _ (by omega)).trans ((Go.heap_alloc_old _ _ (by simp)).trans (Go.heap_alloc_new w _)), (h.block _ (by omega)).trans (Go.heap_alloc2_new w _ _), by omega⟩

theorem held_ten {A0 A1 A2 A3 A4 A5 A6 A7 A8 A9 P : Prop} (h : A0 ∧ A1 ∧ A2 ∧ A3 ∧ A4 ∧ A5 ∧ A6 ∧ A7 ∧ A8 ∧ A9 ∧ P) : P := h.2.2.2.2.2.2.2.2.2.2
theorem set_box {w : World} {g : Nat} {u0 u1 u2 u3 u4 v0 v1 v2 v3 v4 : Value} (h : w.heap[g]? = some (.cells #[u0, u1, u2, u3, u4] 25 (0, 0))) :
    (((((w.setCell ⟨g, 0, none⟩ v0).setCell ⟨g, 1, none⟩ v1).setCell ⟨g, 2, none⟩ v2).setCell ⟨g, 3, none⟩ v3).setCell ⟨g, 4, none⟩ v4).heap[g]? = some (.cells #[v0, v1, v2, v3, v4] 25 (0, 0)) := by
  rw [heap_setCell_same _ g 4 _ _ _ (heap_setCell_same _ g 3 _ _ _ (heap_setCell_same _ g 2 _ _ _ (heap_setCell_same _ g 1 _ _ _ (heap_setCell_same _ g 0 _ _ _ h))))]
  rfl
theorem set_box_other {w : World} {g k : Nat} {v0 v1 v2 v3 v4 : Value} (h : k ≠ g) :
    (((((w.setCell ⟨g, 0, none⟩ v0).setCell ⟨g, 1, none⟩ v1).setCell ⟨g, 2, none⟩ v2).setCell ⟨g, 3, none⟩ v3).setCell ⟨g, 4, none⟩ v4).heap[k]? = w.heap[k]? := by
  rw [heap_setCell_other _ ⟨g, 4, none⟩ k _ h, heap_setCell_other _ ⟨g, 3, none⟩ k _ h, heap_setCell_other _ ⟨g, 2, none⟩ k _ h, heap_setCell_other _ ⟨g, 1, none⟩ k _ h, heap_setCell_other _ ⟨g, 0, none⟩ k _ h]
theorem boxes_end {w w3 : World} {g h base base2 n c m k : Nat} {A B : Option Addr} {x0 x1 x2 x3 y0 y1 y2 y3 : Nat} {d f : List Nat} {o p : Array Value} (hA : Mine w3 base A n c d) (hB : Mine w3 base2 B m k f) (hne : g ≠ h) (ho : ∃ u0 u1 u2 u3 u4, o = #[u0, u1, u2, u3, u4]) (hp : ∃ u0 u1 u2 u3 u4, p = #[u0, u1, u2, u3, u4])
    (hg : w3.heap[g]? = some (.cells o 25 (0, 0))) (hh : w3.heap[h]? = some (.cells p 25 (0, 0))) (g1 : g < base ∧ g < base2) (h1 : h < base ∧ h < base2) (hb : Below w.heap.size w w3) (hgw : w.heap.size ≤ g) (hhw : w.heap.size ≤ h) :
    Boxes w g h x0 x1 x2 x3 y0 y1 y2 y3 d f ((((((((((w3.setCell ⟨g, 0, none⟩ (.int .u32 (x0 : Int))).setCell ⟨g, 1, none⟩ (.int .u32 (x1 : Int))).setCell ⟨g, 2, none⟩ (.int .u32 (x2 : Int))).setCell ⟨g, 3, none⟩ (.int .u8 (x3 : Int))).setCell ⟨g, 4, none⟩ (.slice A n c)).setCell
      ⟨h, 0, none⟩ (.int .u32 (y0 : Int))).setCell ⟨h, 1, none⟩ (.int .u32 (y1 : Int))).setCell ⟨h, 2, none⟩ (.int .u32 (y2 : Int))).setCell ⟨h, 3, none⟩ (.int .u8 (y3 : Int))).setCell ⟨h, 4, none⟩ (.slice B m k)) := by
  obtain ⟨u0, u1, u2, u3, u4, rfl⟩ := ho
  obtain ⟨t0, t1, t2, t3, t4, rfl⟩ := hp
  refine ⟨A, n, c, B, m, k, ?_, ?_, (mine_five (mine_five hA g1.1) h1.1).bytes, (mine_five (mine_five hB g1.2) h1.2).bytes, below_five (below_five hb hgw) hhw⟩
  · rw [set_box_other hne]
    exact set_box hg
  · refine set_box (u0 := t0) (u1 := t1) (u2 := t2) (u3 := t3) (u4 := t4) ?_
    rw [set_box_other (Ne.symm hne)]
    exact hh
set_option maxRecDepth 100000 in
set_option maxHeartbeats 4000000 in
theorem pageSame_core (w : World) (x0 x1 x2 x3 y0 y1 y2 y3 : Nat) (A B : Option Addr) (n c m k : Nat) (d f : List Nat) (hp : Bytes w w.heap.size (.slice A n c) d) (hq : Bytes w w.heap.size (.slice B m k) f) :
    Calls Try.prog 5 #[.agg #[.int .u32 (x0 : Int), .int .u32 (x1 : Int), .int .u32 (x2 : Int), .int .u8 (x3 : Int), .slice A n c], .agg #[.int .u32 (y0 : Int), .int .u32 (y1 : Int), .int .u32 (y2 : Int), .int .u8 (y3 : Int), .slice B m k]] w fun e w' => e = .returned (.bool true) ∧ Below w.heap.size w w' := by
  have HA := fun o o2 => hide (awake_any ((w.alloc o).alloc o2))
  have HP := Lib.hid hp
  have HQ := Lib.hid hq
  clear hp hq
  go_enter Try.func5, Try.ntmps5
  go_wp2_with (first
    | (go_at_call 6; (with_reducible refine (unhide (HA _ _)).mono ?_); rintro e w1 ⟨rfl, hw1⟩))
  obtain ⟨b1, g1, g2, l1⟩ := below_boxes w _ _ hw1
  obtain ⟨a0, a1, a2, a3, a4, e0, e1, e2, e3, e4⟩ := box_facts g1
  obtain ⟨c0, c1, c2, c3, c4, f0, f1, f2, f3, f4⟩ := box_facts g2
  have HC1 := hide (few_any w1.drew (x0 : Int) (x1 : Int) (x2 : Int) (x3 : Int) A n c d ((HP.out.along b1).quiet 1))
  have HC1' := hide (few_any w1.drew (y0 : Int) (y1 : Int) (y2 : Int) (y3 : Int) B m k f ((HQ.out.along b1).quiet 1))
  have HB1 := Lib.hid b1
  have HG1 := Lib.hid g1
  have HG2 := Lib.hid g2
  have hd1 : Below w1.heap.size w1 w1.drew := (Below.refl _ _).drew
  clear b1 g1 g2 hw1 HA
  go_cut [] (fun wx => Boxes w w.heap.size (w.heap.size + 1) x0 x1 x2 x3 y0 y1 y2 y3 (d.take 520) (f.take 520) wx)
  case first =>
    go_region_law (first
      | (go_simp; go_at_call 7; (with_reducible refine (unhide HC1).mono ?_); rintro e w2 ⟨A2, n2, c2', rfl, hM2, hb2⟩;
         (have b2 := below_on hd1 hb2; have h1 := HG1.out; have h2 := HG2.out;
          have g12 := (b2.block w.heap.size (by omega)).trans h1; have g22 := (b2.block (w.heap.size + 1) (by omega)).trans h2;
          obtain ⟨k0, k1, k2, k3, k4, -, -, -, -, -⟩ := box_facts g12;
          obtain ⟨m0, m1, m2, m3, m4, -, -, -, -, -⟩ := box_facts g22;
          have HG12 := Lib.hid g12; have HG22 := Lib.hid g22; have HM2 := Lib.hid hM2; have HB2 := Lib.hid b2;
          have HC2 := hide (few_any w2 (y0 : Int) (y1 : Int) (y2 : Int) (y3 : Int) B m k f (HQ.out.along (HB1.out.trans (b2.mono HB1.out.size))));
          clear b2 h1 h2 g12 g22 hM2 hb2))
      | (go_simp; go_at_call 7; (with_reducible refine (unhide HC2).mono ?_); rintro e w3 ⟨A3, n3, c3', rfl, hM3, hb3⟩;
         (have hs2 := HB2.out.size;
          have g13 := (hb3.block w.heap.size (by omega)).trans HG12.out; have g23 := (hb3.block (w.heap.size + 1) (by omega)).trans HG22.out;
          obtain ⟨r0, r1, r2, r3, r4, q0, q1, q2, q3, q4⟩ := box_facts g13;
          obtain ⟨s0, s1, s2, s3, s4, t0, t1, t2, t3, t4⟩ := box_facts g23;
          have HG13 := Lib.hid g13; have HG23 := Lib.hid g23; have HM3 := Lib.hid hM3; have HM23 := Lib.hid (HM2.out.below hb3); have HB3 := Lib.hid (HB1.out.trans ((below_on HB2.out hb3).mono HB1.out.size));
          clear hM3 hb3 g13 g23)))
    all_goals
      go_wp2_with fail
      go_meet
      exact boxes_end HM23.out HM3.out (by omega) ⟨_, _, _, _, _, rfl⟩ ⟨_, _, _, _, _, rfl⟩ HG13.out HG23.out ⟨by show w.heap.size < w1.heap.size; omega, by omega⟩ ⟨by show w.heap.size + 1 < w1.heap.size; omega, by omega⟩ HB3.out (Nat.le_refl _) (by omega)
  case rest =>
  obtain ⟨A4, n4, c4', B4, m4, k4, hg1, hg2, hy1, hy2, hbc⟩ := hcut
  obtain ⟨d', hd'⟩ : ∃ d', d' = d.take 520 := ⟨_, rfl⟩
  obtain ⟨f', hf'⟩ : ∃ f', f' = f.take 520 := ⟨_, rfl⟩
  rw [← hd'] at hy1
  rw [← hf'] at hy2
  obtain ⟨r, hr⟩ : ∃ r, r = decide (x0 = y0 ∧ x1 = y1 ∧ x2 = y2 ∧ x3 = y3 ∧ d' = f') := ⟨_, rfl⟩
  have HS1 := Lib.hid (fun x (hx : Below wc.heap.size wc x) => same_page x x0 x1 x2 x3 y0 y1 y2 y3 A4 B4 n4 m4 c4' k4 d' f' (hy1.along hx) (hy2.along hx))
  have HS2 := Lib.hid (fun x (hx : Below wc.heap.size wc x) => same_page x x0 x1 x2 x3 x0 x1 x2 x3 A4 A4 n4 n4 c4' c4' d' d' (hy1.along hx) (hy1.along hx))
  have HL := Lib.hid (fun x (hx : Below wc.heap.size wc x) => like_any x x0 x1 x2 x3 y0 y1 y2 y3 A4 B4 n4 m4 c4' k4 d' f' (hy1.along hx) (hy2.along hx))
  rw [← hr] at HS1 HL
  rw [decide_eq_true ⟨rfl, rfl, rfl, rfl, rfl⟩] at HS2
  have hlt : w.heap.size + 1 < wc.heap.size := by
    rcases Nat.lt_or_ge (w.heap.size + 1) wc.heap.size with h | h
    · exact h
    · rw [Array.getElem?_eq_none h] at hg2; cases hg2
  have HSB : Hid (∀ x : World, Below wc.heap.size wc x → x.cell? ⟨w.heap.size, 0, none⟩ = some (.int .u32 (x0 : Int)) ∧ x.cell? ⟨w.heap.size, 1, none⟩ = some (.int .u32 (x1 : Int)) ∧ x.cell? ⟨w.heap.size, 2, none⟩ = some (.int .u32 (x2 : Int)) ∧ x.cell? ⟨w.heap.size, 3, none⟩ = some (.int .u8 (x3 : Int)) ∧ x.cell? ⟨w.heap.size, 4, none⟩ = some (.slice A4 n4 c4') ∧
      x.cell? ⟨w.heap.size + 1, 0, none⟩ = some (.int .u32 (y0 : Int)) ∧ x.cell? ⟨w.heap.size + 1, 1, none⟩ = some (.int .u32 (y1 : Int)) ∧ x.cell? ⟨w.heap.size + 1, 2, none⟩ = some (.int .u32 (y2 : Int)) ∧ x.cell? ⟨w.heap.size + 1, 3, none⟩ = some (.int .u8 (y3 : Int)) ∧ x.cell? ⟨w.heap.size + 1, 4, none⟩ = some (.slice B4 m4 k4) ∧ Below wc.heap.size wc x) := fun x hx => by
    obtain ⟨k0, k1, k2, k3, k4, -, -, -, -, -⟩ := box_facts ((hx.block w.heap.size (by omega)).trans hg1)
    obtain ⟨m0, m1, m2, m3, m4, -, -, -, -, -⟩ := box_facts ((hx.block (w.heap.size + 1) (by omega)).trans hg2)
    exact ⟨k0, k1, k2, k3, k4, m0, m1, m2, m3, m4, hx⟩
  have HBC := Lib.hid hbc
  clear hg1 hg2 hy1 hy2 hbc hr hd' hf' HC1 HC1' HB1 HG1 HG2 a0 a1 a2 a3 a4 e0 e1 e2 e3 e4 c0 c1 c2 c3 c4 f0 f1 f2 f3 f4
  go_wp2
  go_region_held3 (fun x => x.cell? ⟨w.heap.size, 0, none⟩ = some (.int .u32 (x0 : Int)) ∧ x.cell? ⟨w.heap.size, 1, none⟩ = some (.int .u32 (x1 : Int)) ∧ x.cell? ⟨w.heap.size, 2, none⟩ = some (.int .u32 (x2 : Int)) ∧ x.cell? ⟨w.heap.size, 3, none⟩ = some (.int .u8 (x3 : Int)) ∧ x.cell? ⟨w.heap.size, 4, none⟩ = some (.slice A4 n4 c4') ∧
      x.cell? ⟨w.heap.size + 1, 0, none⟩ = some (.int .u32 (y0 : Int)) ∧ x.cell? ⟨w.heap.size + 1, 1, none⟩ = some (.int .u32 (y1 : Int)) ∧ x.cell? ⟨w.heap.size + 1, 2, none⟩ = some (.int .u32 (y2 : Int)) ∧ x.cell? ⟨w.heap.size + 1, 3, none⟩ = some (.int .u8 (y3 : Int)) ∧ x.cell? ⟨w.heap.size + 1, 4, none⟩ = some (.slice B4 m4 k4) ∧ Below wc.heap.size wc x)
    (first
      | exact HSB.out _ (Below.refl _ _).drew
      | exact HSB.out _ (Below.refl _ _).drew.drew
      | exact HSB.out _ (below_on (held_ten (by assumption)) (by assumption))
      | exact (by assumption))
    ((first
      | ((go_at_call 11)
         (first
          | (with_reducible refine (HS1.out _ (held_ten (by assumption))).mono ?_)
          | (with_reducible refine (HS2.out _ (held_ten (by assumption))).mono ?_))
         rintro e w' ⟨rfl, hb'⟩)
      | ((go_at_call 15)
         (with_reducible refine (own_any _ _ _ _ _ _ _ _).mono ?_)
         rintro e w' ⟨rfl, hb'⟩)
      | ((go_at_call 14)
         (with_reducible refine (HL.out _ (held_ten (by assumption))).mono ?_)
         rintro e w' ⟨rfl, hb'⟩)))
  go_wp2
  go_ret
  exact ⟨rfl, HBC.out.trans (Below.mono (held_ten (by assumption)) HBC.out.size)⟩
end Go.Proofs.Ytkdbplfphhfeaaa
