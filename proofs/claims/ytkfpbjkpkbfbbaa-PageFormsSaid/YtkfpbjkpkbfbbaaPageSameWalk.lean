/- The walk of the law PageSame: it answers true for every two pages, and writes nothing that was there. -/
import Derived.Test.YtkfpbjkpkbfbbaaFew
import Derived.Deep.DeepCutAuto
namespace Go.Proofs.Ytkfpbjkpkbfbbaa
open Go.RowKit
set_option linter.unusedSimpArgs false
set_option linter.unusedVariables false

/-- Both pages in their boxes, each with data that aren't too great. -/
def Boxes (w : World) (g h : Nat) (x0 x1 x2 x3 y0 y1 y2 y3 : Nat) (d f : List Nat) (wx : World) : Prop :=
  ∃ A n c B m k, wx.heap[g]? = some (.cells #[.int .u32 (x0 : Int), .int .u32 (x1 : Int), .int .u32 (x2 : Int), .int .u8 (x3 : Int), .slice A n c] 25 (0, 0)) ∧
    wx.heap[h]? = some (.cells #[.int .u32 (y0 : Int), .int .u32 (y1 : Int), .int .u32 (y2 : Int), .int .u8 (y3 : Int), .slice B m k] 25 (0, 0)) ∧
    Bytes wx wx.heap.size (.slice A n c) d ∧ Bytes wx wx.heap.size (.slice B m k) f ∧ Below w.heap.size w wx
theorem below_boxes (w : World) (o o2 : Obj) {x : World} (h : Below ((w.alloc o).alloc o2).heap.size ((w.alloc o).alloc o2) x) : Below w.heap.size w x ∧ x.heap[w.heap.size]? = some o ∧ x.heap[w.heap.size + 1]? = some o2 ∧ w.heap.size + 1 < x.heap.size := by
  have hs : ((w.alloc o).alloc o2).heap.size = w.heap.size + 2 := by simp
  have h2 := h.size
  exact ⟨(below_two (w := w)).trans (h.mono (by omega)), (h.block _ (by omega)).trans ((Go.heap_alloc_old _ _ (by simp)).trans (Go.heap_alloc_new w _)), (h.block _ (by omega)).trans (Go.heap_alloc2_new w _ _), by omega⟩

theorem held_ten {A0 A1 A2 A3 A4 A5 A6 A7 A8 A9 P : Prop} (h : A0 ∧ A1 ∧ A2 ∧ A3 ∧ A4 ∧ A5 ∧ A6 ∧ A7 ∧ A8 ∧ A9 ∧ P) : P := h.2.2.2.2.2.2.2.2.2.2
theorem set_box {w : World} {g : Nat} {u0 u1 u2 u3 u4 v0 v1 v2 v3 v4 : Value} (h : w.heap[g]? = some (.cells #[u0, u1, u2, u3, u4] 25 (0, 0))) :
    (((((w.setCell ⟨g, 0, none⟩ v0).setCell ⟨g, 1, none⟩ v1).setCell ⟨g, 2, none⟩ v2).setCell ⟨g, 3, none⟩ v3).setCell ⟨g, 4, none⟩ v4).heap[g]? = some (.cells #[v0, v1, v2, v3, v4] 25 (0, 0)) := by
  rw [heap_setCell_same _ g 4 _ _ _ (heap_setCell_same _ g 3 _ _ _ (heap_setCell_same _ g 2 _ _ _ (heap_setCell_same _ g 1 _ _ _ (heap_setCell_same _ g 0 _ _ _ h))))]
  rfl
theorem set_box_other {w : World} {g k : Nat} {v0 v1 v2 v3 v4 : Value} (h : k ≠ g) :
    (((((w.setCell ⟨g, 0, none⟩ v0).setCell ⟨g, 1, none⟩ v1).setCell ⟨g, 2, none⟩ v2).setCell ⟨g, 3, none⟩ v3).setCell ⟨g, 4, none⟩ v4).heap[k]? = w.heap[k]? := by
  rw [heap_setCell_other _ ⟨g, 4, none⟩ k _ h, heap_setCell_other _ ⟨g, 3, none⟩ k _ h, heap_setCell_other _ ⟨g, 2, none⟩ k _ h, heap_setCell_other _ ⟨g, 1, none⟩ k _ h, heap_setCell_other _ ⟨g, 0, none⟩ k _ h]
theorem boxes_end {w w3 : World} {g h base base2 n c m k : Nat} {A B : Option Addr} {x0 x1 x2 x3 y0 y1 y2 y3 : Nat} {d f : List Nat} {o p : Array Value} (hA : Mine w3 base A n c d) (hB : Mine w3 base2 B m k f) (hne : g ≠ h) (ho : ∃ u0 u1 u2 u3 u4, o = #[u0, u1, u2, u3, u4]) (hp : ∃ u0 u1 u2 u3 u4, p = #[u0, u1, u2, u3, u4])
    (hg : w3.heap[g]? = some (.cells o 25 (0, 0))) (hh : w3.heap[h]? = some (.cells p 25 (0, 0))) (g1 : g < base ∧ g < base2) (h1 : h < base ∧ h < base2) (hb : Below w.heap.size w w3) (hgw : w.heap.size ≤ g) (hhw : w.heap.size ≤ h) :
    Boxes w g h x0 x1 x2 x3 y0 y1 y2 y3 d f ((((((((((w3.setCell ⟨g, 0, none⟩ (.int .u32 (x0 : Int))).setCell ⟨g, 1, none⟩ (.int .u32 (x1 : Int))).setCell ⟨g, 2, none⟩ (.int .u32 (x2 : Int))).setCell ⟨g, 3, none⟩ (.int .u8 (x3 : Int))).setCell ⟨g, 4, none⟩ (.slice A n c)).setCell
      ⟨h, 0, none⟩ (.int .u32 (y0 : Int))).setCell ⟨h, 1, none⟩ (.int .u32 (y1 : Int))).setCell ⟨h, 2, none⟩ (.int .u32 (y2 : Int))).setCell ⟨h, 3, none⟩ (.int .u8 (y3 : Int))).setCell ⟨h, 4, none⟩ (.slice B m k)) := by
  obtain ⟨u0, u1, u2, u3, u4, rfl⟩ := ho
  obtain ⟨t0, t1, t2, t3, t4, rfl⟩ := hp
  refine ⟨A, n, c, B, m, k, ?_, ?_, (mine_five (mine_five hA g1.1) h1.1).bytes, (mine_five (mine_five hB g1.2) h1.2).bytes, below_five (below_five hb hgw) hhw⟩
  · rw [set_box_other hne]
    exact set_box hg
  · refine set_box (u0 := t0) (u1 := t1) (u2 := t2) (u3 := t3) (u4 := t4) ?_
    rw [set_box_other (Ne.symm hne)]
    exact hh
end Go.Proofs.Ytkfpbjkpkbfbbaa
