/- Contracts: the nodes that an arena has. -/
import Derived.Test.YtogkeoainejfcaaAGet
namespace Go.Proofs.Ytogkeoainejfcaa
open Go.RowKit
set_option linter.unusedSimpArgs false
set_option linter.unusedVariables false
set_option maxRecDepth 100000
theorem has_any (w : World) (base ga gm gp id N : Nat) (F : PF) (vs : List (Nat × Value)) (ns : List (Nat × Nd)) (h : AR w base ga gm gp F vs ns N) (hid : id < 18446744073709551616) :
    Calls Try.prog 57 #[.pointer (some ⟨ga, 0, none⟩), .int .u64 (id : Int)] w (fun e w' => e = .returned (.bool (hasL ns id)) ∧ Below w.heap.size w w') := by
  have q0 : w.cell? ⟨ga, 0, none⟩ = some (.map (some gm)) := by unfold World.cell?; rw [h.st]; rfl
  obtain ⟨A, c, hold, _, _, hhas⟩ := h.nodes.get id
  obtain ⟨o, ho⟩ : ∃ o, o = (getL ns id).getD zeroNd := ⟨_, rfl⟩
  rw [← ho] at hold
  have HM := Lib.hid h.map
  have HH := Lib.hid hhas
  have HOLD := Lib.hid hold
  clear h hhas hold ho
  go_enter Try.func57, Try.ntmps57
  go_wp2_with (at_lookup; go_loud (
      refine wpList_lookOk w rfl _ _ 70 33 rfl Try.underlying70 (ndV zeroNd (.slice none 0 0)) (zeroNode w) gm vs rfl HM.out id hid rfl ?_;
      rw [HH.out, HOLD.out]; unfold ndV))
  go_ret
  exact ⟨rfl, (Below.refl _ _).alloc (Nat.le_refl _) _⟩
theorem len_nil (w : World) : Calls Try.prog 28 #[.pointer none] w (fun e w' => e = .returned (.int .i64 0) ∧ Below w.heap.size w w') := by
  go_enter Try.func28, Try.ntmps28
  go_wp2_with fail
  go_ret
  exact ⟨rfl, Below.refl _ _⟩
theorem len_any (w : World) (base ga gm gp N : Nat) (F : PF) (vs : List (Nat × Value)) (ns : List (Nat × Nd)) (h : AR w base ga gm gp F vs ns N) :
    Calls Try.prog 28 #[.pointer (some ⟨ga, 0, none⟩)] w (fun e w' => e = .returned (.int .i64 (ns.length : Int)) ∧ Below w.heap.size w w') := by
  have q0 : w.cell? ⟨ga, 0, none⟩ = some (.map (some gm)) := by unfold World.cell?; rw [h.st]; rfl
  have hl := nodes_len h.nodes h.map.rise h.rise
  rw [← hl]
  have HM := Lib.hid h.map
  clear h hl
  go_enter Try.func28, Try.ntmps28
  go_wp2_with (at_len; go_loud (
      refine wpList_count w rfl _ 70 33 rfl Try.underlying70 gm vs rfl HM.out ?_))
  go_ret
  exact ⟨rfl, Below.refl _ _⟩
def GetR (w : World) (n : Nd) (b : Bool) (e : Ending) (w' : World) : Prop :=
  ∃ A c, e = .returned (.tuple #[ndV n (.slice A n.kids.length c), .bool b]) ∧ NodeV w' (ndV n (.slice A n.kids.length c)) n ∧ (∀ ad, A = some ad → w.heap.size ≤ ad.block) ∧ Below w.heap.size w w'
theorem NodeV.set6 {w : World} {v : Value} {n : Nd} {g : Nat} {v0 v1 v2 v3 v4 v5 : Value} {cs0 : Array Value} (h : NodeV w v n) (hg : w.heap[g]? = some (.cells cs0 33 (0, 0))) :
    NodeV ((((((w.setCell ⟨g, 0, none⟩ v0).setCell ⟨g, 1, none⟩ v1).setCell ⟨g, 2, none⟩ v2).setCell ⟨g, 3, none⟩ v3).setCell ⟨g, 4, none⟩ v4).setCell ⟨g, 5, none⟩ v5) v n := h.keep (by simp [World.setCell]) fun j cs z hj => by
  have hj2 : j ≠ g := fun e => by
    rw [e, hg] at hj
    injection hj with hj
    injection hj with _ h2 _
    revert h2
    decide
  rw [heap_setCell_other _ ⟨g, 5, none⟩ j _ hj2, heap_setCell_other _ ⟨g, 4, none⟩ j _ hj2, heap_setCell_other _ ⟨g, 3, none⟩ j _ hj2, heap_setCell_other _ ⟨g, 2, none⟩ j _ hj2, heap_setCell_other _ ⟨g, 1, none⟩ j _ hj2, heap_setCell_other _ ⟨g, 0, none⟩ j _ hj2]
theorem get_nil (w : World) (x : Value) : Calls Try.prog 12 #[.pointer none, x] w (GetR w zeroNd false) := by
  go_enter Try.func12, Try.ntmps12
  go_wp2_with fail
  exact node_ret2 (p := 4) (u := 5) rfl rfl rfl rfl (Go.heap_alloc_new w _) rfl ⟨none, 0, rfl, NodeV.zero _, fun ad e => (by cases e), (Below.refl _ _).alloc (Nat.le_refl _) _⟩
theorem get_any (w : World) (base ga gm gp id N : Nat) (F : PF) (vs : List (Nat × Value)) (ns : List (Nat × Nd)) (h : AR w base ga gm gp F vs ns N) (hid : id < 18446744073709551616) :
    Calls Try.prog 12 #[.pointer (some ⟨ga, 0, none⟩), .int .u64 (id : Int)] w (GetR w ((getL ns id).getD zeroNd) (hasL ns id)) := by
  have q0 : (w.alloc (.cells #[.int .u8 0, .string ⟨#[]⟩, .int .i64 0, .int .u8 0, .int .u64 0, .slice none 0 0] 33)).cell? ⟨ga, 0, none⟩ = some (.map (some gm)) := by
    rw [((Below.refl w.heap.size w).alloc (Nat.le_refl _) _).cell (p := ⟨ga, 0, none⟩) (lt_of_heap2 h.st)]
    unfold World.cell?; rw [h.st]; rfl
  have hM0 := (h.below ((Below.refl w.heap.size w).alloc (Nat.le_refl _) (.cells #[.int .u8 0, .string ⟨#[]⟩, .int .i64 0, .int .u8 0, .int .u64 0, .slice none 0 0] 33))).map
  obtain ⟨A, c, hold, hos, hook, hhas⟩ := h.nodes.get id
  obtain ⟨o, ho⟩ : ∃ o, o = (getL ns id).getD zeroNd := ⟨_, rfl⟩
  rw [← ho] at hold hos hook ⊢
  have HW : Hid (∀ y, Below w.heap.size w y → Calls Try.prog 17 #[ndV o (.slice A o.kids.length c)] y (WholeR y o)) := Lib.hid fun y hy => whole_any y o A c ⟨⟨A, c, rfl, (hos.below hy).up hy.size⟩, hook⟩ ((hos.below hy).up hy.size)
  have HM := Lib.hid hM0
  have HH := Lib.hid hhas
  have HOLD := Lib.hid hold
  clear h hhas hold hos ho hM0
  go_enter Try.func12, Try.ntmps12
  go_wp2_with (first
    | (at_lookup; go_loud (
      refine wpList_lookOk _ rfl _ _ 70 33 rfl Try.underlying70 (ndV zeroNd (.slice none 0 0)) (zeroNode _) gm vs rfl HM.out id hid rfl ?_;
      rw [HH.out, HOLD.out]; unfold ndV))
    | (go_at_call 17; (refine (HW.out _ (ride_alloc (ride_alloc (Below.refl _ _) _) _)).mono ?_); rintro e w1 ⟨A1, c1, rfl, hI, hfr, hb1⟩; go_loud (
        unfold ndV;
        have hrx := (hb1.block w.heap.size (by simp; omega)).trans ((heap_alloc_lt _ _ (by simp)).trans (Go.heap_alloc_new w _));
        obtain ⟨⟨r0, r1, r2, r3, r4, r5⟩, f0, f1, f2, f3, f4, f5⟩ := zero_cells hrx;
        have HRX := Lib.hid hrx;
        have HI := Lib.hid hI;
        have HFR := Lib.hid hfr;
        have HB1 := Lib.hid hb1;
        clear hI hfr hb1 hrx)))
  have hfin := set_node (v0 := .int .u8 (o.kind : Int)) (v1 := .string o.name) (v2 := .int .i64 o.num) (v3 := .int .u8 (o.typ : Int)) (v4 := .int .u64 (o.ref : Int)) (v5 := .slice A1 o.kids.length c1) HRX.out
  have hbw : Below w.heap.size w w1 := ((((Below.refl w.heap.size w).alloc (Nat.le_refl _) _).alloc (by simp) _).trans (HB1.out.mono (by simp; omega)))
  exact node_ret2 (p := 4) (u := 5) rfl rfl rfl rfl hfin rfl ⟨A1, c1, rfl, HI.out.set6 HRX.out, fun ad e => (by have := HFR.out ad e; simp at this; omega), below_node hbw (Nat.le_refl _)⟩
end Go.Proofs.Ytogkeoainejfcaa
