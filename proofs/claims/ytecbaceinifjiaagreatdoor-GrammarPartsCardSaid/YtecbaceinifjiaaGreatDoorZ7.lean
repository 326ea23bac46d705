/- AGet, AAsk, APut, ANew: joined by program (tools/merge.py). -/
import Derived.Test.YtecbaceinifjiaaGreatDoorZ6
import Derived.Deep.AppendLies
import Derived.Lib.SliceRun
namespace Go.Proofs.YtecbaceinifjiaaGreatDoor
open Go.RowKit
set_option linter.unusedSimpArgs false
set_option linter.unusedVariables false
set_option maxRecDepth 100000
theorem infoId : (Tryz.prog.info? 30).map (fun i => (i.zero, i.size, i.bytes)) = some (some (.int .u64 0), 1, 8) := by kernel_rfl
theorem ids_one (l : List Nat) : ∀ u ∈ ids l, u.oneCell' = true := fun u hu => by
  unfold ids at hu
  obtain ⟨k, _, rfl⟩ := List.mem_map.1 hu
  rfl
/-- A row of the call's own is a slice of numbers of nodes. -/
theorem IdSl.of_own {w : World} {base n c : Nat} {A : Option Addr} {l : List Nat} (h : w.ownsRow base 30 1 (.slice A n c) n (ids l)) (hs : ∀ k ∈ l, k < 18446744073709551616) (hl : l.length ≤ 1000000000) : IdSl w w.heap.size (.slice A n c) l := by
  have hn : n = l.length := by have := h.1; rw [ids_length] at this; omega
  subst hn
  refine ⟨⟨A, c, rfl, Lies.of_own h, ?_, fun ad e => ?_⟩, hs, hl⟩
  · rcases h.2 with ⟨e, h0⟩ | ⟨g, cap, cur, e, _, _, hc, _⟩
    · injection e with _ _ e; omega
    · injection e with _ _ e; omega
  · rcases h.2 with ⟨e2, _⟩ | ⟨g, cap, cur, e2, _, hg, _⟩
    · injection e2 with e2 _ _; rw [e2] at e; cases e
    · injection e2 with e2 _ _
      rw [e2] at e
      injection e with e
      rw [← e]
      exact ⟨lt_of_heap2 hg, cur, _, hg⟩
def CloneR (w : World) (l : List Nat) (e : Ending) (w' : World) : Prop :=
  ∃ A c, e = .returned (.slice A l.length c) ∧ IdSl w' w'.heap.size (.slice A l.length c) l ∧ (∀ ad, A = some ad → w.heap.size ≤ ad.block) ∧ Below w.heap.size w w'
set_option maxHeartbeats 4000000 in
theorem clone_any (w : World) (A : Option Addr) (c : Nat) (l : List Nat) (h : IdSl w w.heap.size (.slice A l.length c) l) :
    Calls Tryz.prog 37 #[.slice A l.length c] w (CloneR w l) := by
  have hlong := h.long
  obtain ⟨i0, hi0, hz0, hs0, hb0⟩ := info_parts infoId
  cases A with
  | none =>
    have hnil : l = [] := by
      cases l with
      | nil => rfl
      | cons x r => obtain ⟨ad, e, _⟩ := h.at_ (i := 0) (k := x) rfl; cases e
    subst hnil
    have hnl : ∀ W : World, (binOp .eql 42 (.slice none 0 c) (.slice none 0 0)).run Tryz.prog W = .ok (.bool true) W := fun W => by
      rw [Lib.run_eql_slice_nil W 42 30 _ 0 c 0 0 Tryz.underlying42]
      rfl
    clear h
    go_enter Tryz.func37, Tryz.ntmps37
    go_wp2_with fail
    go_ret
    exact ⟨none, _, rfl, IdSl.nil _ _, fun ad e => (by cases e), Below.refl _ _⟩
  | some ad =>
    obtain ⟨n, hn⟩ : ∃ n, n = l.length := ⟨_, rfl⟩
    rw [← hn] at h hlong ⊢
    have hcells : ∀ (j : Nat) (u : Value), (ids l)[j]? = some u → (w.alloc (.cells #[] 30)).cell? (ad.add j) = some u := fun j u hj => by
      obtain ⟨⟨A', c', e, h1, _⟩, _, _⟩ := h
      injection e with e _ _
      obtain ⟨ad', e', hbk, hc⟩ := h1 j u hj
      rw [← e] at e'
      injection e' with e'
      subst e'
      exact (((Below.refl w.heap.size w).alloc (Nat.le_refl _) _).cell (by rw [addr_add_block]; exact hbk)).trans hc
    have HE : Hid ((w.alloc (.cells #[] 30)).ownsRow w.heap.size 30 1 (.slice (some ⟨w.heap.size, 0, none⟩) 0 0) 0 []) := Lib.hid ⟨rfl, .inr ⟨w.heap.size, 0, #[], rfl, Nat.le_refl _, Go.heap_alloc_new _ _, Nat.le_refl _, Nat.zero_le _, rfl, rfl⟩⟩
    have hnl : ∀ W : World, (binOp .eql 42 (.slice (some ad) n c) (.slice none 0 0)).run Tryz.prog W = .ok (.bool false) W := fun W => by
      rw [Lib.run_eql_slice_nil W 42 30 _ n c 0 0 Tryz.underlying42]
      rfl
    have HC := Lib.hid hcells
    have HH := Lib.hid h
    have HN := Lib.hid hn
    clear h hn hcells
    go_enter Tryz.func37, Tryz.ntmps37
    go_wp2_with (at_builtin; go_loud (
      refine wpList_append_own_at _ rfl _ _ 42 rfl w.heap.size 30 i0 (.int .u64 0) 1 8 Tryz.underlying42 hi0 hz0 hs0 hb0 rfl (by decide) (.slice (some ⟨w.heap.size, 0, none⟩) 0 0) 0 [] rfl HE.out ad n c (ids l) rfl (by rw [ids_length, ← HN.out]; omega) HC.out (ids_one l) (by unfold maxLen; omega) (by omega) (by simp) ?_;
      intro v' w' hown' hgrow hnil hloc;
      rw [Nat.zero_add, List.nil_append] at hown';
      have HO := Lib.hid hown';
      have HG := Lib.hid hgrow;
      have HL := Lib.hid hloc;
      clear hown' hgrow hnil hloc))
    go_ret
    have hf : ∃ A2 c2, v' = .slice A2 n c2 := by
      rcases HO.out.2 with ⟨e, h0⟩ | ⟨g, cap, cur, e, _⟩
      · exact ⟨none, 0, by rw [e, h0]⟩
      · exact ⟨_, _, e⟩
    obtain ⟨A2, c2, rfl⟩ := hf
    have hid := IdSl.of_own HO.out HH.out.small (by have := HH.out.long; exact this)
    have hfin : Ending.returned (.slice A2 n c2) = .returned (.slice A2 l.length c2) := by rw [← HN.out]
    refine ⟨A2, c2, hfin, by rw [← HN.out]; exact hid, fun ad2 e => ?_, ((Below.refl _ _).alloc (Nat.le_refl _) _).grown HG.out (by simp) (fun k hk => Nat.le_of_eq (Option.some.inj hk))⟩
    subst e
    exact (World.ownsRow.lt HO.out ad2.block rfl).1
def WholeR (w : World) (n : Nd) (e : Ending) (w' : World) : Prop :=
  ∃ A c, e = .returned (ndV n (.slice A n.kids.length c)) ∧ NodeV w' (ndV n (.slice A n.kids.length c)) n ∧ (∀ ad, A = some ad → w.heap.size ≤ ad.block) ∧ Below w.heap.size w w'
theorem alloc2 (w : World) (o : Obj) (cs : Array Value) (t : TypeId) (z : Nat × Nat := (0, 0)) : ((w.alloc o).alloc (.cells cs t z)).heap[w.heap.size + 1]? = some (.cells cs t z) := by
  have h := Go.heap_alloc_new (w.alloc o) (.cells cs t z)
  have e : (w.alloc o).heap.size = w.heap.size + 1 := by simp
  rw [e] at h
  exact h
theorem box_cells {w : World} {g : Nat} {n : Nd} {kv : Value} (h : w.heap[g]? = some (.cells #[.int .u8 (n.kind : Int), .string n.name, .int .i64 n.num, .int .u8 (n.typ : Int), .int .u64 (n.ref : Int), kv] 44 (0, 0))) :
    w.cell? ⟨g, 0, none⟩ = some (.int .u8 (n.kind : Int)) ∧ w.cell? ⟨g, 1, none⟩ = some (.string n.name) ∧ w.cell? ⟨g, 2, none⟩ = some (.int .i64 n.num) ∧ w.cell? ⟨g, 3, none⟩ = some (.int .u8 (n.typ : Int)) ∧ w.cell? ⟨g, 4, none⟩ = some (.int .u64 (n.ref : Int)) ∧ w.cell? ⟨g, 5, none⟩ = some kv ∧ w.frozen? ⟨g, 5, none⟩ = false := by
  refine ⟨?_, ?_, ?_, ?_, ?_, ?_, frozen_of_row w g _ _ _ h⟩ <;> (unfold World.cell?; rw [h]; rfl)
theorem zero_cells {w : World} {g : Nat} (h : w.heap[g]? = some (.cells #[.int .u8 0, .string ⟨#[]⟩, .int .i64 0, .int .u8 0, .int .u64 0, .slice none 0 0] 44 (0, 0))) :
    (w.cell? ⟨g, 0, none⟩ = some (.int .u8 0) ∧ w.cell? ⟨g, 1, none⟩ = some (.string ⟨#[]⟩) ∧ w.cell? ⟨g, 2, none⟩ = some (.int .i64 0) ∧ w.cell? ⟨g, 3, none⟩ = some (.int .u8 0) ∧ w.cell? ⟨g, 4, none⟩ = some (.int .u64 0) ∧ w.cell? ⟨g, 5, none⟩ = some (.slice none 0 0)) ∧
    w.frozen? ⟨g, 0, none⟩ = false ∧ w.frozen? ⟨g, 1, none⟩ = false ∧ w.frozen? ⟨g, 2, none⟩ = false ∧ w.frozen? ⟨g, 3, none⟩ = false ∧ w.frozen? ⟨g, 4, none⟩ = false ∧ w.frozen? ⟨g, 5, none⟩ = false := by
  refine ⟨⟨?_, ?_, ?_, ?_, ?_, ?_⟩, frozen_of_row w g _ _ _ h, frozen_of_row w g _ _ _ h, frozen_of_row w g _ _ _ h, frozen_of_row w g _ _ _ h, frozen_of_row w g _ _ _ h, frozen_of_row w g _ _ _ h⟩ <;> (unfold World.cell?; rw [h]; rfl)
theorem nodeInfo : (Tryz.prog.info? 44).map (·.size) = some 6 := by kernel_rfl
theorem results_one {fn : Func} {p : Tmp} {ty : TypeId} (h : fn.results = #[.cell p ty]) (tmps : Array Value) (P : Program) (w : World) :
    (results fn tmps).run P w = ((asAddr (tmps.getD p undef)).run P w).andThen fun a w₁ => (loadVar ty a).run P w₁ := by
  simp only [results, h]
  simp [Sem.run_bind, Result.andThen]
theorem results_two {fn : Func} {p u : Tmp} {ty : TypeId} (h : fn.results = #[.cell p ty, .tmp u]) (tmps : Array Value) (P : Program) (w : World) :
    (results fn tmps).run P w = ((asAddr (tmps.getD p undef)).run P w).andThen fun a w₁ => ((loadVar ty a).run P w₁).andThen fun x w₂ => .ok (.tuple #[x, tmps.getD u undef]) w₂ := by
  simp only [results, h]
  simp [Sem.run_bind, Result.andThen]
theorem node_ret {fn : Func} {p : Tmp} {a : Act} {w : World} {R : Ending → World → Prop} {g : Nat} {cs : Array Value} (hf : fn.results = #[.cell p 44]) (hd : a.defers = []) (h2 : a.tmps.getD p undef = .pointer (some ⟨g, 0, none⟩))
    (hg : w.heap[g]? = some (.cells cs 44 (0, 0))) (hs : cs.size = 6) (hR : R (.returned (.agg cs)) w) : bodyPost Tryz.prog fn R .ret a w := by
  refine bodyPost_ret_by (v := .agg cs) ?_ hd hR
  have hl := run_loadVar_row (P := Tryz.prog) w g 44 44 cs (0, 0) _ hg Tryz.underlying44 rfl (by rw [nodeInfo, hs])
  rw [results_one hf, h2]
  simp [asAddr, Result.andThen, hl]
theorem node_ret2 {fn : Func} {p u : Tmp} {a : Act} {w : World} {R : Ending → World → Prop} {g : Nat} {cs : Array Value} {v : Value} (hf : fn.results = #[.cell p 44, .tmp u]) (hd : a.defers = []) (h2 : a.tmps.getD p undef = .pointer (some ⟨g, 0, none⟩)) (h3 : a.tmps.getD u undef = v)
    (hg : w.heap[g]? = some (.cells cs 44 (0, 0))) (hs : cs.size = 6) (hR : R (.returned (.tuple #[.agg cs, v])) w) : bodyPost Tryz.prog fn R .ret a w := by
  refine bodyPost_ret_by (v := .tuple #[.agg cs, v]) ?_ hd hR
  have hl := run_loadVar_row (P := Tryz.prog) w g 44 44 cs (0, 0) _ hg Tryz.underlying44 rfl (by rw [nodeInfo, hs])
  rw [results_two hf, h2, h3]
  simp [asAddr, Result.andThen, hl]
theorem set_node {w : World} {g : Nat} {v0 v1 v2 v3 v4 v5 u0 u1 u2 u3 u4 u5 : Value} (h : w.heap[g]? = some (.cells #[u0, u1, u2, u3, u4, u5] 44 (0, 0))) :
    ((((((w.setCell ⟨g, 0, none⟩ v0).setCell ⟨g, 1, none⟩ v1).setCell ⟨g, 2, none⟩ v2).setCell ⟨g, 3, none⟩ v3).setCell ⟨g, 4, none⟩ v4).setCell ⟨g, 5, none⟩ v5).heap[g]? = some (.cells #[v0, v1, v2, v3, v4, v5] 44 (0, 0)) := by
  rw [heap_setCell_same _ g 5 _ _ _ (heap_setCell_same _ g 4 _ _ _ (heap_setCell_same _ g 3 _ _ _ (heap_setCell_same _ g 2 _ _ _ (heap_setCell_same _ g 1 _ _ _ (heap_setCell_same _ g 0 _ _ _ h)))))]
  rfl
theorem below_node {a w : World} {B g : Nat} {v0 v1 v2 v3 v4 v5 : Value} (h : Below B a w) (hg : B ≤ g) :
    Below B a ((((((w.setCell ⟨g, 0, none⟩ v0).setCell ⟨g, 1, none⟩ v1).setCell ⟨g, 2, none⟩ v2).setCell ⟨g, 3, none⟩ v3).setCell ⟨g, 4, none⟩ v4).setCell ⟨g, 5, none⟩ v5) := (((((h.setCell hg _).setCell hg _).setCell hg _).setCell hg _).setCell hg _).setCell hg _
set_option maxHeartbeats 4000000 in
theorem whole_any (w : World) (n : Nd) (A : Option Addr) (c : Nat) (h : NodeV w (ndV n (.slice A n.kids.length c)) n) (hs : IdSl w w.heap.size (.slice A n.kids.length c) n.kids) :
    Calls Tryz.prog 26 #[ndV n (.slice A n.kids.length c)] w (WholeR w n) := by
  have hok := h.2
  have hXb : Below w.heap.size w (w.alloc (.cells #[.int .u8 (n.kind : Int), .string n.name, .int .i64 n.num, .int .u8 (n.typ : Int), .int .u64 (n.ref : Int), .slice A n.kids.length c] 44)) := (Below.refl _ _).alloc (Nat.le_refl _) _
  have hXh := Go.heap_alloc_new w (.cells #[.int .u8 (n.kind : Int), .string n.name, .int .i64 n.num, .int .u8 (n.typ : Int), .int .u64 (n.ref : Int), .slice A n.kids.length c] 44)
  have HCL : Hid (∀ y, Below (w.alloc (.cells #[.int .u8 (n.kind : Int), .string n.name, .int .i64 n.num, .int .u8 (n.typ : Int), .int .u64 (n.ref : Int), .slice A n.kids.length c] 44)).heap.size (w.alloc (.cells #[.int .u8 (n.kind : Int), .string n.name, .int .i64 n.num, .int .u8 (n.typ : Int), .int .u64 (n.ref : Int), .slice A n.kids.length c] 44)) y → Calls Tryz.prog 37 #[.slice A n.kids.length c] y (CloneR y n.kids)) := Lib.hid fun y hy => clone_any y A c n.kids (((hs.below hXb).up hXb.size).below hy |>.up hy.size)
  have HOK := Lib.hid hok
  have HXB := Lib.hid hXb
  have HXH := Lib.hid hXh
  clear h hs hok hXb hXh
  unfold ndV
  go_enter Tryz.func26, Tryz.ntmps26
  go_wp2_with (first
    | (go_at_call 37; (with_reducible refine (HCL.out _ (ride_alloc (Below.refl _ _) _)).mono ?_); rintro e w1 ⟨A1, c1, rfl, hI, hfr, hb1⟩; go_loud (
        have hbx := (hb1.block w.heap.size (by simp; omega)).trans ((heap_alloc_lt _ _ (by simp)).trans HXH.out);
        obtain ⟨b0, b1, b2, b3, b4, b5, b6⟩ := box_cells hbx;
        have hrx := (hb1.block (w.heap.size + 1) (by simp)).trans (alloc2 _ _ _ _ _);
        obtain ⟨⟨r0, r1, r2, r3, r4, r5⟩, f0, f1, f2, f3, f4, f5⟩ := zero_cells hrx;
        have HRX := Lib.hid hrx;
        have HI := Lib.hid hI;
        have HFR := Lib.hid hfr;
        have HB1 := Lib.hid hb1;
        clear hI hfr hb1 hbx hrx)))
  have hw0 : w.heap.size < w1.heap.size := by have := HB1.out.size; simp at this; omega
  have hbw : Below w.heap.size w (w1.setCell ⟨w.heap.size, 5, none⟩ (.slice A1 n.kids.length c1)) := (HXB.out.trans ((((Below.refl _ _).alloc (Nat.le_refl _) _).trans (HB1.out.mono (by simp))).mono HXB.out.size)).setCell (p := ⟨w.heap.size, 5, none⟩) (Nat.le_refl _) _
  have hrb := (heap_setCell_other w1 ⟨w.heap.size, 5, none⟩ (w.heap.size + 1) (.slice A1 n.kids.length c1) (by show w.heap.size + 1 ≠ w.heap.size; omega)).trans HRX.out
  have hfin := set_node (v0 := .int .u8 (n.kind : Int)) (v1 := .string n.name) (v2 := .int .i64 n.num) (v3 := .int .u8 (n.typ : Int)) (v4 := .int .u64 (n.ref : Int)) (v5 := .slice A1 n.kids.length c1) hrb
  have hbf := below_node (v0 := .int .u8 (n.kind : Int)) (v1 := .string n.name) (v2 := .int .i64 n.num) (v3 := .int .u8 (n.typ : Int)) (v4 := .int .u64 (n.ref : Int)) (v5 := .slice A1 n.kids.length c1) hbw (show w.heap.size ≤ w.heap.size + 1 by omega)
  refine node_ret (p := 2) rfl rfl rfl hfin rfl ?_
  refine ⟨A1, c1, rfl, ⟨⟨A1, c1, rfl, ?_⟩, HOK.out⟩, fun ad e => ?_, hbf⟩
  · refine (HI.out.keep fun j cs z hj hcs => ?_).up (by simp [World.setCell])
    have hj1 : j ≠ w.heap.size := fun e => by
      have h1 := (HB1.out.block w.heap.size (by simp; omega)).trans ((heap_alloc_lt _ _ (by simp)).trans HXH.out)
      rw [e, h1] at hcs
      injection hcs with hcs
      injection hcs with _ h2 _
      revert h2
      decide
    have hj2 : j ≠ w.heap.size + 1 := fun e => by
      rw [e, HRX.out] at hcs
      injection hcs with hcs
      injection hcs with _ h2 _
      revert h2
      decide
    rw [heap_setCell_other _ ⟨w.heap.size + 1, 5, none⟩ j _ hj2, heap_setCell_other _ ⟨w.heap.size + 1, 4, none⟩ j _ hj2, heap_setCell_other _ ⟨w.heap.size + 1, 3, none⟩ j _ hj2, heap_setCell_other _ ⟨w.heap.size + 1, 2, none⟩ j _ hj2, heap_setCell_other _ ⟨w.heap.size + 1, 1, none⟩ j _ hj2, heap_setCell_other _ ⟨w.heap.size + 1, 0, none⟩ j _ hj2, heap_setCell_other _ ⟨w.heap.size, 5, none⟩ j _ hj1]
  · have := HFR.out ad e
    simp at this
    omega
end Go.Proofs.YtecbaceinifjiaaGreatDoor
namespace Go.Proofs.YtecbaceinifjiaaGreatDoor
open Go.RowKit
set_option linter.unusedSimpArgs false
set_option linter.unusedVariables false
set_option maxRecDepth 100000
theorem has_any (w : World) (base ga gm gp id N : Nat) (F : PF) (vs : List (Nat × Value)) (ns : List (Nat × Nd)) (h : AR w base ga gm gp F vs ns N) (hid : id < 18446744073709551616) :
    Calls Tryz.prog 52 #[.pointer (some ⟨ga, 0, none⟩), .int .u64 (id : Int)] w (fun e w' => e = .returned (.bool (hasL ns id)) ∧ Below w.heap.size w w') := by
  have q0 : w.cell? ⟨ga, 0, none⟩ = some (.map (some gm)) := by unfold World.cell?; rw [h.st]; rfl
  obtain ⟨A, c, hold, _, _, hhas⟩ := h.nodes.get id
  obtain ⟨o, ho⟩ : ∃ o, o = (getL ns id).getD zeroNd := ⟨_, rfl⟩
  rw [← ho] at hold
  have HM := Lib.hid h.map
  have HH := Lib.hid hhas
  have HOLD := Lib.hid hold
  clear h hhas hold ho
  go_enter Tryz.func52, Tryz.ntmps52
  go_wp2_with (at_lookup; go_loud (
      refine wpList_lookOk w rfl _ _ 62 44 rfl Tryz.underlying62 (ndV zeroNd (.slice none 0 0)) (zeroNode w) gm vs rfl HM.out id hid rfl ?_;
      rw [HH.out, HOLD.out]; unfold ndV))
  go_ret
  exact ⟨rfl, (Below.refl _ _).alloc (Nat.le_refl _) _⟩
theorem len_nil (w : World) : Calls Tryz.prog 15 #[.pointer none] w (fun e w' => e = .returned (.int .i64 0) ∧ Below w.heap.size w w') := by
  go_enter Tryz.func15, Tryz.ntmps15
  go_wp2_with fail
  go_ret
  exact ⟨rfl, Below.refl _ _⟩
theorem len_any (w : World) (base ga gm gp N : Nat) (F : PF) (vs : List (Nat × Value)) (ns : List (Nat × Nd)) (h : AR w base ga gm gp F vs ns N) :
    Calls Tryz.prog 15 #[.pointer (some ⟨ga, 0, none⟩)] w (fun e w' => e = .returned (.int .i64 (ns.length : Int)) ∧ Below w.heap.size w w') := by
  have q0 : w.cell? ⟨ga, 0, none⟩ = some (.map (some gm)) := by unfold World.cell?; rw [h.st]; rfl
  have hl := nodes_len h.nodes h.map.rise h.rise
  rw [← hl]
  have HM := Lib.hid h.map
  clear h hl
  go_enter Tryz.func15, Tryz.ntmps15
  go_wp2_with (at_len; go_loud (
      refine wpList_count w rfl _ 62 44 rfl Tryz.underlying62 gm vs rfl HM.out ?_))
  go_ret
  exact ⟨rfl, Below.refl _ _⟩
def GetR (w : World) (n : Nd) (b : Bool) (e : Ending) (w' : World) : Prop :=
  ∃ A c, e = .returned (.tuple #[ndV n (.slice A n.kids.length c), .bool b]) ∧ NodeV w' (ndV n (.slice A n.kids.length c)) n ∧ (∀ ad, A = some ad → w.heap.size ≤ ad.block) ∧ Below w.heap.size w w'
theorem NodeV.set6 {w : World} {v : Value} {n : Nd} {g : Nat} {v0 v1 v2 v3 v4 v5 : Value} {cs0 : Array Value} (h : NodeV w v n) (hg : w.heap[g]? = some (.cells cs0 44 (0, 0))) :
    NodeV ((((((w.setCell ⟨g, 0, none⟩ v0).setCell ⟨g, 1, none⟩ v1).setCell ⟨g, 2, none⟩ v2).setCell ⟨g, 3, none⟩ v3).setCell ⟨g, 4, none⟩ v4).setCell ⟨g, 5, none⟩ v5) v n := h.keep (by simp [World.setCell]) fun j cs z hj => by
  have hj2 : j ≠ g := fun e => by
    rw [e, hg] at hj
    injection hj with hj
    injection hj with _ h2 _
    revert h2
    decide
  rw [heap_setCell_other _ ⟨g, 5, none⟩ j _ hj2, heap_setCell_other _ ⟨g, 4, none⟩ j _ hj2, heap_setCell_other _ ⟨g, 3, none⟩ j _ hj2, heap_setCell_other _ ⟨g, 2, none⟩ j _ hj2, heap_setCell_other _ ⟨g, 1, none⟩ j _ hj2, heap_setCell_other _ ⟨g, 0, none⟩ j _ hj2]
theorem get_nil (w : World) (x : Value) : Calls Tryz.prog 17 #[.pointer none, x] w (GetR w zeroNd false) := by
  go_enter Tryz.func17, Tryz.ntmps17
  go_wp2_with fail
  exact node_ret2 (p := 4) (u := 5) rfl rfl rfl rfl (Go.heap_alloc_new w _) rfl ⟨none, 0, rfl, NodeV.zero _, fun ad e => (by cases e), (Below.refl _ _).alloc (Nat.le_refl _) _⟩
theorem get_any (w : World) (base ga gm gp id N : Nat) (F : PF) (vs : List (Nat × Value)) (ns : List (Nat × Nd)) (h : AR w base ga gm gp F vs ns N) (hid : id < 18446744073709551616) :
    Calls Tryz.prog 17 #[.pointer (some ⟨ga, 0, none⟩), .int .u64 (id : Int)] w (GetR w ((getL ns id).getD zeroNd) (hasL ns id)) := by
  have q0 : (w.alloc (.cells #[.int .u8 0, .string ⟨#[]⟩, .int .i64 0, .int .u8 0, .int .u64 0, .slice none 0 0] 44)).cell? ⟨ga, 0, none⟩ = some (.map (some gm)) := by
    rw [((Below.refl w.heap.size w).alloc (Nat.le_refl _) _).cell (p := ⟨ga, 0, none⟩) (lt_of_heap2 h.st)]
    unfold World.cell?; rw [h.st]; rfl
  have hM0 := (h.below ((Below.refl w.heap.size w).alloc (Nat.le_refl _) (.cells #[.int .u8 0, .string ⟨#[]⟩, .int .i64 0, .int .u8 0, .int .u64 0, .slice none 0 0] 44))).map
  obtain ⟨A, c, hold, hos, hook, hhas⟩ := h.nodes.get id
  obtain ⟨o, ho⟩ : ∃ o, o = (getL ns id).getD zeroNd := ⟨_, rfl⟩
  rw [← ho] at hold hos hook ⊢
  have HW : Hid (∀ y, Below w.heap.size w y → Calls Tryz.prog 26 #[ndV o (.slice A o.kids.length c)] y (WholeR y o)) := Lib.hid fun y hy => whole_any y o A c ⟨⟨A, c, rfl, (hos.below hy).up hy.size⟩, hook⟩ ((hos.below hy).up hy.size)
  have HM := Lib.hid hM0
  have HH := Lib.hid hhas
  have HOLD := Lib.hid hold
  clear h hhas hold hos ho hM0
  go_enter Tryz.func17, Tryz.ntmps17
  go_wp2_with (first
    | (at_lookup; go_loud (
      refine wpList_lookOk _ rfl _ _ 62 44 rfl Tryz.underlying62 (ndV zeroNd (.slice none 0 0)) (zeroNode _) gm vs rfl HM.out id hid rfl ?_;
      rw [HH.out, HOLD.out]; unfold ndV))
    | (go_at_call 26; (refine (HW.out _ (ride_alloc (ride_alloc (Below.refl _ _) _) _)).mono ?_); rintro e w1 ⟨A1, c1, rfl, hI, hfr, hb1⟩; go_loud (
        unfold ndV;
        have hrx := (hb1.block w.heap.size (by simp; omega)).trans ((heap_alloc_lt _ _ (by simp)).trans (Go.heap_alloc_new w _));
        obtain ⟨⟨r0, r1, r2, r3, r4, r5⟩, f0, f1, f2, f3, f4, f5⟩ := zero_cells hrx;
        have HRX := Lib.hid hrx;
        have HI := Lib.hid hI;
        have HFR := Lib.hid hfr;
        have HB1 := Lib.hid hb1;
        clear hI hfr hb1 hrx)))
  have hfin := set_node (v0 := .int .u8 (o.kind : Int)) (v1 := .string o.name) (v2 := .int .i64 o.num) (v3 := .int .u8 (o.typ : Int)) (v4 := .int .u64 (o.ref : Int)) (v5 := .slice A1 o.kids.length c1) HRX.out
  have hbw : Below w.heap.size w w1 := ((((Below.refl w.heap.size w).alloc (Nat.le_refl _) _).alloc (by simp) _).trans (HB1.out.mono (by simp; omega)))
  exact node_ret2 (p := 4) (u := 5) rfl rfl rfl rfl hfin rfl ⟨A1, c1, rfl, HI.out.set6 HRX.out, fun ad e => (by have := HFR.out ad e; simp at this; omega), below_node hbw (Nat.le_refl _)⟩
end Go.Proofs.YtecbaceinifjiaaGreatDoor
namespace Go.Proofs.YtecbaceinifjiaaGreatDoor
open Go.RowKit
set_option linter.unusedSimpArgs false
set_option linter.unusedVariables false
set_option maxRecDepth 100000
def PutR (w : World) (base ga gm gp : Nat) (F : PF) (k : Int) (ns' : List (Nat × Nd)) (N' : Nat) (e : Ending) (w' : World) : Prop :=
  e = .returned (.int .i64 k) ∧ ∃ F' vs', AR w' base ga gm gp F' vs' ns' N' ∧ Touch w w' (OwnA gm gp F) ∧ (∀ j, OwnsF F' j → OwnsF F j ∨ w.heap.size ≤ j)
theorem run_count {w : World} (t e : TypeId) (ht : Tryz.prog.underlying t = some (.map 30 e)) {b : Nat} {l : List (Nat × Value)} (h : MapV w b l) (ty : TypeId) :
    (Builtin.len_ #[t] ty #[.map (some b)]).run Tryz.prog w = .ok (.int .i64 (l.length : Int)) w := by
  have h1 := h.own.len ht ty
  rw [mapD_size] at h1
  exact h1
theorem put_nil (w : World) (x kv : Value) (n : Nd) : Calls Tryz.prog 35 #[.pointer none, x, ndV n kv] w (fun e w' => e = .returned (.int .i64 3) ∧ Below w.heap.size w w') := by
  unfold ndV
  go_enter Tryz.func35, Tryz.ntmps35
  go_wp2_with fail
  go_ret
  exact ⟨rfl, (Below.refl _ _).alloc (Nat.le_refl _) _⟩
theorem AR.putR {w w' : World} {base ga gm gp N : Nat} {F : PF} {vs : List (Nat × Value)} {ns : List (Nat × Nd)} (h : AR w base ga gm gp F vs ns N) (hb : Below w.heap.size w w') (k : Int) : PutR w base ga gm gp F k ns N (.returned (.int .i64 k)) w' :=
  ⟨rfl, F, vs, h.below hb, (Touch.of_below hb (fun _ => False)).more (fun _ e => e.elim), fun j hj => .inl hj⟩
theorem put_zero (w : World) (base ga gm gp N : Nat) (F : PF) (vs : List (Nat × Value)) (ns : List (Nat × Nd)) (kv : Value) (n : Nd) (h : AR w base ga gm gp F vs ns N) :
    Calls Tryz.prog 35 #[.pointer (some ⟨ga, 0, none⟩), .int .u64 0, ndV n kv] w (PutR w base ga gm gp F 1 ns N) := by
  have HH := Lib.hid h
  clear h
  unfold ndV
  go_enter Tryz.func35, Tryz.ntmps35
  go_wp2_with fail
  go_ret
  exact HH.out.putR ((Below.refl _ _).alloc (Nat.le_refl _) _) 1
set_option maxHeartbeats 4000000 in
theorem put_full (w : World) (base ga gm gp id N : Nat) (F : PF) (vs : List (Nat × Value)) (ns : List (Nat × Nd)) (kv : Value) (n : Nd) (h : AR w base ga gm gp F vs ns N) (hid : id < 18446744073709551616) (h0 : id ≠ 0) (hh : hasL ns id = false) (hl : 20000 ≤ ns.length) :
    Calls Tryz.prog 35 #[.pointer (some ⟨ga, 0, none⟩), .int .u64 (id : Int), ndV n kv] w (PutR w base ga gm gp F 5 ns N) := by
  have hz : ¬ (id : Int) = 0 := by omega
  have hz2 : ((id : Int) == 0) = false := by rw [beq_eq_false_iff_ne]; exact hz
  have hlen := nodes_len h.nodes h.map.rise h.rise
  have hv : ¬ ((vs.length : Int) < 20000) := by omega
  have hv2 : (20000 : Int) ≤ vs.length := by omega
  have HAS : Hid (∀ y, Below w.heap.size w y → Calls Tryz.prog 52 #[.pointer (some ⟨ga, 0, none⟩), .int .u64 (id : Int)] y (fun e w' => e = .returned (.bool false) ∧ Below y.heap.size y w')) := Lib.hid fun y hy => by
    have := has_any y base ga gm gp id N F vs ns (h.below hy) hid
    rw [hh] at this
    exact this
  have HH := Lib.hid h
  clear h hlen
  unfold ndV
  go_enter Tryz.func35, Tryz.ntmps35
  go_wp2_with (first
    | (go_at_call 52; (with_reducible refine (HAS.out _ (ride_alloc (Below.refl _ _) _)).mono ?_); rintro e w1 ⟨rfl, hb1⟩; go_loud (
        have hbw := ride_call hb1 (ride_alloc (Below.refl w.heap.size w) _);
        have q0 : w1.cell? ⟨ga, 0, none⟩ = some (.map (some gm)) := (by unfold World.cell?; rw [(HH.out.below hbw).st]; rfl);
        have q1 := run_count 62 44 Tryz.underlying62 (HH.out.below hbw).map 3;
        have HBW := Lib.hid hbw;
        clear hb1 hbw)))
  go_ret
  exact HH.out.putR HBW.out 5
set_option maxHeartbeats 4000000 in
theorem put_good (w : World) (base ga gm gp id N : Nat) (F : PF) (vs : List (Nat × Value)) (ns : List (Nat × Nd)) (n : Nd) (A : Option Addr) (c : Nat) (h : AR w base ga gm gp F vs ns N) (hid : id < 18446744073709551616) (h0 : id ≠ 0) (hh : hasL ns id = true ∨ ns.length < 20000) (hv : NodeV w (ndV n (.slice A n.kids.length c)) n) (hs : IdSl w w.heap.size (.slice A n.kids.length c) n.kids)
    (hN : N + ((getL ns id).getD zeroNd).kids.length + n.kids.length ≤ 999999990) (hns : ns.length ≤ 1000000000) :
    Calls Tryz.prog 35 #[.pointer (some ⟨ga, 0, none⟩), .int .u64 (id : Int), ndV n (.slice A n.kids.length c)] w (PutR w base ga gm gp F 0 (putL' ns id n) (N + ((getL ns id).getD zeroNd).kids.length + n.kids.length)) := by
  have hz : ¬ (id : Int) = 0 := by omega
  have hz2 : ((id : Int) == 0) = false := by rw [beq_eq_false_iff_ne]; exact hz
  have hlen := nodes_len h.nodes h.map.rise h.rise
  obtain ⟨N', hN'⟩ : ∃ N', N' = N + ((getL ns id).getD zeroNd).kids.length + n.kids.length := ⟨_, rfl⟩
  have HSET : Hid (∀ y A c, Below w.heap.size w y → NodeV y (ndV n (.slice A n.kids.length c)) n → Calls Tryz.prog 51 #[.pointer (some ⟨ga, 0, none⟩), .int .u64 (id : Int), ndV n (.slice A n.kids.length c)] y (SetR y base ga gm gp F (putL' ns id n) N')) := Lib.hid fun y A c hy hn => by
    rw [hN']
    exact set_any y base ga gm gp id N F vs ns _ n (h.below hy) hn hid hN hns
  have HW : Hid (∀ y, Below w.heap.size w y → Calls Tryz.prog 26 #[ndV n (.slice A n.kids.length c)] y (WholeR y n)) := Lib.hid fun y hy => whole_any y n A c (hv.below hy) ((hs.below hy).up hy.size)
  have HAS : Hid (∀ y, Below w.heap.size w y → Calls Tryz.prog 52 #[.pointer (some ⟨ga, 0, none⟩), .int .u64 (id : Int)] y (fun e w' => e = .returned (.bool (hasL ns id)) ∧ Below y.heap.size y w')) := Lib.hid fun y hy => has_any y base ga gm gp id N F vs ns (h.below hy) hid
  rw [← hN']
  have HH := Lib.hid h
  clear h hv hs
  unfold ndV
  rcases hb : hasL ns id with _ | _
  · rw [hb] at HAS
    have hv : ((vs.length : Int) < 20000) := by
      rcases hh with hh | hh
      · rw [hb] at hh; cases hh
      · omega
    have hv2 : ¬ (20000 : Int) ≤ vs.length := by omega
    clear hlen hh hN hns hN'
    go_enter Tryz.func35, Tryz.ntmps35
    go_wp2_with (first
      | (go_at_call 52; (with_reducible refine (HAS.out _ (ride_alloc (Below.refl _ _) _)).mono ?_); rintro e w1 ⟨rfl, hb1⟩; go_loud (
          have hbw := ride_call hb1 (ride_alloc (Below.refl w.heap.size w) _);
          have q0 : w1.cell? ⟨ga, 0, none⟩ = some (.map (some gm)) := (by unfold World.cell?; rw [(HH.out.below hbw).st]; rfl);
          have q1 := run_count 62 44 Tryz.underlying62 (HH.out.below hbw).map 3;
          obtain ⟨b0, b1, b2, b3, b4, b5, b6⟩ := box_cells ((hb1.block w.heap.size (by simp)).trans (Go.heap_alloc_new w _));
          have HBW := Lib.hid hbw;
          clear hb1 hbw))
      | (go_at_call 26; (refine (HW.out _ HBW.out).mono ?_); rintro e w2 ⟨A1, c1, rfl, hI, hfr, hb2⟩; go_loud (
          unfold ndV;
          have HI := Lib.hid hI;
          have HB2 := Lib.hid (HBW.out.trans (hb2.mono HBW.out.size));
          clear hI hfr hb2))
      | (go_at_call 51; (refine (HSET.out _ A1 c1 HB2.out HI.out).mono ?_); rintro e w3 ⟨rfl, F1, vs1, hA, hT, hO⟩; go_loud (
          have HA := Lib.hid hA;
          have HT := Lib.hid hT;
          have HO := Lib.hid hO;
          clear hA hT hO)))
    go_ret
    exact ⟨rfl, F1, vs1, HA.out, ((Touch.of_below HB2.out (fun _ => False)).more (S' := OwnA gm gp F) (fun _ e => e.elim)).trans HT.out (fun j e => .inl e), fun j hj => (HO.out j hj).imp (fun h => h) fun h => Nat.le_trans HB2.out.size h⟩
  · rw [hb] at HAS
    clear hlen hh hN hns hN'
    go_enter Tryz.func35, Tryz.ntmps35
    go_wp2_with (first
      | (go_at_call 52; (with_reducible refine (HAS.out _ (ride_alloc (Below.refl _ _) _)).mono ?_); rintro e w1 ⟨rfl, hb1⟩; go_loud (
          have hbw := ride_call hb1 (ride_alloc (Below.refl w.heap.size w) _);
          obtain ⟨b0, b1, b2, b3, b4, b5, b6⟩ := box_cells ((hb1.block w.heap.size (by simp)).trans (Go.heap_alloc_new w _));
          have HBW := Lib.hid hbw;
          clear hb1 hbw))
      | (go_at_call 26; (refine (HW.out _ HBW.out).mono ?_); rintro e w2 ⟨A1, c1, rfl, hI, hfr, hb2⟩; go_loud (
          unfold ndV;
          have HI := Lib.hid hI;
          have HB2 := Lib.hid (HBW.out.trans (hb2.mono HBW.out.size));
          clear hI hfr hb2))
      | (go_at_call 51; (refine (HSET.out _ A1 c1 HB2.out HI.out).mono ?_); rintro e w3 ⟨rfl, F1, vs1, hA, hT, hO⟩; go_loud (
          have HA := Lib.hid hA;
          have HT := Lib.hid hT;
          have HO := Lib.hid hO;
          clear hA hT hO)))
    go_ret
    exact ⟨rfl, F1, vs1, HA.out, ((Touch.of_below HB2.out (fun _ => False)).more (S' := OwnA gm gp F) (fun _ e => e.elim)).trans HT.out (fun j e => .inl e), fun j hj => (HO.out j hj).imp (fun h => h) fun h => Nat.le_trans HB2.out.size h⟩
end Go.Proofs.YtecbaceinifjiaaGreatDoor
namespace Go.Proofs.YtecbaceinifjiaaGreatDoor
open Go.RowKit
set_option linter.unusedSimpArgs false
set_option linter.unusedVariables false
set_option maxRecDepth 100000
def EmptyR (w : World) (e : Ending) (w' : World) : Prop :=
  ∃ ga gm gp, e = .returned (.pointer (some ⟨ga, 0, none⟩)) ∧ AR w' w.heap.size ga gm gp [] [] [] 0 ∧ Below w.heap.size w w'
theorem empty_any (w : World) : Calls Tryz.prog 50 #[] w (EmptyR w) := by
  have hmm := @run_makeMap Tryz.prog
  go_enter Tryz.func50, Tryz.ntmps50
  go_wp2_with fail
  go_ret
  have s1 : (w.alloc (.map #[] 0)).heap.size = w.heap.size + 1 := by simp
  have s2 : ((w.alloc (.map #[] 0)).alloc (.map #[] 0)).heap.size = w.heap.size + 1 + 1 := by simp
  have hst := Go.heap_alloc_new ((w.alloc (.map #[] 0)).alloc (.map #[] 0)) (.cells #[.map (some w.heap.size), .map (some (w.heap.size + 1))] 66)
  have hgp := ParW.made (w.alloc (.map #[] 0)) w.heap.size
  rw [s1] at hgp
  rw [s2] at hst
  have hb1 : Below (w.alloc (.map #[] 0)).heap.size (w.alloc (.map #[] 0)) (((w.alloc (.map #[] 0)).alloc (.map #[] 0)).alloc (.cells #[.map (some w.heap.size), .map (some (w.heap.size + 1))] 66)) := ((Below.refl _ _).alloc (Nat.le_refl _) _).alloc (by simp) _
  have hb2 : Below ((w.alloc (.map #[] 0)).alloc (.map #[] 0)).heap.size ((w.alloc (.map #[] 0)).alloc (.map #[] 0)) (((w.alloc (.map #[] 0)).alloc (.map #[] 0)).alloc (.cells #[.map (some w.heap.size), .map (some (w.heap.size + 1))] 66)) := (Below.refl _ _).alloc (Nat.le_refl _) _
  refine ⟨_, _, _, rfl, ⟨hst, (MapV.made w).at_ (hb1.block _ (by rw [s1]; omega)), Rise.nil, fun k => trivial, ⟨hgp.below hb2, fun k i => ?_, fun k => Nat.le_refl _, Nat.le_refl _, fun k i => Nat.le_refl _⟩, by omega, by omega, by omega, by omega, by simp; omega⟩, (((Below.refl _ _).alloc (Nat.le_refl _) _).alloc (by simp) _).alloc (by simp; omega) _⟩
  rfl
def progNd : Nd := ⟨1, ⟨#[]⟩, 0, 0, 0, []⟩
def NewR (w : World) (e : Ending) (w' : World) : Prop :=
  ∃ ga gm gp F vs, e = .returned (.pointer (some ⟨ga, 0, none⟩)) ∧ AR w' w.heap.size ga gm gp F vs [(1, progNd)] 0 ∧ Below w.heap.size w w'
theorem new_any (w : World) : Calls Tryz.prog 34 #[] w (NewR w) := by
  have HE := Lib.hid (empty_any w)
  go_enter Tryz.func34, Tryz.ntmps34
  go_wp2_with (first
    | (go_at_call 50; (with_reducible refine (HE.out).mono ?_); rintro e w1 ⟨ga, gm, gp, rfl, hA, hb1⟩; go_loud (
        have HA := Lib.hid hA;
        have HB1 := Lib.hid hb1;
        clear hA hb1))
    | (go_at_call 51; (refine (set_any _ w.heap.size ga gm gp 1 0 [] [] [] (ndV progNd (.slice none 0 0)) progNd HA.out ⟨⟨none, 0, rfl, IdSl.nil _ _⟩, ⟨by decide, by decide, by decide, by decide, by decide⟩⟩ (by decide) (by decide) (by decide)).mono ?_); rintro e w2 ⟨rfl, F1, vs1, hA2, hT, hO⟩; go_loud (
        have HA2 := Lib.hid hA2;
        have HT := Lib.hid hT;
        clear hA2 hT hO)))
  go_ret
  exact ⟨ga, gm, gp, F1, vs1, rfl, HA2.out, HB1.out.trans (HT.out.below HB1.out.size fun j e => HA.out.low e)⟩
end Go.Proofs.YtecbaceinifjiaaGreatDoor
