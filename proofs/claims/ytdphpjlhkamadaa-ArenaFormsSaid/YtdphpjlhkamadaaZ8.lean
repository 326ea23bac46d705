/- AGet, AAsk: joined by program (tools/merge.py). -/
import Derived.Test.YtdphpjlhkamadaaZ7
import Derived.Deep.AppendLies
import Derived.Lib.SliceRun
namespace Go.Proofs.Ytdphpjlhkamadaa
open Go.RowKit
set_option linter.unusedSimpArgs false
set_option linter.unusedVariables false
set_option maxRecDepth 100000
theorem infoId : (Try.prog.info? 24).map (fun i => (i.zero, i.size, i.bytes)) = some (some (.int .u64 0), 1, 8) := by kernel_rfl
theorem ids_one (l : List Nat) : ∀ u ∈ ids l, u.oneCell' = true := fun u hu => by
  unfold ids at hu
  obtain ⟨k, _, rfl⟩ := List.mem_map.1 hu
  rfl
/-- A row of the call's own is a slice of numbers of nodes. -/
theorem IdSl.of_own {w : World} {base n c : Nat} {A : Option Addr} {l : List Nat} (h : w.ownsRow base 24 1 (.slice A n c) n (ids l)) (hs : ∀ k ∈ l, k < 18446744073709551616) (hl : l.length ≤ 1000000000) : IdSl w w.heap.size (.slice A n c) l := by
  have hn : n = l.length := by have := h.1; rw [ids_length] at this; omega
  subst hn
  refine ⟨⟨A, c, rfl, Lies.of_own h, ?_, fun ad e => ?_⟩, hs, hl⟩
  · rcases h.2 with ⟨e, h0⟩ | ⟨g, cap, cur, e, _, _, hc, _⟩
    · injection e with _ _ e; omega
    · injection e with _ _ e; omega
  · rcases h.2 with ⟨e2, _⟩ | ⟨g, cap, cur, e2, _, hg, _⟩
    · injection e2 with e2 _ _; rw [e2] at e; cases e
    · injection e2 with e2 _ _
      rw [e2] at e
      injection e with e
      rw [← e]
      exact ⟨lt_of_heap2 hg, cur, _, hg⟩
def CloneR (w : World) (l : List Nat) (e : Ending) (w' : World) : Prop :=
  ∃ A c, e = .returned (.slice A l.length c) ∧ IdSl w' w'.heap.size (.slice A l.length c) l ∧ (∀ ad, A = some ad → w.heap.size ≤ ad.block) ∧ Below w.heap.size w w'
set_option maxHeartbeats 4000000 in
theorem clone_any (w : World) (A : Option Addr) (c : Nat) (l : List Nat) (h : IdSl w w.heap.size (.slice A l.length c) l) :
    Calls Try.prog 43 #[.slice A l.length c] w (CloneR w l) := by
  have hlong := h.long
  obtain ⟨i0, hi0, hz0, hs0, hb0⟩ := info_parts infoId
  cases A with
  | none =>
    have hnil : l = [] := by
      cases l with
      | nil => rfl
      | cons x r => obtain ⟨ad, e, _⟩ := h.at_ (i := 0) (k := x) rfl; cases e
    subst hnil
    have hnl : ∀ W : World, (binOp .eql 30 (.slice none 0 c) (.slice none 0 0)).run Try.prog W = .ok (.bool true) W := fun W => by
      rw [Lib.run_eql_slice_nil W 30 24 _ 0 c 0 0 Try.underlying30]
      rfl
    clear h
    go_enter Try.func43, Try.ntmps43
    go_wp2_with fail
    go_ret
    exact ⟨none, _, rfl, IdSl.nil _ _, fun ad e => (by cases e), Below.refl _ _⟩
  | some ad =>
    obtain ⟨n, hn⟩ : ∃ n, n = l.length := ⟨_, rfl⟩
    rw [← hn] at h hlong ⊢
    have hcells : ∀ (j : Nat) (u : Value), (ids l)[j]? = some u → (w.alloc (.cells #[] 24)).cell? (ad.add j) = some u := fun j u hj => by
      obtain ⟨⟨A', c', e, h1, _⟩, _, _⟩ := h
      injection e with e _ _
      obtain ⟨ad', e', hbk, hc⟩ := h1 j u hj
      rw [← e] at e'
      injection e' with e'
      subst e'
      exact (((Below.refl w.heap.size w).alloc (Nat.le_refl _) _).cell (by rw [addr_add_block]; exact hbk)).trans hc
    have HE : Hid ((w.alloc (.cells #[] 24)).ownsRow w.heap.size 24 1 (.slice (some ⟨w.heap.size, 0, none⟩) 0 0) 0 []) := Lib.hid ⟨rfl, .inr ⟨w.heap.size, 0, #[], rfl, Nat.le_refl _, Go.heap_alloc_new _ _, Nat.le_refl _, Nat.zero_le _, rfl, rfl⟩⟩
    have hnl : ∀ W : World, (binOp .eql 30 (.slice (some ad) n c) (.slice none 0 0)).run Try.prog W = .ok (.bool false) W := fun W => by
      rw [Lib.run_eql_slice_nil W 30 24 _ n c 0 0 Try.underlying30]
      rfl
    have HC := Lib.hid hcells
    have HH := Lib.hid h
    have HN := Lib.hid hn
    clear h hn hcells
    go_enter Try.func43, Try.ntmps43
    go_wp2_with (at_builtin; go_loud (
      refine wpList_append_own_at _ rfl _ _ 30 rfl w.heap.size 24 i0 (.int .u64 0) 1 8 Try.underlying30 hi0 hz0 hs0 hb0 rfl (by decide) (.slice (some ⟨w.heap.size, 0, none⟩) 0 0) 0 [] rfl HE.out ad n c (ids l) rfl (by rw [ids_length, ← HN.out]; omega) HC.out (ids_one l) (by unfold maxLen; omega) (by omega) (by simp) ?_;
      intro v' w' hown' hgrow hnil hloc;
      rw [Nat.zero_add, List.nil_append] at hown';
      have HO := Lib.hid hown';
      have HG := Lib.hid hgrow;
      have HL := Lib.hid hloc;
      clear hown' hgrow hnil hloc))
    go_ret
    have hf : ∃ A2 c2, v' = .slice A2 n c2 := by
      rcases HO.out.2 with ⟨e, h0⟩ | ⟨g, cap, cur, e, _⟩
      · exact ⟨none, 0, by rw [e, h0]⟩
      · exact ⟨_, _, e⟩
    obtain ⟨A2, c2, rfl⟩ := hf
    have hid := IdSl.of_own HO.out HH.out.small (by have := HH.out.long; exact this)
    have hfin : Ending.returned (.slice A2 n c2) = .returned (.slice A2 l.length c2) := by rw [← HN.out]
    refine ⟨A2, c2, hfin, by rw [← HN.out]; exact hid, fun ad2 e => ?_, ((Below.refl _ _).alloc (Nat.le_refl _) _).grown HG.out (by simp) (fun k hk => Nat.le_of_eq (Option.some.inj hk))⟩
    subst e
    exact (World.ownsRow.lt HO.out ad2.block rfl).1
def WholeR (w : World) (n : Nd) (e : Ending) (w' : World) : Prop :=
  ∃ A c, e = .returned (ndV n (.slice A n.kids.length c)) ∧ NodeV w' (ndV n (.slice A n.kids.length c)) n ∧ (∀ ad, A = some ad → w.heap.size ≤ ad.block) ∧ Below w.heap.size w w'
theorem alloc2 (w : World) (o : Obj) (cs : Array Value) (t : TypeId) (z : Nat × Nat := (0, 0)) : ((w.alloc o).alloc (.cells cs t z)).heap[w.heap.size + 1]? = some (.cells cs t z) := by
  have h := Go.heap_alloc_new (w.alloc o) (.cells cs t z)
  have e : (w.alloc o).heap.size = w.heap.size + 1 := by simp
  rw [e] at h
  exact h
theorem box_cells {w : World} {g : Nat} {n : Nd} {kv : Value} (h : w.heap[g]? = some (.cells #[.int .u8 (n.kind : Int), .string n.name, .int .i64 n.num, .int .u8 (n.typ : Int), .int .u64 (n.ref : Int), kv] 33 (0, 0))) :
    w.cell? ⟨g, 0, none⟩ = some (.int .u8 (n.kind : Int)) ∧ w.cell? ⟨g, 1, none⟩ = some (.string n.name) ∧ w.cell? ⟨g, 2, none⟩ = some (.int .i64 n.num) ∧ w.cell? ⟨g, 3, none⟩ = some (.int .u8 (n.typ : Int)) ∧ w.cell? ⟨g, 4, none⟩ = some (.int .u64 (n.ref : Int)) ∧ w.cell? ⟨g, 5, none⟩ = some kv ∧ w.frozen? ⟨g, 5, none⟩ = false := by
  refine ⟨?_, ?_, ?_, ?_, ?_, ?_, frozen_of_row w g _ _ _ h⟩ <;> (unfold World.cell?; rw [h]; rfl)
theorem zero_cells {w : World} {g : Nat} (h : w.heap[g]? = some (.cells #[.int .u8 0, .string ⟨#[]⟩, .int .i64 0, .int .u8 0, .int .u64 0, .slice none 0 0] 33 (0, 0))) :
    (w.cell? ⟨g, 0, none⟩ = some (.int .u8 0) ∧ w.cell? ⟨g, 1, none⟩ = some (.string ⟨#[]⟩) ∧ w.cell? ⟨g, 2, none⟩ = some (.int .i64 0) ∧ w.cell? ⟨g, 3, none⟩ = some (.int .u8 0) ∧ w.cell? ⟨g, 4, none⟩ = some (.int .u64 0) ∧ w.cell? ⟨g, 5, none⟩ = some (.slice none 0 0)) ∧
    w.frozen? ⟨g, 0, none⟩ = false ∧ w.frozen? ⟨g, 1, none⟩ = false ∧ w.frozen? ⟨g, 2, none⟩ = false ∧ w.frozen? ⟨g, 3, none⟩ = false ∧ w.frozen? ⟨g, 4, none⟩ = false ∧ w.frozen? ⟨g, 5, none⟩ = false := by
  refine ⟨⟨?_, ?_, ?_, ?_, ?_, ?_⟩, frozen_of_row w g _ _ _ h, frozen_of_row w g _ _ _ h, frozen_of_row w g _ _ _ h, frozen_of_row w g _ _ _ h, frozen_of_row w g _ _ _ h, frozen_of_row w g _ _ _ h⟩ <;> (unfold World.cell?; rw [h]; rfl)
theorem nodeInfo : (Try.prog.info? 33).map (·.size) = some 6 := by kernel_rfl
theorem results_one {fn : Func} {p : Tmp} {ty : TypeId} (h : fn.results = #[.cell p ty]) (tmps : Array Value) (P : Program) (w : World) :
    (results fn tmps).run P w = ((asAddr (tmps.getD p undef)).run P w).andThen fun a w₁ => (loadVar ty a).run P w₁ := by
  simp only [results, h]
  simp [Sem.run_bind, Result.andThen]
theorem results_two {fn : Func} {p u : Tmp} {ty : TypeId} (h : fn.results = #[.cell p ty, .tmp u]) (tmps : Array Value) (P : Program) (w : World) :
    (results fn tmps).run P w = ((asAddr (tmps.getD p undef)).run P w).andThen fun a w₁ => ((loadVar ty a).run P w₁).andThen fun x w₂ => .ok (.tuple #[x, tmps.getD u undef]) w₂ := by
  simp only [results, h]
  simp [Sem.run_bind, Result.andThen]
theorem node_ret {fn : Func} {p : Tmp} {a : Act} {w : World} {R : Ending → World → Prop} {g : Nat} {cs : Array Value} (hf : fn.results = #[.cell p 33]) (hd : a.defers = []) (h2 : a.tmps.getD p undef = .pointer (some ⟨g, 0, none⟩))
    (hg : w.heap[g]? = some (.cells cs 33 (0, 0))) (hs : cs.size = 6) (hR : R (.returned (.agg cs)) w) : bodyPost Try.prog fn R .ret a w := by
  refine bodyPost_ret_by (v := .agg cs) ?_ hd hR
  have hl := run_loadVar_row (P := Try.prog) w g 33 33 cs (0, 0) _ hg Try.underlying33 rfl (by rw [nodeInfo, hs])
  rw [results_one hf, h2]
  simp [asAddr, Result.andThen, hl]
theorem node_ret2 {fn : Func} {p u : Tmp} {a : Act} {w : World} {R : Ending → World → Prop} {g : Nat} {cs : Array Value} {v : Value} (hf : fn.results = #[.cell p 33, .tmp u]) (hd : a.defers = []) (h2 : a.tmps.getD p undef = .pointer (some ⟨g, 0, none⟩)) (h3 : a.tmps.getD u undef = v)
    (hg : w.heap[g]? = some (.cells cs 33 (0, 0))) (hs : cs.size = 6) (hR : R (.returned (.tuple #[.agg cs, v])) w) : bodyPost Try.prog fn R .ret a w := by
  refine bodyPost_ret_by (v := .tuple #[.agg cs, v]) ?_ hd hR
  have hl := run_loadVar_row (P := Try.prog) w g 33 33 cs (0, 0) _ hg Try.underlying33 rfl (by rw [nodeInfo, hs])
  rw [results_two hf, h2, h3]
  simp [asAddr, Result.andThen, hl]
theorem set_node {w : World} {g : Nat} {v0 v1 v2 v3 v4 v5 u0 u1 u2 u3 u4 u5 : Value} (h : w.heap[g]? = some (.cells #[u0, u1, u2, u3, u4, u5] 33 (0, 0))) :
    ((((((w.setCell ⟨g, 0, none⟩ v0).setCell ⟨g, 1, none⟩ v1).setCell ⟨g, 2, none⟩ v2).setCell ⟨g, 3, none⟩ v3).setCell ⟨g, 4, none⟩ v4).setCell ⟨g, 5, none⟩ v5).heap[g]? = some (.cells #[v0, v1, v2, v3, v4, v5] 33 (0, 0)) := by
  rw [heap_setCell_same _ g 5 _ _ _ (heap_setCell_same _ g 4 _ _ _ (heap_setCell_same _ g 3 _ _ _ (heap_setCell_same _ g 2 _ _ _ (heap_setCell_same _ g 1 _ _ _ (heap_setCell_same _ g 0 _ _ _ h)))))]
  rfl
theorem below_node {a w : World} {B g : Nat} {v0 v1 v2 v3 v4 v5 : Value} (h : Below B a w) (hg : B ≤ g) :
    Below B a ((((((w.setCell ⟨g, 0, none⟩ v0).setCell ⟨g, 1, none⟩ v1).setCell ⟨g, 2, none⟩ v2).setCell ⟨g, 3, none⟩ v3).setCell ⟨g, 4, none⟩ v4).setCell ⟨g, 5, none⟩ v5) := (((((h.setCell hg _).setCell hg _).setCell hg _).setCell hg _).setCell hg _).setCell hg _
set_option maxHeartbeats 4000000 in
theorem whole_any (w : World) (n : Nd) (A : Option Addr) (c : Nat) (h : NodeV w (ndV n (.slice A n.kids.length c)) n) (hs : IdSl w w.heap.size (.slice A n.kids.length c) n.kids) :
    Calls Try.prog 17 #[ndV n (.slice A n.kids.length c)] w (WholeR w n) := by
  have hok := h.2
  have hXb : Below w.heap.size w (w.alloc (.cells #[.int .u8 (n.kind : Int), .string n.name, .int .i64 n.num, .int .u8 (n.typ : Int), .int .u64 (n.ref : Int), .slice A n.kids.length c] 33)) := (Below.refl _ _).alloc (Nat.le_refl _) _
  have hXh := Go.heap_alloc_new w (.cells #[.int .u8 (n.kind : Int), .string n.name, .int .i64 n.num, .int .u8 (n.typ : Int), .int .u64 (n.ref : Int), .slice A n.kids.length c] 33)
  have HCL : Hid (∀ y, Below (w.alloc (.cells #[.int .u8 (n.kind : Int), .string n.name, .int .i64 n.num, .int .u8 (n.typ : Int), .int .u64 (n.ref : Int), .slice A n.kids.length c] 33)).heap.size (w.alloc (.cells #[.int .u8 (n.kind : Int), .string n.name, .int .i64 n.num, .int .u8 (n.typ : Int), .int .u64 (n.ref : Int), .slice A n.kids.length c] 33)) y → Calls Try.prog 43 #[.slice A n.kids.length c] y (CloneR y n.kids)) := Lib.hid fun y hy => clone_any y A c n.kids (((hs.below hXb).up hXb.size).below hy |>.up hy.size)
  have HOK := Lib.hid hok
  have HXB := Lib.hid hXb
  have HXH := Lib.hid hXh
  clear h hs hok hXb hXh
  unfold ndV
  go_enter Try.func17, Try.ntmps17
  go_wp2_with (first
    | (go_at_call 43; (with_reducible refine (HCL.out _ (ride_alloc (Below.refl _ _) _)).mono ?_); rintro e w1 ⟨A1, c1, rfl, hI, hfr, hb1⟩; go_loud (
        have hbx := (hb1.block w.heap.size (by simp; omega)).trans ((heap_alloc_lt _ _ (by simp)).trans HXH.out);
        obtain ⟨b0, b1, b2, b3, b4, b5, b6⟩ := box_cells hbx;
        have hrx := (hb1.block (w.heap.size + 1) (by simp)).trans (alloc2 _ _ _ _ _);
        obtain ⟨⟨r0, r1, r2, r3, r4, r5⟩, f0, f1, f2, f3, f4, f5⟩ := zero_cells hrx;
        have HRX := Lib.hid hrx;
        have HI := Lib.hid hI;
        have HFR := Lib.hid hfr;
        have HB1 := Lib.hid hb1;
        clear hI hfr hb1 hbx hrx)))
  have hw0 : w.heap.size < w1.heap.size := by have := HB1.out.size; simp at this; omega
  have hbw : Below w.heap.size w (w1.setCell ⟨w.heap.size, 5, none⟩ (.slice A1 n.kids.length c1)) := (HXB.out.trans ((((Below.refl _ _).alloc (Nat.le_refl _) _).trans (HB1.out.mono (by simp))).mono HXB.out.size)).setCell (p := ⟨w.heap.size, 5, none⟩) (Nat.le_refl _) _
  have hrb := (heap_setCell_other w1 ⟨w.heap.size, 5, none⟩ (w.heap.size + 1) (.slice A1 n.kids.length c1) (by show w.heap.size + 1 ≠ w.heap.size; omega)).trans HRX.out
  have hfin := set_node (v0 := .int .u8 (n.kind : Int)) (v1 := .string n.name) (v2 := .int .i64 n.num) (v3 := .int .u8 (n.typ : Int)) (v4 := .int .u64 (n.ref : Int)) (v5 := .slice A1 n.kids.length c1) hrb
  have hbf := below_node (v0 := .int .u8 (n.kind : Int)) (v1 := .string n.name) (v2 := .int .i64 n.num) (v3 := .int .u8 (n.typ : Int)) (v4 := .int .u64 (n.ref : Int)) (v5 := .slice A1 n.kids.length c1) hbw (show w.heap.size ≤ w.heap.size + 1 by omega)
  refine node_ret (p := 2) rfl rfl rfl hfin rfl ?_
  refine ⟨A1, c1, rfl, ⟨⟨A1, c1, rfl, ?_⟩, HOK.out⟩, fun ad e => ?_, hbf⟩
  · refine (HI.out.keep fun j cs z hj hcs => ?_).up (by simp [World.setCell])
    have hj1 : j ≠ w.heap.size := fun e => by
      have h1 := (HB1.out.block w.heap.size (by simp; omega)).trans ((heap_alloc_lt _ _ (by simp)).trans HXH.out)
      rw [e, h1] at hcs
      injection hcs with hcs
      injection hcs with _ h2 _
      revert h2
      decide
    have hj2 : j ≠ w.heap.size + 1 := fun e => by
      rw [e, HRX.out] at hcs
      injection hcs with hcs
      injection hcs with _ h2 _
      revert h2
      decide
    rw [heap_setCell_other _ ⟨w.heap.size + 1, 5, none⟩ j _ hj2, heap_setCell_other _ ⟨w.heap.size + 1, 4, none⟩ j _ hj2, heap_setCell_other _ ⟨w.heap.size + 1, 3, none⟩ j _ hj2, heap_setCell_other _ ⟨w.heap.size + 1, 2, none⟩ j _ hj2, heap_setCell_other _ ⟨w.heap.size + 1, 1, none⟩ j _ hj2, heap_setCell_other _ ⟨w.heap.size + 1, 0, none⟩ j _ hj2, heap_setCell_other _ ⟨w.heap.size, 5, none⟩ j _ hj1]
  · have := HFR.out ad e
    simp at this
    omega
end Go.Proofs.Ytdphpjlhkamadaa
namespace Go.Proofs.Ytdphpjlhkamadaa
open Go.RowKit
set_option linter.unusedSimpArgs false
set_option linter.unusedVariables false
set_option maxRecDepth 100000
theorem has_any (w : World) (base ga gm gp id N : Nat) (F : PF) (vs : List (Nat × Value)) (ns : List (Nat × Nd)) (h : AR w base ga gm gp F vs ns N) (hid : id < 18446744073709551616) :
    Calls Try.prog 57 #[.pointer (some ⟨ga, 0, none⟩), .int .u64 (id : Int)] w (fun e w' => e = .returned (.bool (hasL ns id)) ∧ Below w.heap.size w w') := by
  have q0 : w.cell? ⟨ga, 0, none⟩ = some (.map (some gm)) := by unfold World.cell?; rw [h.st]; rfl
  obtain ⟨A, c, hold, _, _, hhas⟩ := h.nodes.get id
  obtain ⟨o, ho⟩ : ∃ o, o = (getL ns id).getD zeroNd := ⟨_, rfl⟩
  rw [← ho] at hold
  have HM := Lib.hid h.map
  have HH := Lib.hid hhas
  have HOLD := Lib.hid hold
  clear h hhas hold ho
  go_enter Try.func57, Try.ntmps57
  go_wp2_with (at_lookup; go_loud (
      refine wpList_lookOk w rfl _ _ 70 33 rfl Try.underlying70 (ndV zeroNd (.slice none 0 0)) (zeroNode w) gm vs rfl HM.out id hid rfl ?_;
      rw [HH.out, HOLD.out]; unfold ndV))
  go_ret
  exact ⟨rfl, (Below.refl _ _).alloc (Nat.le_refl _) _⟩
theorem len_nil (w : World) : Calls Try.prog 28 #[.pointer none] w (fun e w' => e = .returned (.int .i64 0) ∧ Below w.heap.size w w') := by
  go_enter Try.func28, Try.ntmps28
  go_wp2_with fail
  go_ret
  exact ⟨rfl, Below.refl _ _⟩
theorem len_any (w : World) (base ga gm gp N : Nat) (F : PF) (vs : List (Nat × Value)) (ns : List (Nat × Nd)) (h : AR w base ga gm gp F vs ns N) :
    Calls Try.prog 28 #[.pointer (some ⟨ga, 0, none⟩)] w (fun e w' => e = .returned (.int .i64 (ns.length : Int)) ∧ Below w.heap.size w w') := by
  have q0 : w.cell? ⟨ga, 0, none⟩ = some (.map (some gm)) := by unfold World.cell?; rw [h.st]; rfl
  have hl := nodes_len h.nodes h.map.rise h.rise
  rw [← hl]
  have HM := Lib.hid h.map
  clear h hl
  go_enter Try.func28, Try.ntmps28
  go_wp2_with (at_len; go_loud (
      refine wpList_count w rfl _ 70 33 rfl Try.underlying70 gm vs rfl HM.out ?_))
  go_ret
  exact ⟨rfl, Below.refl _ _⟩
def GetR (w : World) (n : Nd) (b : Bool) (e : Ending) (w' : World) : Prop :=
  ∃ A c, e = .returned (.tuple #[ndV n (.slice A n.kids.length c), .bool b]) ∧ NodeV w' (ndV n (.slice A n.kids.length c)) n ∧ (∀ ad, A = some ad → w.heap.size ≤ ad.block) ∧ Below w.heap.size w w'
theorem NodeV.set6 {w : World} {v : Value} {n : Nd} {g : Nat} {v0 v1 v2 v3 v4 v5 : Value} {cs0 : Array Value} (h : NodeV w v n) (hg : w.heap[g]? = some (.cells cs0 33 (0, 0))) :
    NodeV ((((((w.setCell ⟨g, 0, none⟩ v0).setCell ⟨g, 1, none⟩ v1).setCell ⟨g, 2, none⟩ v2).setCell ⟨g, 3, none⟩ v3).setCell ⟨g, 4, none⟩ v4).setCell ⟨g, 5, none⟩ v5) v n := h.keep (by simp [World.setCell]) fun j cs z hj => by
  have hj2 : j ≠ g := fun e => by
    rw [e, hg] at hj
    injection hj with hj
    injection hj with _ h2 _
    revert h2
    decide
  rw [heap_setCell_other _ ⟨g, 5, none⟩ j _ hj2, heap_setCell_other _ ⟨g, 4, none⟩ j _ hj2, heap_setCell_other _ ⟨g, 3, none⟩ j _ hj2, heap_setCell_other _ ⟨g, 2, none⟩ j _ hj2, heap_setCell_other _ ⟨g, 1, none⟩ j _ hj2, heap_setCell_other _ ⟨g, 0, none⟩ j _ hj2]
theorem get_nil (w : World) (x : Value) : Calls Try.prog 12 #[.pointer none, x] w (GetR w zeroNd false) := by
  go_enter Try.func12, Try.ntmps12
  go_wp2_with fail
  exact node_ret2 (p := 4) (u := 5) rfl rfl rfl rfl (Go.heap_alloc_new w _) rfl ⟨none, 0, rfl, NodeV.zero _, fun ad e => (by cases e), (Below.refl _ _).alloc (Nat.le_refl _) _⟩
theorem get_any (w : World) (base ga gm gp id N : Nat) (F : PF) (vs : List (Nat × Value)) (ns : List (Nat × Nd)) (h : AR w base ga gm gp F vs ns N) (hid : id < 18446744073709551616) :
    Calls Try.prog 12 #[.pointer (some ⟨ga, 0, none⟩), .int .u64 (id : Int)] w (GetR w ((getL ns id).getD zeroNd) (hasL ns id)) := by
  have q0 : (w.alloc (.cells #[.int .u8 0, .string ⟨#[]⟩, .int .i64 0, .int .u8 0, .int .u64 0, .slice none 0 0] 33)).cell? ⟨ga, 0, none⟩ = some (.map (some gm)) := by
    rw [((Below.refl w.heap.size w).alloc (Nat.le_refl _) _).cell (p := ⟨ga, 0, none⟩) (lt_of_heap2 h.st)]
    unfold World.cell?; rw [h.st]; rfl
  have hM0 := (h.below ((Below.refl w.heap.size w).alloc (Nat.le_refl _) (.cells #[.int .u8 0, .string ⟨#[]⟩, .int .i64 0, .int .u8 0, .int .u64 0, .slice none 0 0] 33))).map
  obtain ⟨A, c, hold, hos, hook, hhas⟩ := h.nodes.get id
  obtain ⟨o, ho⟩ : ∃ o, o = (getL ns id).getD zeroNd := ⟨_, rfl⟩
  rw [← ho] at hold hos hook ⊢
  have HW : Hid (∀ y, Below w.heap.size w y → Calls Try.prog 17 #[ndV o (.slice A o.kids.length c)] y (WholeR y o)) := Lib.hid fun y hy => whole_any y o A c ⟨⟨A, c, rfl, (hos.below hy).up hy.size⟩, hook⟩ ((hos.below hy).up hy.size)
  have HM := Lib.hid hM0
  have HH := Lib.hid hhas
  have HOLD := Lib.hid hold
  clear h hhas hold hos ho hM0
  go_enter Try.func12, Try.ntmps12
  go_wp2_with (first
    | (at_lookup; go_loud (
      refine wpList_lookOk _ rfl _ _ 70 33 rfl Try.underlying70 (ndV zeroNd (.slice none 0 0)) (zeroNode _) gm vs rfl HM.out id hid rfl ?_;
      rw [HH.out, HOLD.out]; unfold ndV))
    | (go_at_call 17; (refine (HW.out _ (ride_alloc (ride_alloc (Below.refl _ _) _) _)).mono ?_); rintro e w1 ⟨A1, c1, rfl, hI, hfr, hb1⟩; go_loud (
        unfold ndV;
        have hrx := (hb1.block w.heap.size (by simp; omega)).trans ((heap_alloc_lt _ _ (by simp)).trans (Go.heap_alloc_new w _));
        obtain ⟨⟨r0, r1, r2, r3, r4, r5⟩, f0, f1, f2, f3, f4, f5⟩ := zero_cells hrx;
        have HRX := Lib.hid hrx;
        have HI := Lib.hid hI;
        have HFR := Lib.hid hfr;
        have HB1 := Lib.hid hb1;
        clear hI hfr hb1 hrx)))
  have hfin := set_node (v0 := .int .u8 (o.kind : Int)) (v1 := .string o.name) (v2 := .int .i64 o.num) (v3 := .int .u8 (o.typ : Int)) (v4 := .int .u64 (o.ref : Int)) (v5 := .slice A1 o.kids.length c1) HRX.out
  have hbw : Below w.heap.size w w1 := ((((Below.refl w.heap.size w).alloc (Nat.le_refl _) _).alloc (by simp) _).trans (HB1.out.mono (by simp; omega)))
  exact node_ret2 (p := 4) (u := 5) rfl rfl rfl rfl hfin rfl ⟨A1, c1, rfl, HI.out.set6 HRX.out, fun ad e => (by have := HFR.out ad e; simp at this; omega), below_node hbw (Nat.le_refl _)⟩
end Go.Proofs.Ytdphpjlhkamadaa
