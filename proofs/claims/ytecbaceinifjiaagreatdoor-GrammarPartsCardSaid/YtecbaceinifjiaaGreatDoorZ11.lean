/- GStep, GLeaf: joined by program (tools/merge.py). -/
import Derived.Test.YtecbaceinifjiaaGreatDoorZ10
import Derived.Test.YtecbaceinifjiaaGreatDoorZ7
import Derived.ProofKit
import Derived.WalkKit
namespace Go.Proofs.YtecbaceinifjiaaGreatDoor
open Go.RowKit
set_option linter.unusedSimpArgs false
set_option linter.unusedVariables false
set_option maxRecDepth 100000
def Only (g : Nat) (j : Nat) : Prop := j = g
/-- A function's variables have begun. -/
def Live (M : GM) : Prop := (∃ g, M.vt = some g) ∧ ∃ g, M.vv = some g
/-- From w on the parser came to s'. -/
def GStep (w : World) (base : Nat) (M : GM) (s' : PS) (w' : World) : Prop :=
  ∃ M', GR w' base M' s' ∧ M'.gp = M.gp ∧ Touch w w' (OwnG M) ∧ (∀ j, OwnG M' j → OwnG M j ∨ w.heap.size ≤ j) ∧ (Live M → Live M')
/-- .. and nothing but its own fields has changed. -/
def LStep (w : World) (base : Nat) (M : GM) (s' : PS) (w' : World) : Prop :=
  ∃ l, GR w' base { M with left := l } s' ∧ Touch w w' (Only M.gp)
theorem LStep.step {w w' : World} {base : Nat} {M : GM} {s' : PS} (h : LStep w base M s' w') : GStep w base M s' w' := by
  obtain ⟨l, h1, h2⟩ := h
  exact ⟨_, h1, rfl, h2.more fun j e => .inl e, fun j h => .inl h, fun h => h⟩
theorem LStep.refl {w : World} {base : Nat} {M : GM} {s : PS} (h : GR w base M s) : LStep w base M s w := ⟨M.left, h, Touch.refl _ _⟩
theorem GStep.refl {w : World} {base : Nat} {M : GM} {s : PS} (h : GR w base M s) : GStep w base M s w := (LStep.refl h).step
theorem LStep.trans {w w1 w2 : World} {base : Nat} {M : GM} {l : Value} {s2 : PS} (h1 : Touch w w1 (Only M.gp)) (h2 : LStep w1 base { M with left := l } s2 w2) : LStep w base M s2 w2 := by
  obtain ⟨l2, h3, h4⟩ := h2
  exact ⟨l2, h3, h1.trans h4 fun j e => .inl e⟩
theorem GStep.trans {w w1 w2 : World} {base : Nat} {M M1 : GM} {s2 : PS} (hg : M1.gp = M.gp) (h1 : Touch w w1 (OwnG M)) (h2 : ∀ j, OwnG M1 j → OwnG M j ∨ w.heap.size ≤ j) (hl : Live M → Live M1) (h3 : GStep w1 base M1 s2 w2) : GStep w base M s2 w2 := by
  obtain ⟨M2, h4, h5, h6, h7, h10⟩ := h3
  refine ⟨M2, h4, h5.trans hg, h1.trans h6 h2, fun j hj => ?_, fun h => h10 (hl h)⟩
  rcases h7 j hj with h8 | h8
  · exact h2 j h8
  · exact .inr (Nat.le_trans h1.size h8)
theorem GR.gpL {w : World} {base : Nat} {M : GM} {s : PS} (h : GR w base M s) : M.gp < w.heap.size := lt_of_heap2 h.st
/-- What the parser owns is there, and above its base. -/
theorem GR.own {w : World} {base : Nat} {M : GM} {s : PS} (h : GR w base M s) {j : Nat} (hj : OwnG M j) : base ≤ j ∧ j < w.heap.size := by
  rcases hj with e | e | ⟨kv, hkv, e⟩ | e | e | e | e | e | e
  · rw [e]; exact ⟨h.o1, h.gpL⟩
  · exact h.nodes.own.lt _ e
  · obtain ⟨i, hi, hx⟩ := List.mem_iff_getElem.1 hkv
    have hi2 : i < s.nodes.length := by rw [← h.nodes.len]; exact hi
    exact (h.nodes.kid i _ kv (List.getElem?_eq_getElem hi2) (by rw [List.getElem?_eq_getElem hi, hx])).lt _ e
  · rw [e]; exact ⟨h.o2, h.mods.lt⟩
  · rw [e]; exact ⟨h.o3, h.funs.lt⟩
  · refine ⟨h.o4 _ e, ?_⟩
    rcases h.taken with ⟨h1, _⟩ | ⟨g, h1, h2⟩
    · rw [h1] at e; cases e
    · rw [h1] at e; injection e with e; rw [← e]; exact h2.lt
  · refine ⟨h.o5 _ e, ?_⟩
    rcases h.vis with ⟨h1, _⟩ | ⟨g, h1, h2⟩
    · rw [h1] at e; cases e
    · rw [h1] at e; injection e with e; rw [← e]; exact h2.lt
  · exact h.shown.lt _ e
  · exact h.calls.lt _ e
theorem MapF.ne_cells {K : TypeId} {w : World} {b n g : Nat} {f : Value → Nat} {cs : Array Value} {t : TypeId} {z : Nat × Nat} (h : MapF K w b n f) (hg : w.heap[g]? = some (.cells cs t z)) : b ≠ g := fun e => by
  obtain ⟨es, clock, h1⟩ := h.obj
  rw [e, hg] at h1
  cases h1
/-- All that lies in other blocks stays while only the parser's own fields change. -/
theorem GR.put {w w' : World} {base : Nat} {M : GM} {s : PS} (h : GR w base M s) (v : Value) (l : List Tok) (wr : Bool) (d f : Nat) (hT : Touch w w' (Only M.gp))
    (hst : w'.heap[M.gp]? = some (.cells (pcells { M with left := v } { s with left := l, wrong := wr, depth := d, fault := f }) 59 (0, 0)))
    (hl : TokIn w v l) (hs : l <:+ s.left) (hd : d ≤ 90) (hf : f < 100) : GR w' base { M with left := v } { s with left := l, wrong := wr, depth := d, fault := f } := by
  have ht : ∀ (j : Nat) (cs : Array Value) (t : TypeId) (z : Nat × Nat), t ≠ 59 → w.heap[j]? = some (.cells cs t z) → w'.heap[j]? = w.heap[j]? := fun j cs t z hne hj =>
    hT.block j (lt_of_heap2 hj) (diff_block h.st hj fun e => hne (by injection e with e; exact e.symm))
  have hm : ∀ {K : TypeId} {b n : Nat} {g : Value → Nat}, MapF K w b n g → w'.heap[b]? = w.heap[b]? := fun hm => hT.block _ hm.lt (hm.ne_cells h.st)
  have hsum := h.sum
  have hll := hs.length_le
  refine ⟨hst, hl.at_ fun j cs z => ht j cs _ z (by decide), h.nodes.at_ (fun j cs => ht j cs _ _ (by decide)) (fun j cs => ht j cs _ _ (by decide)), h.mods.at_ (hm h.mods), h.funs.at_ (hm h.funs),
    h.taken.at_ fun g e => ?_, h.vis.at_ fun g e => ?_, ownsRow_at h.shown fun j cs => ht j cs _ _ (by decide), ownsRow_at h.calls fun j cs => ht j cs _ _ (by decide),
    h.o1, h.o2, h.o3, h.o4, h.o5, h.n1, h.n2, h.n3, Nat.le_trans h.hb hT.size, fun t ht => h.goodT t (hs.subset ht), h.goodS, h.goodC, by show l.length * 16 + s.nodes.length + s.cnt ≤ 10000000; omega, h.sh, h.ca, hd, hf, h.vs.on (hT.below h.hb fun j e => by rw [show j = M.gp from e]; exact h.o1) h.gb, h.gb, h.vb⟩
  · rcases h.taken with ⟨h1, _⟩ | ⟨g', h1, h2⟩
    · rw [h1] at e; cases e
    · rw [h1] at e; injection e with e; subst e; exact hm h2
  · rcases h.vis with ⟨h1, _⟩ | ⟨g', h1, h2⟩
    · rw [h1] at e; cases e
    · rw [h1] at e; injection e with e; subst e; exact hm h2
/-- .. and while nothing at all of it changes. -/
theorem GR.below {w w' : World} {base : Nat} {M : GM} {s : PS} (h : GR w base M s) (hb : Below w.heap.size w w') : GR w' base M s :=
  h.put M.left s.left s.wrong s.depth s.fault (.of_below hb _) ((hb.block _ h.gpL).trans h.st) h.left (List.suffix_refl _) h.dep h.flt
theorem GR.cells {w : World} {base : Nat} {M : GM} {s : PS} (h : GR w base M s) :
    (w.cell? ⟨M.gp, 0, none⟩ = some M.left ∧ w.cell? ⟨M.gp, 1, none⟩ = some (.bool s.wrong) ∧ w.cell? ⟨M.gp, 2, none⟩ = some (.int .i64 (s.depth : Int)) ∧ w.cell? ⟨M.gp, 3, none⟩ = some M.nv ∧ w.cell? ⟨M.gp, 4, none⟩ = some (.map (some M.bm)) ∧ w.cell? ⟨M.gp, 5, none⟩ = some (.map (some M.bf)) ∧
      w.cell? ⟨M.gp, 6, none⟩ = some (.map M.vt) ∧ w.cell? ⟨M.gp, 7, none⟩ = some (.map M.vv) ∧ w.cell? ⟨M.gp, 8, none⟩ = some M.sv ∧ w.cell? ⟨M.gp, 9, none⟩ = some M.cv ∧ w.cell? ⟨M.gp, 10, none⟩ = some (.int .i64 (s.fault : Int))) ∧
    ∀ k, w.frozen? ⟨M.gp, k, none⟩ = false := by
  refine ⟨⟨?_, ?_, ?_, ?_, ?_, ?_, ?_, ?_, ?_, ?_, ?_⟩, fun k => frozen_of_row w M.gp k _ _ h.st⟩ <;> (unfold World.cell?; rw [h.st]; rfl)
theorem GR.setSt {w : World} {base : Nat} {M : GM} {s : PS} (h : GR w base M s) (k : Nat) (v : Value) : (w.setCell ⟨M.gp, k, none⟩ v).heap[M.gp]? = some (.cells ((pcells M s).setIfInBounds k v) 59 (0, 0)) := heap_setCell_same _ M.gp k _ _ _ h.st
end Go.Proofs.YtecbaceinifjiaaGreatDoor
namespace Go.Proofs.YtecbaceinifjiaaGreatDoor
open Go.RowKit
set_option linter.unusedSimpArgs false
set_option linter.unusedVariables false
set_option maxRecDepth 100000
attribute [local go_sem] Oper.semAt_some undef
theorem ba_loop (s : ByteArray) : ∀ (m i : Nat) (r : List UInt8), i + m = s.size → ByteArray.toList.loop s i r = r.reverse ++ s.data.toList.drop i
  | 0, i, r, h => by
    rw [ByteArray.toList.loop, if_neg (by omega), List.drop_eq_nil_of_le (by rw [Array.length_toList]; show s.size ≤ i; omega), List.append_nil]
  | m + 1, i, r, h => by
    have hi : i < s.size := by omega
    rw [ByteArray.toList.loop, if_pos hi, ba_loop s m (i + 1) _ (by omega), List.reverse_cons, List.append_assoc]
    have h1 : i < s.data.toList.length := by rw [Array.length_toList]; exact hi
    rw [List.drop_eq_getElem_cons h1]
    congr 1
    show s.data[i]! :: _ = _
    rw [getElem!_pos s.data i hi]
    simp
theorem ba_toList (s : ByteArray) : s.toList = s.data.toList := by
  show ByteArray.toList.loop s 0 [] = _
  rw [ba_loop s s.size 0 [] (by omega)]
  rfl
/-- A token's text held against a string. -/
theorem text_eq {x : List Nat} {c : ByteArray} (h : ∀ b ∈ x, b < 256) : ((ba x).toList == c.toList) = decide (x = str c) := by
  by_cases hx : x = str c
  · have e : ba x = c := str_inj (by rw [str_ba h]; exact hx)
    rw [e, decide_eq_true hx]
    simp
  · rw [decide_eq_false hx, beq_eq_false_iff_ne]
    intro e
    rw [ba_toList, ba_toList] at e
    refine hx ?_
    rw [← str_ba h]
    unfold str
    rw [e]
theorem Touch.fld {a b : World} {g : Nat} (h : Touch a b (Only g)) (k : Nat) (v : Value) : Touch a (b.setCell ⟨g, k, none⟩ v) (Only g) := h.setCell _ _ (.inl rfl)
set_option maxHeartbeats 4000000 in
theorem fail_any (w : World) (base : Nat) (M : GM) (s : PS) (h : GR w base M s) :
    Calls Tryz.prog 66 #[.pointer (some ⟨M.gp, 0, none⟩)] w fun e w' => e = .returned (.tuple #[]) ∧ LStep w base M (failS s) w' := by
  obtain ⟨⟨c0, c1, c2, c3, c4, c5, c6, c7, c8, c9, c10⟩, hf⟩ := h.cells
  have f0 := hf 0
  have f1 := hf 1
  have HH := Lib.hid h
  clear h hf
  go_enter Tryz.func66, Tryz.ntmps66
  go_wp2_with fail
  go_end0
  have hT : Touch w ((w.setCell ⟨M.gp, 1, none⟩ (.bool true)).setCell ⟨M.gp, 0, none⟩ (.slice none 0 0)) (Only M.gp) := ((Touch.refl w _).fld 1 _).fld 0 _
  exact ⟨rfl, .slice none 0 0, HH.out.put _ [] true s.depth s.fault hT (heap_setCell_same _ M.gp 0 _ _ _ (HH.out.setSt 1 _)) (TokIn.nil _) List.nil_suffix HH.out.dep HH.out.flt, hT⟩
set_option maxHeartbeats 4000000 in
theorem is_any (w : World) (base : Nat) (M : GM) (s : PS) (h : GR w base M s) (c : ByteArray) :
    Calls Tryz.prog 48 #[.pointer (some ⟨M.gp, 0, none⟩), .string c] w fun e w' => e = .returned (.bool (isS (str c) s)) ∧ w = w' := by
  obtain ⟨⟨c0, c1, c2, c3, c4, c5, c6, c7, c8, c9, c10⟩, hf⟩ := h.cells
  have hl := h.left
  cases hs : s.left with
  | nil =>
    rw [hs] at hl
    obtain ⟨A, cc, e, _⟩ := hl
    rw [e] at c0
    have HR : Hid (isS (str c) s = false) := Lib.hid (by unfold isS; rw [hs])
    clear hs h hf e
    go_enter Tryz.func48, Tryz.ntmps48
    go_wp2_with fail
    go_ret
    exact ⟨congrArg (fun b => Ending.returned (Value.bool b)) HR.out.symm, rfl⟩
  | cons t r =>
    rw [hs] at hl
    obtain ⟨g, k, cc, e, h1, h2, d0, d1, d2, _⟩ := hl.head
    rw [e] at c0
    have hg := h.goodT t (by rw [hs]; simp)
    have HR : Hid (((ba t.text).toList == c.toList) = isS (str c) s) := Lib.hid (by rw [text_eq hg.1]; unfold isS; rw [hs])
    have hpos : (0 : Int) < ((r.length + 1 : Nat) : Int) := by omega
    obtain ⟨n, hn⟩ : ∃ n, n = r.length + 1 := ⟨_, rfl⟩
    rw [← hn] at c0 hpos
    have hn2 : 0 < n := by omega
    clear hs h hf e hl h1 hn
    go_enter Tryz.func48, Tryz.ntmps48
    go_wp2_with fail
    go_ret
    exact ⟨congrArg (fun b => Ending.returned (Value.bool b)) HR.out, rfl⟩
theorem TokIn.empty {w : World} {v : Value} (h : TokIn w v []) (w' : World) : TokIn w' v [] := by
  obtain ⟨A, c, e, h1, h2, _⟩ := h
  exact ⟨A, c, e, h1, h2, fun i t h => by simp at h⟩
/-- A token as a value. -/
def tokV (t : Tok) : Value := .agg #[.int .u8 (t.kind : Int), .string (ba t.text), .int .i64 (t.at_ : Int)]
theorem tokInfo : (Tryz.prog.info? 74).map (·.size) = some 3 := by kernel_rfl
theorem tok_ret {fn : Func} {p : Tmp} {a : Act} {w : World} {R : Ending → World → Prop} {g : Nat} {cs : Array Value} (hf : fn.results = #[.cell p 74]) (hd : a.defers = []) (h2 : a.tmps.getD p undef = .pointer (some ⟨g, 0, none⟩))
    (hg : w.heap[g]? = some (.cells cs 74 (0, 0))) (hs : cs.size = 3) (hR : R (.returned (.agg cs)) w) : bodyPost Tryz.prog fn R .ret a w := by
  refine bodyPost_ret_by (v := .agg cs) ?_ hd hR
  have hl := run_loadVar_row (P := Tryz.prog) w g 74 74 cs (0, 0) _ hg Tryz.underlying74 rfl (by rw [tokInfo, hs])
  rw [results_one hf, h2]
  simp [asAddr, Result.andThen, hl]
theorem tok_cells {w : World} {g : Nat} {v0 v1 v2 : Value} (h : w.heap[g]? = some (.cells #[v0, v1, v2] 74 (0, 0))) :
    (w.cell? ⟨g, 0, none⟩ = some v0 ∧ w.cell? ⟨g, 1, none⟩ = some v1 ∧ w.cell? ⟨g, 2, none⟩ = some v2) ∧ w.frozen? ⟨g, 0, none⟩ = false ∧ w.frozen? ⟨g, 1, none⟩ = false ∧ w.frozen? ⟨g, 2, none⟩ = false := by
  refine ⟨⟨?_, ?_, ?_⟩, frozen_of_row w g _ _ _ h, frozen_of_row w g _ _ _ h, frozen_of_row w g _ _ _ h⟩ <;> (unfold World.cell?; rw [h]; rfl)
theorem set_tok {w : World} {g : Nat} {v0 v1 v2 u0 u1 u2 : Value} (h : w.heap[g]? = some (.cells #[u0, u1, u2] 74 (0, 0))) :
    (((w.setCell ⟨g, 0, none⟩ v0).setCell ⟨g, 1, none⟩ v1).setCell ⟨g, 2, none⟩ v2).heap[g]? = some (.cells #[v0, v1, v2] 74 (0, 0)) := by
  rw [heap_setCell_same _ g 2 _ _ _ (heap_setCell_same _ g 1 _ _ _ (heap_setCell_same _ g 0 _ _ _ h))]
  rfl
set_option maxHeartbeats 8000000 in
theorem next_any (w : World) (base : Nat) (M : GM) (s : PS) (h : GR w base M s) :
    Calls Tryz.prog 67 #[.pointer (some ⟨M.gp, 0, none⟩)] w fun e w' => e = .returned (tokV (nextT s)) ∧ LStep w base M (nextS s) w' := by
  have hx : (w.alloc (.cells #[.int .u8 0, .string ⟨#[]⟩, .int .i64 0] 74)).heap[w.heap.size]? = some (.cells #[.int .u8 0, .string ⟨#[]⟩, .int .i64 0] 74 (0, 0)) := Go.heap_alloc_new _ _
  have hb : Below w.heap.size w (w.alloc (.cells #[.int .u8 0, .string ⟨#[]⟩, .int .i64 0] 74)) := (Below.refl _ _).alloc (Nat.le_refl _) _
  have h1 := h.below hb
  obtain ⟨⟨c0, c1, c2, c3, c4, c5, c6, c7, c8, c9, c10⟩, hf⟩ := h1.cells
  have hl := h1.left
  have hgp : ¬ w.heap.size = M.gp := by have := h.gpL; omega
  cases hs : s.left with
  | nil =>
    rw [hs] at hl
    obtain ⟨A, cc, e, _⟩ := hl
    rw [e] at c0
    have HR : Hid (nextS s = failS s ∧ nextT s = noTok) := Lib.hid (by unfold nextS nextT; rw [hs]; exact ⟨rfl, rfl⟩)
    have HF := Lib.hid (fail_any _ base M s h1)
    have H0 := Lib.hid h
    have HB := Lib.hid hb
    have HX := Lib.hid hx
    have HG := Lib.hid hgp
    clear hs h h1 hf e hb hx hgp
    go_enter Tryz.func67, Tryz.ntmps67
    go_wp2_with (go_at_call 66; (with_reducible refine (HF.out).mono ?_); rintro e w2 ⟨rfl, hw2⟩; go_loud (
      obtain ⟨l2, hg2, hT2⟩ := hw2;
      have hx2 := (hT2.block _ (lt_of_heap2 HX.out) (fun e => HG.out e)).trans HX.out;
      obtain ⟨⟨d0, d1, d2⟩, e0, e1, e2⟩ := tok_cells hx2;
      have HX2 := Lib.hid hx2;
      have HG2 := Lib.hid hg2;
      have HT2 := Lib.hid hT2;
      clear hg2 hT2 hx2))
    have hfin := set_tok (v0 := .int .u8 0) (v1 := .string ⟨#[]⟩) (v2 := .int .i64 0) HX2.out
    refine tok_ret (p := 2) rfl rfl rfl hfin rfl ?_
    have hT2 := ((((Touch.of_below HB.out (Only M.gp)).trans HT2.out fun j e => .inl e).setCell ⟨w.heap.size, 0, none⟩ (.int .u8 0) (.inr (Nat.le_refl _))).setCell ⟨w.heap.size, 1, none⟩ (.string ⟨#[]⟩) (.inr (Nat.le_refl _))).setCell ⟨w.heap.size, 2, none⟩ (.int .i64 0) (.inr (Nat.le_refl _))
    have hst := (heap_setCell_other _ ⟨w.heap.size, 2, none⟩ M.gp (.int .i64 0) (fun e => HG.out e.symm)).trans ((heap_setCell_other _ ⟨w.heap.size, 1, none⟩ M.gp (.string ⟨#[]⟩) (fun e => HG.out e.symm)).trans ((heap_setCell_other w2 ⟨w.heap.size, 0, none⟩ M.gp (.int .u8 0) (fun e => HG.out e.symm)).trans HG2.out.st))
    refine ⟨by rw [HR.out.2]; rfl, ?_⟩
    rw [HR.out.1]
    exact ⟨l2, H0.out.put l2 [] true s.depth s.fault hT2 hst (HG2.out.left.empty w) List.nil_suffix H0.out.dep H0.out.flt, hT2⟩
  | cons t r =>
    rw [hs] at hl
    obtain ⟨g, k, cc, e, h1l, h2l, d0, d1, d2, _⟩ := hl.head
    have hl0 := h.left
    rw [hs] at hl0
    obtain ⟨g', k', cc', e', _, _, _, _, _, htl⟩ := hl0.head
    have e3 : some (⟨g', k', none⟩ : Addr) = some ⟨g, k, none⟩ ∧ cc' = cc := by rw [e] at e'; injection e' with e1 _ e2; exact ⟨e1.symm, e2.symm⟩
    obtain ⟨e4, e7⟩ := e3
    injection e4 with e4
    injection e4 with e5 e6
    rw [e5, e6, e7] at htl
    have HSUF : Hid (r <:+ s.left) := Lib.hid (by rw [hs]; exact List.suffix_cons t r)
    have H0 := Lib.hid h
    clear e' hl0 e5 e6 e7
    rw [e] at c0
    have HR : Hid (nextS s = { s with left := r } ∧ nextT s = t) := Lib.hid (by unfold nextS nextT; rw [hs]; exact ⟨rfl, rfl⟩)
    obtain ⟨m, hm⟩ : ∃ m, m = r.length := ⟨_, rfl⟩
    rw [← hm] at c0 h1l htl
    have hpos : (0 : Int) < ((m + 1 : Nat) : Int) := by omega
    have hb2 : Below w.heap.size w ((w.alloc (.cells #[.int .u8 0, .string ⟨#[]⟩, .int .i64 0] 74)).alloc (.cells #[.int .u8 (t.kind : Int), .string (ba t.text), .int .i64 (t.at_ : Int)] 74)) := hb.alloc hb.size _
    have h2 := h.below hb2
    obtain ⟨⟨a0, _, _, _, _, _, _, _, _, _, _⟩, hf2⟩ := h2.cells
    rw [e] at a0
    rw [← hm] at a0
    have f0 := hf2 0
    have hx2 : ((w.alloc (.cells #[.int .u8 0, .string ⟨#[]⟩, .int .i64 0] 74)).alloc (.cells #[.int .u8 (t.kind : Int), .string (ba t.text), .int .i64 (t.at_ : Int)] 74)).heap[w.heap.size]? = some (.cells #[.int .u8 0, .string ⟨#[]⟩, .int .i64 0] 74 (0, 0)) :=
      (((Below.refl _ _).alloc (Nat.le_refl _) (.cells #[.int .u8 (t.kind : Int), .string (ba t.text), .int .i64 (t.at_ : Int)] 74)).block _ (lt_of_heap2 hx)).trans hx
    have hy2 : ((w.alloc (.cells #[.int .u8 0, .string ⟨#[]⟩, .int .i64 0] 74)).alloc (.cells #[.int .u8 (t.kind : Int), .string (ba t.text), .int .i64 (t.at_ : Int)] 74)).heap[w.heap.size + 1]? = some (.cells #[.int .u8 (t.kind : Int), .string (ba t.text), .int .i64 (t.at_ : Int)] 74 (0, 0)) := by
      rw [show w.heap.size + 1 = (w.alloc (.cells #[.int .u8 0, .string ⟨#[]⟩, .int .i64 0] 74)).heap.size by simp]
      exact Go.heap_alloc_new _ _
    have HX := Lib.hid hx2
    have HY := Lib.hid hy2
    have HG := Lib.hid hgp
    have hgp2 : ¬ w.heap.size + 1 = M.gp := by have := h.gpL; omega
    have HG2 := Lib.hid hgp2
    have HH := Lib.hid h2
    have HTL := Lib.hid htl
    have HB := Lib.hid hb2
    clear h2l
    clear hs h h1 h2 hf hf2 e hb hb2 hx hx2 hy2 hgp hgp2 htl hl c1 c2 c3 c4 c5 c6 c7 c8 c9 c10 hm
    by_cases hc1 : cc = 1
    · subst hc1
      obtain rfl : m = 0 := by omega
      clear h1l
      go_enter Tryz.func67, Tryz.ntmps67
      go_upto_region 5 with fail
      obtain ⟨W2, hW2⟩ : ∃ W2, W2 = (w.alloc (.cells #[.int .u8 0, .string ⟨#[]⟩, .int .i64 0] 74)).alloc (.cells #[.int .u8 (t.kind : Int), .string (ba t.text), .int .i64 (t.at_ : Int)] 74) := ⟨_, rfl⟩
      rw [← hW2]
      rw [← hW2] at HX HY HH HB a0 f0
      clear hW2
      have hx3 : (W2.setCell ⟨M.gp, 0, none⟩ (.slice (some ⟨g, k, none⟩) 0 0)).heap[w.heap.size]? = some (.cells #[.int .u8 0, .string ⟨#[]⟩, .int .i64 0] 74 (0, 0)) := (heap_setCell_other _ ⟨M.gp, 0, none⟩ w.heap.size _ (fun e => HG.out e)).trans HX.out
      have hy3 : (W2.setCell ⟨M.gp, 0, none⟩ (.slice (some ⟨g, k, none⟩) 0 0)).heap[w.heap.size + 1]? = some (.cells #[.int .u8 (t.kind : Int), .string (ba t.text), .int .i64 (t.at_ : Int)] 74 (0, 0)) := (heap_setCell_other _ ⟨M.gp, 0, none⟩ (w.heap.size + 1) _ (fun e => HG2.out e)).trans HY.out
      obtain ⟨⟨p0, p1, p2⟩, e0, e1, e2⟩ := tok_cells hx3
      obtain ⟨⟨q0, q1, q2⟩, _⟩ := tok_cells hy3
      have HX3 := Lib.hid hx3
      clear hx3 hy3
      go_wp2_with fail
      refine tok_ret (p := 2) rfl rfl rfl (set_tok HX3.out) rfl ?_
      have hT : Touch w (W2.setCell ⟨M.gp, 0, none⟩ (.slice (some ⟨g, k, none⟩) 0 0)) (Only M.gp) := (Touch.of_below HB.out _).fld 0 _
      have hT2 := ((hT.setCell ⟨w.heap.size, 0, none⟩ (.int .u8 (t.kind : Int)) (.inr (Nat.le_refl _))).setCell ⟨w.heap.size, 1, none⟩ (.string (ba t.text)) (.inr (Nat.le_refl _))).setCell ⟨w.heap.size, 2, none⟩ (.int .i64 (t.at_ : Int)) (.inr (Nat.le_refl _))
      have hst := (heap_setCell_other _ ⟨w.heap.size, 2, none⟩ M.gp (.int .i64 (t.at_ : Int)) (fun e => HG.out e.symm)).trans ((heap_setCell_other _ ⟨w.heap.size, 1, none⟩ M.gp (.string (ba t.text)) (fun e => HG.out e.symm)).trans ((heap_setCell_other (W2.setCell ⟨M.gp, 0, none⟩ (.slice (some ⟨g, k, none⟩) 0 0)) ⟨w.heap.size, 0, none⟩ M.gp (.int .u8 (t.kind : Int)) (fun e => HG.out e.symm)).trans (HH.out.setSt 0 (.slice (some ⟨g, k, none⟩) 0 0))))
      refine ⟨by rw [HR.out.2]; rfl, ?_⟩
      rw [HR.out.1]
      exact ⟨(.slice (some ⟨g, k, none⟩) 0 0), H0.out.put (.slice (some ⟨g, k, none⟩) 0 0) r s.wrong s.depth s.fault hT2 hst (by simpa using HTL.out) HSUF.out H0.out.dep H0.out.flt, hT2⟩
    · have hc2 : ¬ (cc : Int) = 1 := by omega
      have hc3 : ¬ (1 : Int) = (cc : Int) := by omega
      go_enter Tryz.func67, Tryz.ntmps67
      go_upto_region 5 with fail
      obtain ⟨W2, hW2⟩ : ∃ W2, W2 = (w.alloc (.cells #[.int .u8 0, .string ⟨#[]⟩, .int .i64 0] 74)).alloc (.cells #[.int .u8 (t.kind : Int), .string (ba t.text), .int .i64 (t.at_ : Int)] 74) := ⟨_, rfl⟩
      rw [← hW2]
      rw [← hW2] at HX HY HH HB a0 f0
      clear hW2
      have hx3 : (W2.setCell ⟨M.gp, 0, none⟩ (.slice (some ⟨g, k + 3, none⟩) m (cc - 1))).heap[w.heap.size]? = some (.cells #[.int .u8 0, .string ⟨#[]⟩, .int .i64 0] 74 (0, 0)) := (heap_setCell_other _ ⟨M.gp, 0, none⟩ w.heap.size _ (fun e => HG.out e)).trans HX.out
      have hy3 : (W2.setCell ⟨M.gp, 0, none⟩ (.slice (some ⟨g, k + 3, none⟩) m (cc - 1))).heap[w.heap.size + 1]? = some (.cells #[.int .u8 (t.kind : Int), .string (ba t.text), .int .i64 (t.at_ : Int)] 74 (0, 0)) := (heap_setCell_other _ ⟨M.gp, 0, none⟩ (w.heap.size + 1) _ (fun e => HG2.out e)).trans HY.out
      obtain ⟨⟨p0, p1, p2⟩, e0, e1, e2⟩ := tok_cells hx3
      obtain ⟨⟨q0, q1, q2⟩, _⟩ := tok_cells hy3
      have HX3 := Lib.hid hx3
      clear hx3 hy3
      go_wp2_with fail
      refine tok_ret (p := 2) rfl rfl rfl (set_tok HX3.out) rfl ?_
      have hT : Touch w (W2.setCell ⟨M.gp, 0, none⟩ (.slice (some ⟨g, k + 3, none⟩) m (cc - 1))) (Only M.gp) := (Touch.of_below HB.out _).fld 0 _
      have hT2 := ((hT.setCell ⟨w.heap.size, 0, none⟩ (.int .u8 (t.kind : Int)) (.inr (Nat.le_refl _))).setCell ⟨w.heap.size, 1, none⟩ (.string (ba t.text)) (.inr (Nat.le_refl _))).setCell ⟨w.heap.size, 2, none⟩ (.int .i64 (t.at_ : Int)) (.inr (Nat.le_refl _))
      have hst := (heap_setCell_other _ ⟨w.heap.size, 2, none⟩ M.gp (.int .i64 (t.at_ : Int)) (fun e => HG.out e.symm)).trans ((heap_setCell_other _ ⟨w.heap.size, 1, none⟩ M.gp (.string (ba t.text)) (fun e => HG.out e.symm)).trans ((heap_setCell_other (W2.setCell ⟨M.gp, 0, none⟩ (.slice (some ⟨g, k + 3, none⟩) m (cc - 1))) ⟨w.heap.size, 0, none⟩ M.gp (.int .u8 (t.kind : Int)) (fun e => HG.out e.symm)).trans (HH.out.setSt 0 (.slice (some ⟨g, k + 3, none⟩) m (cc - 1)))))
      refine ⟨by rw [HR.out.2]; rfl, ?_⟩
      rw [HR.out.1]
      exact ⟨(.slice (some ⟨g, k + 3, none⟩) m (cc - 1)), H0.out.put (.slice (some ⟨g, k + 3, none⟩) m (cc - 1)) r s.wrong s.depth s.fault hT2 hst (by have h9 := HTL.out; rw [if_neg hc1] at h9; exact h9) HSUF.out H0.out.dep H0.out.flt, hT2⟩
set_option maxHeartbeats 4000000 in
theorem take_any (w : World) (base : Nat) (M : GM) (s : PS) (h : GR w base M s) (c : ByteArray) :
    Calls Tryz.prog 65 #[.pointer (some ⟨M.gp, 0, none⟩), .string c] w fun e w' => e = .returned (.bool (isS (str c) s)) ∧ LStep w base M (takeS (str c) s) w' := by
  have HI := Lib.hid (is_any w base M s h c)
  have HN := Lib.hid (next_any w base M s h)
  have HH := Lib.hid h
  obtain ⟨b, hb⟩ : ∃ b, b = isS (str c) s := ⟨_, rfl⟩
  rw [← hb] at HI ⊢
  have HB := Lib.hid hb
  clear h hb
  cases b
  · go_enter Tryz.func65, Tryz.ntmps65
    go_wp2_with (go_at_call 48; (with_reducible refine (HI.out).mono ?_); rintro e w1 ⟨rfl, rfl⟩)
    go_ret
    refine ⟨rfl, ?_⟩
    unfold takeS
    rw [← HB.out, if_neg (by simp)]
    exact LStep.refl HH.out
  · go_enter Tryz.func65, Tryz.ntmps65
    go_wp2_with (first
      | (go_at_call 48; (with_reducible refine (HI.out).mono ?_); rintro e w1 ⟨rfl, rfl⟩)
      | (go_at_call 67; (with_reducible refine (HN.out).mono ?_); rintro e w2 ⟨rfl, hw2⟩; go_loud (
          have HW2 := Lib.hid hw2;
          clear hw2)))
    go_ret
    refine ⟨rfl, ?_⟩
    unfold takeS
    rw [← HB.out, if_pos rfl]
    exact HW2.out
set_option maxHeartbeats 4000000 in
theorem want_any (w : World) (base : Nat) (M : GM) (s : PS) (h : GR w base M s) (c : ByteArray) :
    Calls Tryz.prog 45 #[.pointer (some ⟨M.gp, 0, none⟩), .string c] w fun e w' => e = .returned (.tuple #[]) ∧ LStep w base M (wantS (str c) s) w' := by
  have HT := Lib.hid (take_any w base M s h c)
  obtain ⟨b, hb⟩ : ∃ b, b = isS (str c) s := ⟨_, rfl⟩
  rw [← hb] at HT
  have HB := Lib.hid hb
  clear h hb
  cases b
  · go_enter Tryz.func45, Tryz.ntmps45
    go_wp2_with (first
      | (go_at_call 65; (with_reducible refine (HT.out).mono ?_); rintro e w1 ⟨rfl, l1, hg1, hT1⟩; go_loud (
          have HF := Lib.hid (fail_any _ base _ _ hg1);
          have HT1 := Lib.hid hT1;
          clear hg1 hT1))
      | (go_at_call 66; (with_reducible refine (HF.out).mono ?_); rintro e w2 ⟨rfl, hw2⟩; go_loud (
          have HW2 := Lib.hid hw2;
          clear hw2)))
    go_end0
    refine ⟨rfl, ?_⟩
    have h1 := HW2.out
    unfold takeS at h1
    unfold wantS
    rw [← HB.out, if_neg (by simp)] at h1 ⊢
    exact LStep.trans HT1.out h1
  · go_enter Tryz.func45, Tryz.ntmps45
    go_wp2_with (go_at_call 65; (with_reducible refine (HT.out).mono ?_); rintro e w1 ⟨rfl, hw1⟩; go_loud (
          have HW1 := Lib.hid hw1;
          clear hw1))
    go_end0
    refine ⟨rfl, ?_⟩
    have h1 := HW1.out
    unfold takeS at h1
    unfold wantS
    rw [← HB.out, if_pos rfl] at h1 ⊢
    exact h1
end Go.Proofs.YtecbaceinifjiaaGreatDoor
