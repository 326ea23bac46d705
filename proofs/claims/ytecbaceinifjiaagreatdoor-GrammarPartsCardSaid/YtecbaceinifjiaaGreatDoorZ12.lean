/- GName, GRow: joined by program (tools/merge.py). -/
import Derived.Test.YtecbaceinifjiaaGreatDoorZ11
import Derived.Deep.AppendLies
import Derived.Deep.RegionLaw
namespace Go.Proofs.YtecbaceinifjiaaGreatDoor
open Go.RowKit
set_option linter.unusedSimpArgs false
set_option linter.unusedVariables false
set_option maxRecDepth 100000
attribute [local go_sem] Oper.semAt_some undef
theorem GR.goodN {w : World} {base : Nat} {M : GM} {s : PS} (h : GR w base M s) : GoodT (nextT s) := by
  unfold nextT
  cases hs : s.left with
  | nil => exact ⟨by simp [noTok], by simp [noTok], by decide, by decide, fun h => absurd h (by decide)⟩
  | cons t r => exact h.goodT t (by rw [hs]; simp)
set_option maxHeartbeats 4000000 in
theorem name_any (w : World) (base : Nat) (M : GM) (s : PS) (h : GR w base M s) :
    Calls Tryz.prog 46 #[.pointer (some ⟨M.gp, 0, none⟩)] w fun e w' => e = .returned (.string (ba (nameT s))) ∧ LStep w base M (nameS s) w' := by
  have HN := Lib.hid (next_any w base M s h)
  obtain ⟨t, ht⟩ : ∃ t, t = nextT s := ⟨_, rfl⟩
  rw [← ht] at HN
  obtain ⟨tk, tt, ta⟩ := t
  unfold tokV at HN
  dsimp only at HN
  have HT := Lib.hid ht
  clear ht h
  by_cases hk : tk = 1
  · subst hk
    go_enter Tryz.func46, Tryz.ntmps46
    go_wp2_with (go_at_call 67; (with_reducible refine (HN.out).mono ?_); rintro e w1 ⟨rfl, l1, hg1, hT1⟩; go_loud (
      have hx : (w1.alloc (.cells #[.int .u8 ((1 : Nat) : Int), .string (ba tt), .int .i64 (ta : Int)] 74)).heap[w1.heap.size]? = some (.cells #[.int .u8 ((1 : Nat) : Int), .string (ba tt), .int .i64 (ta : Int)] 74 (0, 0)) := Go.heap_alloc_new _ _;
      obtain ⟨⟨d0, d1, d2⟩, _⟩ := tok_cells hx;
      have HG1 := Lib.hid (hg1.below ((Below.refl _ _).alloc (Nat.le_refl _) (.cells #[.int .u8 ((1 : Nat) : Int), .string (ba tt), .int .i64 (ta : Int)] 74)));
      have HT1 := Lib.hid (hT1.after ((Below.refl _ _).alloc (Nat.le_refl _) (.cells #[.int .u8 ((1 : Nat) : Int), .string (ba tt), .int .i64 (ta : Int)] 74)));
      clear hg1 hT1 hx))
    go_ret
    refine ⟨?_, ?_⟩
    · unfold nameT; rw [← HT.out, if_pos rfl]; rfl
    · unfold nameS; rw [← HT.out, if_pos rfl]; exact ⟨l1, HG1.out, HT1.out⟩
  · have hkI : ¬ (tk : Int) = 1 := by omega
    have hkD : ((tk : Int) != 1) = true := by simp; omega
    go_enter Tryz.func46, Tryz.ntmps46
    go_wp2_with (first
      | (go_at_call 67; (with_reducible refine (HN.out).mono ?_); rintro e w1 ⟨rfl, l1, hg1, hT1⟩; go_loud (
          have hx : (w1.alloc (.cells #[.int .u8 (tk : Int), .string (ba tt), .int .i64 (ta : Int)] 74)).heap[w1.heap.size]? = some (.cells #[.int .u8 (tk : Int), .string (ba tt), .int .i64 (ta : Int)] 74 (0, 0)) := Go.heap_alloc_new _ _;
          obtain ⟨⟨d0, d1, d2⟩, _⟩ := tok_cells hx;
          have HF := Lib.hid (fail_any _ base _ _ (hg1.below ((Below.refl _ _).alloc (Nat.le_refl _) (.cells #[.int .u8 (tk : Int), .string (ba tt), .int .i64 (ta : Int)] 74))));
          have HT1 := Lib.hid (hT1.after ((Below.refl _ _).alloc (Nat.le_refl _) (.cells #[.int .u8 (tk : Int), .string (ba tt), .int .i64 (ta : Int)] 74)));
          clear hg1 hT1 hx))
      | (go_at_call 66; (with_reducible refine (HF.out).mono ?_); rintro e w2 ⟨rfl, hw2⟩; go_loud (
          have HW2 := Lib.hid hw2;
          clear hw2)))
    go_ret
    refine ⟨?_, ?_⟩
    · unfold nameT; rw [← HT.out, if_neg hk]; rfl
    · unfold nameS; rw [← HT.out, if_neg hk]; exact LStep.trans HT1.out HW2.out
theorem text_lit {x : List Nat} {c : ByteArray} {L : List UInt8} (hL : c.data.toList = L) (h : ∀ b ∈ x, b < 256) : (ba x).toList = L ↔ x = str c := by
  have h1 := text_eq (x := x) (c := c) h
  rw [ba_toList c, hL] at h1
  constructor
  · intro e
    rw [e] at h1
    simpa using h1.symm
  · intro e
    rw [decide_eq_true e] at h1
    simpa using h1
theorem run_tokText (x y z : Value) (w : World) : (Instr.field 74 (.agg #[x, y, z]) 1).run Tryz.prog w = .ok y w := by kernel_rfl
set_option maxHeartbeats 4000000 in
theorem type_any (w : World) (base : Nat) (M : GM) (s : PS) (h : GR w base M s) :
    Calls Tryz.prog 73 #[.pointer (some ⟨M.gp, 0, none⟩)] w fun e w' => e = .returned (.int .u8 (typeT s : Int)) ∧ LStep w base M (typeS s) w' := by
  have HN := Lib.hid (next_any w base M s h)
  have hg := h.goodN
  obtain ⟨t, ht⟩ : ∃ t, t = nextT s := ⟨_, rfl⟩
  rw [← ht] at HN hg
  obtain ⟨tk, tt, ta⟩ := t
  have e1 := text_lit (x := tt) (c := ⟨#[105, 110, 116]⟩) (L := [105, 110, 116]) rfl hg.1
  have e2 := text_lit (x := tt) (c := ⟨#[98, 111, 111, 108]⟩) (L := [98, 111, 111, 108]) rfl hg.1
  unfold tokV at HN
  dsimp only at HN
  have HT := Lib.hid ht
  have HE1 := Lib.hid e1
  have HE2 := Lib.hid e2
  clear ht h hg e1 e2
  by_cases h1 : tt = c_int
  · have e1 := HE1.out.2 h1
    have H1 := Lib.hid h1
    clear h1
    go_enter Tryz.func73, Tryz.ntmps73
    go_wp2_with (go_at_call 67; (with_reducible refine (HN.out).mono ?_); rintro e w1 ⟨rfl, hw1⟩; go_loud (
      have r1 := run_tokText (.int .u8 (tk : Int)) (.string (ba tt)) (.int .i64 (ta : Int)) w1;
      have HW1 := Lib.hid hw1;
      clear hw1))
    go_ret
    refine ⟨?_, ?_⟩
    · unfold typeT; rw [← HT.out, if_pos H1.out]; rfl
    · unfold typeS; rw [← HT.out, if_pos H1.out]; exact HW1.out
  · have e1 : ¬ (ba tt).toList = [105, 110, 116] := fun e => h1 (HE1.out.1 e)
    have e1b : ((ba tt).toList == [105, 110, 116]) = false := beq_eq_false_iff_ne.2 e1
    have H1 := Lib.hid h1
    clear h1
    by_cases h2 : tt = c_bool
    · have e2 := HE2.out.2 h2
      have H2 := Lib.hid h2
      clear h2
      go_enter Tryz.func73, Tryz.ntmps73
      go_wp2_with (go_at_call 67; (with_reducible refine (HN.out).mono ?_); rintro e w1 ⟨rfl, hw1⟩; go_loud (
      have r1 := run_tokText (.int .u8 (tk : Int)) (.string (ba tt)) (.int .i64 (ta : Int)) w1;
      have HW1 := Lib.hid hw1;
      clear hw1))
      go_ret
      refine ⟨?_, ?_⟩
      · unfold typeT; rw [← HT.out, if_neg H1.out, if_pos H2.out]; rfl
      · unfold typeS; rw [← HT.out, if_neg H1.out, if_pos H2.out]; exact HW1.out
    · have e2 : ¬ (ba tt).toList = [98, 111, 111, 108] := fun e => h2 (HE2.out.1 e)
      have e2b : ((ba tt).toList == [98, 111, 111, 108]) = false := beq_eq_false_iff_ne.2 e2
      have H2 := Lib.hid h2
      clear h2
      go_enter Tryz.func73, Tryz.ntmps73
      go_wp2_with (first
        | (go_at_call 67; (with_reducible refine (HN.out).mono ?_); rintro e w1 ⟨rfl, hw1⟩; go_loud (
      have r1 := run_tokText (.int .u8 (tk : Int)) (.string (ba tt)) (.int .i64 (ta : Int)) w1;
      obtain ⟨l1, hg1, hT1⟩ := hw1;
      have HF := Lib.hid (fail_any _ base _ _ hg1);
      have HT1 := Lib.hid hT1;
      clear hg1 hT1))
        | (go_at_call 66; (with_reducible refine (HF.out).mono ?_); rintro e w2 ⟨rfl, hw2⟩; go_loud (
            have HW2 := Lib.hid hw2;
            clear hw2)))
      go_ret
      refine ⟨?_, ?_⟩
      · unfold typeT; rw [← HT.out, if_neg H1.out, if_neg H2.out]; rfl
      · unfold typeS; rw [← HT.out, if_neg H1.out, if_neg H2.out]; exact LStep.trans HT1.out HW2.out
/-- The names' own part of the parser. -/
theorem blame_any (w : World) (base : Nat) (M : GM) (s : PS) (h : GR w base M s) (e0 : Nat) (he : e0 < 100) :
    Calls Tryz.prog 32 #[.pointer (some ⟨M.gp, 4, none⟩), .int .i64 (e0 : Int)] w fun e w' => e = .returned (.tuple #[]) ∧ GR w' base M (blameS e0 s) ∧ Touch w w' (Only M.gp) := by
  obtain ⟨⟨c0, c1, c2, c3, c4, c5, c6, c7, c8, c9, c10⟩, hf⟩ := h.cells
  have f10 := hf 10
  have HH := Lib.hid h
  obtain ⟨f, hff⟩ : ∃ f, f = s.fault := ⟨_, rfl⟩
  rw [← hff] at c10
  have HF := Lib.hid hff
  clear h hf hff
  by_cases h0 : f = 0
  · subst h0
    go_enter Tryz.func32, Tryz.ntmps32
    go_wp2_with fail
    go_end0
    have hT : Touch w (w.setCell ⟨M.gp, 10, none⟩ (.int .i64 (e0 : Int))) (Only M.gp) := (Touch.refl w _).fld 10 _
    refine ⟨rfl, ?_, hT⟩
    have h1 := HH.out.put M.left s.left s.wrong s.depth e0 hT (HH.out.setSt 10 _) HH.out.left (List.suffix_refl _) HH.out.dep he
    unfold blameS
    rw [← HF.out, if_pos rfl]
    exact h1
  · have h1 : ¬ (f : Int) = 0 := by omega
    go_enter Tryz.func32, Tryz.ntmps32
    go_wp2_with fail
    go_end0
    refine ⟨rfl, ?_, Touch.refl w _⟩
    unfold blameS
    rw [if_neg (by rw [← HF.out]; exact h0)]
    exact HH.out
theorem strKeyOf {n : List Nat} (h : GoodN n) : ∃ l, keyOf Tryz.prog 9 (.string (ba n)) = some l := str_key (by rw [← str_length, str_ba h.1]; have := h.2; unfold maxLen; omega)
theorem zeroID (w : World) : (zeroValue 30).run Tryz.prog w = .ok (.int .u64 0) w := by kernel_rfl
set_option maxHeartbeats 4000000 in
theorem var_any (w : World) (base : Nat) (M : GM) (s : PS) (h : GR w base M s) (n : List Nat) (hn : GoodN n) (gv : Nat) (hgv : M.vv = some gv) :
    Calls Tryz.prog 101 #[.pointer (some ⟨M.gp, 4, none⟩), .string (ba n)] w fun e w' => e = .returned (.int .u64 (s.vis n : Int)) ∧ GR w' base M (varS n s) ∧ Touch w w' (Only M.gp) := by
  obtain ⟨⟨c0, c1, c2, c3, c4, c5, c6, c7, c8, c9, c10⟩, hf⟩ := h.cells
  rw [hgv] at c7
  obtain ⟨l, hk⟩ := strKeyOf hn
  have hm : MapF 9 w gv s.cnt (fS s.vis) := by
    rcases h.vis with ⟨h1, _⟩ | ⟨g, h1, h2⟩
    · rw [hgv] at h1; cases h1
    · rw [hgv] at h1; injection h1 with h1; rw [h1]; exact h2
  have r1 := hm.run_look strKeyed Tryz.underlying51 (zeroID w) hk
  have e1 : fS s.vis (.string (ba n)) = s.vis n := by show s.vis (str (ba n)) = _; rw [str_ba hn.1]
  rw [e1] at r1
  have hbl := blame_any w base M s h 9 (by decide)
  rw [show ((9 : Nat) : Int) = 9 from rfl] at hbl
  have HB := Lib.hid hbl
  clear hbl
  have HH := Lib.hid h
  obtain ⟨v, hv⟩ : ∃ v, v = s.vis n := ⟨_, rfl⟩
  rw [← hv] at r1 ⊢
  have HV := Lib.hid hv
  clear h hf hm e1 hv
  by_cases h0 : v = 0
  · subst h0
    go_enter Tryz.func101, Tryz.ntmps101
    go_wp2_with (go_at_call 32; (with_reducible refine (HB.out).mono ?_); rintro e w1 ⟨rfl, hg1, hT1⟩; go_loud (
      have HG1 := Lib.hid hg1;
      have HT1 := Lib.hid hT1;
      clear hg1 hT1))
    go_ret
    refine ⟨rfl, ?_, HT1.out⟩
    unfold varS
    rw [← HV.out, if_pos rfl]
    exact HG1.out
  · have h1 : ¬ (v : Int) = 0 := by omega
    go_enter Tryz.func101, Tryz.ntmps101
    go_wp2_with fail
    go_ret
    refine ⟨rfl, ?_, Touch.refl w _⟩
    unfold varS
    rw [if_neg (by rw [← HV.out]; exact h0)]
    exact HH.out
end Go.Proofs.YtecbaceinifjiaaGreatDoor
namespace Go.Proofs.YtecbaceinifjiaaGreatDoor
open Go.RowKit
set_option linter.unusedSimpArgs false
set_option linter.unusedVariables false
set_option maxRecDepth 100000
theorem own_ty {w : World} {base n size : Nat} {t : TypeId} {v : Value} {xs : List Value} (h : w.ownsRow base t size v n xs) {j : Nat} (hj : v.ownBlock = some j) : ∃ cs, w.heap[j]? = some (.cells cs t (0, 0)) := by
  rcases h.2 with ⟨e, _⟩ | ⟨g, cap, cur, e, _, hg, _⟩
  · rw [e] at hj; cases hj
  · rw [e] at hj
    injection hj with hj
    rw [← hj]
    exact ⟨_, hg⟩
theorem own_belowG {w w' : World} {base n size : Nat} {t : TypeId} {v : Value} {xs : List Value} (h : w.ownsRow base t size v n xs) (hb : Below w.heap.size w w') : w'.ownsRow base t size v n xs := ownsRow_at h fun g cs hg => hb.block g (lt_of_heap2 hg)
/-- What a row's growth leaves: cells of other types, maps. -/
theorem kept_cells {x y : World} {row : Option Nat} {T : TypeId} (hg : x.grownBy y row) (hr : ∀ j, row = some j → ∃ cs, x.heap[j]? = some (.cells cs T (0, 0))) {j : Nat} {cs : Array Value} {t : TypeId} {z : Nat × Nat} (ht : t ≠ T) (hj : x.heap[j]? = some (.cells cs t z)) : y.heap[j]? = x.heap[j]? :=
  hg.block j (lt_of_heap2 hj) fun e => by
    obtain ⟨cs2, h2⟩ := hr j e.symm
    rw [h2] at hj
    injection hj with hj
    injection hj with _ h3 _
    exact ht h3.symm
theorem kept_map {x y : World} {row : Option Nat} {T : TypeId} (hg : x.grownBy y row) (hr : ∀ j, row = some j → ∃ cs, x.heap[j]? = some (.cells cs T (0, 0))) {K : TypeId} {b n : Nat} {f : Value → Nat} (h : MapF K x b n f) : y.heap[b]? = x.heap[b]? := by
  refine hg.block b h.lt fun e => ?_
  obtain ⟨cs2, h2⟩ := hr b e.symm
  exact h.ne_cells h2 rfl
/-- Maps, tokens, names, calls: what does not hang on nodes. -/
structure Rest (w : World) (base : Nat) (M : GM) (s : PS) : Prop where
  left : TokIn w M.left s.left
  mods : MapF 9 w M.bm s.cnt (fS s.mods)
  funs : MapF 78 w M.bf s.cnt (fP s.funs)
  taken : MapO 9 w M.vt s.cnt (fS s.taken)
  vis : MapO 9 w M.vv s.cnt (fS s.vis)
theorem GR.rest {x y : World} {base : Nat} {M : GM} {s : PS} (h : GR x base M s) {row : Option Nat} {T : TypeId} (hg : x.grownBy y row) (hr : ∀ j, row = some j → ∃ cs, x.heap[j]? = some (.cells cs T (0, 0))) (hT : 74 ≠ T) : Rest y base M s := by
  refine ⟨h.left.at_ fun j cs z hj => kept_cells hg hr hT hj, h.mods.at_ (kept_map hg hr h.mods), h.funs.at_ (kept_map hg hr h.funs), h.taken.at_ fun g e => ?_, h.vis.at_ fun g e => ?_⟩
  · rcases h.taken with ⟨h1, _⟩ | ⟨g', h1, h2⟩
    · rw [h1] at e; cases e
    · rw [h1] at e; injection e with e; subst e; exact kept_map hg hr h2
  · rcases h.vis with ⟨h1, _⟩ | ⟨g', h1, h2⟩
    · rw [h1] at e; cases e
    · rw [h1] at e; injection e with e; subst e; exact kept_map hg hr h2
theorem Rest.at_ {x y : World} {base : Nat} {M : GM} {s : PS} (h : Rest x base M s) {g : Nat} {cs : Array Value} (hg : x.heap[g]? = some (.cells cs 59 (0, 0))) (hk : ∀ j, j < x.heap.size → j ≠ g → y.heap[j]? = x.heap[j]?) : Rest y base M s := by
  have hm : ∀ {K : TypeId} {b n : Nat} {f : Value → Nat}, MapF K x b n f → y.heap[b]? = x.heap[b]? := fun hm => hk _ hm.lt (hm.ne_cells hg)
  refine ⟨h.left.at_ fun j cs z hj => hk j (lt_of_heap2 hj) (diff_block hg hj fun e => absurd e (by simp [kindOf])), h.mods.at_ (hm h.mods), h.funs.at_ (hm h.funs), h.taken.at_ fun g e => ?_, h.vis.at_ fun g e => ?_⟩
  · rcases h.taken with ⟨h1, _⟩ | ⟨g', h1, h2⟩
    · rw [h1] at e; cases e
    · rw [h1] at e; injection e with e; subst e; exact hm h2
  · rcases h.vis with ⟨h1, _⟩ | ⟨g', h1, h2⟩
    · rw [h1] at e; cases e
    · rw [h1] at e; injection e with e; subst e; exact hm h2
theorem setSt_other {w : World} {g j k : Nat} {v : Value} {cs : Array Value} {cs2 : Array Value} {t : TypeId} {z : Nat × Nat} (hg : w.heap[g]? = some (.cells cs 59 (0, 0))) (ht : t ≠ 59) (hj : w.heap[j]? = some (.cells cs2 t z)) : (w.setCell ⟨g, k, none⟩ v).heap[j]? = w.heap[j]? :=
  heap_setCell_other w ⟨g, k, none⟩ j v (fun e => diff_block hg hj (fun e2 => ht (by injection e2 with e2; exact e2.symm)) e)
theorem nCells_zero (n : Nd) (kv : Value) : (nCells n kv).length = 6 := rfl
/-- One node more. -/
theorem GR.addNode {w x w5 : World} {base g cap : Nat} {M : GM} {s : PS} {n : Nd} (h : GR w base M s) (hx : Below w.heap.size w x) (hg : x.grownBy w5 M.nv.ownBlock)
    (hown : w5.ownsRow base 44 6 (.slice (some ⟨g, 0, none⟩) (s.nodes.length + 1) cap) (s.nodes.length + 1) (rowC s.nodes M.kvs ++ nCells n (.slice none 0 0))) (hloc : M.nv.ownBlock = some g ∨ g = x.heap.size) (hn : NdOk n) (hk : n.kids = [])
    (hsum : s.left.length * 16 + (s.nodes.length + 1) + s.cnt ≤ 10000000) :
    GR (w5.setCell ⟨M.gp, 3, none⟩ (.slice (some ⟨g, 0, none⟩) (s.nodes.length + 1) cap)) base { M with nv := .slice (some ⟨g, 0, none⟩) (s.nodes.length + 1) cap, kvs := M.kvs ++ [.slice none 0 0] } { s with nodes := s.nodes ++ [n] } ∧
      Touch w (w5.setCell ⟨M.gp, 3, none⟩ (.slice (some ⟨g, 0, none⟩) (s.nodes.length + 1) cap)) (OwnG M) ∧
      ∀ j, OwnG { M with nv := .slice (some ⟨g, 0, none⟩) (s.nodes.length + 1) cap, kvs := M.kvs ++ [.slice none 0 0] } j → OwnG M j ∨ w.heap.size ≤ j := by
  have h1 := h.below hx
  have hr : ∀ j, M.nv.ownBlock = some j → ∃ cs, x.heap[j]? = some (.cells cs 44 (0, 0)) := fun j e => own_ty h1.nodes.own e
  have hst5 : w5.heap[M.gp]? = some (.cells (pcells M s) 59 (0, 0)) := (kept_cells hg hr (by decide) h1.st).trans h1.st
  obtain ⟨nv', hnv⟩ : ∃ v : Value, v = .slice (some ⟨g, 0, none⟩) (s.nodes.length + 1) cap := ⟨_, rfl⟩
  rw [← hnv] at hown ⊢
  have hid : ∀ (i : Nat) (m : Nd) (kv : Value), s.nodes[i]? = some m → M.kvs[i]? = some kv → w5.ownsRow base 30 1 kv m.kids.length (ids m.kids) := fun i m kv e1 e2 => ownsRow_at (h1.nodes.kid i m kv e1 e2) fun j cs hj => kept_cells hg hr (by decide) hj
  have hsh : w5.ownsRow base 9 1 M.sv s.shown.length (strC s.shown) := ownsRow_at h1.shown fun j cs hj => kept_cells hg hr (by decide) hj
  have hca : w5.ownsRow base 80 3 M.cv s.calls.length (callC s.calls) := ownsRow_at h1.calls fun j cs hj => kept_cells hg hr (by decide) hj
  have hR := (h1.rest hg hr (by decide)).at_ (y := w5.setCell ⟨M.gp, 3, none⟩ nv') hst5 fun j _ hj => heap_setCell_other w5 ⟨M.gp, 3, none⟩ j nv' hj
  have hlen := h.nodes.len
  refine ⟨⟨heap_setCell_same _ M.gp 3 _ _ _ hst5, hR.left, ⟨by simp [hlen], ?_, fun i m kv e1 e2 => ?_, fun i j a b q e1 e2 e3 e4 => ?_, fun m hm => ?_⟩, hR.mods, hR.funs, hR.taken, hR.vis,
    ownsRow_at hsh fun j cs hj => setSt_other hst5 (by decide) hj, ownsRow_at hca fun j cs hj => setSt_other hst5 (by decide) hj, h.o1, h.o2, h.o3, h.o4, h.o5, h.n1, h.n2, h.n3, ?_, h.goodT, h.goodS, h.goodC, by simpa using hsum, h.sh, h.ca, h.dep, h.flt, h.vs.on (((hx.mono h.hb).grown hg (Nat.le_trans h.hb hx.size) (fun g e => (h.own (.inr (.inl e))).1)).setCell (p := ⟨M.gp, 3, none⟩) h.o1 _) h.gb, h.gb, h.vb⟩, ?_, ?_⟩
  · show (w5.setCell ⟨M.gp, 3, none⟩ nv').ownsRow base 44 6 nv' (s.nodes ++ [n]).length (rowC (s.nodes ++ [n]) (M.kvs ++ [.slice none 0 0]))
    rw [List.length_append, rowC_snoc n _ hlen]
    exact ownsRow_at hown fun j cs hj => setSt_other hst5 (by decide) hj
  · rcases Nat.lt_or_ge i s.nodes.length with hi | hi
    · have e1' : s.nodes[i]? = some m := by rw [List.getElem?_append_left hi] at e1; exact e1
      have e2' : M.kvs[i]? = some kv := by rw [List.getElem?_append_left (by omega)] at e2; exact e2
      exact ownsRow_at (hid i m kv e1' e2') fun j cs hj => setSt_other hst5 (by decide) hj
    · rw [List.getElem?_append_right hi] at e1
      rw [List.getElem?_append_right (by omega)] at e2
      have hi0 : i - s.nodes.length = 0 := by
        have := (List.getElem?_eq_some_iff.1 e1).1
        simp at this
        omega
      rw [hi0] at e1
      rw [show i - M.kvs.length = 0 by omega] at e2
      simp at e1 e2
      subst e1 e2
      rw [hk]
      exact World.ownsRow_nil _ _ _ _
  · have hlt : ∀ (i : Nat) (a : Value), (M.kvs ++ [Value.slice none 0 0])[i]? = some a → a.ownBlock = some q → i < M.kvs.length := fun i a e1 e3 => by
      rcases Nat.lt_or_ge i M.kvs.length with hi | hi
      · exact hi
      · rw [List.getElem?_append_right hi] at e1
        have := (List.getElem?_eq_some_iff.1 e1).1
        simp at this
        rw [show i - M.kvs.length = 0 by omega] at e1
        simp at e1
        subst e1
        cases e3
    have hi := hlt i a e1 e3
    have hj := hlt j b e2 e4
    rw [List.getElem?_append_left hi] at e1
    rw [List.getElem?_append_left hj] at e2
    exact h.nodes.apart i j a b q e1 e2 e3 e4
  · rcases List.mem_append.1 hm with hm | hm
    · obtain ⟨h2, h3, h4⟩ := h.nodes.ok m hm
      exact ⟨h2, h3, by show m.kids.length ≤ (s.nodes ++ [n]).length; rw [List.length_append]; omega⟩
    · rw [List.mem_singleton] at hm
      subst hm
      rw [hk]
      exact ⟨hn, by simp, by simp⟩
  · exact Nat.le_trans h.hb (Nat.le_trans hx.size (Nat.le_trans hg.size (by simp)))
  · have hT : Touch w w5 (OwnG M) := (Touch.of_below hx _).trans (Touch.of_grown hg (S := OwnG M) fun j e => .inr (.inl e)) fun j e => .inl e
    exact hT.setCell ⟨M.gp, 3, none⟩ _ (.inl (.inl rfl))
  · intro j hj
    rcases hj with e | e | ⟨kv, hkv, e⟩ | e | e | e | e | e | e
    · exact .inl (.inl e)
    · rw [hnv] at e
      injection e with e
      subst e
      rcases hloc with h9 | h9
      · exact .inl (.inr (.inl h9))
      · exact .inr (by show w.heap.size ≤ g; rw [h9]; exact hx.size)
    · rcases List.mem_append.1 hkv with h9 | h9
      · exact .inl (.inr (.inr (.inl ⟨kv, h9, e⟩)))
      · rw [List.mem_singleton] at h9
        subst h9
        cases e
    · exact .inl (.inr (.inr (.inr (.inl e))))
    · exact .inl (.inr (.inr (.inr (.inr (.inl e)))))
    · exact .inl (.inr (.inr (.inr (.inr (.inr (.inl e))))))
    · exact .inl (.inr (.inr (.inr (.inr (.inr (.inr (.inl e)))))))
    · exact .inl (.inr (.inr (.inr (.inr (.inr (.inr (.inr (.inl e))))))))
    · exact .inl (.inr (.inr (.inr (.inr (.inr (.inr (.inr (.inr e))))))))
theorem setNd_other {w : World} {g j k : Nat} {v : Value} {cs : Array Value} {cs2 : Array Value} {t : TypeId} {z : Nat × Nat} (hg : w.heap[g]? = some (.cells cs 44 (0, 0))) (ht : t ≠ 44) (hj : w.heap[j]? = some (.cells cs2 t z)) : (w.setCell ⟨g, k, none⟩ v).heap[j]? = w.heap[j]? :=
  heap_setCell_other w ⟨g, k, none⟩ j v (fun e => diff_block hg hj (fun e2 => ht (by injection e2 with e2; exact e2.symm)) e)
theorem Rest.nd {x : World} {base : Nat} {M : GM} {s : PS} (h : Rest x base M s) {g k : Nat} {v : Value} {cs : Array Value} (hg : x.heap[g]? = some (.cells cs 44 (0, 0))) : Rest (x.setCell ⟨g, k, none⟩ v) base M s := by
  have hk : ∀ j, j ≠ g → (x.setCell ⟨g, k, none⟩ v).heap[j]? = x.heap[j]? := fun j hj => heap_setCell_other x ⟨g, k, none⟩ j v hj
  have hm : ∀ {K : TypeId} {b n : Nat} {f : Value → Nat}, MapF K x b n f → (x.setCell ⟨g, k, none⟩ v).heap[b]? = x.heap[b]? := fun hm => hk _ (hm.ne_cells hg)
  refine ⟨h.left.at_ fun j cs z hj => setNd_other hg (by decide) hj, h.mods.at_ (hm h.mods), h.funs.at_ (hm h.funs), h.taken.at_ fun g e => ?_, h.vis.at_ fun g e => ?_⟩
  · rcases h.taken with ⟨h1, _⟩ | ⟨g', h1, h2⟩
    · rw [h1] at e; cases e
    · rw [h1] at e; injection e with e; subst e; exact hm h2
  · rcases h.vis with ⟨h1, _⟩ | ⟨g', h1, h2⟩
    · rw [h1] at e; cases e
    · rw [h1] at e; injection e with e; subst e; exact hm h2
theorem set_getElem? {α : Type} {l : List α} {i j : Nat} {x y : α} (h : (l.set i x)[j]? = some y) : (j = i ∧ y = x) ∨ (j ≠ i ∧ l[j]? = some y) := by
  by_cases e : j = i
  · subst e
    have := (List.getElem?_eq_some_iff.1 h).1
    rw [List.length_set] at this
    rw [List.getElem?_set_self this] at h
    injection h with h
    exact .inl ⟨rfl, h.symm⟩
  · rw [List.getElem?_set_ne (Ne.symm e)] at h
    exact .inr ⟨e, h⟩
theorem set_same {α : Type} {l : List α} {i : Nat} {x : α} (h : l[i]? = some x) : l.set i x = l := by
  refine List.ext_getElem? fun j => ?_
  by_cases e : j = i
  · subst e
    rw [List.getElem?_set_self (List.getElem?_eq_some_iff.1 h).1, h]
  · rw [List.getElem?_set_ne (Ne.symm e)]
/-- One field of one node is written. -/
theorem GR.setNode {w : World} {base g N c i j : Nat} {M : GM} {s : PS} {m m' : Nd} {kv x : Value} (h : GR w base M s) (hnv : M.nv = .slice (some ⟨g, 0, none⟩) N c) (hm : s.nodes[i]? = some m) (hkv : M.kvs[i]? = some kv) (hj : j < 5) (hx : (nCells m kv).set j x = nCells m' kv) (hk : m'.kids = m.kids) (hok : NdOk m') :
    GR (w.setCell ⟨g, i * 6 + j, none⟩ x) base M { s with nodes := s.nodes.set i m' } ∧ Touch w (w.setCell ⟨g, i * 6 + j, none⟩ x) (OwnG M) := by
  have hown := h.nodes.own
  have hN : N = s.nodes.length := by
    rcases hown.2 with ⟨e, h0⟩ | ⟨g2, cap, cur, e, _⟩
    · rw [hnv] at e; cases e
    · rw [hnv] at e; injection e
  subst hN
  rw [hnv] at hown
  obtain ⟨cs, hgc⟩ := own_ty hown (j := g) rfl
  have hst := (hown.stored (i * 6 + j) x).1
  rw [rowC_set hm hkv (by omega) hx, set_same hkv] at hst
  have hR := (h.rest (y := w) (row := none) (T := 44) ⟨rfl, rfl, rfl, Nat.le_refl _, fun _ _ _ => rfl⟩ (fun _ e => by cases e) (by decide)).nd (k := i * 6 + j) (v := x) hgc
  refine ⟨⟨(setNd_other hgc (by decide) h.st).trans h.st, hR.left, ⟨by rw [List.length_set]; exact h.nodes.len, by rw [List.length_set, hnv]; exact hst, fun a n kv' e1 e2 => ?_, h.nodes.apart, fun n hn => ?_⟩, hR.mods, hR.funs, hR.taken, hR.vis,
    ownsRow_at h.shown fun j cs hj => setNd_other hgc (by decide) hj, ownsRow_at h.calls fun j cs hj => setNd_other hgc (by decide) hj, h.o1, h.o2, h.o3, h.o4, h.o5, h.n1, h.n2, h.n3, by simpa using h.hb, h.goodT, h.goodS, h.goodC, by simpa using h.sum, h.sh, h.ca, h.dep, h.flt, h.vs.on ((Below.refl base w).setCell (p := ⟨g, i * 6 + j, none⟩) (h.own (j := g) (.inr (.inl (by rw [hnv]; rfl)))).1 _) h.gb, h.gb, h.vb⟩,
    (Touch.refl w _).setCell ⟨g, i * 6 + j, none⟩ x (.inl (.inr (.inl (by rw [hnv]; rfl))))⟩
  · rcases set_getElem? e1 with ⟨rfl, rfl⟩ | ⟨_, e1⟩
    · rw [hkv] at e2
      injection e2 with e2
      subst e2
      rw [hk]
      exact ownsRow_at (h.nodes.kid a m kv hm hkv) fun j cs hj => setNd_other hgc (by decide) hj
    · exact ownsRow_at (h.nodes.kid a n kv' e1 e2) fun j cs hj => setNd_other hgc (by decide) hj
  · rw [List.length_set]
    rcases List.mem_or_eq_of_mem_set hn with hn | hn
    · exact h.nodes.ok n hn
    · subst hn
      obtain ⟨_, h2, h3⟩ := h.nodes.ok m (List.mem_of_getElem? hm)
      rw [hk]
      exact ⟨hok, h2, h3⟩
/-- One kid more. -/
theorem GR.kidMore {w x w5 : World} {base g N c i id q cap : Nat} {M : GM} {s : PS} {m : Nd} {kv : Value} (h : GR w base M s) (hnv : M.nv = .slice (some ⟨g, 0, none⟩) N c) (hm : s.nodes[i]? = some m) (hkv : M.kvs[i]? = some kv) (hx : Below w.heap.size w x) (hg : x.grownBy w5 kv.ownBlock)
    (hown : w5.ownsRow base 30 1 (.slice (some ⟨q, 0, none⟩) (m.kids.length + 1) cap) (m.kids.length + 1) (ids m.kids ++ [.int .u64 (id : Int)])) (hloc : kv.ownBlock = some q ∨ q = x.heap.size) (hid : id < 18446744073709551616) (hlen : m.kids.length + 1 ≤ s.nodes.length) :
    GR (w5.setCell ⟨g, i * 6 + 5, none⟩ (.slice (some ⟨q, 0, none⟩) (m.kids.length + 1) cap)) base { M with kvs := M.kvs.set i (.slice (some ⟨q, 0, none⟩) (m.kids.length + 1) cap) } { s with nodes := s.nodes.set i (addKid id m) } ∧
      Touch w (w5.setCell ⟨g, i * 6 + 5, none⟩ (.slice (some ⟨q, 0, none⟩) (m.kids.length + 1) cap)) (OwnG M) ∧
      ∀ j, OwnG { M with kvs := M.kvs.set i (.slice (some ⟨q, 0, none⟩) (m.kids.length + 1) cap) } j → OwnG M j ∨ w.heap.size ≤ j := by
  have h1 := h.below hx
  have hkr := h1.nodes.kid i m kv hm hkv
  have hr : ∀ j, kv.ownBlock = some j → ∃ cs, x.heap[j]? = some (.cells cs 30 (0, 0)) := fun j e => own_ty hkr e
  have hst5 : w5.heap[M.gp]? = some (.cells (pcells M s) 59 (0, 0)) := (kept_cells hg hr (by decide) h1.st).trans h1.st
  obtain ⟨kv', hkv'⟩ : ∃ v : Value, v = .slice (some ⟨q, 0, none⟩) (m.kids.length + 1) cap := ⟨_, rfl⟩
  have hown0 := h1.nodes.own
  have hN : N = s.nodes.length := by
    rcases hown0.2 with ⟨e, h0⟩ | ⟨g2, cap, cur, e, _⟩
    · rw [hnv] at e; cases e
    · rw [hnv] at e; injection e
  subst hN
  have hown5 : w5.ownsRow base 44 6 M.nv s.nodes.length (rowC s.nodes M.kvs) := ownsRow_at hown0 fun j cs hj => kept_cells hg hr (by decide) hj
  rw [hnv] at hown5
  obtain ⟨cs, hgc⟩ := own_ty hown5 (j := g) rfl
  have hst := (hown5.stored (i * 6 + 5) kv').1
  rw [rowC_set (n' := addKid id m) (kv' := kv') hm hkv (by omega) rfl] at hst
  have hR := (h1.rest hg hr (by decide)).nd (k := i * 6 + 5) (v := kv') hgc
  have hsh : w5.ownsRow base 9 1 M.sv s.shown.length (strC s.shown) := ownsRow_at h1.shown fun j cs hj => kept_cells hg hr (by decide) hj
  have hca : w5.ownsRow base 80 3 M.cv s.calls.length (callC s.calls) := ownsRow_at h1.calls fun j cs hj => kept_cells hg hr (by decide) hj
  have hlt : ∀ (a : Nat) (b : Value) (r : Nat), M.kvs[a]? = some b → b.ownBlock = some r → r < x.heap.size := fun a b r e1 e2 => by
    have ha : a < s.nodes.length := by rw [← h.nodes.len]; exact (List.getElem?_eq_some_iff.1 e1).1
    exact ((h1.nodes.kid a _ b (List.getElem?_eq_getElem ha) e1).lt _ e2).2
  rw [← hkv'] at hown ⊢
  refine ⟨⟨(setNd_other hgc (by decide) hst5).trans hst5, hR.left, ⟨by rw [List.length_set, List.length_set]; exact h.nodes.len, by rw [List.length_set, hnv]; exact hst, fun a n kv2 e1 e2 => ?_, fun a b u v r e1 e2 e3 e4 => ?_, fun n hn => ?_⟩, hR.mods, hR.funs, hR.taken, hR.vis,
    ownsRow_at hsh fun j cs hj => setNd_other hgc (by decide) hj, ownsRow_at hca fun j cs hj => setNd_other hgc (by decide) hj, h.o1, h.o2, h.o3, h.o4, h.o5, h.n1, h.n2, h.n3, ?_, h.goodT, h.goodS, h.goodC, by simpa using h.sum, h.sh, h.ca, h.dep, h.flt, h.vs.on (((hx.mono h.hb).grown hg (Nat.le_trans h.hb hx.size) (fun r e => (h.own (.inr (.inr (.inl ⟨kv, List.mem_of_getElem? hkv, e⟩)))).1)).setCell (p := ⟨g, i * 6 + 5, none⟩) (h.own (j := g) (.inr (.inl (by rw [hnv]; rfl)))).1 _) h.gb, h.gb, h.vb⟩, ?_, ?_⟩
  · rcases set_getElem? e1 with ⟨rfl, rfl⟩ | ⟨hne, e1⟩
    · rcases set_getElem? e2 with ⟨_, rfl⟩ | ⟨h9, _⟩
      · have hk : (addKid id m).kids.length = m.kids.length + 1 := by show (m.kids ++ [id]).length = _; rw [List.length_append]; rfl
        rw [hk]
        have hc : ids (addKid id m).kids = ids m.kids ++ [.int .u64 (id : Int)] := by show ids (m.kids ++ [id]) = _; unfold ids; rw [List.map_append]; rfl
        rw [hc]
        exact ownsRow_at hown fun j cs hj => setNd_other hgc (by decide) hj
      · exact absurd rfl h9
    · rcases set_getElem? e2 with ⟨h9, _⟩ | ⟨_, e2⟩
      · exact absurd h9 hne
      · refine ownsRow_at (World.ownsRow.kept (h1.nodes.kid a n kv2 e1 e2) hg ?_) fun j cs hj => setNd_other hgc (by decide) hj
        cases hb : kv2.ownBlock with
        | none => exact .inl rfl
        | some r => exact .inr fun e => hne (h.nodes.apart a i kv2 kv r e2 hkv hb e.symm)
  · rcases set_getElem? e1 with ⟨hai, hu⟩ | ⟨hna, e1'⟩
    · rcases set_getElem? e2 with ⟨hbi, _⟩ | ⟨hnb, e2'⟩
      · rw [hai, hbi]
      · rw [hu, hkv'] at e3
        injection e3 with e3
        have e3' : q = r := e3
        rcases hloc with h9 | h9
        · rw [hai]; exact (h.nodes.apart b i v kv r e2' hkv e4 (by rw [h9, e3'])).symm
        · have := hlt b v r e2' e4; omega
    · rcases set_getElem? e2 with ⟨hbi, hv⟩ | ⟨hnb, e2'⟩
      · rw [hv, hkv'] at e4
        injection e4 with e4
        have e4' : q = r := e4
        rcases hloc with h9 | h9
        · rw [hbi]; exact h.nodes.apart a i u kv r e1' hkv e3 (by rw [h9, e4'])
        · have := hlt a u r e1' e3; omega
      · exact h.nodes.apart a b u v r e1' e2' e3 e4
  · rw [List.length_set]
    rcases List.mem_or_eq_of_mem_set hn with hn | hn
    · exact h.nodes.ok n hn
    · subst hn
      obtain ⟨h2, h3, h4⟩ := h.nodes.ok m (List.mem_of_getElem? hm)
      refine ⟨⟨h2.kind, h2.name, h2.num, h2.typ, h2.ref⟩, fun k hk => ?_, by show (m.kids ++ [id]).length ≤ _; rw [List.length_append]; exact hlen⟩
      rcases List.mem_append.1 (show k ∈ m.kids ++ [id] from hk) with hk | hk
      · exact h3 k hk
      · rw [List.mem_singleton] at hk; omega
  · exact Nat.le_trans h.hb (Nat.le_trans hx.size (Nat.le_trans hg.size (by simp)))
  · have hT : Touch w w5 (OwnG M) := (Touch.of_below hx _).trans (Touch.of_grown hg (S := OwnG M) fun j e => .inr (.inr (.inl ⟨kv, List.mem_of_getElem? hkv, e⟩))) fun j e => .inl e
    exact hT.setCell ⟨g, i * 6 + 5, none⟩ _ (.inl (.inr (.inl (by rw [hnv]; rfl))))
  · intro j hj
    rcases hj with e | e | ⟨u, hu, e⟩ | e | e | e | e | e | e
    · exact .inl (.inl e)
    · exact .inl (.inr (.inl e))
    · rcases List.mem_or_eq_of_mem_set hu with hu | hu
      · exact .inl (.inr (.inr (.inl ⟨u, hu, e⟩)))
      · subst hu
        rw [hkv'] at e
        injection e with e
        have e' : q = j := e
        rcases hloc with h9 | h9
        · exact .inl (.inr (.inr (.inl ⟨kv, List.mem_of_getElem? hkv, by rw [h9, e']⟩)))
        · exact .inr (by rw [← e', h9]; exact hx.size)
    · exact .inl (.inr (.inr (.inr (.inl e))))
    · exact .inl (.inr (.inr (.inr (.inr (.inl e)))))
    · exact .inl (.inr (.inr (.inr (.inr (.inr (.inl e))))))
    · exact .inl (.inr (.inr (.inr (.inr (.inr (.inr (.inl e)))))))
    · exact .inl (.inr (.inr (.inr (.inr (.inr (.inr (.inr (.inl e))))))))
    · exact .inl (.inr (.inr (.inr (.inr (.inr (.inr (.inr (.inr e))))))))
end Go.Proofs.YtecbaceinifjiaaGreatDoor
