/- LExt: joined by program (tools/merge.py). -/
import Derived.Test.YtalpippeelomjaaZ27
import Derived.Test.YtalpippeelomjaaZ15
import Derived.Test.YtalpippeelomjaaZ30
import Derived.Deep.CutRange
import Derived.Deep.RegionLaw
import Derived.IntWalk
import Derived.Deep.RegionHeld3
namespace Go.Proofs.Ytalpippeelomjaa
theorem heapThreeZ31 (w : World) (o : Obj) {r : Nat} (h : r < w.heap.size) : (w.alloc o).heap[r]? = w.heap[r]? := by first | exact Go.heap_alloc_old _ _ h | exact Go.heap_alloc_old _ _ _ h
theorem heapFourZ31 (w : World) (o : Obj) (r : Nat) (h : r < w.heap.size) : (w.alloc o).heap[r]? = w.heap[r]? := heapThreeZ31 w o h
open Go.RowKit Go.Shelf
set_option linter.unusedSimpArgs false
set_option linter.unusedVariables false
attribute [local go_sem] Oper.semAt_some
/-- The row that is laid anew. -/
def newRow (qs : List Pg) (size : Nat) (rc : List Nat) : List Nat := if size % 487 = 0 then rc else ((((qs[size / 487]?).map Pg.data).getD []).drop 4).take (size % 487) ++ rc
/-- What extended answers. -/
def ExtR (gen ser : Nat) (qs : List Pg) (from_ : Nat) (row : List Nat) (w : World) (e : Ending) (w' : World) : Prop :=
  ∃ v ps, e = .returned v ∧ w'.ownsRow w.heap.size 85 5 v ps.length (pcells ps) ∧ (∀ p ∈ ps, POk w' p) ∧ pgs ps = extF gen ser qs from_ (serP qs from_) (partsL row) ∧ Below w.heap.size w w'
theorem callsIn_one {n : Nat} {P : Program} {f : FuncId} {args : Array Value} {w : World} {R : Ending → World → Prop} (h : CallsIn Fence.wide n P f args w R) : Calls P f args w R := callsIn_wide.1 h
/-- Where the row stands ready. -/
def ExtCut (w : World) (gr f : Nat) (row : List Nat) (v : Value) (x : World) : Prop := ∃ ad m c, v = .slice (some ad) m c ∧ Bytes x x.heap.size (.slice (some ad) m c) row ∧ Below w.heap.size w x ∧ x.heap[w.heap.size]? = some (.cells #[.pointer (some ⟨gr, 0, none⟩)] 31 (0, 0)) ∧ x.heap[w.heap.size + 1]? = some (.cells #[.int .i64 (f : Int)] 3 (0, 0))
theorem some_of {w : World} {B m c : Nat} {A : Option Addr} {l : List Nat} (h : Bytes w B (.slice A m c) l) (hne : l ≠ []) : ∃ ad, A = some ad := by
  rcases A with _ | ad
  · exfalso
    exact hne (by rw [← List.length_eq_zero_iff, ← byt_length, h.lies.empty]; rfl)
  · exact ⟨ad, rfl⟩
/-- Behind the making of a page. -/
def MidTen (W : World) (gen ser nu : Nat) (d : List Nat) (v : Value) (x : World) : Prop :=
  ∃ g A n c, v = .pointer (some ⟨g, 0, none⟩) ∧ x.heap[g]? = some (.cells #[.int .u32 (gen : Int), .int .u32 (ser : Int), .int .u32 (nu : Int), .int .u8 1, .slice A n c] 85 (0, 0)) ∧ Mine x W.heap.size A n c d ∧ Below W.heap.size W x ∧ W.heap.size ≤ g
theorem ride_set5 {W x : World} {g : Nat} {v0 v1 v2 v3 v4 : Value} (h : Below W.heap.size W x) (hg : W.heap.size ≤ g) : Below W.heap.size W (((((x.setCell ⟨g, 0, none⟩ v0).setCell ⟨g, 1, none⟩ v1).setCell ⟨g, 2, none⟩ v2).setCell ⟨g, 3, none⟩ v3).setCell ⟨g, 4, none⟩ v4) := below_five h hg
theorem cut_leaf {T : Array Value} {slots : List Nat} {q : Nat} {R : Value → World → Prop} {ts : Array Value} {x : World} (v : Value) (ht : ts = putL T slots (slots.map fun s => ts.getD s undef)) (hv : ts.getD q undef = v) (hR : R v x) : GoesOn (CutQ T slots q R) .normal { tmps := ts, defers := [] } x :=
  ⟨rfl, ht, by show R (ts.getD q undef) x; rw [hv]; exact hR⟩
theorem five_of {x : World} {g : Nat} (h : x.heap[g]? = some (.cells zcells 85 (0, 0))) :
    x.cell? ⟨g, 0, none⟩ = some (.int .u32 0) ∧ x.cell? ⟨g, 1, none⟩ = some (.int .u32 0) ∧ x.cell? ⟨g, 2, none⟩ = some (.int .u32 0) ∧ x.cell? ⟨g, 3, none⟩ = some (.int .u8 0) ∧ x.cell? ⟨g, 4, none⟩ = some (.slice none 0 0) ∧
    x.frozen? ⟨g, 0, none⟩ = false ∧ x.frozen? ⟨g, 1, none⟩ = false ∧ x.frozen? ⟨g, 2, none⟩ = false ∧ x.frozen? ⟨g, 3, none⟩ = false ∧ x.frozen? ⟨g, 4, none⟩ = false := by
  refine ⟨?_, ?_, ?_, ?_, ?_, frozen_of_row x g _ _ _ h, frozen_of_row x g _ _ _ h, frozen_of_row x g _ _ _ h, frozen_of_row x g _ _ _ h, frozen_of_row x g _ _ _ h⟩ <;> (unfold World.cell?; rw [h]; rfl)
theorem cut_leafQ {T : Array Value} {slots : List Nat} {q : Nat} {R : Value → World → Prop} {ts : Array Value} {x : World} (v : Value) (ht : ts = putL T slots (slots.map fun s => ts.getD s undef)) (hv : ts.getD q undef = v) (hR : R v x) : CutQ T slots q R .normal { tmps := ts, defers := [] } x :=
  ⟨rfl, ht, by show R (ts.getD q undef) x; rw [hv]; exact hR⟩
theorem mkP_new {gen ser j bf : Nat} {qs : List Pg} {part : List Nat} (h : ¬ ∃ q, qs[j]? = some q ∧ q.data = be4 bf ++ part) : mkP gen ser qs j bf part = ⟨gen, ser, j, 1, be4 bf ++ part⟩ := by
  unfold mkP
  split
  · rename_i q hq
    rw [if_neg (fun e => h ⟨q, hq, e⟩)]
  · rfl
theorem mkP_old {gen ser j bf : Nat} {qs : List Pg} {part : List Nat} {q : Pg} (hq : qs[j]? = some q) (hd : q.data = be4 bf ++ part) : mkP gen ser qs j bf part = q := by
  unfold mkP
  rw [hq]
  exact if_pos hd
theorem pok_below {w w' : World} {p : PV} (h : POk w p) (hb : Below w.heap.size w w') : POk w' p := ⟨⟨ownsRow_below h.mine.own hb, h.mine.len, h.mine.small⟩, h.gen, h.ser, h.num, h.kind, h.few⟩
theorem keep_ty {w w' : World} {base n size : Nat} {tp : TypeId} {v : Value} {xs : List Value} (hg : w.grownBy w' v.ownBlock) (ho : w.ownsRow base tp size v n xs) {k : Nat} {cs : Array Value} {t : TypeId} {fr : Nat × Nat} (h : w.heap[k]? = some (.cells cs t fr)) (ht : t ≠ tp) : w'.heap[k]? = some (.cells cs t fr) :=
  (hg.block k (lt_of_heap h) (fun e => by
    obtain ⟨cs', h'⟩ := row_heap ho e.symm
    rw [h] at h'
    injection h' with h'
    injection h' with _ h' _
    exact ht h')).trans h
theorem pok_ty {w w' : World} {base n : Nat} {v : Value} {xs : List Value} (hg : w.grownBy w' v.ownBlock) (ho : w.ownsRow base 85 5 v n xs) {p : PV} (h : POk w p) : POk w' p :=
  ⟨⟨ownsRow_keep h.mine.own fun k hk => by
    obtain ⟨cs, hcs⟩ := row_heap h.mine.own hk
    rw [keep_ty hg ho hcs (by decide), hcs], h.mine.len, h.mine.small⟩, h.gen, h.ser, h.num, h.kind, h.few⟩
theorem fives {x : World} {g : Nat} {u0 u1 u2 u3 u4 : Value} (h : x.heap[g]? = some (.cells #[u0, u1, u2, u3, u4] 85 (0, 0))) :
    x.cell? ⟨g, 0, none⟩ = some u0 ∧ x.cell? ⟨g, 1, none⟩ = some u1 ∧ x.cell? ⟨g, 2, none⟩ = some u2 ∧ x.cell? ⟨g, 3, none⟩ = some u3 ∧ x.cell? ⟨g, 4, none⟩ = some u4 ∧
    x.frozen? ⟨g, 0, none⟩ = false ∧ x.frozen? ⟨g, 1, none⟩ = false ∧ x.frozen? ⟨g, 2, none⟩ = false ∧ x.frozen? ⟨g, 3, none⟩ = false ∧ x.frozen? ⟨g, 4, none⟩ = false := by
  refine ⟨?_, ?_, ?_, ?_, ?_, frozen_of_row x g _ _ _ h, frozen_of_row x g _ _ _ h, frozen_of_row x g _ _ _ h, frozen_of_row x g _ _ _ h, frozen_of_row x g _ _ _ h⟩ <;> (unfold World.cell?; rw [h]; rfl)
theorem set_fives {w : World} {g : Nat} {u0 u1 u2 u3 u4 v0 v1 v2 v3 v4 : Value} (h : w.heap[g]? = some (.cells #[u0, u1, u2, u3, u4] 85 (0, 0))) :
    (((((w.setCell ⟨g, 0, none⟩ v0).setCell ⟨g, 1, none⟩ v1).setCell ⟨g, 2, none⟩ v2).setCell ⟨g, 3, none⟩ v3).setCell ⟨g, 4, none⟩ v4).heap[g]? = some (.cells #[v0, v1, v2, v3, v4] 85 (0, 0)) := by
  rw [heap_setCell_same _ g 4 _ _ _ (heap_setCell_same _ g 3 _ _ _ (heap_setCell_same _ g 2 _ _ _ (heap_setCell_same _ g 1 _ _ _ (heap_setCell_same _ g 0 _ _ _ h))))]
  rfl
/-- Behind the choice between the new page and the old. -/
def MidTwelve (W : World) (g gen ser : Nat) (qs : List Pg) (j bf : Nat) (part : List Nat) (v : Value) (x : World) : Prop :=
  v = .pointer (some ⟨g, 0, none⟩) ∧ ∃ p : PV, x.heap[g]? = some (.cells #[.int .u32 (p.gen : Int), .int .u32 (p.ser : Int), .int .u32 (p.num : Int), .int .u8 (p.kind : Int), .slice p.A p.m p.c] 85 (0, 0)) ∧ POk x p ∧ p.pg = mkP gen ser qs j bf part ∧ Below W.heap.size W x
theorem mid_leaf {W wz : World} {g gg cap n gen ser nu : Nat} {vi : Int} {d e : List Nat} (hb : Below W.heap.size W wz) (hz : wz.heap[g]? = some (.cells zcells 85 (0, 0))) (hg : W.heap.size ≤ g)
    (ho : wz.ownsRow W.heap.size 5 1 (.slice (some ⟨gg, 0, none⟩) n cap) n (byt d ++ byt e)) (hn : n = (d ++ e).length) (hs : ∀ b ∈ d, b < 256) (hs2 : ∀ b ∈ e, b < 256) (hne : g ≠ gg) (hv : vi = (nu : Int)) :
    MidTen W gen ser nu (d ++ e) (.pointer (some ⟨g, 0, none⟩)) (((((wz.setCell ⟨g, 0, none⟩ (.int .u32 (gen : Int))).setCell ⟨g, 1, none⟩ (.int .u32 (ser : Int))).setCell ⟨g, 2, none⟩ (.int .u32 vi)).setCell ⟨g, 3, none⟩ (.int .u8 1)).setCell ⟨g, 4, none⟩ (.slice (some ⟨gg, 0, none⟩) n cap)) := by
  subst hv
  refine ⟨g, _, n, cap, rfl, set_five hz, ⟨?_, hn, small_append hs hs2⟩, below_five hb hg, hg⟩
  rw [byt_append]
  refine ownsRow_keep ho fun k hk => ?_
  have hkg : k = gg := by
    have h2 : some gg = some k := hk
    injection h2 with h2
    exact h2.symm
  subst hkg
  rw [Below.heap_setCell _ _ _ _ hne.symm, Below.heap_setCell _ _ _ _ hne.symm, Below.heap_setCell _ _ _ _ hne.symm, Below.heap_setCell _ _ _ _ hne.symm, Below.heap_setCell _ _ _ _ hne.symm]
theorem mid_leaf1 {W wz : World} {gg cap n gen ser nu : Nat} {vi : Int} {d e : List Nat} (hb : Below W.heap.size W wz) (hg : W.heap.size ≤ wz.heap.size)
    (ho : wz.ownsRow W.heap.size 5 1 (.slice (some ⟨gg, 0, none⟩) n cap) n (byt d ++ byt e)) (hn : n = (d ++ e).length) (hs : ∀ b ∈ d, b < 256) (hs2 : ∀ b ∈ e, b < 256) (hv : vi = (nu : Int)) :
    MidTen W gen ser nu (d ++ e) (.pointer (some ⟨wz.heap.size, 0, none⟩)) (wz.alloc (.cells #[.int .u32 (gen : Int), .int .u32 (ser : Int), .int .u32 vi, .int .u8 1, .slice (some ⟨gg, 0, none⟩) n cap] 85)) := by
  subst hv
  refine ⟨wz.heap.size, _, n, cap, rfl, Go.heap_alloc_new _ _, ⟨?_, hn, small_append hs hs2⟩, hb.alloc hg _, hg⟩
  rw [byt_append]
  exact ownsRow_below ho ((Below.refl _ _).alloc (Nat.le_refl _) _)
/-- Between two rounds. -/
def ExtI (w wb : World) (gen ser : Nat) (qs : List Pg) (f b0 : Nat) (row : List Nat) (B9 B10 : Nat) (ad : Addr) (N c : Nat) (pre : List (Part N)) (W : World) : Prop :=
  ∃ (bf : Nat) (v2 : Value) (ps2 : List PV), W.heap[B9]? = some (.cells #[.int .u32 (bf : Int)] 22 (0, 0)) ∧ W.heap[B10]? = some (.cells #[v2] 81 (0, 0)) ∧ W.heap[B10 + 1]? = some (.cells #[.slice (some ad) N c] 43 (0, 0)) ∧ W.heap[B10 + 2]? = some (.cells #[.int .i64 487] 3 (0, 0)) ∧
    W.ownsRow wb.heap.size 85 5 v2 ps2.length (pcells ps2) ∧ (∀ p ∈ ps2, POk W p) ∧ pgs ps2 = extF gen ser qs f b0 ((partNo pre).map (partK row)) ∧ bf = lastS b0 (pgs ps2) ∧ bf < 4294967296 ∧ Below wb.heap.size wb W
theorem extI_own {w wb : World} {gen ser : Nat} {qs : List Pg} {f b0 : Nat} {row : List Nat} {B9 B10 : Nat} {ad : Addr} {N c B : Nat} (hB : wb.heap.size ≤ B) : OwnFrom B (fun pre W => ExtI w wb gen ser qs f b0 row B9 B10 ad N c pre W) := fun pre W W' row hs hg hr => by
  obtain ⟨bf, v2, ps2, h1, h2, h3, h4, h5, h6, h7, h8, h9, h11⟩ := hs
  have hk := Kc.of_grown hg (fun r e => (hr r e).2)
  exact ⟨bf, v2, ps2, hk _ _ _ _ h1, hk _ _ _ _ h2, hk _ _ _ _ h3, hk _ _ _ _ h4, hk.own h5, fun p hp => hk.pok (h6 p hp), h7, h8, h9, h11.grown hg h11.size (fun k e => Nat.le_trans hB (hr k e).1)⟩
theorem own_set {w : World} {base n size b : Nat} {tp : TypeId} {v u : Value} {xs : List Value} {cs : Array Value} {t : TypeId} {fr : Nat × Nat} (h : w.ownsRow base tp size v n xs) (hb : w.heap[b]? = some (.cells cs t fr)) (ht : t ≠ tp) : (w.setCell ⟨b, 0, none⟩ u).ownsRow base tp size v n xs :=
  ownsRow_keep h fun k hk => by
    refine Below.heap_setCell _ _ _ _ (fun e => ?_)
    obtain ⟨cs', h'⟩ := row_heap h hk
    have e' : k = b := e
    rw [e', hb] at h'
    injection h' with h'
    injection h' with _ h' _
    exact ht h'
theorem pok_set {w : World} {b : Nat} {u : Value} {p : PV} {cs : Array Value} {t : TypeId} {fr : Nat × Nat} (h : POk w p) (hb : w.heap[b]? = some (.cells cs t fr)) (ht : t ≠ 5) : POk (w.setCell ⟨b, 0, none⟩ u) p :=
  ⟨⟨own_set h.mine.own hb ht, h.mine.len, h.mine.small⟩, h.gen, h.ser, h.num, h.kind, h.few⟩
set_option maxRecDepth 100000 in
theorem round_end {w wb W w12 wA w13 : World} {gen ser D : Nat} {qs : List Pg} {f b0 : Nat} {row : List Nat} {B9 B10 : Nat} {ad : Addr} {N c : Nat} {pre : List (Part N)} {kk : Part N} {bf n2 j gA k13 : Nat} {v2 : Value} {ps2 : List PV} {p : PV}
    (i1 : W.heap[B9]? = some (.cells #[.int .u32 (bf : Int)] 22 (0, 0))) (i2 : W.heap[B10]? = some (.cells #[v2] 81 (0, 0))) (i3 : W.heap[B10 + 1]? = some (.cells #[.slice (some ad) N c] 43 (0, 0))) (i4 : W.heap[B10 + 2]? = some (.cells #[.int .i64 487] 3 (0, 0)))
    (i5 : W.ownsRow wb.heap.size 85 5 v2 ps2.length (pcells ps2)) (hn2 : n2 = ps2.length) (i6 : ∀ p ∈ ps2, POk W p) (i7 : pgs ps2 = extF gen ser qs f b0 ((partNo pre).map (partK row))) (i8 : bf = lastS b0 (pgs ps2)) (i11 : Below wb.heap.size wb W) (h9 : wb.heap.size ≤ B9) (h9B : B9 < B10)
    (hb12 : Below W.heap.size W w12) (hok : POk w12 p) (hj : j = f + n2) (hpg : p.pg = mkP gen ser qs j bf (partK row kk.1))
    (oA : wA.ownsRow wb.heap.size 85 5 v2 n2 (pcells ps2)) (hbA : Below w12.heap.size w12 wA) (hg13 : wA.grownBy w13 v2.ownBlock)
    (hown13 : w13.ownsRow wb.heap.size 85 5 (.slice (some ⟨gA, 0, none⟩) (n2 + 1) k13) (n2 + 1) (pcells ps2 ++ pcell p))
    (hB10 : w13.heap[B10]? = some (.cells #[v2] 81 (0, 0))) (hB9 : w13.heap[B9]? = some (.cells #[.int .u32 (bf : Int)] 22 (0, 0))) :
    KeepsFrom D W ((w13.setCell ⟨B10, 0, none⟩ (.slice (some ⟨gA, 0, none⟩) (n2 + 1) k13)).setCell ⟨B9, 0, none⟩ (.int .u32 (p.ser : Int))) ∧ KpC (B10 + 1) (B10 + 2) W ((w13.setCell ⟨B10, 0, none⟩ (.slice (some ⟨gA, 0, none⟩) (n2 + 1) k13)).setCell ⟨B9, 0, none⟩ (.int .u32 (p.ser : Int))) ∧
      ExtI w wb gen ser qs f b0 row B9 B10 ad N c (pre ++ [kk]) ((w13.setCell ⟨B10, 0, none⟩ (.slice (some ⟨gA, 0, none⟩) (n2 + 1) k13)).setCell ⟨B9, 0, none⟩ (.int .u32 (p.ser : Int))) := by
  have hbWA : Below W.heap.size W wA := hb12.trans (hbA.mono hb12.size)
  have hkeep : ∀ (k : Nat) (o : Obj), W.heap[k]? = some o → k ≠ B9 → k ≠ B10 → (∀ e : v2.ownBlock = some k, False) → ((w13.setCell ⟨B10, 0, none⟩ (.slice (some ⟨gA, 0, none⟩) (n2 + 1) k13)).setCell ⟨B9, 0, none⟩ (.int .u32 (p.ser : Int))).heap[k]? = some o := fun k o ho h1 h2 h3 => by
    have hkl : k < W.heap.size := (Array.getElem?_eq_some_iff.1 ho).1
    rw [Below.heap_setCell _ _ _ _ h1, Below.heap_setCell _ _ _ _ h2, hg13.block k (Nat.lt_of_lt_of_le hkl hbWA.size) (fun e => h3 e.symm), hbWA.block k hkl, ho]
  have hne : ∀ (k : Nat) (cs : Array Value) (t : TypeId), W.heap[k]? = some (.cells cs t (0, 0)) → t ≠ 85 → (∀ e : v2.ownBlock = some k, False) := fun k cs t hk ht e => by
    obtain ⟨cs', h'⟩ := row_heap i5 e
    rw [hk] at h'
    injection h' with h'
    injection h' with _ h' _
    exact ht h'
  have k3 := hkeep _ _ i3 (by omega) (by omega) (hne _ _ _ i3 (by decide))
  have k4 := hkeep _ _ i4 (by omega) (by omega) (hne _ _ _ i4 (by decide))
  have hB9' : (w13.setCell ⟨B10, 0, none⟩ (.slice (some ⟨gA, 0, none⟩) (n2 + 1) k13)).heap[B9]? = some (.cells #[.int .u32 (bf : Int)] 22 (0, 0)) := by rw [Below.heap_setCell _ _ _ _ (by show B9 ≠ B10; omega)]; exact hB9
  have hszX : W.heap.size ≤ ((w13.setCell ⟨B10, 0, none⟩ (.slice (some ⟨gA, 0, none⟩) (n2 + 1) k13)).setCell ⟨B9, 0, none⟩ (.int .u32 (p.ser : Int))).heap.size := by
    have h1 := hbWA.size
    have h2 := hg13.size
    simp [World.setCell]
    omega
  refine ⟨⟨hszX, fun k o _ hk ho => ?_⟩, ⟨World.cell?_of_block (k3.trans i3.symm), World.cell?_of_block (k4.trans i4.symm)⟩, ?_⟩
  · refine hkeep k o hk (fun e => ?_) (fun e => ?_) (fun e => ?_)
    · rw [e, i1] at hk; injection hk with hk; subst hk; cases ho
    · rw [e, i2] at hk; injection hk with hk; subst hk; cases ho
    · obtain ⟨cs', h'⟩ := row_heap i5 e
      rw [hk] at h'; injection h' with h'; subst h'; cases ho
  · have hlen : (ps2 ++ [p]).length = n2 + 1 := by rw [List.length_append, hn2]; rfl
    have hpc : pcells (ps2 ++ [p]) = pcells ps2 ++ pcell p := by rw [pcells_append]; congr 1
    refine ⟨p.ser, .slice (some ⟨gA, 0, none⟩) (n2 + 1) k13, ps2 ++ [p], one_setCell hB9', ?_, k3, k4, ?_, ?_, ?_, ?_, hok.ser, ?_⟩
    · rw [Below.heap_setCell _ _ _ _ (by show B10 ≠ B9; omega)]
      exact one_setCell hB10
    · rw [hlen, hpc]
      exact own_set (own_set hown13 hB10 (by decide)) hB9' (by decide)
    · intro p' hp'
      have h12 : POk w12 p' := by
        rcases List.mem_append.1 hp' with h | h
        · exact pok_below (i6 p' h) hb12
        · rw [List.mem_singleton] at h; rw [h]; exact hok
      exact pok_set (pok_set (pok_ty hg13 oA (pok_below h12 hbA)) hB10 (by decide)) hB9' (by decide)
    · have hl : ((partNo pre).map (partK row)).length = n2 := by
        have h1 := congrArg List.length i7
        rw [extF_length] at h1
        rw [← h1, pgs_length, hn2]
      rw [partNo_snoc, List.map_append, pgs_append, List.map_cons, List.map_nil, extF_snoc, ← i7, hl, ← hj, ← i8, ← hpg]
      rfl
    · rw [pgs_append]
      exact (lastS_snoc b0 (pgs ps2) p.pg).symm
    · have h1 := i11.trans (hbWA.mono i11.size)
      exact ((h1.grown hg13 h1.size (fun k e => (own_block_lt oA e).1)).setCell (p := ⟨B10, 0, none⟩) (by show wb.heap.size ≤ B10; omega) _).setCell (p := ⟨B9, 0, none⟩) h9 _
set_option maxRecDepth 100000 in
set_option maxHeartbeats 80000000 in
theorem extended_any {w : World} {gr gs gen ser first secs size count : Nat} {pv : Value} {ps : List PV} (hR : Reel w gr gs gen ser first secs pv ps size count) (hfr : size / 487 ≤ ps.length) (hl : ps.length ≤ 2048) (hg : gen < 4294967296) (hs : ser < 4294967296)
    (A : Option Addr) (m c : Nat) (rc : List Nat) (hrc : Bytes w w.heap.size (.slice A m c) rc) (hin : size % 487 ≠ 0 → ∃ p, ps[size / 487]? = some p ∧ 4 + size % 487 ≤ p.data.length) (hN : rc.length ≤ 1000000) (hne : rc ≠ []) (hsz : size ≤ 1048576) :
    Calls Try.prog 51 #[.pointer (some ⟨gr, 0, none⟩), .int .i64 ((size / 487 : Nat) : Int), .slice A m c] w (ExtR gen ser (pgs ps) (size / 487) (newRow (pgs ps) size rc) w) := by
  obtain ⟨ad, rfl⟩ := some_of hrc hne
  obtain ⟨f, hf⟩ : ∃ f, f = size / 487 := ⟨_, rfl⟩
  rw [← hf] at hfr hin ⊢
  have hm : m = rc.length := by
    obtain ⟨⟨A1, c1, hv, _⟩, _, _⟩ := hrc
    injection hv with _ h _
  have hmc : m ≤ c := by
    obtain ⟨⟨A1, c1, hv, _, hcc, _⟩, _, _⟩ := hrc
    injection hv with _ _ h
    omega
  obtain ⟨Ap, cp, rfl⟩ := hR.pages.form
  obtain ⟨np, hnp⟩ : ∃ np, np = ps.length := ⟨_, rfl⟩
  rw [← hnp] at hfr hl
  have c6 : w.cell? ⟨gr, 6, none⟩ = some (.int .i64 (size : Int)) := by unfold World.cell?; rw [hR.st]; rfl
  have c5 : w.cell? ⟨gr, 5, none⟩ = some (.slice Ap np cp) := by rw [hnp]; unfold World.cell?; rw [hR.st]; rfl
  have hgl := lt_of_heap hR.st
  have hrow : ∃ row, row = newRow (pgs ps) size rc := ⟨_, rfl⟩
  obtain ⟨row, hrow⟩ := hrow
  rw [← hrow]
  have HROW := Lib.hid hrow
  have HR := Lib.hid hR
  have HNP := Lib.hid hnp
  have HF := Lib.hid hf
  have HRC := Lib.hid hrc
  have HM := Lib.hid hm
  have HNE := Lib.hid hne
  have HIN := Lib.hid hin
  clear hR hnp hf hrc hm hne hin hrow
  obtain ⟨q, hq⟩ : ∃ q, q = size % 487 := ⟨_, rfl⟩
  have hrem : (size : Int).tmod 487 = (q : Int) := by rw [Int.tmod_eq_emod_of_nonneg (by omega)]; omega
  have hrem2 : (size : Int) % 487 = (q : Int) := by omega
  have hq7 : q < 487 := by omega
  have HQ := Lib.hid hq
  clear hq
  refine callsIn_one (n := 5) ?_
  refine callsIn_of_wp_marks Try.func51 rfl trivial ?_ rfl
  simp only [Try.ntmps51, List.size_toArray, List.length_cons, List.length_nil, Nat.reduceAdd, Nat.reduceSub, Array.replicate_succ, Array.replicate_zero, List.push_toArray, List.append_toArray, List.nil_append, List.cons_append]
  refine wpIn_wide.2 ?_
  go_upto_if 21 with (fail)
  go_cut [7] from 20 to 35 (fun v x => ExtCut w gr f row v x)
  case first =>
    by_cases h0 : q = 0
    · have hq0 : ¬ (0 : Int) < (q : Int) := by omega
      have hq00 : decide ((0 : Int) < (q : Int)) = false := decide_eq_false hq0
      have H0 : Hid (size % 487 = 0) := Lib.hid (by rw [← HQ.out]; exact h0)
      clear h0
      go_wp2
      go_meet
      have h1 : newRow (pgs ps) size rc = rc := if_pos H0.out
      rw [HROW.out, h1]
      exact ⟨ad, m, c, rfl, HRC.out.along below_two, below_two, by rw [heapThreeZ31 _ _ (by simp)]; exact Go.heap_alloc_new w _, Go.heap_alloc2_new w _ _⟩
    · obtain ⟨p, hp, hpl⟩ := HIN.out (by rw [← HQ.out]; exact h0)
      rw [← HQ.out] at hpl
      have hq0 : 0 < q := by omega
      have hq00 : (0 : Int) < (q : Int) := by omega
      have hpf : f < np := by have := (List.getElem?_eq_some_iff.1 hp).1; rw [HNP.out]; exact this
      obtain ⟨gp, cp', hv, d0, d1, d2, d3, d4⟩ := HR.out.pages.at_ hp
      rw [← HNP.out] at hv
      injection hv with hv1 _ hv3
      subst hv1
      subst hv3
      have hok := (HR.out.pages.ok p (List.mem_of_getElem? hp)).mine
      have hrowE : newRow (pgs ps) size rc = (p.data.drop 4).take q ++ rc := by
        unfold newRow
        rw [if_neg (by rw [← HQ.out]; exact h0), ← HQ.out, ← HF.out]
        unfold pgs
        rw [List.getElem?_map, hp]
        rfl
      have HRE := Lib.hid hrowE
      obtain ⟨pg, pser, pnum, pk, PA, pm, pc, dat⟩ := p
      dsimp only at hok hpl d4 HRE
      have hml := hok.len
      have hmc2 := mine_cap hok
      rw [← hml] at hpl
      obtain ⟨gd, b0, rfl, _⟩ := hok.at_ (k := 0) (by omega)
      have hrest := hok.bytes.rest (k := 4) (by omega)
      rw [if_neg (by omega), Option.map_some, addr_four] at hrest
      have hpart := hrest.first (k := q) (by omega)
      have hpne : (dat.drop 4).take q ≠ [] := fun e => by
        have := congrArg List.length e
        rw [List.length_take, List.length_drop, ← hml] at this
        simp at this
        omega
      have hplen : ((dat.drop 4).take q).length ≤ 487 := by rw [List.length_take]; omega
      have hcb : 4 + (q : Int) ≤ (pm : Int) := by omega
      have hcb2 : 4 + (q : Int) ≤ (pc : Int) := by omega
      have hpc4 : ¬ pc = 4 := by omega
      have HPA := Lib.hid hpart
      have HPN := Lib.hid hpne
      have HPL := Lib.hid hplen
      obtain ⟨W, hW⟩ : ∃ W, W = ((w.alloc (.cells #[.pointer (some ⟨gr, 0, none⟩)] 31)).alloc (.cells #[.int .i64 (f : Int)] 3)) := ⟨_, rfl⟩
      have hWb : Below w.heap.size w W := by rw [hW]; exact below_two
      have hW0 : W.heap[w.heap.size]? = some (.cells #[.pointer (some ⟨gr, 0, none⟩)] 31 (0, 0)) := by rw [hW, heapThreeZ31 _ _ (by simp)]; exact Go.heap_alloc_new w _
      have hW1 : W.heap[w.heap.size + 1]? = some (.cells #[.int .i64 (f : Int)] 3 (0, 0)) := by rw [hW]; exact Go.heap_alloc2_new w _ _
      have HC : Hid (∀ x, Below W.heap.size W x → Below W.heap.size W x ∧ x.cell? ⟨w.heap.size, 0, none⟩ = some (.pointer (some ⟨gr, 0, none⟩)) ∧ x.cell? ⟨w.heap.size + 1, 0, none⟩ = some (.int .i64 (f : Int)) ∧ x.cell? ⟨gr, 5, none⟩ = some (.slice (some ⟨gp, 0, none⟩) np cp) ∧ x.cell? ⟨gp, f * 5 + 4, none⟩ = some (.slice (some ⟨gd, 0, none⟩) pm pc)) := Lib.hid fun x hx => by
        have e0 := (hx.block w.heap.size (lt_of_heap hW0)).trans hW0
        have e1 := (hx.block (w.heap.size + 1) (lt_of_heap hW1)).trans hW1
        have e2 := (hWb.trans (hx.mono hWb.size))
        refine ⟨hx, by unfold World.cell?; rw [e0]; rfl, by unfold World.cell?; rw [e1]; rfl, (e2.cell (p := ⟨gr, 5, none⟩) hgl).trans c5, (e2.cell (p := ⟨gp, f * 5 + 4, none⟩) ?_).trans d4⟩
        exact World.block_lt_of_cell? w _ d4
      have HCAT : Hid (∀ y g, Below W.heap.size W y → y.heap[g]? = some (.cells #[.slice (some ⟨gd, 4, none⟩) q (pc - 4), .slice (some ad) m c] 43 (0, 0)) → Calls Try.prog 76 #[.slice (some ⟨g, 0, none⟩) 2 2] y fun e w' => ∃ A m c, e = .returned (.slice A m c) ∧ Mine w' y.heap.size A m c ((dat.drop 4).take q ++ rc) ∧ Below y.heap.size y w') := Lib.hid fun y g hy hg => by
        have hwy := hWb.trans (hy.mono hWb.size)
        have hP := parts_two (B := y.heap.size) hg (HPA.out.along hwy) (HRC.out.along hwy) (Nat.le_refl _)
        have he : [(dat.drop 4).take q, rc].flatten = (dat.drop 4).take q ++ rc := by simp
        have h := concat_any y _ _ hP (fun l hl => by
          rcases List.mem_cons.1 hl with rfl | hl
          · exact HPN.out
          · rw [List.mem_singleton] at hl; rw [hl]; exact HNE.out) (by rw [he]; exact small_append HPA.out.small HRC.out.small) (by rw [he, List.length_append]; have := HPL.out; omega)
        rw [he] at h
        exact h
      have HWE := Lib.hid hW
      have HWB := Lib.hid hWb
      have HW0 := Lib.hid hW0
      have HW1 := Lib.hid hW1
      clear hp h0 hrowE hml hok hrest hpart hpne hplen hW hWb hW0 hW1 d0 d1 d2 d3
      go_wp2
      rw [← HWE.out]
      clear c5 d4 c6
      have hw1 : IntKind.i64.wrap (4 + (q : Int)) = 4 + (q : Int) := IntWalk.i64_in _ (by omega)
      have hw2 : (0 : Int) ≤ 4 + (q : Int) := by omega
      have hw3 : (4 + (q : Int)).toNat = 4 + q := by omega
      have hw4 : (4 : Int) ≤ 4 + (q : Int) := by omega
      have hf0 : (0 : Int) ≤ (f : Int) := by omega
      have hfn : (f : Int) < (np : Int) := by omega
      go_region_held3 (fun x => Below W.heap.size W x ∧ x.cell? ⟨w.heap.size, 0, none⟩ = some (.pointer (some ⟨gr, 0, none⟩)) ∧ x.cell? ⟨w.heap.size + 1, 0, none⟩ = some (.int .i64 (f : Int)) ∧ x.cell? ⟨gr, 5, none⟩ = some (.slice (some ⟨gp, 0, none⟩) np cp) ∧ x.cell? ⟨gp, f * 5 + 4, none⟩ = some (.slice (some ⟨gd, 0, none⟩) pm pc))
        ((refine HC.out _ ?_; repeat (with_reducible (first | exact Below.refl _ _ | assumption | refine ride_alloc ?_ _ | refine ride_drew ?_ | refine below_drewN ?_ _ | refine ride_call (by assumption) ?_))))
        ((go_at_call 76; (with_reducible refine (HCAT.out _ _ (by repeat (with_reducible (first | exact Below.refl _ _ | assumption | refine ride_alloc ?_ _ | refine ride_drew ?_ | refine below_drewN ?_ _ | refine ride_call (by assumption) ?_))) (by first | exact Go.heap_alloc_new _ _ | exact new_drew _ _ _ rfl | exact new_drew _ _ _ (by simp))).mono ?_); rintro e w2 ⟨A2, m2, c2, rfl, hM2, hb2⟩))
      have hz : Below W.heap.size W w2 := (by repeat (with_reducible (first | exact Below.refl _ _ | assumption | refine ride_alloc ?_ _ | refine ride_drew ?_ | refine below_drewN ?_ _ | refine ride_call (by assumption) ?_)))
      have hne2 : (dat.drop 4).take q ++ rc ≠ [] := fun e => HNE.out (List.append_eq_nil_iff.1 e).2
      obtain ⟨ad2, rfl⟩ := some_of hM2.bytes hne2
      have HZ := Lib.hid hz
      have HM2 := Lib.hid hM2
      clear hz hM2 hb2 hne2 hw1 hw2 hw3 hw4
      go_wp2
      go_meet
      refine ⟨ad2, m2, c2, rfl, by rw [HROW.out, HRE.out]; exact HM2.out.bytes, HWB.out.trans (HZ.out.mono HWB.out.size), (HZ.out.block _ (lt_of_heap HW0.out)).trans HW0.out, (HZ.out.block _ (lt_of_heap HW1.out)).trans HW1.out⟩
  case rest =>
    obtain ⟨wb, hwb⟩ : ∃ y, y = wc := ⟨_, rfl⟩
    subst hwb
    obtain ⟨ad2, N, c2, rfl, hB2, hb2, hb30, hb31⟩ := hcut
    have hNr : N = row.length := by
      obtain ⟨⟨A1, c1, hv, _⟩, _, _⟩ := hB2
      injection hv with _ h _
    have hNc : N ≤ c2 := by
      obtain ⟨⟨A1, c1, hv, _, hcc, _⟩, _, _⟩ := hB2
      injection hv with _ _ h
      omega
    have hNb : N ≤ 1048576 := by
      rw [hNr, HROW.out]
      unfold newRow
      split
      · omega
      · rw [List.length_append, List.length_take]
        omega
    obtain ⟨b0, hb0⟩ : ∃ b, b = serP (pgs ps) f := ⟨_, rfl⟩
    have hb0b : b0 < 4294967296 := by
      rw [hb0, ← serB_pgs]
      cases hq : f with
      | zero => show (0 : Nat) < _; omega
      | succ i =>
        show (ps[i]?.map PV.ser).getD 0 < 4294967296
        have hnp := HNP.out
        rw [List.getElem?_eq_getElem (by omega)]
        exact (HR.out.pages.ok _ (List.getElem_mem _)).ser
    have hSB : ∀ x, Below wb.heap.size wb x → Calls Try.prog 75 #[.slice Ap np cp, .int .i64 (f : Int)] x fun e w' => e = .returned (.int .u32 (b0 : Int)) ∧ x = w' := fun x hx => by
      have hp := HR.out.pages.below (hb2.trans (hx.mono hb2.size))
      have h := before_all x 0 f (.slice Ap np cp) ps (by rw [HNP.out]; exact hp) (by rw [← HNP.out]; exact hfr) (by rw [← HNP.out]; omega)
      rw [serB_pgs, ← hb0] at h
      exact h
    have e0 : wb.cell? ⟨w.heap.size, 0, none⟩ = some (.pointer (some ⟨gr, 0, none⟩)) := by unfold World.cell?; rw [hb30]; rfl
    have e1 : wb.cell? ⟨w.heap.size + 1, 0, none⟩ = some (.int .i64 (f : Int)) := by unfold World.cell?; rw [hb31]; rfl
    have e5 : wb.cell? ⟨gr, 5, none⟩ = some (.slice Ap np cp) := (hb2.cell (p := ⟨gr, 5, none⟩) hgl).trans c5
    have hl0 : w.heap.size < wb.heap.size := lt_of_heap hb30
    have hl1 : w.heap.size + 1 < wb.heap.size := lt_of_heap hb31
    have hlg : gr < wb.heap.size := Nat.lt_of_lt_of_le hgl hb2.size
    have HSB := Lib.hid hSB
    have HB2 := Lib.hid hB2
    have Hb2 := Lib.hid hb2
    have H30 := Lib.hid hb30
    have H31 := Lib.hid hb31
    have HNR := Lib.hid hNr
    have HB0 := Lib.hid hb0
    clear hSB hB2 hb2 hb30 hb31 hNr hb0 c5 c6 hrem hrem2
    go_wp2
    go_cut [9] from 36 to 41 (fun v x => v = .pointer (some ⟨wb.heap.size, 0, none⟩) ∧ Below wb.heap.size wb x ∧ x.heap[wb.heap.size]? = some (.cells #[.int .u32 (b0 : Int)] 22 (0, 0)))
    case first =>
      have HC5 : Hid (∀ x, Below wb.heap.size wb x → Below wb.heap.size wb x ∧ x.cell? ⟨w.heap.size, 0, none⟩ = some (.pointer (some ⟨gr, 0, none⟩)) ∧ x.cell? ⟨w.heap.size + 1, 0, none⟩ = some (.int .i64 (f : Int)) ∧ x.cell? ⟨gr, 5, none⟩ = some (.slice Ap np cp)) := Lib.hid fun x hx => ⟨hx, (hx.cell (p := ⟨w.heap.size, 0, none⟩) hl0).trans e0, (hx.cell (p := ⟨w.heap.size + 1, 0, none⟩) hl1).trans e1, (hx.cell (p := ⟨gr, 5, none⟩) hlg).trans e5⟩
      clear e0 e1 e5
      go_region_held3 (fun x => Below wb.heap.size wb x ∧ x.cell? ⟨w.heap.size, 0, none⟩ = some (.pointer (some ⟨gr, 0, none⟩)) ∧ x.cell? ⟨w.heap.size + 1, 0, none⟩ = some (.int .i64 (f : Int)) ∧ x.cell? ⟨gr, 5, none⟩ = some (.slice Ap np cp))
        ((refine HC5.out _ ?_; repeat (with_reducible (first | exact Below.refl _ _ | assumption | refine ride_alloc ?_ _ | refine ride_drew ?_ | refine ride_set ?_ (by first | exact Nat.le_refl _ | exact Below.size (by assumption)) | refine below_drewN ?_ _ | refine ride_call (by assumption) ?_))))
        ((go_at_call 75; (with_reducible refine (HSB.out _ (by repeat (with_reducible (first | exact Below.refl _ _ | assumption | refine ride_alloc ?_ _ | refine ride_drew ?_ | refine ride_set ?_ (by first | exact Nat.le_refl _ | exact Below.size (by assumption)) | refine below_drewN ?_ _ | refine ride_call (by assumption) ?_)))).mono ?_); rintro e w3 ⟨rfl, rfl⟩))
      all_goals
        go_wp2
        go_meet
        exact ⟨rfl, ((Below.refl wb.heap.size wb).alloc (Nat.le_refl _) _).drew, new_drew _ _ _ rfl⟩
    case rest =>
      obtain ⟨rfl, hbd, hb9⟩ := hcut
      have HCH := fun x => hide (callsIn_one (chunk_in 1 (some ad2) N c2 x))
      go_wp2_with (go_at_call 77; (with_reducible refine (unhide (HCH _)).mono ?_); rintro e w4 ⟨rfl, rfl⟩)
      obtain ⟨B9, hB9⟩ : ∃ b, b = wb.heap.size := ⟨_, rfl⟩
      obtain ⟨B10, hB10⟩ : ∃ b, b = wc.heap.size := ⟨_, rfl⟩
      have hwbd := hbd.size
      have h9lt : B9 < B10 := by rw [hB9, hB10]; exact lt_of_heap hb9
      have h9ge : wb.heap.size ≤ B9 := by omega
      rw [← hB9] at hb9
      have hbw : w.heap.size + 1 < B9 := by rw [hB9]; exact hl1
      obtain ⟨W4, hW4⟩ : ∃ W4, W4 = (((wc.alloc (.cells #[.slice none 0 0] 81)).alloc (.cells #[.slice (some ad2) N c2] 43)).alloc (.cells #[.int .i64 487] 3)) := ⟨_, rfl⟩
      have hs4 : W4.heap.size = B10 + 3 := by rw [hW4, hB10]; simp
      have hb4 : Below wc.heap.size wc W4 := by rw [hW4]; exact (below_two.alloc (by simp; omega) _)
      have hBB : Below wb.heap.size wb W4 := hbd.trans (hb4.mono hbd.size)
      have h49 : W4.heap[B9]? = some (.cells #[.int .u32 (b0 : Int)] 22 (0, 0)) := (hb4.block B9 (by rw [← hB10]; exact h9lt)).trans hb9
      have h410 : W4.heap[B10]? = some (.cells #[.slice none 0 0] 81 (0, 0)) := by rw [hW4, hB10, heapThreeZ31 _ _ (by simp; omega), heapThreeZ31 _ _ (by simp)]; exact Go.heap_alloc_new wc _
      have h411 : W4.heap[B10 + 1]? = some (.cells #[.slice (some ad2) N c2] 43 (0, 0)) := by rw [hW4, hB10, heapThreeZ31 _ _ (by simp)]; exact Go.heap_alloc2_new wc _ _
      have h412 : W4.heap[B10 + 2]? = some (.cells #[.int .i64 487] 3 (0, 0)) := by
        have e : B10 + 2 = ((wc.alloc (.cells #[.slice none 0 0] 81)).alloc (.cells #[.slice (some ad2) N c2] 43)).heap.size := by rw [hB10]; simp
        rw [e, hW4]
        exact Go.heap_alloc_new _ _
      rw [← hW4, ← hB9, ← hB10]
      clear hb9 hbd hB9 hB10
      have hI0 : ExtI w wb gen ser (pgs ps) f b0 row B9 B10 ad2 N c2 [] W4 := ⟨b0, .slice none 0 0, [], h49, h410, h411, h412, World.ownsRow_nil _ _ _ _, (fun p hp => by cases hp), rfl, rfl, hb0b, hBB⟩
      have hs4' : B10 + 3 ≤ W4.heap.size := by omega
      have HC411 : Hid (W4.cell? ⟨B10 + 1, 0, none⟩ = some (.slice (some ad2) N c2)) := Lib.hid (by unfold World.cell?; rw [h411]; rfl)
      have HC412 : Hid (W4.cell? ⟨B10 + 2, 0, none⟩ = some (.int .i64 487)) := Lib.hid (by unfold World.cell?; rw [h412]; rfl)
      clear hs4 hW4 h49 h410 h411 h412 hb4
      refine (wpIn_wide (n := 5)).1 ?_
      refine range_one (p := 44) (q := 11) (by omega) 94 _ rfl (enters_of Try.func94 (by kernel_rfl) rfl)
        (chunk_stops (5 - 1) (by omega) (B10 + 1) (B10 + 2) (some ad2) N c2 hNb hNc W4 (by omega) (by omega) HC411.out HC412.out) KpC.trans (fun W l o' hl => KpC.put W l o' (by omega) (by omega))
        (fun pre W => ExtI w wb gen ser (pgs ps) f b0 row B9 B10 ad2 N c2 pre W) (extI_own hBB.size) hI0 ?assign ?body ?done
      case assign =>
        intro l x W K hK
        simp only [List.setIfInBounds_toArray, List.set_cons_zero, List.set_cons_succ] at hK ⊢
        gi_wp2
        exact hK
      case body =>
        rintro l pre kk W hI hlt
        obtain ⟨bf, v2, ps2, i1, i2, i3, i4, i5, i6, i7, i8, i9, i11⟩ := hI
        have hkM := kk.2
        obtain ⟨Z, hZ⟩ : ∃ Z, Z = chunkE N kk.1 - 487 * kk.1 := ⟨_, rfl⟩
        obtain ⟨adk, hadk⟩ : ∃ a, a = ad2.add (487 * kk.1) := ⟨_, rfl⟩
        have hcv : chunkV (some ad2) N kk.1 = .slice (some adk) Z Z := by unfold chunkV; rw [Option.map_some, ← hZ, ← hadk]
        have hcb := chunk_bytes (HB2.out.along i11) hkM
        rw [hcv] at hcb ⊢
        have hZ7 : Z ≤ 487 := by rw [hZ]; unfold chunkE; omega
        obtain ⟨A2', n2, k2, rfl⟩ : ∃ A n c, v2 = .slice A n c := row_slice i5
        have hn2 : n2 = ps2.length := by
          rcases i5.2 with ⟨hv, hn⟩ | ⟨g, cap, cur, hv, _⟩
          · injection hv with _ h _; omega
          · injection hv
        have hfj : f + n2 ≤ 8192 := by
          have h1 := congrArg List.length i7
          rw [extF_length, List.length_map, partNo_length] at h1
          unfold pgs at h1
          rw [List.length_map] at h1
          unfold chunkM at hlt
          omega
        have hZ0 : 0 < Z := by rw [hZ]; unfold chunkE; unfold chunkM at hkM; omega
        have HPL : Hid ((byt (partK row kk.1)).length = Z) := Lib.hid (by rw [byt_length, part_length, hZ]; exact congrArg (fun n => chunkE n kk.1 - 487 * kk.1) HNR.out.symm)
        have HCB : Hid (∀ x, Below W.heap.size W x → ∀ (j : Nat) (u : Value), (byt (partK row kk.1))[j]? = some u → x.cell? (adk.add j) = some u) := Lib.hid fun x hx => (hcb.along hx).lies.cells
        have q0 : W.cell? ⟨w.heap.size + 1, 0, none⟩ = some (.int .i64 (f : Int)) := by unfold World.cell?; rw [i11.block _ hl1, H31.out]; rfl
        have q1 : W.cell? ⟨B10, 0, none⟩ = some (.slice A2' n2 k2) := by unfold World.cell?; rw [i2]; rfl
        have hrx : W.heap[gr]? = some (.cells (rcells gs gen ser first secs (.slice Ap np cp) size count (.slice none 0 0)) 84 (0, 0)) := by rw [i11.block _ hlg, Hb2.out.block _ hgl, HNP.out]; exact HR.out.st
        have hW3 : W.heap[w.heap.size]? = some (.cells #[.pointer (some ⟨gr, 0, none⟩)] 31 (0, 0)) := by rw [i11.block _ hl0]; exact H30.out
        have HSX : Hid (∀ x, Below W.heap.size W x → Below W.heap.size W x ∧ x.cell? ⟨w.heap.size, 0, none⟩ = some (.pointer (some ⟨gr, 0, none⟩)) ∧ x.cell? ⟨gr, 1, none⟩ = some (.int .u32 (gen : Int)) ∧ x.cell? ⟨gr, 2, none⟩ = some (.int .u32 (ser : Int)) ∧ x.cell? ⟨B9, 0, none⟩ = some (.int .u32 (bf : Int))) := Lib.hid fun x hx => by
          have e0 := (hx.block _ (lt_of_heap hW3)).trans hW3
          have e1 := (hx.block _ (lt_of_heap hrx)).trans hrx
          have e2 := (hx.block _ (lt_of_heap i1)).trans i1
          exact ⟨hx, by unfold World.cell?; rw [e0]; rfl, by unfold World.cell?; rw [e1]; rfl, by unfold World.cell?; rw [e1]; rfl, by unfold World.cell?; rw [e2]; rfl⟩
        obtain ⟨i0, hi0, hz0, hz1, hz2⟩ := info_parts infoByte
        have HI := Lib.hid hi0
        have H0 := Lib.hid hz0
        have H1 := Lib.hid hz1
        have H2 := Lib.hid hz2
        have hnu : IntKind.u32.wrap ((f : Int) + (n2 : Int)) = (f : Int) + (n2 : Int) := by rw [IntKind.wrap_u32]; exact Int.emod_eq_of_lt (by omega) (by omega)
        have HCV := Lib.hid hcv
        have HLEN : Hid (4 + Z = (be4 bf ++ partK row kk.1).length) := Lib.hid (by rw [List.length_append, be4_length, ← HPL.out, byt_length])
        have HSP : Hid (∀ b ∈ partK row kk.1, b < 256) := Lib.hid hcb.small
        have HN2 := Lib.hid hn2
        have HZ := Lib.hid hZ
        have HI1 := Lib.hid i1
        have HI2 := Lib.hid i2
        have HI3 := Lib.hid i3
        have HI4 := Lib.hid i4
        have HI5 := Lib.hid i5
        have HI6 := Lib.hid i6
        have HI7 := Lib.hid i7
        have HI8 := Lib.hid i8
        have HRX := Lib.hid hrx
        have HW3 := Lib.hid hW3
        clear hi0 hz0 hz1 hz2 hcv hcb hadk hn2 hZ i1 i2 i3 i4 i5 i6 i7 i8 hrx hW3
        simp only [List.setIfInBounds_toArray, List.set_cons_zero, List.set_cons_succ]
        gi_wp2
        refine piece_cut [49, 50, 51, 52, 53, 54, 55, 56, 57, 58, 59, 60, 61, 62, 63, 13] 13 (fun v x => MidTen W gen ser (f + n2) (be4 bf ++ partK row kk.1) v x) ?_ ?_
        --R10
        refine region_round (S := fun x => Below W.heap.size W x ∧ x.cell? ⟨w.heap.size, 0, none⟩ = some (.pointer (some ⟨gr, 0, none⟩)) ∧ x.cell? ⟨gr, 1, none⟩ = some (.int .u32 (gen : Int)) ∧ x.cell? ⟨gr, 2, none⟩ = some (.int .u32 (ser : Int)) ∧ x.cell? ⟨B9, 0, none⟩ = some (.int .u32 (bf : Int))) (by kernel_rfl) (by kernel_rfl) (HSX.out _ (ride_drew (Below.refl _ _))) (fun hHeld => ?_)
        refine take_at (i := 0) (v := ?_) (some 49) rfl rfl (by kernel_rfl) (by kernel_rfl) (by kernel_rfl) (fun _ _ _ h => h) (Or.inl ⟨by rfl, ?_⟩) (by assumption) ?_
        rotate_left
        · intro w hSw
          obtain ⟨hSb, z0, z1, z2, z3⟩ := hSw
          first | (go_simp; done) | (go_simp; with_reducible rfl)
        try simp only [Act.put, List.setIfInBounds_toArray, List.set_cons_zero, List.set_cons_succ]
        refine take_at (i := 1) (v := ?_) (some 50) rfl rfl (by kernel_rfl) (by kernel_rfl) (by kernel_rfl) (fun _ _ _ h => h) (Or.inl ⟨by rfl, ?_⟩) (by assumption) ?_
        rotate_left
        · intro w hSw
          obtain ⟨hSb, z0, z1, z2, z3⟩ := hSw
          first | (go_simp; done) | (go_simp; with_reducible rfl)
        try simp only [Act.put, List.setIfInBounds_toArray, List.set_cons_zero, List.set_cons_succ]
        refine take_at (i := 2) (v := ?_) (some 51) rfl rfl (by kernel_rfl) (by kernel_rfl) (by kernel_rfl) (fun _ _ _ h => h) (Or.inl ⟨by rfl, ?_⟩) (by assumption) ?_
        rotate_left
        · intro w hSw
          obtain ⟨hSb, z0, z1, z2, z3⟩ := hSw
          first | (go_simp; done) | (go_simp; with_reducible rfl)
        try simp only [Act.put, List.setIfInBounds_toArray, List.set_cons_zero, List.set_cons_succ]
        refine take_at (i := 3) (v := ?_) (some 52) rfl rfl (by kernel_rfl) (by kernel_rfl) (by kernel_rfl) (fun _ _ _ h => h) (Or.inl ⟨by rfl, ?_⟩) (by assumption) ?_
        rotate_left
        · intro w hSw
          obtain ⟨hSb, z0, z1, z2, z3⟩ := hSw
          first | (go_simp; done) | (go_simp; with_reducible rfl)
        try simp only [Act.put, List.setIfInBounds_toArray, List.set_cons_zero, List.set_cons_succ]
        refine take_at (i := 4) (v := ?_) (some 53) rfl rfl (by kernel_rfl) (by kernel_rfl) (by kernel_rfl) (fun _ _ _ h => h) (Or.inl ⟨by rfl, ?_⟩) (by assumption) ?_
        rotate_left
        · intro w hSw
          obtain ⟨hSb, z0, z1, z2, z3⟩ := hSw
          first | (go_simp; done) | (go_simp; with_reducible rfl)
        try simp only [Act.put, List.setIfInBounds_toArray, List.set_cons_zero, List.set_cons_succ]
        refine take_at (i := 5) (v := ?_) (some 54) rfl rfl (by kernel_rfl) (by kernel_rfl) (by kernel_rfl) (fun _ _ _ h => h) (Or.inl ⟨by rfl, ?_⟩) (by assumption) ?_
        rotate_left
        · intro w hSw
          obtain ⟨hSb, z0, z1, z2, z3⟩ := hSw
          first | (go_simp; done) | (go_simp; with_reducible rfl)
        try simp only [Act.put, List.setIfInBounds_toArray, List.set_cons_zero, List.set_cons_succ]
        refine take_at (i := 6) (v := ?_) (some 55) rfl rfl (by kernel_rfl) (by kernel_rfl) (by kernel_rfl) (fun _ _ _ h => h) (Or.inl ⟨by rfl, ?_⟩) (by assumption) ?_
        rotate_left
        · intro w hSw
          obtain ⟨hSb, z0, z1, z2, z3⟩ := hSw
          first | (go_simp; done) | (go_simp; with_reducible rfl)
        try simp only [Act.put, List.setIfInBounds_toArray, List.set_cons_zero, List.set_cons_succ]
        refine take_at (i := 7) (v := ?_) (some 56) rfl rfl (by kernel_rfl) (by kernel_rfl) (by kernel_rfl) (fun _ _ _ h => h) (Or.inl ⟨by rfl, ?_⟩) (by assumption) ?_
        rotate_left
        · intro w hSw
          obtain ⟨hSb, z0, z1, z2, z3⟩ := hSw
          first | (go_simp; done) | (go_simp; with_reducible rfl)
        try simp only [Act.put, List.setIfInBounds_toArray, List.set_cons_zero, List.set_cons_succ]
        refine take_at (i := 8) (v := ?_) (some 57) rfl rfl (by kernel_rfl) (by kernel_rfl) (by kernel_rfl) (fun _ _ _ h => h) (Or.inl ⟨by rfl, ?_⟩) (by assumption) ?_
        rotate_left
        · intro w hSw
          obtain ⟨hSb, z0, z1, z2, z3⟩ := hSw
          first | (go_simp; done) | (go_simp; with_reducible rfl)
        try simp only [Act.put, List.setIfInBounds_toArray, List.set_cons_zero, List.set_cons_succ]
        refine take_at (i := 9) (v := ?_) (some 58) rfl rfl (by kernel_rfl) (by kernel_rfl) (by kernel_rfl) (fun _ _ _ h => h) (Or.inl ⟨by rfl, ?_⟩) (by assumption) ?_
        rotate_left
        · intro w hSw
          obtain ⟨hSb, z0, z1, z2, z3⟩ := hSw
          first | (go_simp; done) | (go_simp; with_reducible rfl)
        try simp only [Act.put, List.setIfInBounds_toArray, List.set_cons_zero, List.set_cons_succ]
        refine take_at (i := 10) (v := ?_) (some 59) rfl rfl (by kernel_rfl) (by kernel_rfl) (by kernel_rfl) (fun _ _ _ h => h) (Or.inl ⟨by rfl, ?_⟩) (by assumption) ?_
        rotate_left
        · intro w hSw
          obtain ⟨hSb, z0, z1, z2, z3⟩ := hSw
          first | (go_simp; done) | (go_simp; with_reducible rfl)
        try simp only [Act.put, List.setIfInBounds_toArray, List.set_cons_zero, List.set_cons_succ]
        refine take_at (i := 12) (v := ?_) (some 61) rfl rfl (by kernel_rfl) (by kernel_rfl) (by kernel_rfl) (fun _ _ _ h => h) (Or.inl ⟨by rfl, ?_⟩) (by assumption) ?_
        rotate_left
        · intro w hSw
          obtain ⟨hSb, z0, z1, z2, z3⟩ := hSw
          first | (go_simp; done) | (go_simp; with_reducible rfl)
        try simp only [Act.put, List.setIfInBounds_toArray, List.set_cons_zero, List.set_cons_succ]
        refine wpAnyH_ready (rs := [11, 15]) (by kernel_rfl) (by simp) ?_
        refine (AllReadyH.cons rfl (fun K hK => ?_) (AllReadyH.cons rfl (fun K hK => ?_) AllReadyH.nil))
        · go_simp
          refine (link_any _ bf i9).mono ?_
          rintro e w10 ⟨A10, n10, c10, rfl, hM10, hb10⟩
          obtain rfl : n10 = 4 := hM10.len
          have hs10 := hHeld.1.size
          refine hK.out _ _ ?_ (fun hHeld2 => ?_)
          · exact HSX.out _ (ride_call hb10 hHeld.1)
          clear hK K hHeld
          have hHeld := hHeld2
          clear hHeld2
          try simp only [Act.put, List.setIfInBounds_toArray, List.set_cons_zero, List.set_cons_succ]
          have HO10 := Lib.hid (hM10.lower hs10)
          refine wpAnyH_ready (rs := [13, 15]) (by kernel_rfl) (by simp) ?_
          refine (AllReadyH.cons rfl (fun K hK => ?_) (AllReadyH.cons rfl (fun K hK => ?_) AllReadyH.nil))
          · have hown10 : World.ownsRow (_) W.heap.size 5 1 (.slice A10 4 c10) 4 (byt (be4 bf)) := HO10.out.own
            refine step_append_lies _ (by rfl) _ _ _ (by rfl) W.heap.size 5 i0 (.int .u8 0) 1 1 Try.underlying43 HI.out H0.out H1.out H2.out (by rfl) (by omega) (.slice A10 4 c10) 4 (byt (be4 bf)) (by rfl) hown10 adk Z Z (byt (partK row kk.1)) (by rfl) (by rw [HPL.out, Nat.mul_one]) (HCB.out _ hHeld.1) (one_byt _) hZ0 (by unfold maxLen; omega) (by omega) hHeld.1.size _ rfl ?_
            intro gg cap w13 hown13 hg13 hat13 hlt13
            refine hK.out _ _ ?_ (fun hHeld2 => ?_)
            · exact HSX.out _ (hHeld.1.grown hg13 hHeld.1.size (fun k e => (own_block_lt hown10 e).1))
            clear hK K hHeld
            have hHeld := hHeld2
            clear hHeld2
            try simp only [Act.put, List.setIfInBounds_toArray, List.set_cons_zero, List.set_cons_succ]
            refine take_at (i := 14) (v := ?_) (some 63) rfl rfl (by kernel_rfl) (by kernel_rfl) (by kernel_rfl) (fun _ _ _ h => h) (Or.inl ⟨by rfl, ?_⟩) (by assumption) ?_
            rotate_left
            · intro w hSw
              obtain ⟨hSb, z0, z1, z2, z3⟩ := hSw
              first | (go_simp; done) | (go_simp; with_reducible rfl)
            try simp only [Act.put, List.setIfInBounds_toArray, List.set_cons_zero, List.set_cons_succ]
            refine wpAnyH_ready (rs := [15]) (by kernel_rfl) (by simp) ?_
            refine AllReadyH.cons rfl (fun K hK => ?_) AllReadyH.nil
            have hpre := hHeld.1
            go_simp
            have hsg := hHeld.1.size
            refine hK.out _ _ ?_ (fun hHeld2 => ?_)
            · exact HSX.out _ (ride_alloc hHeld.1 _)
            clear hK K hHeld
            have hHeld := hHeld2
            clear hHeld2
            try simp only [Act.put, List.setIfInBounds_toArray, List.set_cons_zero, List.set_cons_succ]
            refine wpAnyH_ready (rs := [16]) (by kernel_rfl) (by simp) ?_
            refine AllReadyH.cons rfl (fun K hK => ?_) AllReadyH.nil
            go_simp
            refine hK.out _ _ ?_ (fun hHeld2 => ?_)
            · exact HSX.out _ (ride_alloc hpre _)
            clear hK K hHeld
            have hHeld := hHeld2
            clear hHeld2
            try simp only [Act.put, List.setIfInBounds_toArray, List.set_cons_zero, List.set_cons_succ]
            refine wpAnyH_done (by kernel_rfl) ?_ _
            refine cut_leaf (.pointer (some ⟨w13.heap.size, 0, none⟩)) (by kernel_rfl) (by kernel_rfl) ?_
            exact mid_leaf1 hpre hsg hown13 HLEN.out (be4_small bf) HSP.out (by omega)
          · go_simp
            have hsg := hHeld.1.size
            refine hK.out _ _ ?_ (fun hHeld2 => ?_)
            · exact HSX.out _ (ride_alloc hHeld.1 _)
            clear hK K hHeld
            have hHeld := hHeld2
            clear hHeld2
            try simp only [Act.put, List.setIfInBounds_toArray, List.set_cons_zero, List.set_cons_succ]
            refine wpAnyH_ready (rs := [13]) (by kernel_rfl) (by simp) ?_
            refine AllReadyH.cons rfl (fun K hK => ?_) AllReadyH.nil
            have hown10 : World.ownsRow (w10.alloc (.cells zcells 85)) W.heap.size 5 1 (.slice A10 4 c10) 4 (byt (be4 bf)) := ownsRow_below HO10.out.own ((Below.refl _ _).alloc (Nat.le_refl _) _)
            refine step_append_lies _ (by rfl) _ _ _ (by rfl) W.heap.size 5 i0 (.int .u8 0) 1 1 Try.underlying43 HI.out H0.out H1.out H2.out (by rfl) (by omega) (.slice A10 4 c10) 4 (byt (be4 bf)) (by rfl) hown10 adk Z Z (byt (partK row kk.1)) (by rfl) (by rw [HPL.out, Nat.mul_one]) (HCB.out _ hHeld.1) (one_byt _) hZ0 (by unfold maxLen; omega) (by omega) hHeld.1.size _ rfl ?_
            intro gg cap w13 hown13 hg13 hat13 hlt13
            have hz13 : w13.heap[w10.heap.size]? = some (.cells zcells 85 (0, 0)) := (hg13.block _ (by simp) (fun e => by have := (own_block_lt HO10.out.own e.symm).2; omega)).trans (Go.heap_alloc_new _ _)
            obtain ⟨d0, d1, d2, d3, d4, g0, g1, g2, g3, g4⟩ := five_of hz13
            refine hK.out _ _ ?_ (fun hHeld2 => ?_)
            · exact HSX.out _ (hHeld.1.grown hg13 hHeld.1.size (fun k e => (own_block_lt hown10 e).1))
            clear hK K hHeld
            have hHeld := hHeld2
            clear hHeld2
            try simp only [Act.put, List.setIfInBounds_toArray, List.set_cons_zero, List.set_cons_succ]
            refine take_at (i := 14) (v := ?_) (some 63) rfl rfl (by kernel_rfl) (by kernel_rfl) (by kernel_rfl) (fun _ _ _ h => h) (Or.inl ⟨by rfl, ?_⟩) (by assumption) ?_
            rotate_left
            · intro w hSw
              obtain ⟨hSb, z0, z1, z2, z3⟩ := hSw
              first | (go_simp; done) | (go_simp; with_reducible rfl)
            try simp only [Act.put, List.setIfInBounds_toArray, List.set_cons_zero, List.set_cons_succ]
            refine wpAnyH_ready (rs := [16]) (by kernel_rfl) (by simp) ?_
            refine AllReadyH.cons rfl (fun K hK => ?_) AllReadyH.nil
            have hpre := hHeld.1
            go_simp
            refine hK.out _ _ ?_ (fun hHeld2 => ?_)
            · exact HSX.out _ (ride_set5 hHeld.1 hsg)
            clear hK K hHeld
            have hHeld := hHeld2
            clear hHeld2
            try simp only [Act.put, List.setIfInBounds_toArray, List.set_cons_zero, List.set_cons_succ]
            refine wpAnyH_done (by kernel_rfl) ?_ _
            refine cut_leaf (.pointer (some ⟨w10.heap.size, 0, none⟩)) (by kernel_rfl) (by kernel_rfl) ?_
            exact mid_leaf hpre (hz13) hsg (hown13) HLEN.out (be4_small bf) HSP.out (by rcases hat13 with h | h; (have := (own_block_lt HO10.out.own h).2; omega); (rw [h]; simp)) (by omega)
        · go_simp
          have hsg := hHeld.1.size
          refine hK.out _ _ ?_ (fun hHeld2 => ?_)
          · exact HSX.out _ (ride_alloc hHeld.1 _)
          clear hK K hHeld
          have hHeld := hHeld2
          clear hHeld2
          try simp only [Act.put, List.setIfInBounds_toArray, List.set_cons_zero, List.set_cons_succ]
          refine wpAnyH_ready (rs := [11]) (by kernel_rfl) (by simp) ?_
          refine AllReadyH.cons rfl (fun K hK => ?_) AllReadyH.nil
          go_simp
          refine (link_any _ bf i9).mono ?_
          rintro e w10 ⟨A10, n10, c10, rfl, hM10, hb10⟩
          have HM10 := hM10; obtain rfl : n10 = 4 := hM10.len
          have hs10 := hHeld.1.size
          refine hK.out _ _ ?_ (fun hHeld2 => ?_)
          · exact HSX.out _ (ride_call hb10 hHeld.1)
          clear hK K hHeld
          have hHeld := hHeld2
          clear hHeld2
          try simp only [Act.put, List.setIfInBounds_toArray, List.set_cons_zero, List.set_cons_succ]
          have HO10 := Lib.hid (hM10.lower hs10)
          refine wpAnyH_ready (rs := [13]) (by kernel_rfl) (by simp) ?_
          refine AllReadyH.cons rfl (fun K hK => ?_) AllReadyH.nil
          have hown10 : World.ownsRow (_) W.heap.size 5 1 (.slice A10 4 c10) 4 (byt (be4 bf)) := HO10.out.own
          refine step_append_lies _ (by rfl) _ _ _ (by rfl) W.heap.size 5 i0 (.int .u8 0) 1 1 Try.underlying43 HI.out H0.out H1.out H2.out (by rfl) (by omega) (.slice A10 4 c10) 4 (byt (be4 bf)) (by rfl) hown10 adk Z Z (byt (partK row kk.1)) (by rfl) (by rw [HPL.out, Nat.mul_one]) (HCB.out _ hHeld.1) (one_byt _) hZ0 (by unfold maxLen; omega) (by omega) hHeld.1.size _ rfl ?_
          intro gg cap w13 hown13 hg13 hat13 hlt13
          have hz13 : w13.heap[W.heap.size]? = some (.cells zcells 85 (0, 0)) := (hg13.block _ (Nat.lt_of_lt_of_le (by simp) hb10.size) (fun e => by have := (own_block_lt HM10.own e.symm).1; simp at this; omega)).trans ((hb10.block _ (by simp)).trans (Go.heap_alloc_new _ _))
          obtain ⟨d0, d1, d2, d3, d4, g0, g1, g2, g3, g4⟩ := five_of hz13
          refine hK.out _ _ ?_ (fun hHeld2 => ?_)
          · exact HSX.out _ (hHeld.1.grown hg13 hHeld.1.size (fun k e => (own_block_lt hown10 e).1))
          clear hK K hHeld
          have hHeld := hHeld2
          clear hHeld2
          try simp only [Act.put, List.setIfInBounds_toArray, List.set_cons_zero, List.set_cons_succ]
          refine take_at (i := 14) (v := ?_) (some 63) rfl rfl (by kernel_rfl) (by kernel_rfl) (by kernel_rfl) (fun _ _ _ h => h) (Or.inl ⟨by rfl, ?_⟩) (by assumption) ?_
          rotate_left
          · intro w hSw
            obtain ⟨hSb, z0, z1, z2, z3⟩ := hSw
            first | (go_simp; done) | (go_simp; with_reducible rfl)
          try simp only [Act.put, List.setIfInBounds_toArray, List.set_cons_zero, List.set_cons_succ]
          refine wpAnyH_ready (rs := [16]) (by kernel_rfl) (by simp) ?_
          refine AllReadyH.cons rfl (fun K hK => ?_) AllReadyH.nil
          have hpre := hHeld.1
          go_simp
          refine hK.out _ _ ?_ (fun hHeld2 => ?_)
          · exact HSX.out _ (ride_set5 hHeld.1 hsg)
          clear hK K hHeld
          have hHeld := hHeld2
          clear hHeld2
          try simp only [Act.put, List.setIfInBounds_toArray, List.set_cons_zero, List.set_cons_succ]
          refine wpAnyH_done (by kernel_rfl) ?_ _
          refine cut_leaf (.pointer (some ⟨W.heap.size, 0, none⟩)) (by kernel_rfl) (by kernel_rfl) ?_
          exact mid_leaf hpre (hz13) hsg (hown13) HLEN.out (be4_small bf) HSP.out (by rcases hat13 with h | h; (have := (own_block_lt HM10.own h).1; simp at this; omega); (rw [h]; have := hb10.size; simp at this; omega)) (by omega)
        --R10END
        intro a10 w10 hd10 ht10 hM10
        simp only [List.map_cons, List.map_nil, putL, List.setIfInBounds_toArray, List.set_cons_zero, List.set_cons_succ] at ht10 ⊢
        obtain ⟨g10, A10, n10, c10, hv10, hp10, hM10, hb10, hg10⟩ := hM10
        rw [hv10]
        clear ht10 hv10
        generalize a10.tmps.getD 49 undef = s49
        generalize a10.tmps.getD 50 undef = s50
        generalize a10.tmps.getD 51 undef = s51
        generalize a10.tmps.getD 52 undef = s52
        generalize a10.tmps.getD 53 undef = s53
        generalize a10.tmps.getD 54 undef = s54
        generalize a10.tmps.getD 55 undef = s55
        generalize a10.tmps.getD 56 undef = s56
        generalize a10.tmps.getD 57 undef = s57
        generalize a10.tmps.getD 58 undef = s58
        generalize a10.tmps.getD 59 undef = s59
        generalize a10.tmps.getD 60 undef = s60
        generalize a10.tmps.getD 61 undef = s61
        generalize a10.tmps.getD 62 undef = s62
        generalize a10.tmps.getD 63 undef = s63
        gi_wp2
        obtain ⟨j, hj⟩ : ∃ j, j = f + n2 := ⟨_, rfl⟩
        have hjI : (f : Int) + (n2 : Int) = (j : Int) := by omega
        rw [hjI]
        rw [← hj] at hp10
        have hj8 : j ≤ 8192 := by omega
        have HJ := Lib.hid hj
        clear hj hjI hnu
        have HWX : Hid (Below w.heap.size w W) := Lib.hid (Hb2.out.trans (i11.mono Hb2.out.size))
        have hg10l := lt_of_heap hp10
        have HP10 := Lib.hid hp10
        have HM10 := Lib.hid hM10
        have HB10 := Lib.hid hb10
        have hS11 : Hid (∀ x, Below w10.heap.size w10 x → Below w10.heap.size w10 x ∧ x.cell? ⟨w.heap.size, 0, none⟩ = some (.pointer (some ⟨gr, 0, none⟩)) ∧ x.cell? ⟨gr, 5, none⟩ = some (.slice Ap np cp) ∧ x.cell? ⟨g10, 4, none⟩ = some (.slice A10 n10 c10)) := Lib.hid fun x hx => by
          have hx2 := HB10.out.trans (hx.mono HB10.out.size)
          have e0 := (hx2.block _ (lt_of_heap HW3.out)).trans HW3.out
          have e1 := (hx2.block _ (lt_of_heap HRX.out)).trans HRX.out
          have e2 := (hx.block _ hg10l).trans HP10.out
          exact ⟨hx, by unfold World.cell?; rw [e0]; rfl, by unfold World.cell?; rw [e1]; rfl, by unfold World.cell?; rw [e2]; rfl⟩
        have HS11 := hS11
        clear hS11 hp10 hM10 hb10
        refine piece_cut [64, 65, 66, 67, 68, 69, 70, 71, 72, 73, 74, 75, 76, 77, 78, 79, 80, 81, 82, 83] 83 (fun v x => ∃ b : Bool, v = .bool b ∧ (b = true ↔ ∃ q, (pgs ps)[j]? = some q ∧ q.data = be4 bf ++ partK row kk.1) ∧ x = w10.drew) ?_ ?_
        · by_cases hjn : j < np
          · have hjI : (j : Int) < (np : Int) := by omega
            have hjI2 : decide ((j : Int) < (np : Int)) = true := decide_eq_true hjI
            have hj0 : (0 : Int) ≤ (j : Int) := by omega
            obtain ⟨p, hp⟩ : ∃ p, ps[j]? = some p := ⟨_, List.getElem?_eq_getElem (by rw [← HNP.out]; exact hjn)⟩
            obtain ⟨gp, cp', hv, d0, d1, d2, d3, d4⟩ := HR.out.pages.at_ hp
            rw [← HNP.out] at hv
            injection hv with hv1 _ hv3
            subst hv1
            subst hv3
            have hok := (HR.out.pages.ok p (List.mem_of_getElem? hp)).mine
            have hpg : (pgs ps)[j]? = some p.pg := by unfold pgs; rw [List.getElem?_map, hp]; rfl
            obtain ⟨pg, pser, pnum, pk, PA, pm, pc, dat⟩ := p
            dsimp only at hok d4
            have HPG := Lib.hid hpg
            have HOK := Lib.hid hok
            have HD4 := Lib.hid d4
            clear d0 d1 d2 d3 d4 hp hok hpg
            have HS12 : Hid (∀ x, Below w10.heap.size w10 x → Below w10.heap.size w10 x ∧ x.cell? ⟨w.heap.size, 0, none⟩ = some (.pointer (some ⟨gr, 0, none⟩)) ∧ x.cell? ⟨gr, 5, none⟩ = some (.slice (some ⟨gp, 0, none⟩) np cp) ∧ x.cell? ⟨g10, 4, none⟩ = some (.slice A10 n10 c10) ∧ x.cell? ⟨gp, j * 5 + 4, none⟩ = some (.slice PA pm pc)) := Lib.hid fun x hx => by
              obtain ⟨e0, e1, e2, e3⟩ := HS11.out x hx
              have hx2 := HWX.out.trans ((HB10.out.trans (hx.mono HB10.out.size)).mono HWX.out.size)
              exact ⟨e0, e1, e2, e3, (hx2.cell (p := ⟨gp, j * 5 + 4, none⟩) (World.block_lt_of_cell? w _ HD4.out)).trans HD4.out⟩
            --R11
            refine region_round (S := fun x => Below w10.heap.size w10 x ∧ x.cell? ⟨w.heap.size, 0, none⟩ = some (.pointer (some ⟨gr, 0, none⟩)) ∧ x.cell? ⟨gr, 5, none⟩ = some (.slice (some ⟨gp, 0, none⟩) np cp) ∧ x.cell? ⟨g10, 4, none⟩ = some (.slice A10 n10 c10) ∧ x.cell? ⟨gp, j * 5 + 4, none⟩ = some (.slice PA pm pc)) (by kernel_rfl) (by kernel_rfl) (HS12.out _ (ride_drew (Below.refl _ _))) (fun hHeld => ?_)
            refine take_at (i := 0) (v := ?_) (some 64) rfl rfl (by kernel_rfl) (by kernel_rfl) (by kernel_rfl) (fun _ _ _ h => h) (Or.inl ⟨by rfl, ?_⟩) (by assumption) ?_
            rotate_left
            · intro w hSw
              obtain ⟨hSb, z0, z1, z2, z3⟩ := hSw
              first | (go_simp; done) | (go_simp; with_reducible rfl)
            try simp only [Act.put, List.setIfInBounds_toArray, List.set_cons_zero, List.set_cons_succ]
            refine take_at (i := 1) (v := ?_) (some 65) rfl rfl (by kernel_rfl) (by kernel_rfl) (by kernel_rfl) (fun _ _ _ h => h) (Or.inl ⟨by rfl, ?_⟩) (by assumption) ?_
            rotate_left
            · intro w hSw
              obtain ⟨hSb, z0, z1, z2, z3⟩ := hSw
              first | (go_simp; done) | (go_simp; with_reducible rfl)
            try simp only [Act.put, List.setIfInBounds_toArray, List.set_cons_zero, List.set_cons_succ]
            refine take_at (i := 2) (v := ?_) (some 66) rfl rfl (by kernel_rfl) (by kernel_rfl) (by kernel_rfl) (fun _ _ _ h => h) (Or.inl ⟨by rfl, ?_⟩) (by assumption) ?_
            rotate_left
            · intro w hSw
              obtain ⟨hSb, z0, z1, z2, z3⟩ := hSw
              first | (go_simp; done) | (go_simp; with_reducible rfl)
            try simp only [Act.put, List.setIfInBounds_toArray, List.set_cons_zero, List.set_cons_succ]
            refine take_at (i := 3) (v := ?_) (some 67) rfl rfl (by kernel_rfl) (by kernel_rfl) (by kernel_rfl) (fun _ _ _ h => h) (Or.inl ⟨by rfl, ?_⟩) (by assumption) ?_
            rotate_left
            · intro w hSw
              obtain ⟨hSb, z0, z1, z2, z3⟩ := hSw
              first | (go_simp; done) | (go_simp; with_reducible rfl)
            try simp only [Act.put, List.setIfInBounds_toArray, List.set_cons_zero, List.set_cons_succ]
            refine take_at (i := 4) (v := ?_) (some 68) rfl rfl (by kernel_rfl) (by kernel_rfl) (by kernel_rfl) (fun _ _ _ h => h) (Or.inl ⟨by rfl, ?_⟩) (by assumption) ?_
            rotate_left
            · intro w hSw
              obtain ⟨hSb, z0, z1, z2, z3⟩ := hSw
              first | (go_simp; done) | (go_simp; with_reducible rfl)
            try simp only [Act.put, List.setIfInBounds_toArray, List.set_cons_zero, List.set_cons_succ]
            refine take_at (i := 5) (v := ?_) (some 69) rfl rfl (by kernel_rfl) (by kernel_rfl) (by kernel_rfl) (fun _ _ _ h => h) (Or.inl ⟨by rfl, ?_⟩) (by assumption) ?_
            rotate_left
            · intro w hSw
              obtain ⟨hSb, z0, z1, z2, z3⟩ := hSw
              first | (go_simp; done) | (go_simp; with_reducible rfl)
            try simp only [Act.put, List.setIfInBounds_toArray, List.set_cons_zero, List.set_cons_succ]
            refine take_at (i := 6) (v := ?_) (some 70) rfl rfl (by kernel_rfl) (by kernel_rfl) (by kernel_rfl) (fun _ _ _ h => h) (Or.inl ⟨by rfl, ?_⟩) (by assumption) ?_
            rotate_left
            · intro w hSw
              obtain ⟨hSb, z0, z1, z2, z3⟩ := hSw
              first | (go_simp; done) | (go_simp; with_reducible rfl)
            try simp only [Act.put, List.setIfInBounds_toArray, List.set_cons_zero, List.set_cons_succ]
            refine take_at (i := 7) (v := ?_) (some 71) rfl rfl (by kernel_rfl) (by kernel_rfl) (by kernel_rfl) (fun _ _ _ h => h) (Or.inl ⟨by rfl, ?_⟩) (by assumption) ?_
            rotate_left
            · intro w hSw
              obtain ⟨hSb, z0, z1, z2, z3⟩ := hSw
              first | (go_simp; done) | (go_simp; with_reducible rfl)
            try simp only [Act.put, List.setIfInBounds_toArray, List.set_cons_zero, List.set_cons_succ]
            refine take_at (i := 8) (v := ?_) (some 72) rfl rfl (by kernel_rfl) (by kernel_rfl) (by kernel_rfl) (fun _ _ _ h => h) (Or.inl ⟨by rfl, ?_⟩) (by assumption) ?_
            rotate_left
            · intro w hSw
              obtain ⟨hSb, z0, z1, z2, z3⟩ := hSw
              first | (go_simp; done) | (go_simp; with_reducible rfl)
            try simp only [Act.put, List.setIfInBounds_toArray, List.set_cons_zero, List.set_cons_succ]
            refine take_at (i := 9) (v := ?_) (some 73) rfl rfl (by kernel_rfl) (by kernel_rfl) (by kernel_rfl) (fun _ _ _ h => h) (Or.inl ⟨by rfl, ?_⟩) (by assumption) ?_
            rotate_left
            · intro w hSw
              obtain ⟨hSb, z0, z1, z2, z3⟩ := hSw
              first | (go_simp; done) | (go_simp; with_reducible rfl)
            try simp only [Act.put, List.setIfInBounds_toArray, List.set_cons_zero, List.set_cons_succ]
            refine take_at (i := 10) (v := ?_) (some 74) rfl rfl (by kernel_rfl) (by kernel_rfl) (by kernel_rfl) (fun _ _ _ h => h) (Or.inl ⟨by rfl, ?_⟩) (by assumption) ?_
            rotate_left
            · intro w hSw
              obtain ⟨hSb, z0, z1, z2, z3⟩ := hSw
              first | (go_simp; done) | (go_simp; with_reducible rfl)
            try simp only [Act.put, List.setIfInBounds_toArray, List.set_cons_zero, List.set_cons_succ]
            refine take_at (i := 11) (v := ?_) (some 75) rfl rfl (by kernel_rfl) (by kernel_rfl) (by kernel_rfl) (fun _ _ _ h => h) (Or.inl ⟨by rfl, ?_⟩) (by assumption) ?_
            rotate_left
            · intro w hSw
              obtain ⟨hSb, z0, z1, z2, z3⟩ := hSw
              first | (go_simp; done) | (go_simp; with_reducible rfl)
            try simp only [Act.put, List.setIfInBounds_toArray, List.set_cons_zero, List.set_cons_succ]
            refine take_at (i := 12) (v := ?_) (some 76) rfl rfl (by kernel_rfl) (by kernel_rfl) (by kernel_rfl) (fun _ _ _ h => h) (Or.inl ⟨by rfl, ?_⟩) (by assumption) ?_
            rotate_left
            · intro w hSw
              obtain ⟨hSb, z0, z1, z2, z3⟩ := hSw
              first | (go_simp; done) | (go_simp; with_reducible rfl)
            try simp only [Act.put, List.setIfInBounds_toArray, List.set_cons_zero, List.set_cons_succ]
            refine take_at (i := 13) (v := ?_) (some 77) rfl rfl (by kernel_rfl) (by kernel_rfl) (by kernel_rfl) (fun _ _ _ h => h) (Or.inl ⟨by rfl, ?_⟩) (by assumption) ?_
            rotate_left
            · intro w hSw
              obtain ⟨hSb, z0, z1, z2, z3⟩ := hSw
              first | (go_simp; done) | (go_simp; with_reducible rfl)
            try simp only [Act.put, List.setIfInBounds_toArray, List.set_cons_zero, List.set_cons_succ]
            refine take_at (i := 14) (v := ?_) (some 78) rfl rfl (by kernel_rfl) (by kernel_rfl) (by kernel_rfl) (fun _ _ _ h => h) (Or.inl ⟨by rfl, ?_⟩) (by assumption) ?_
            rotate_left
            · intro w hSw
              obtain ⟨hSb, z0, z1, z2, z3⟩ := hSw
              first | (go_simp; done) | (go_simp; with_reducible rfl)
            try simp only [Act.put, List.setIfInBounds_toArray, List.set_cons_zero, List.set_cons_succ]
            refine take_at (i := 15) (v := ?_) (some 79) rfl rfl (by kernel_rfl) (by kernel_rfl) (by kernel_rfl) (fun _ _ _ h => h) (Or.inl ⟨by rfl, ?_⟩) (by assumption) ?_
            rotate_left
            · intro w hSw
              obtain ⟨hSb, z0, z1, z2, z3⟩ := hSw
              first | (go_simp; done) | (go_simp; with_reducible rfl)
            try simp only [Act.put, List.setIfInBounds_toArray, List.set_cons_zero, List.set_cons_succ]
            refine take_at (i := 16) (v := ?_) (some 80) rfl rfl (by kernel_rfl) (by kernel_rfl) (by kernel_rfl) (fun _ _ _ h => h) (Or.inl ⟨by rfl, ?_⟩) (by assumption) ?_
            rotate_left
            · intro w hSw
              obtain ⟨hSb, z0, z1, z2, z3⟩ := hSw
              first | (go_simp; done) | (go_simp; with_reducible rfl)
            try simp only [Act.put, List.setIfInBounds_toArray, List.set_cons_zero, List.set_cons_succ]
            refine take_at (i := 17) (v := ?_) (some 81) rfl rfl (by kernel_rfl) (by kernel_rfl) (by kernel_rfl) (fun _ _ _ h => h) (Or.inl ⟨by rfl, ?_⟩) (by assumption) ?_
            rotate_left
            · intro w hSw
              obtain ⟨hSb, z0, z1, z2, z3⟩ := hSw
              first | (go_simp; done) | (go_simp; with_reducible rfl)
            try simp only [Act.put, List.setIfInBounds_toArray, List.set_cons_zero, List.set_cons_succ]
            refine wpAnyH_ready (rs := [18]) (by kernel_rfl) (by simp) ?_
            refine AllReadyH.cons rfl (fun K hK => ?_) AllReadyH.nil
            go_simp
            refine (bytesEqual_any _ A10 PA n10 c10 pm pc (be4 bf ++ partK row kk.1) dat (HM10.out.bytes.along hHeld.1) (HOK.out.bytes.along (HWX.out.trans ((HB10.out.trans (hHeld.1.mono HB10.out.size)).mono HWX.out.size)))).mono ?_
            rintro e w11 ⟨rfl, rfl⟩
            refine hK.out _ _ ?_ (fun hHeld2 => ?_)
            · exact HS12.out _ (hHeld.1)
            clear hK K hHeld
            have hHeld := hHeld2
            clear hHeld2
            try simp only [Act.put, List.setIfInBounds_toArray, List.set_cons_zero, List.set_cons_succ]
            refine take_at (i := 19) (v := ?_) (some 83) rfl rfl (by kernel_rfl) (by kernel_rfl) (by kernel_rfl) (fun _ _ _ h => h) (Or.inl ⟨by rfl, ?_⟩) (by assumption) ?_
            rotate_left
            · intro w hSw
              obtain ⟨hSb, z0, z1, z2, z3⟩ := hSw
              first | (go_simp; done) | (go_simp; with_reducible rfl)
            try simp only [Act.put, List.setIfInBounds_toArray, List.set_cons_zero, List.set_cons_succ]
            refine wpAnyH_done (by kernel_rfl) ?_ _
            refine cut_leaf (.bool (decide (be4 bf ++ partK row kk.1 = dat))) (by kernel_rfl) (by kernel_rfl) ⟨_, rfl, ?_, rfl⟩
            rw [decide_eq_true_iff, HPG.out]
            exact ⟨fun e => ⟨_, rfl, e.symm⟩, fun ⟨q, hq, hd⟩ => by injection hq with hq; rw [← hd, ← hq]; rfl⟩
            --R11END
          · have hjI : ¬ (j : Int) < (np : Int) := by omega
            have hjI2 : decide ((j : Int) < (np : Int)) = false := decide_eq_false hjI
            --R11B
            refine region_round (S := fun x => Below w10.heap.size w10 x ∧ x.cell? ⟨w.heap.size, 0, none⟩ = some (.pointer (some ⟨gr, 0, none⟩)) ∧ x.cell? ⟨gr, 5, none⟩ = some (.slice Ap np cp) ∧ x.cell? ⟨g10, 4, none⟩ = some (.slice A10 n10 c10)) (by kernel_rfl) (by kernel_rfl) (HS11.out _ (ride_drew (Below.refl _ _))) (fun hHeld => ?_)
            refine take_at (i := 0) (v := ?_) (some 64) rfl rfl (by kernel_rfl) (by kernel_rfl) (by kernel_rfl) (fun _ _ _ h => h) (Or.inl ⟨by rfl, ?_⟩) (by assumption) ?_
            rotate_left
            · intro w hSw
              obtain ⟨hSb, z0, z1, z2⟩ := hSw
              first | (go_simp; done) | (go_simp; with_reducible rfl)
            try simp only [Act.put, List.setIfInBounds_toArray, List.set_cons_zero, List.set_cons_succ]
            refine take_at (i := 1) (v := ?_) (some 65) rfl rfl (by kernel_rfl) (by kernel_rfl) (by kernel_rfl) (fun _ _ _ h => h) (Or.inl ⟨by rfl, ?_⟩) (by assumption) ?_
            rotate_left
            · intro w hSw
              obtain ⟨hSb, z0, z1, z2⟩ := hSw
              first | (go_simp; done) | (go_simp; with_reducible rfl)
            try simp only [Act.put, List.setIfInBounds_toArray, List.set_cons_zero, List.set_cons_succ]
            refine take_at (i := 2) (v := ?_) (some 66) rfl rfl (by kernel_rfl) (by kernel_rfl) (by kernel_rfl) (fun _ _ _ h => h) (Or.inl ⟨by rfl, ?_⟩) (by assumption) ?_
            rotate_left
            · intro w hSw
              obtain ⟨hSb, z0, z1, z2⟩ := hSw
              first | (go_simp; done) | (go_simp; with_reducible rfl)
            try simp only [Act.put, List.setIfInBounds_toArray, List.set_cons_zero, List.set_cons_succ]
            refine take_at (i := 3) (v := ?_) (some 67) rfl rfl (by kernel_rfl) (by kernel_rfl) (by kernel_rfl) (fun _ _ _ h => h) (Or.inl ⟨by rfl, ?_⟩) (by assumption) ?_
            rotate_left
            · intro w hSw
              obtain ⟨hSb, z0, z1, z2⟩ := hSw
              first | (go_simp; done) | (go_simp; with_reducible rfl)
            try simp only [Act.put, List.setIfInBounds_toArray, List.set_cons_zero, List.set_cons_succ]
            refine take_at (i := 4) (v := ?_) (some 68) rfl rfl (by kernel_rfl) (by kernel_rfl) (by kernel_rfl) (fun _ _ _ h => h) (Or.inl ⟨by rfl, ?_⟩) (by assumption) ?_
            rotate_left
            · intro w hSw
              obtain ⟨hSb, z0, z1, z2⟩ := hSw
              first | (go_simp; done) | (go_simp; with_reducible rfl)
            try simp only [Act.put, List.setIfInBounds_toArray, List.set_cons_zero, List.set_cons_succ]
            refine take_at (i := 5) (v := ?_) (some 69) rfl rfl (by kernel_rfl) (by kernel_rfl) (by kernel_rfl) (fun _ _ _ h => h) (Or.inl ⟨by rfl, ?_⟩) (by assumption) ?_
            rotate_left
            · intro w hSw
              obtain ⟨hSb, z0, z1, z2⟩ := hSw
              first | (go_simp; done) | (go_simp; with_reducible rfl)
            try simp only [Act.put, List.setIfInBounds_toArray, List.set_cons_zero, List.set_cons_succ]
            refine take_at (i := 6) (v := ?_) (some 70) rfl rfl (by kernel_rfl) (by kernel_rfl) (by kernel_rfl) (fun _ _ _ h => h) (Or.inl ⟨by rfl, ?_⟩) (by assumption) ?_
            rotate_left
            · intro w hSw
              obtain ⟨hSb, z0, z1, z2⟩ := hSw
              first | (go_simp; done) | (go_simp; with_reducible rfl)
            try simp only [Act.put, List.setIfInBounds_toArray, List.set_cons_zero, List.set_cons_succ]
            refine take_at (i := 7) (v := ?_) (some 71) rfl rfl (by kernel_rfl) (by kernel_rfl) (by kernel_rfl) (fun _ _ _ h => h) (Or.inl ⟨by rfl, ?_⟩) (by assumption) ?_
            rotate_left
            · intro w hSw
              obtain ⟨hSb, z0, z1, z2⟩ := hSw
              first | (go_simp; done) | (go_simp; with_reducible rfl)
            try simp only [Act.put, List.setIfInBounds_toArray, List.set_cons_zero, List.set_cons_succ]
            refine take_at (i := 8) (v := undef) (some 72) rfl rfl (by kernel_rfl) (by kernel_rfl) (by kernel_rfl) (fun _ _ _ h => h) (Or.inr ⟨by rfl, rfl⟩) (by assumption) ?_
            try simp only [Act.put, List.setIfInBounds_toArray, List.set_cons_zero, List.set_cons_succ]
            refine take_at (i := 9) (v := undef) (some 73) rfl rfl (by kernel_rfl) (by kernel_rfl) (by kernel_rfl) (fun _ _ _ h => h) (Or.inr ⟨by rfl, rfl⟩) (by assumption) ?_
            try simp only [Act.put, List.setIfInBounds_toArray, List.set_cons_zero, List.set_cons_succ]
            refine take_at (i := 10) (v := undef) (some 74) rfl rfl (by kernel_rfl) (by kernel_rfl) (by kernel_rfl) (fun _ _ _ h => h) (Or.inr ⟨by rfl, rfl⟩) (by assumption) ?_
            try simp only [Act.put, List.setIfInBounds_toArray, List.set_cons_zero, List.set_cons_succ]
            refine take_at (i := 11) (v := undef) (some 75) rfl rfl (by kernel_rfl) (by kernel_rfl) (by kernel_rfl) (fun _ _ _ h => h) (Or.inr ⟨by rfl, rfl⟩) (by assumption) ?_
            try simp only [Act.put, List.setIfInBounds_toArray, List.set_cons_zero, List.set_cons_succ]
            refine take_at (i := 12) (v := undef) (some 76) rfl rfl (by kernel_rfl) (by kernel_rfl) (by kernel_rfl) (fun _ _ _ h => h) (Or.inr ⟨by rfl, rfl⟩) (by assumption) ?_
            try simp only [Act.put, List.setIfInBounds_toArray, List.set_cons_zero, List.set_cons_succ]
            refine take_at (i := 13) (v := undef) (some 77) rfl rfl (by kernel_rfl) (by kernel_rfl) (by kernel_rfl) (fun _ _ _ h => h) (Or.inr ⟨by rfl, rfl⟩) (by assumption) ?_
            try simp only [Act.put, List.setIfInBounds_toArray, List.set_cons_zero, List.set_cons_succ]
            refine take_at (i := 14) (v := undef) (some 78) rfl rfl (by kernel_rfl) (by kernel_rfl) (by kernel_rfl) (fun _ _ _ h => h) (Or.inr ⟨by rfl, rfl⟩) (by assumption) ?_
            try simp only [Act.put, List.setIfInBounds_toArray, List.set_cons_zero, List.set_cons_succ]
            refine take_at (i := 15) (v := undef) (some 79) rfl rfl (by kernel_rfl) (by kernel_rfl) (by kernel_rfl) (fun _ _ _ h => h) (Or.inr ⟨by rfl, rfl⟩) (by assumption) ?_
            try simp only [Act.put, List.setIfInBounds_toArray, List.set_cons_zero, List.set_cons_succ]
            refine take_at (i := 16) (v := undef) (some 80) rfl rfl (by kernel_rfl) (by kernel_rfl) (by kernel_rfl) (fun _ _ _ h => h) (Or.inr ⟨by rfl, rfl⟩) (by assumption) ?_
            try simp only [Act.put, List.setIfInBounds_toArray, List.set_cons_zero, List.set_cons_succ]
            refine take_at (i := 17) (v := undef) (some 81) rfl rfl (by kernel_rfl) (by kernel_rfl) (by kernel_rfl) (fun _ _ _ h => h) (Or.inr ⟨by rfl, rfl⟩) (by assumption) ?_
            try simp only [Act.put, List.setIfInBounds_toArray, List.set_cons_zero, List.set_cons_succ]
            refine take_at (i := 18) (v := undef) (some 82) rfl rfl (by kernel_rfl) (by kernel_rfl) (by kernel_rfl) (fun _ _ _ h => h) (Or.inr ⟨by rfl, rfl⟩) (by assumption) ?_
            try simp only [Act.put, List.setIfInBounds_toArray, List.set_cons_zero, List.set_cons_succ]
            refine take_at (i := 19) (v := ?_) (some 83) rfl rfl (by kernel_rfl) (by kernel_rfl) (by kernel_rfl) (fun _ _ _ h => h) (Or.inl ⟨by rfl, ?_⟩) (by assumption) ?_
            rotate_left
            · intro w hSw
              obtain ⟨hSb, z0, z1, z2⟩ := hSw
              first | (go_simp; done) | (go_simp; with_reducible rfl)
            try simp only [Act.put, List.setIfInBounds_toArray, List.set_cons_zero, List.set_cons_succ]
            refine wpAnyH_done (by kernel_rfl) ?_ _
            refine cut_leaf (.bool false) (by kernel_rfl) (by kernel_rfl) ⟨_, rfl, ?_, rfl⟩
            rw [List.getElem?_eq_none (by rw [pgs_length, ← HNP.out]; omega)]
            exact ⟨fun e => (by cases e), fun ⟨q, hq, _⟩ => (by cases hq)⟩
            --R11BEND
        · intro a11 w11 hd11 ht11 hM11
          obtain ⟨b, hv11, hb11, rfl⟩ := hM11
          simp only [List.map_cons, List.map_nil, putL, List.setIfInBounds_toArray, List.set_cons_zero, List.set_cons_succ]
          rw [hv11]
          clear ht11 hv11
          generalize a11.tmps.getD 64 undef = s64
          generalize a11.tmps.getD 65 undef = s65
          generalize a11.tmps.getD 66 undef = s66
          generalize a11.tmps.getD 67 undef = s67
          generalize a11.tmps.getD 68 undef = s68
          generalize a11.tmps.getD 69 undef = s69
          generalize a11.tmps.getD 70 undef = s70
          generalize a11.tmps.getD 71 undef = s71
          generalize a11.tmps.getD 72 undef = s72
          generalize a11.tmps.getD 73 undef = s73
          generalize a11.tmps.getD 74 undef = s74
          generalize a11.tmps.getD 75 undef = s75
          generalize a11.tmps.getD 76 undef = s76
          generalize a11.tmps.getD 77 undef = s77
          generalize a11.tmps.getD 78 undef = s78
          generalize a11.tmps.getD 79 undef = s79
          generalize a11.tmps.getD 80 undef = s80
          generalize a11.tmps.getD 81 undef = s81
          generalize a11.tmps.getD 82 undef = s82
          have HB11 := Lib.hid hb11
          clear hb11
          obtain ⟨wd, hwd⟩ : ∃ x, x = w10.drew := ⟨_, rfl⟩
          rw [← hwd]
          have hbd := ride_drew (Below.refl w10.heap.size w10)
          rw [← hwd] at hbd
          obtain ⟨_, t0, t1, t2⟩ := HS11.out wd hbd
          have hz10 := (hbd.block _ hg10l).trans HP10.out
          obtain ⟨y0, y1, y2, y3, y4, y5, y6, y7, y8, y9⟩ := fives hz10
          have HWD := Lib.hid hwd
          have HBD := Lib.hid hbd
          have HZ10 := Lib.hid hz10
          clear hwd hbd hz10
          gi_step
          gi_step
          refine piece_cut [84, 85, 86, 87, 88, 89, 90] 13 (MidTwelve W g10 gen ser (pgs ps) j bf (partK row kk.1)) ?_ ?_
          · cases b
            · gi_wp2
              exact cut_leafQ (.pointer (some ⟨g10, 0, none⟩)) (by kernel_rfl) (by kernel_rfl) ⟨rfl, ⟨gen, ser, j, 1, A10, n10, c10, be4 bf ++ partK row kk.1⟩, HZ10.out, pok_below ⟨HM10.out.lower (Nat.zero_le _), hg, hs, by show j < 4294967296; omega, by show 1 < 256; omega, by show (be4 bf ++ partK row kk.1).length ≤ 491; rw [← HLEN.out]; omega⟩ HBD.out, (mkP_new (fun h => by have := HB11.out.2 h; cases this)).symm, HB10.out.trans (HBD.out.mono HB10.out.size)⟩
            · obtain ⟨qq, hqq, hqd⟩ := HB11.out.1 rfl
              have hjn : j < np := by have := (List.getElem?_eq_some_iff.1 hqq).1; rw [pgs_length, ← HNP.out] at this; exact this
              have hjI : (j : Int) < (np : Int) := by omega
              have hj0 : (0 : Int) ≤ (j : Int) := by omega
              obtain ⟨p, hp⟩ : ∃ p, ps[j]? = some p := ⟨_, List.getElem?_eq_getElem (by rw [← HNP.out]; exact hjn)⟩
              obtain ⟨gp, cp', hv, d0, d1, d2, d3, d4⟩ := HR.out.pages.at_ hp
              rw [← HNP.out] at hv
              injection hv with hv1 _ hv3
              subst hv1
              subst hv3
              have hok := (HR.out.pages.ok p (List.mem_of_getElem? hp))
              have hpg : qq = p.pg := by unfold pgs at hqq; rw [List.getElem?_map, hp] at hqq; injection hqq with h; exact h.symm
              have hbx : Below w.heap.size w wd := HWX.out.trans ((HB10.out.trans (HBD.out.mono HB10.out.size)).mono HWX.out.size)
              have hgpl : gp < w.heap.size := World.block_lt_of_cell? w _ d4
              have c0 := (hbx.cell (p := ⟨gp, j * 5, none⟩) hgpl).trans d0
              have c1 := (hbx.cell (p := ⟨gp, j * 5 + 1, none⟩) hgpl).trans d1
              have c2' := (hbx.cell (p := ⟨gp, j * 5 + 2, none⟩) hgpl).trans d2
              have c3 := (hbx.cell (p := ⟨gp, j * 5 + 3, none⟩) hgpl).trans d3
              have c4 := (hbx.cell (p := ⟨gp, j * 5 + 4, none⟩) hgpl).trans d4
              have HOK := Lib.hid hok
              have HPG := Lib.hid hpg
              have HQQ := Lib.hid hqq
              have HQD := Lib.hid hqd
              have HBX := Lib.hid hbx
              clear d0 d1 d2 d3 d4 hok hpg hqq hqd hp hbx
              gi_wp2
              exact cut_leafQ (.pointer (some ⟨g10, 0, none⟩)) (by kernel_rfl) (by kernel_rfl) ⟨rfl, p, set_fives HZ10.out, pok_below HOK.out (below_five HBX.out (Nat.le_trans HWX.out.size hg10)), by rw [← HPG.out]; exact (mkP_old HQQ.out HQD.out).symm, below_five (HB10.out.trans (HBD.out.mono HB10.out.size)) hg10⟩
          · intro a12 w12 hd12 ht12 hM12
            obtain ⟨hv12, p, hz12, hok12, hpg12, hb12⟩ := hM12
            simp only [List.map_cons, List.map_nil, putL, List.setIfInBounds_toArray, List.set_cons_zero, List.set_cons_succ]
            clear ht12 hv12
            generalize a12.tmps.getD 84 undef = s84
            generalize a12.tmps.getD 85 undef = s85
            generalize a12.tmps.getD 86 undef = s86
            generalize a12.tmps.getD 87 undef = s87
            generalize a12.tmps.getD 88 undef = s88
            generalize a12.tmps.getD 89 undef = s89
            generalize a12.tmps.getD 90 undef = s90
            obtain ⟨p0, p1, p2, p3, p4, _⟩ := fives hz12
            have hi2 := (hb12.block _ (lt_of_heap HI2.out)).trans HI2.out
            have hi1 := (hb12.block _ (lt_of_heap HI1.out)).trans HI1.out
            have x0 : w12.cell? ⟨B10, 0, none⟩ = some (.slice A2' n2 k2) := by unfold World.cell?; rw [hi2]; rfl
            have x1 : w12.frozen? ⟨B10, 0, none⟩ = false := frozen_of_row w12 B10 _ _ _ hi2
            have HZ12 := Lib.hid hz12
            have HOK12 := Lib.hid hok12
            have HPG12 := Lib.hid hpg12
            have HB12 := Lib.hid hb12
            have HH2 := Lib.hid hi2
            have HH1 := Lib.hid hi1
            clear hz12 hok12 hpg12 hb12 hi2 hi1
            obtain ⟨e0', he0, hw0, hw1, hw2⟩ := info_parts infoPage
            have HE0 := Lib.hid he0
            have HW0' := Lib.hid hw0
            have HW1' := Lib.hid hw1
            have HW2' := Lib.hid hw2
            clear he0 hw0 hw1 hw2
            have hown12 : w12.ownsRow wb.heap.size 85 5 (.slice A2' n2 k2) n2 (pcells ps2) := by
              have h := ownsRow_below HI5.out HB12.out
              rw [← HN2.out] at h
              exact h
            have HO12 := Lib.hid hown12
            clear hown12
            have hwl : wb.heap.size ≤ w12.heap.size := Nat.le_trans i11.size HB12.out.size
            have hn28 : n2 ≤ 8192 := by omega
            have hg10B : B10 < W.heap.size := lt_of_heap HI2.out
            have hneq1 : g10 ≠ B10 := by omega
            have hneq2 : B9 ≠ B10 := by omega
            gi_wp2_with (gi_at_builtin; refine wpListIn_append_own _ (by rfl) _ _ _ (by rfl) wb.heap.size 85 e0' _ 5 40 Try.underlying81 HE0.out HW0'.out HW1'.out HW2'.out (by rfl) (by omega) (.slice A2' n2 k2) n2 (pcells ps2) (by rfl) (ownsRow_below HO12.out ((Below.refl _ _).alloc (Nat.le_refl _) _)) _ 1 1 [.int .u32 (p.gen : Int), .int .u32 (p.ser : Int), .int .u32 (p.num : Int), .int .u8 (p.kind : Int), .slice p.A p.m p.c] (by rfl) (by rfl) (World.news_of_block (Go.heap_alloc_new _ _)) (by intro u hu; simp at hu; rcases hu with rfl | rfl | rfl | rfl | rfl <;> rfl) (by unfold maxLen; omega) (by omega) (by simp; omega) ?_; intro v13 w13 hown13 hg13 hnil13; obtain ⟨gA, k13, rfl, _, hltA⟩ := hown13.form (by omega); have hoA := ownsRow_below HO12.out ((Below.refl _ _).alloc (Nat.le_refl _) (.cells #[.int .u32 (p.gen : Int), .int .u32 (p.ser : Int), .int .u32 (p.num : Int), .int .u8 (p.kind : Int), .slice p.A p.m p.c] 85)); have hbA := (Below.refl w12.heap.size w12).alloc (Nat.le_refl _) (.cells #[.int .u32 (p.gen : Int), .int .u32 (p.ser : Int), .int .u32 (p.num : Int), .int .u8 (p.kind : Int), .slice p.A p.m p.c] 85); have h13B10 := keep_ty hg13 hoA ((hbA.block _ (lt_of_heap HH2.out)).trans HH2.out) (by decide); have h13B9 := keep_ty hg13 hoA ((hbA.block _ (lt_of_heap HH1.out)).trans HH1.out) (by decide); have h13g := (hg13.block g10 (lt_of_heap ((hbA.block _ (lt_of_heap HZ12.out)).trans HZ12.out)) (fun e => by have := (own_block_lt HI5.out e.symm).2; omega)).trans ((hbA.block _ (lt_of_heap HZ12.out)).trans HZ12.out); have z13B10 : w13.cell? ⟨B10, 0, none⟩ = some (.slice A2' n2 k2) := (by unfold World.cell?; rw [h13B10]; rfl); have z13B9 : w13.cell? ⟨B9, 0, none⟩ = some (.int .u32 (bf : Int)) := (by unfold World.cell?; rw [h13B9]; rfl); have z13g : w13.cell? ⟨g10, 1, none⟩ = some (.int .u32 (p.ser : Int)) := (by unfold World.cell?; rw [h13g]; rfl); have z13f : w13.frozen? ⟨B10, 0, none⟩ = false := frozen_of_row w13 B10 _ _ _ h13B10; have z13f9 : w13.frozen? ⟨B9, 0, none⟩ = false := frozen_of_row w13 B9 _ _ _ h13B9; have HOA := Lib.hid hoA; have HBA := Lib.hid hbA; have HB10' := Lib.hid h13B10; have HB9' := Lib.hid h13B9; have HG13 := Lib.hid hg13; have HOWN13 := Lib.hid hown13; clear hoA hbA h13B10 h13B9 h13g hg13 hown13 hnil13)
            exact round_end HI1.out HI2.out HI3.out HI4.out HI5.out HN2.out HI6.out HI7.out HI8.out i11 h9ge h9lt HB12.out HOK12.out HJ.out HPG12.out HOA.out HBA.out HG13.out HOWN13.out HB10'.out HB9'.out
      case done =>
        intro D xs W hD hS hI hK
        obtain ⟨bf, v2, ps2, i1, i2, i3, i4, i5, i6, i7, i8, i9, i11⟩ := hI
        obtain ⟨A2', n2, k2, rfl⟩ : ∃ A n c, v2 = .slice A n c := row_slice i5
        have q1 : W.cell? ⟨B10, 0, none⟩ = some (.slice A2' n2 k2) := by unfold World.cell?; rw [i2]; rfl
        have HI5 := Lib.hid i5
        have HI6 := Lib.hid i6
        have HI7 := Lib.hid i7
        have HS := Lib.hid hS
        clear i1 i2 i3 i4 i5 i6 i7 i8 hS
        gi_wp2
        go_wp2
        refine ⟨by simp, .inl ⟨_, _, rfl, run_takeDeferred hK, ?_⟩⟩
        have hkc : Kc W (W.putObj D (.deferred none)) := Kc.of_grown (grownBy_putObj' W D _) (fun r e => by cases e; exact ⟨_, hK, rfl⟩)
        have hb := (Hb2.out.trans (i11.mono Hb2.out.size))
        refine ⟨_, results_tmp rfl _ _ _, .slice A2' n2 k2, ps2, rfl, own_up (hkc.own HI5.out) (fun k hk => Nat.le_trans Hb2.out.size (own_block_lt HI5.out hk).1), fun p hp => hkc.pok (HI6.out p hp), ?_, hb.grown (grownBy_putObj' W D _) hb.size (fun k e => by have h1 := hBB.size; have h2 := Hb2.out.size; cases e; omega)⟩
        rw [HI7.out, HS.out, HB0.out, HNR.out]
        rfl
end Go.Proofs.Ytalpippeelomjaa
