/- DWrite: joined by program (tools/merge.py). -/
import Derived.Test.YtalpippeelomjaaZ16
import Derived.Deep.DeepCutAuto
import Derived.Laws.CopyOwn
import Derived.Deep.AppendLies
import Derived.ChangeAlike
namespace Go.Proofs.Ytalpippeelomjaa
open Go.RowKit
set_option linter.unusedSimpArgs false

theorem row_kept {w w' : World} {base n size gs : Nat} {t t' : TypeId} {v : Value} {xs : List Value} {cs : Array Value} {fr : Nat × Nat} (h : w.ownsRow base t size v n xs) (hs : w.heap[gs]? = some (.cells cs t' fr)) (ht : t ≠ t')
    (hk : ∀ k, k < w.heap.size → k ≠ gs → w'.heap[k]? = w.heap[k]?) : w'.ownsRow base t size v n xs := by
  obtain ⟨hl, hv⟩ := id h
  refine ⟨hl, ?_⟩
  rcases hv with hv | ⟨g, cap, cur, rfl, h1, h2, h3⟩
  · exact .inl hv
  · refine .inr ⟨g, cap, cur, rfl, h1, ?_, h3⟩
    have hlt : g < w.heap.size := by
      rcases Nat.lt_or_ge g w.heap.size with h4 | h4
      · exact h4
      · rw [Array.getElem?_eq_none h4] at h2; cases h2
    have hne : g ≠ gs := by
      rintro rfl
      rw [hs] at h2
      injection h2 with h2
      injection h2 with _ h5
      exact ht h5.symm
    rw [hk g hlt hne]
    exact h2
theorem setCell_others (w : World) (g i : Nat) (v : Value) : ∀ k, k < w.heap.size → k ≠ g → (w.setCell ⟨g, i, none⟩ v).heap[k]? = w.heap[k]? := fun k _ h => heap_setCell_other w ⟨g, i, none⟩ k v h
/-- The five fields turned: the rows are as they were. -/
theorem Disk.turn {w w' : World} {gs : Nat} {b : DB} {dur : List (List Nat)} {pend : List (Nat × List Nat)} {wr bud wr' bud' : Int} (h : Disk w gs b dur pend wr bud)
    (hst : w'.heap[gs]? = some (.cells (stcells b dur.length wr' bud') 95 (0, 0))) (hk : ∀ k, k < w.heap.size → k ≠ gs → w'.heap[k]? = w.heap[k]?) : Disk w' gs b dur pend wr' bud' :=
  ⟨hst, row_kept h.du h.st (by decide) hk, row_kept h.pe h.st (by decide) hk, row_kept h.la h.st (by decide) hk, h.sec, h.wri, h.few, h.many⟩
section
variable {w : World} {gs : Nat} {b : DB} {dur : List (List Nat)} {pend : List (Nat × List Nat)} {wr bud : Int}
theorem Disk.c0 (h : Disk w gs b dur pend wr bud) : w.cell? ⟨gs, 0, none⟩ = some (.slice (some ⟨b.gd, 0, none⟩) dur.length b.cd) := by rw [cell_of_row w gs 0 _ _ _ h.st]; rfl
theorem Disk.c1 (h : Disk w gs b dur pend wr bud) : w.cell? ⟨gs, 1, none⟩ = some b.pv := by rw [cell_of_row w gs 1 _ _ _ h.st]; rfl
theorem Disk.c2 (h : Disk w gs b dur pend wr bud) : w.cell? ⟨gs, 2, none⟩ = some (.slice (some ⟨b.gl, 0, none⟩) dur.length b.cl) := by rw [cell_of_row w gs 2 _ _ _ h.st]; rfl
theorem Disk.c3 (h : Disk w gs b dur pend wr bud) : w.cell? ⟨gs, 3, none⟩ = some (.int .i64 wr) := by rw [cell_of_row w gs 3 _ _ _ h.st]; rfl
theorem Disk.c4 (h : Disk w gs b dur pend wr bud) : w.cell? ⟨gs, 4, none⟩ = some (.int .i64 bud) := by rw [cell_of_row w gs 4 _ _ _ h.st]; rfl
theorem Disk.fz (h : Disk w gs b dur pend wr bud) (i : Nat) : w.frozen? ⟨gs, i, none⟩ = false := frozen_of_row w gs i _ _ h.st
theorem Disk.lt (h : Disk w gs b dur pend wr bud) : gs < w.heap.size := by
  rcases Nat.lt_or_ge gs w.heap.size with h1 | h1
  · exact h1
  · have := h.st; rw [Array.getElem?_eq_none h1] at this; cases this
/-- A disk behind what leaves all old blocks. -/
theorem Disk.below {w' : World} (h : Disk w gs b dur pend wr bud) (hb : Below w.heap.size w w') : Disk w' gs b dur pend wr bud :=
  h.turn (by rw [hb.block gs h.lt]; exact h.st) (fun k hk _ => hb.block k hk)
theorem Disk.drew (h : Disk w gs b dur pend wr bud) : Disk w.drew gs b dur pend wr bud := ⟨h.st, h.du, h.pe, h.la, h.sec, h.wri, h.few, h.many⟩
theorem Disk.drewN (h : Disk w gs b dur pend wr bud) (k : Nat) : Disk (w.drewN k) gs b dur pend wr bud := ⟨h.st, h.du, h.pe, h.la, h.sec, h.wri, h.few, h.many⟩
end

set_option maxHeartbeats 1000000 in
theorem has_yes {w : World} {gs : Nat} {b : DB} {dur : List (List Nat)} {pend : List (Nat × List Nat)} {wr bud : Int} (h : Disk w gs b dur pend wr bud) (i : Nat) (hi : i < dur.length) :
    Calls Try.prog 60 #[.pointer (some ⟨gs, 0, none⟩), .int .i64 (i : Int)] w fun e w' => e = .returned (.bool true) ∧ w = w' := by
  have c0 := h.c0
  have h0 : (0 : Int) ≤ (i : Int) := by omega
  have h1 : (i : Int) < (dur.length : Int) := by omega
  go_enter Try.func60, Try.ntmps60
  go_wp2
  go_ret
  exact ⟨rfl, rfl⟩
set_option maxHeartbeats 1000000 in
theorem has_no {w : World} {gs : Nat} {b : DB} {dur : List (List Nat)} {pend : List (Nat × List Nat)} {wr bud : Int} (h : Disk w gs b dur pend wr bud) (i : Int) (hi : i < 0 ∨ (dur.length : Int) ≤ i) :
    Calls Try.prog 60 #[.pointer (some ⟨gs, 0, none⟩), .int .i64 i] w fun e w' => e = .returned (.bool false) ∧ w = w' := by
  have c0 := h.c0
  by_cases h0 : i < 0
  · have h1 : decide ((0 : Int) ≤ i) = false := by simp; omega
    go_enter Try.func60, Try.ntmps60
    go_wp2
    go_ret
    exact ⟨rfl, rfl⟩
  · have h1 : (0 : Int) ≤ i := by omega
    have h2 : decide (i < (dur.length : Int)) = false := by simp; omega
    have h3 : ¬ i < (dur.length : Int) := by omega
    go_enter Try.func60, Try.ntmps60
    go_wp2
    go_ret
    exact ⟨rfl, rfl⟩

/-- The budget behind one Write or Sync. -/
def less (bud : Int) : Int := if 0 < bud then bud - 1 else bud
/-- Only block gs has turned. -/
structure OnlyAt (w w' : World) (p : Nat → Prop) : Prop where
  os : w'.os = w.os
  tape : w'.tape = w.tape
  output : w'.output = w.output
  size : w.heap.size ≤ w'.heap.size
  block : ∀ k, k < w.heap.size → ¬ p k → w'.heap[k]? = w.heap[k]?
theorem OnlyAt.drew {a b : World} {p : Nat → Prop} (h : OnlyAt a b p) : OnlyAt a b.drew p := ⟨h.os, h.tape, h.output, h.size, h.block⟩
theorem OnlyAt.refl (w : World) (p : Nat → Prop) : OnlyAt w w p := ⟨rfl, rfl, rfl, Nat.le_refl _, fun _ _ _ => rfl⟩
theorem OnlyAt.trans {a b c : World} {p : Nat → Prop} (h : OnlyAt a b p) (k : OnlyAt b c p) : OnlyAt a c p :=
  ⟨k.os.trans h.os, k.tape.trans h.tape, k.output.trans h.output, Nat.le_trans h.size k.size, fun i hi hp => (k.block i (Nat.lt_of_lt_of_le hi h.size) hp).trans (h.block i hi hp)⟩
theorem OnlyAt.mono {a b : World} {p q : Nat → Prop} (h : OnlyAt a b p) (hq : ∀ k, k < a.heap.size → p k → q k) : OnlyAt a b q := ⟨h.os, h.tape, h.output, h.size, fun k hk hn => h.block k hk fun hp => hn (hq k hk hp)⟩
theorem OnlyAt.of_below {a b : World} (h : Below a.heap.size a b) (p : Nat → Prop) : OnlyAt a b p := ⟨h.os, h.tape, h.output, h.size, fun k hk _ => h.block k hk⟩
theorem OnlyAt.setCell (w : World) (g i : Nat) (v : Value) : OnlyAt w (w.setCell ⟨g, i, none⟩ v) (fun k => k = g) := ⟨rfl, rfl, rfl, by simp [World.setCell], fun k hk hn => setCell_others w g i v k hk hn⟩
theorem OnlyAt.below {a b : World} {p : Nat → Prop} {B : Nat} (h : OnlyAt a b p) (hB : ∀ k, p k → B ≤ k) (hs : B ≤ a.heap.size) : Below B a b := ⟨h.os, h.tape, h.output, h.size, fun k hk => h.block k (by omega) fun hp => by have := hB k hp; omega⟩

set_option maxHeartbeats 1000000 in
theorem spend_yes {w : World} {gs : Nat} {b : DB} {dur : List (List Nat)} {pend : List (Nat × List Nat)} {wr bud : Int} (h : Disk w gs b dur pend wr bud) (hb : bud ≠ 0) (hb2 : -9223372036854775808 ≤ bud ∧ bud ≤ 9223372036854775807) :
    Calls Try.prog 61 #[.pointer (some ⟨gs, 0, none⟩)] w fun e w' => e = .returned (.bool true) ∧ Disk w' gs b dur pend wr (less bud) ∧ OnlyAt w w' (fun k => k = gs) := by
  have c4 := h.c4
  have f4 := h.fz 4
  have hne : (bud == 0) = false := by simpa using hb
  have HB := Lib.hid hb
  obtain ⟨lo, hi⟩ := hb2
  clear hb
  by_cases hpos : 0 < bud
  · go_enter Try.func61, Try.ntmps61
    go_wp2
    go_ret
    refine ⟨rfl, ?_, OnlyAt.setCell _ _ _ _⟩
    have e : less bud = bud - 1 := if_pos hpos
    rw [e]
    exact h.turn (by rw [heap_setCell_same w gs 4 _ _ _ h.st]; rfl) (setCell_others w gs 4 _)
  · go_enter Try.func61, Try.ntmps61
    go_wp2
    go_ret
    have e : less bud = bud := if_neg (by omega)
    rw [e]
    exact ⟨rfl, h, OnlyAt.refl _ _⟩
theorem spend_no {w : World} {gs : Nat} {b : DB} {dur : List (List Nat)} {pend : List (Nat × List Nat)} {wr : Int} (h : Disk w gs b dur pend wr 0) :
    Calls Try.prog 61 #[.pointer (some ⟨gs, 0, none⟩)] w fun e w' => e = .returned (.bool false) ∧ w = w' := by
  have c4 := h.c4
  go_enter Try.func61, Try.ntmps61
  go_wp2
  go_ret
  exact ⟨rfl, rfl⟩
theorem zero_wri (w : World) : (zeroValue 97).run Try.prog w = .ok (.agg (.int .i64 0 :: byt noughts).toArray) w := by kernel_rfl
theorem built_wri (i : Int) : Try.prog.built 97 [(0, .int .i64 i)] = some (.int .i64 i :: byt noughts).toArray := by kernel_rfl
theorem wpList_build_to {P : Program} {ops : Array Oper} {rest : List Oper} {o : Oper} {a : Act} {w : World} {Q : Exit → Act → World → Prop} (hg : o.guard = none) (t : TypeId) (parts : Array (Nat × Operand)) (ho : o.op = .build t parts) (cells : Array Value)
    (hb : P.built t (parts.map fun (i, x) => (i, a.eval x)).toList = some cells) (h : wpList P ops Q rest (a.put o.dst (.agg cells)) w) : wpList P ops Q (o :: rest) a w :=
  wpList_build hg t parts ho (by rw [hb]; rfl) (by rw [hb]; exact h)
theorem setRow_new (w : World) (c d : Array Value) (t : TypeId) : (w.alloc (.cells c t)).setRow w.heap.size d = w.alloc (.cells d t) := by
  unfold World.setRow World.alloc
  congr 1
  apply Array.ext_getElem?
  intro k
  simp only [Array.getElem?_modify, Array.getElem?_push]
  by_cases hk : k = w.heap.size
  · subst hk
    simp
  · simp [hk]
    intro e
    exact absurd e.symm hk
theorem wpList_copy_new {P : Program} {w : World} {ops : Array Oper} {rest : List Oper} {o : Oper} {a : Act} {Q : Exit → Act → World → Prop} (hgd : o.guard = none) (d s : Operand) (dT sT : TypeId)
    (ho : o.op = .call { callee := .builtin .copy, args := #[d, s], argTypes := #[dT, sT] }) (elem : TypeId) (hu : P.underlying dT = some (.slice elem)) (hsz : (P.info? elem).map (·.size) = some 1)
    (off dLen dCap : Nat) (ad : Addr) (sLen sCap : Nat) (hd : a.eval d = .slice (some ⟨w.heap.size, off, none⟩) dLen dCap) (hs : a.eval s = .slice (some ad) sLen sCap)
    (cur : List Value) (t : TypeId) (cs : List Value) (hn : cs.length = Nat.min sLen dLen)
    (hsrc : ∀ j v, cs[j]? = some v → (w.alloc (.cells cur.toArray t)).cell? (ad.add j) = some v) (hfit : off + cs.length ≤ cur.length) (h1 : ∀ v ∈ cs, v.oneCell' = true)
    (new : List Value) (hnew : cur.take off ++ (cs ++ cur.drop (off + cs.length)) = new)
    (h : wpList P ops Q rest (a.put o.dst (goInt cs.length)) (w.alloc (.cells new.toArray t))) : wpList P ops Q (o :: rest) a (w.alloc (.cells cur.toArray t)) := by
  refine wpList_copy_own hgd d s dT sT ho elem hu hsz w.heap.size off dLen dCap ad sLen sCap hd hs cur.toArray t (Go.heap_alloc_new w _) cs hn hsrc (by simpa using hfit) h1 ?_
  rw [setRow_new]
  have e : cur.toArray.toList.take off ++ (cs ++ cur.toArray.toList.drop (off + cs.length)) = new := hnew
  rw [e]
  exact h
/-- A slice's bytes lie in no block of another element type than theirs; a struct's block is none of bytes. -/
theorem bytes_not_disk {w : World} {B gs : Nat} {ad : Addr} {p : List Nat} {b : DB} {dur : List (List Nat)} {pend : List (Nat × List Nat)} {wr bud : Int} (h : Lies w B (some ad) (byt p)) (hs : Disk w gs b dur pend wr bud) {j : Nat} {u : Value} (hj : (byt p)[j]? = some u) : ad.block ≠ gs := by
  intro e
  obtain ⟨ad2, h4, hlt, hc⟩ := h j u hj
  injection h4 with h4
  subst h4
  obtain ⟨n, rfl⟩ : ∃ n : Nat, u = Value.int .u8 (n : Int) := by
    rw [byt_at] at hj
    cases hp : p[j]? with
    | none => rw [hp] at hj; cases hj
    | some n => rw [hp] at hj; exact ⟨n, (Option.some.inj hj).symm⟩
  have hb : (ad.add j).block = gs := by rw [addr_add_block]; exact e
  obtain ⟨i, hi⟩ : ∃ i, (stcells b dur.length wr bud)[i]? = some (Value.int .u8 (n : Int)) := by
    have hst := hs.st
    rw [← hb] at hst
    unfold World.cell? at hc
    rw [hst] at hc
    dsimp only at hc
    split at hc
    · cases hc
    · exact ⟨_, hc⟩
  have hpv : b.pv ≠ Value.int .u8 (n : Int) := by
    rcases hs.pe.2 with ⟨h1, _⟩ | ⟨g, cap, cur, h1, _⟩
    · rw [h1]; exact fun h => by cases h
    · rw [h1]; exact fun h => by cases h
  match i, hi with
  | 0, hi => simp [stcells] at hi
  | 1, hi => simp [stcells] at hi; exact hpv hi
  | 2, hi => simp [stcells] at hi
  | 3, hi => simp [stcells] at hi
  | 4, hi => simp [stcells] at hi
  | i + 5, hi => simp [stcells] at hi
theorem wri_info : (Try.prog.info? 97).map (·.size) = some 513 := by kernel_rfl

theorem step_buildSlice_one {P : Program} {w w' : World} {ops : Array Oper} {o : Oper} {a : Act} {K : Act → World → Prop} {Q : Exit → Act → World → Prop} {E : Prop} (hgd : o.guard = none) (t : TypeId) (x : Operand)
    (ho : o.op = .buildSlice t 1 #[(0, x)]) (C : List Value) (v : Value) (hx : a.eval x = .agg C.toArray) (hrun : (Instr.buildSlice t 1 #[(0, .agg C.toArray)]).run P w = .ok v w')
    (h : K (a.put o.dst v) w') : if Region.wanted o (yielded ops a.tmps) = true then Oper.wp P o a w K Q else E := by
  have hw : Region.wanted o (yielded ops a.tmps) = true := by simp [Region.wanted, hgd]
  rw [if_pos hw]
  unfold Oper.wp execOp
  simp only [ho, hx, Sem.run_bind, Sem.run_pure, Result.andThen_ok, List.map_toArray, List.map_cons, List.map_nil, hrun]
  exact h
/-- A disk between the append of a pending write and the note of it. -/
structure Mid (w : World) (gs : Nat) (b : DB) (dur : List (List Nat)) (pend0 pend : List (Nat × List Nat)) (wr bud : Int) : Prop where
  st : w.heap[gs]? = some (.cells (stcells b dur.length wr bud) 95 (0, 0))
  du : w.ownsRow 0 92 512 (.slice (some ⟨b.gd, 0, none⟩) dur.length b.cd) dur.length (scells dur)
  pe : w.ownsRow 0 97 513 b.pv pend.length (wcells pend)
  la : w.ownsRow 0 3 1 (.slice (some ⟨b.gl, 0, none⟩) dur.length b.cl) dur.length (ints (lats dur.length pend0))
theorem wcells_snoc (l : List (Nat × List Nat)) (p : Nat × List Nat) : wcells (l ++ [p]) = wcells l ++ wcell p := by
  unfold wcells
  rw [List.map_append, List.flatten_append]
  simp
theorem wcell_one (p : Nat × List Nat) : ∀ v ∈ wcell p, v.oneCell' = true := by
  intro v hv
  rcases List.mem_cons.1 hv with rfl | hv
  · rfl
  · exact one_byt _ v hv
theorem wcell_length (p : Nat × List Nat) (h : IsSec p.2) : (wcell p).length = 513 := by
  unfold wcell
  rw [List.length_cons, byt_length, h.1]
theorem cell_of_new {w : World} {vs : List Value} {t : TypeId} {j : Nat} {u : Value} (h : vs[j]? = some u) : (w.alloc (.cells vs.toArray t)).cell? ((⟨w.heap.size, 0, none⟩ : Addr).add j) = some u := by
  have h1 : (⟨w.heap.size, 0, none⟩ : Addr).add j = ⟨w.heap.size, j, none⟩ := Addr.add_mid w.heap.size 0 j |>.trans (by rw [Nat.zero_add])
  rw [h1, World.cell?_alloc_at _ _ _ _ rfl]
  simpa using h
theorem cell_of_new_drew {w : World} {vs : List Value} {t : TypeId} {g j : Nat} {u : Value} (hg : g = w.heap.size) (h : vs[j]? = some u) : (w.alloc (.cells vs.toArray t)).drew.cell? ((⟨g, 0, none⟩ : Addr).add j) = some u := by
  subst hg
  exact cell_of_new h
theorem range_grown {w w' : World} {g o : Nat} {C : List Value} {row : Option Nat} (h : w.rangeAt g o C) (hg : w.grownBy w' row) (hne : some g ≠ row) (hlt : g < w.heap.size) : w'.rangeAt g o C := fun j v hj =>
  (World.cell?_of_block (hg.block g hlt hne)).trans (h j v hj)
theorem range_set {w : World} {g o gs i : Nat} {C : List Value} {u : Value} (h : w.rangeAt g o C) (hne : g ≠ gs) : (w.setCell ⟨gs, i, none⟩ u).rangeAt g o C := fun j v hj =>
  (World.cell?_of_block (heap_setCell_other w ⟨gs, i, none⟩ g u hne)).trans (h j v hj)
theorem st_grown {x y : World} {gs : Nat} {b : DB} {dur : List (List Nat)} {pend : List (Nat × List Nat)} {wr bud : Int} (hx : Disk x gs b dur pend wr bud) (hg : x.grownBy y b.pv.ownBlock) : y.heap[gs]? = some (.cells (stcells b dur.length wr bud) 95 (0, 0)) := by
  have hgsne : some gs ≠ b.pv.ownBlock := by
    intro e
    rcases hx.pe.2 with ⟨h1, _⟩ | ⟨g2, cap2, cur2, h1, _, h2, _⟩
    · rw [h1] at e; cases e
    · rw [h1] at e
      have e2 : gs = g2 := by simpa [Value.ownBlock] using e
      rw [← e2, hx.st] at h2
      injection h2 with h2
      injection h2 with _ h3
      exact absurd h3 (by decide)
  exact (hg.block gs hx.lt hgsne).trans hx.st
theorem c1_grown {x y : World} {gs : Nat} {b : DB} {dur : List (List Nat)} {pend : List (Nat × List Nat)} {wr bud : Int} (hx : Disk x gs b dur pend wr bud) (hg : x.grownBy y b.pv.ownBlock) : y.cell? ⟨gs, 1, none⟩ = some b.pv ∧ y.frozen? ⟨gs, 1, none⟩ = false :=
  ⟨by rw [cell_of_row y gs 1 _ _ _ (st_grown hx hg)]; rfl, frozen_of_row y gs 1 _ _ (st_grown hx hg)⟩
theorem size_a (w : World) (o o2 : Obj) : ((w.alloc o).drew.alloc o2).heap.size = w.heap.size + 2 := by
  show ((w.alloc o).alloc o2).heap.size = _
  simp
theorem size_b (w : World) (o o2 : Obj) : ((w.alloc o).alloc o2).drew.heap.size = w.heap.size + 2 := by
  show ((w.alloc o).alloc o2).heap.size = _
  simp
/-- What the append and the store of the new slice leave. -/
theorem mid_of {w x y : World} {gs g cap n N : Nat} {b : DB} {dur : List (List Nat)} {pend : List (Nat × List Nat)} {q : Nat × List Nat} {wr bud : Int} (h : Disk w gs b dur pend wr bud) (hb : Below w.heap.size w x) (hg : x.grownBy y b.pv.ownBlock)
    (hown : y.ownsRow 0 97 513 (.slice (some ⟨g, 0, none⟩) N cap) N (wcells pend ++ wcell q)) (hN : N = n + 1) (hn : n = pend.length) :
    Mid (y.setCell ⟨gs, 1, none⟩ (.slice (some ⟨g, 0, none⟩) N cap)) gs { b with pv := .slice (some ⟨g, 0, none⟩) N cap } dur pend (pend ++ [q]) wr bud ∧ OnlyAt w (y.setCell ⟨gs, 1, none⟩ (.slice (some ⟨g, 0, none⟩) N cap)) (fun k => k = gs ∨ some k = b.pv.ownBlock) := by
  have hx := h.below hb
  have hy : ∀ k, k < x.heap.size → some k ≠ b.pv.ownBlock → y.heap[k]? = x.heap[k]? := hg.block
  have hgsne : some gs ≠ b.pv.ownBlock := by
    intro e
    rcases hx.pe.2 with ⟨h1, _⟩ | ⟨g2, cap2, cur2, h1, _, h2, _⟩
    · rw [h1] at e; cases e
    · rw [h1] at e
      have e2 : gs = g2 := by simpa [Value.ownBlock] using e
      rw [← e2, hx.st] at h2
      injection h2 with h2
      injection h2 with _ h3
      exact absurd h3 (by decide)
  have hst : y.heap[gs]? = some (.cells (stcells b dur.length wr bud) 95 (0, 0)) := (hy gs hx.lt hgsne).trans hx.st
  have hdu : y.ownsRow 0 92 512 (.slice (some ⟨b.gd, 0, none⟩) dur.length b.cd) dur.length (scells dur) := World.ownsRow.kept hx.du hg (own_apart hx.du hx.pe (by decide))
  have hla : y.ownsRow 0 3 1 (.slice (some ⟨b.gl, 0, none⟩) dur.length b.cl) dur.length (ints (lats dur.length pend)) := World.ownsRow.kept hx.la hg (own_apart hx.la hx.pe (by decide))
  have hk := setCell_others y gs 1 (.slice (some ⟨g, 0, none⟩) N cap)
  refine ⟨⟨?_, row_kept hdu hst (by decide) hk, ?_, row_kept hla hst (by decide) hk⟩, ?_⟩
  · rw [heap_setCell_same y gs 1 _ _ _ hst]
    rfl
  · have e : (pend ++ [q]).length = N := by rw [List.length_append, hN, hn]; rfl
    rw [e, wcells_snoc]
    exact row_kept hown hst (by decide) hk
  · refine ⟨hg.os.trans hb.os, hg.tape.trans hb.tape, hg.output.trans hb.output, ?_, fun k hk1 hk2 => ?_⟩
    · have := hg.size; have := hb.size; simp [World.setCell]; omega
    · have h1 : k ≠ gs := fun e => hk2 (.inl e)
      have h2 : some k ≠ b.pv.ownBlock := fun e => hk2 (.inr e)
      rw [hk k (Nat.lt_of_lt_of_le hk1 (Nat.le_trans hb.size hg.size)) h1, hy k (Nat.lt_of_lt_of_le hk1 hb.size) h2, hb.block k hk1]

theorem below_a (w : World) (o o2 : Obj) : Below w.heap.size w ((w.alloc o).drew.alloc o2) :=
  (((Below.refl _ _).alloc (Nat.le_refl _) o).alloc (by simp) o2 : Below w.heap.size w ((w.alloc o).alloc o2)) |> fun h => ⟨h.os, h.tape, h.output, h.size, h.block⟩
theorem below_b (w : World) (o o2 : Obj) : Below w.heap.size w ((w.alloc o).alloc o2).drew := (((Below.refl _ _).alloc (Nat.le_refl _) o).alloc (by simp) o2).drew
theorem pv_case {b : DB} {gg N cap B H : Nat} (h : b.pv.ownBlock = some gg ∨ gg = H) (hH : B ≤ H) : ((Value.slice (some ⟨gg, 0, none⟩) N cap).ownBlock = b.pv.ownBlock ∨ ∃ g, (Value.slice (some ⟨gg, 0, none⟩) N cap).ownBlock = some g ∧ B ≤ g) := by
  rcases h with h | h
  · exact .inl h.symm
  · exact .inr ⟨gg, rfl, by omega⟩
theorem ints_set (l : List Nat) (i n : Nat) : ints (l.set i n) = (ints l).set i (.int .i64 (n : Int)) := by unfold ints; rw [List.map_set]
/-- What the note of the write and the count leave. -/
theorem mid_end {w : World} {gs i : Nat} {b : DB} {dur : List (List Nat)} {pend : List (Nat × List Nat)} {q : Nat × List Nat} {wr bud : Int} (h : Mid w gs b dur pend (pend ++ [q]) wr bud) (hi : i = q.1)
    (sec : ∀ s ∈ dur, IsSec s) (wri : ∀ p ∈ pend ++ [q], p.1 < dur.length ∧ IsSec p.2) (few : 1 ≤ dur.length ∧ dur.length ≤ 4096) (many : (pend ++ [q]).length ≤ 1048576) :
    Disk ((w.setCell ⟨b.gl, i, none⟩ (.int .i64 ((pend.length + 1 : Nat) : Int))).setCell ⟨gs, 3, none⟩ (.int .i64 (wr + 1))) gs b dur (pend ++ [q]) (wr + 1) bud ∧
      OnlyAt w ((w.setCell ⟨b.gl, i, none⟩ (.int .i64 ((pend.length + 1 : Nat) : Int))).setCell ⟨gs, 3, none⟩ (.int .i64 (wr + 1))) (fun k => k = gs ∨ k = b.gl) := by
  have hla := (h.la.stored i (.int .i64 ((pend.length + 1 : Nat) : Int))).1
  have hgl : ∃ cur, w.heap[b.gl]? = some (.cells cur 3 (0, 0)) := by
    rcases h.la.2 with ⟨h1, _⟩ | ⟨g, cap, cur, h1, _, h2, _⟩
    · cases h1
    · injection h1 with h1
      injection h1 with h1
      injection h1 with h1
      exact ⟨cur, by rw [h1]; exact h2⟩
  obtain ⟨cur, hcur⟩ := hgl
  have hne : gs ≠ b.gl := by
    intro e
    have h1 := h.st
    rw [e, hcur] at h1
    injection h1 with h1
    injection h1 with _ h3
    exact absurd h3 (by decide)
  have k1 := setCell_others w b.gl i (.int .i64 ((pend.length + 1 : Nat) : Int))
  have hst : (w.setCell ⟨b.gl, i, none⟩ (.int .i64 ((pend.length + 1 : Nat) : Int))).heap[gs]? = some (.cells (stcells b dur.length wr bud) 95 (0, 0)) := by
    rw [heap_setCell_other w ⟨b.gl, i, none⟩ gs _ hne]
    exact h.st
  have k2 := setCell_others (w.setCell ⟨b.gl, i, none⟩ (.int .i64 ((pend.length + 1 : Nat) : Int))) gs 3 (.int .i64 (wr + 1))
  rw [← ints_set, hi, ← lats_snoc, ← hi] at hla
  refine ⟨⟨?_, row_kept (row_kept h.du hcur (by decide) k1) hst (by decide) k2, row_kept (row_kept h.pe hcur (by decide) k1) hst (by decide) k2, row_kept hla hst (by decide) k2, sec, wri, few, many⟩, ?_⟩
  · rw [heap_setCell_same _ gs 3 _ _ _ hst]
    rfl
  · refine (OnlyAt.setCell w b.gl i _ |>.mono fun k _ hk => .inr hk).trans ((OnlyAt.setCell _ gs 3 _).mono fun k _ hk => .inl hk)
set_option maxRecDepth 100000 in
set_option maxHeartbeats 2000000 in
theorem write_core {C0 : List Value} (i : Nat) (zv : ∀ w : World, (zeroValue 97).run Try.prog w = .ok (.agg C0.toArray) w) (hl0 : C0.length = 513) (hZ0 : ∀ v ∈ C0, v.oneCell' = true)
    {w : World} {gs : Nat} {b : DB} {dur : List (List Nat)} {pend : List (Nat × List Nat)} {wr bud : Int} (h : Disk w gs b dur pend wr bud) (hb : bud ≠ 0) (hb2 : -9223372036854775808 ≤ bud ∧ bud ≤ 9223372036854775807)
    (hwr : 0 ≤ wr ∧ wr ≤ 1048576) (hmany : pend.length < 1048576) (hi : i < dur.length) (A : Option Addr) (c : Nat) (p : List Nat) (hp : Bytes w w.heap.size (.slice A 512 c) p) (hsec : IsSec p) :
    Calls Try.prog 32 #[.pointer (some ⟨gs, 0, none⟩), .int .i64 (i : Int), .slice A 512 c] w fun e w' => e = .returned (.int .i64 0) ∧ ∃ b2, Disk w' gs b2 dur (pend ++ [(i, p)]) (wr + 1) (less bud) ∧
      b2.gd = b.gd ∧ b2.cd = b.cd ∧ b2.gl = b.gl ∧ b2.cl = b.cl ∧ (b2.pv.ownBlock = b.pv.ownBlock ∨ ∃ g, b2.pv.ownBlock = some g ∧ w.heap.size ≤ g) ∧ OnlyAt w w' (fun k => k = gs ∨ k = b.gl ∨ some k = b.pv.ownBlock) := by
  obtain ⟨C, hC⟩ : ∃ C, C = C0.set 0 (Value.int .i64 (i : Int)) := ⟨_, rfl⟩
  have hl1 : C.length = 513 := by rw [hC, List.length_set, hl0]
  have hZ1 : ∀ v ∈ C, v.oneCell' = true := by
    rw [hC]
    intro v hv
    rcases List.mem_or_eq_of_mem_set hv with h | h
    · exact hZ0 v h
    · rw [h]; rfl
  have htk : C.take 1 = [Value.int .i64 (i : Int)] := by
    rw [hC]
    match C0, hl0 with
    | x :: r, _ => rfl
  have HC := Lib.hid hC
  have hC0 : ¬ C0 = [] := fun e => by rw [e] at hl0; simp at hl0
  have HD := Lib.hid h
  have HP := Lib.hid hp
  have HB := Lib.hid hb
  have HB2 := Lib.hid hb2
  have hpl : (byt p).length = 512 := by rw [byt_length, hsec.1]
  have HWI : Hid ((Try.prog.info? 97).map (·.size) = some C.length) := by
    have h1 := wri_info
    rw [← hl1] at h1
    exact h1
  have HWS : Hid (C0.toArray.size = C.length) := by
    show C0.toArray.size = _
    rw [List.size_toArray, hl0, hl1]
  have HWO : Hid (∀ v ∈ C, v.oneCell' = true) := hZ1
  have HI1 : Hid ((Try.prog.info? 5).map (·.size) = some 1) := by
    show (Try.prog.info? 5).map (·.size) = some 1
    kernel_rfl
  obtain ⟨ad, hA⟩ : ∃ ad, A = some ad := by
    obtain ⟨⟨A1, c1, hv, hl, _⟩, _, _⟩ := hp
    injection hv with h1 h2 h3
    obtain ⟨ad, h4, _⟩ := hl 0 (.int .u8 ((p[0]'(by rw [hsec.1]; omega) : Nat) : Int)) (by rw [byt_at, List.getElem?_eq_getElem (by rw [hsec.1]; omega)]; rfl)
    exact ⟨ad, by rw [h1, h4]⟩
  subst hA
  have HPL : Hid ((byt p).length = Nat.min 512 512) := hpl
  have HPF : Hid (1 + (byt p).length ≤ C.length) := by
    show 1 + (byt p).length ≤ _
    omega
  have HPN : Hid (C.take 1 ++ (byt p ++ C.drop (1 + (byt p).length)) = wcell (i, p)) := by
    show C.take 1 ++ (byt p ++ C.drop (1 + (byt p).length)) = wcell (i, p)
    rw [List.drop_of_length_le (by omega), List.append_nil, htk]
    rfl
  have HPC : Hid (∀ (x : World), OnlyAt w x (fun k => k = gs) → ∀ j u, (byt p)[j]? = some u → (x.alloc (.cells C.toArray 97)).cell? (ad.add j) = some u) := by
    intro x hx j u hj
    obtain ⟨⟨A1, c1, hv, hl, _⟩, _, _⟩ := hp
    injection hv with h1 h2 h3
    rw [← h1] at hl
    obtain ⟨ad2, h4, hlt, hc⟩ := hl j u hj
    injection h4 with h4
    subst h4
    have hblk : ad.block ≠ gs := bytes_not_disk hl h hj
    have h5 : (x.alloc (.cells C.toArray 97)).heap[(ad.add j).block]? = w.heap[(ad.add j).block]? := by
      rw [addr_add_block]
      exact (Below.heap_alloc x _ _ (Nat.lt_of_lt_of_le hlt hx.size)).trans (hx.block _ hlt hblk)
    exact (World.cell?_of_block h5).trans hc
  clear h hp hb hb2 hpl hZ1 hl0 hl1 htk hZ0 hC
  go_enter Try.func32, Try.ntmps32
  go_wp2_with (first
    | (go_at_call 60; (with_reducible refine (has_yes HD.out i hi).mono ?_); rintro e w' ⟨rfl, rfl⟩)
    | (go_at_call 61; (with_reducible refine (spend_yes HD.out HB.out HB2.out).mono ?_); rintro e w1 ⟨rfl, hD1, hO1⟩)
    | (refine wpList_store_new rfl 97 (.tmp 7) (.tmp 21) rfl C0.toArray C ?_ ?_ 97 HWI.out HWS.out HWO.out ?_; rfl; (rw [HC.out]; rfl))
    | (refine wpList_copy_new rfl _ _ 43 43 rfl 5 Try.underlying43 HI1.out 1 512 512 ad 512 c rfl rfl C 97 (byt p) HPL.out (HPC.out w1 hO1) HPF.out (one_byt p) (wcell (i, p)) HPN.out ?_))
  clear zv hC0
  have HO1 := Lib.hid hO1
  have hgs1 : gs < w1.heap.size := hD1.lt
  have c1 := hD1.c1
  have hD7 : Disk (w1.alloc (.cells (wcell (i, p)).toArray 97)) gs b dur pend wr (less bud) := hD1.below ((Below.refl _ _).alloc (Nat.le_refl _) _)
  have hR := range_new w1 (wcell (i, p)) 97
  have hpvlt : ∀ k, b.pv.ownBlock = some k → k < w1.heap.size := fun k hk => (World.ownsRow.lt hD1.pe k hk).2
  obtain ⟨i0, hi0, hz0, hz1, hz2⟩ := info_parts infoWri
  have HI := Lib.hid hi0
  have H0 := Lib.hid hz0
  have H1 := Lib.hid hz1
  have H2 := Lib.hid hz2
  have HD1 := Lib.hid hD1
  have hwl := wcell_length (i, p) hsec
  have HWL := Lib.hid hwl
  have HR := Lib.hid hR
  have HPV := Lib.hid hpvlt
  have hinfo : (Try.prog.info? 97).map (·.size) = some (wcell (i, p)).length := by rw [hwl]; kernel_rfl
  have hund := Try.underlying97
  have hbs : ∀ x : World, (Instr.buildSlice 93 1 #[(0, .agg (wcell (i, p)).toArray)]).run Try.prog x = .ok (.slice (some ⟨x.heap.size, 0, none⟩) 1 1) (x.alloc (.cells (wcell (i, p)).toArray 97)) := fun x =>
    run_buildSlice_one x 93 97 i0 _ _ Try.underlying93 hi0 hz0 (by rw [hz1, hwl]) (by rw [hwl]; omega) (by rw [hwl]; omega)
  clear hi0 hz0 hz1 hz2 hD1 hO1 hD7 hwl hR hpvlt HWI HWS HWO HI1 HPL HPF HPN HPC HC HB HB2
  simp only [Act.put, List.setIfInBounds_toArray, List.set_cons_zero, List.set_cons_succ]
  go_cut [7] (fun s7 wx => ∃ b2 : DB, Mid wx gs b2 dur pend (pend ++ [(i, p)]) wr (less bud) ∧ b2.gd = b.gd ∧ b2.cd = b.cd ∧ b2.gl = b.gl ∧ b2.cl = b.cl ∧ (b2.pv.ownBlock = b.pv.ownBlock ∨ ∃ g, b2.pv.ownBlock = some g ∧ w1.heap.size ≤ g) ∧ OnlyAt w1 wx (fun k => k = gs ∨ some k = b.pv.ownBlock))
  case first =>
--R11
    refine wp_region_noPanic ?_
    refine wp_region_held_drew (S := (fun w' => w'.rangeAt w1.heap.size 0 (wcell (i, p)))) (by kernel_rfl) HR.out (fun hHeld => ?_)
    refine take_at (i := 0) (v := ?_) (some 26) rfl rfl (by kernel_rfl) (by kernel_rfl) (by kernel_rfl) (fun _ _ _ h => h) (Or.inl ⟨by rfl, ?_⟩) (by assumption) ?_
    rotate_left
    · intro w hSw
      first | (go_simp; done) | (go_simp; with_reducible rfl)
    try simp only [Act.put, List.setIfInBounds_toArray, List.set_cons_zero, List.set_cons_succ]
    refine take_at (i := 1) (v := ?_) (some 27) rfl rfl (by kernel_rfl) (by kernel_rfl) (by kernel_rfl) (fun _ _ _ h => h) (Or.inl ⟨by rfl, ?_⟩) (by assumption) ?_
    rotate_left
    · intro w hSw
      first | (go_simp; done) | (go_simp; with_reducible rfl)
    try simp only [Act.put, List.setIfInBounds_toArray, List.set_cons_zero, List.set_cons_succ]
    refine take_at (i := 2) (v := ?_) (some 28) rfl rfl (by kernel_rfl) (by kernel_rfl) (by kernel_rfl) (fun _ _ _ h => h) (Or.inl ⟨by rfl, ?_⟩) (by assumption) ?_
    rotate_left
    · intro w hSw
      first | (go_simp; done) | (go_simp; with_reducible rfl)
    try simp only [Act.put, List.setIfInBounds_toArray, List.set_cons_zero, List.set_cons_succ]
    refine take_at (i := 3) (v := ?_) (some 29) rfl rfl (by kernel_rfl) (by kernel_rfl) (by kernel_rfl) (fun _ _ _ h => h) (Or.inl ⟨by rfl, ?_⟩) (by assumption) ?_
    rotate_left
    · intro w hSw
      first | (go_simp; done) | (go_simp; with_reducible rfl)
    try simp only [Act.put, List.setIfInBounds_toArray, List.set_cons_zero, List.set_cons_succ]
    refine take_at (i := 5) (some 31) rfl rfl (by kernel_rfl) (by kernel_rfl) (by kernel_rfl) (fun _ _ _ h => h) (yieldsIf_load_mid (by rfl) _ _ rfl _ _ rfl _ _ (fun _ hw => hw) hund rfl hinfo) (by assumption) ?_
    try simp only [Act.put, List.setIfInBounds_toArray, List.set_cons_zero, List.set_cons_succ]
    refine wpAnyH_ready (rs := [4, 6]) (by kernel_rfl) (by simp) ?_
    refine (AllReadyH.cons rfl (fun K hK => ?_) (AllReadyH.cons rfl (fun K hK => ?_) AllReadyH.nil))
    · go_simp
      refine hK.out _ _ ?_ (fun hHeld2 => ?_)
      · exact hHeld
      clear hK K hHeld
      have hHeld := hHeld2
      clear hHeld2
      try simp only [Act.put, List.setIfInBounds_toArray, List.set_cons_zero, List.set_cons_succ]
      refine wpAnyH_ready (rs := [6]) (by kernel_rfl) (by simp) ?_
      refine AllReadyH.cons rfl (fun K hK => ?_) AllReadyH.nil
      refine step_buildSlice_one rfl 93 _ rfl (wcell (i, p)) _ rfl (hbs _) ?_
      refine hK.out _ _ ?_ (fun hHeld2 => ?_)
      · exact (range_below hHeld ((Below.refl _ _).alloc (Nat.le_refl _) _) (by simp [World.drew]))
      clear hK K hHeld
      have hHeld := hHeld2
      clear hHeld2
      try simp only [Act.put, List.setIfInBounds_toArray, List.set_cons_zero, List.set_cons_succ]
      refine wpAnyH_ready (rs := [7]) (by kernel_rfl) (by simp) ?_
      refine AllReadyH.cons rfl (fun K hK => ?_) AllReadyH.nil
      refine step_append_lies _ (by rfl) _ _ _ (by rfl) 0 97 i0 _ 513 520 Try.underlying93 HI.out H0.out H1.out H2.out (by rfl) (by omega) b.pv pend.length (wcells pend) (by rfl) (HD1.out.below ((Below.refl _ _).alloc (Nat.le_refl _) _) |>.drew |>.below ((Below.refl _ _).alloc (Nat.le_refl _) _)).pe _ 1 1 (wcell (i, p)) (by rfl) (by rw [HWL.out]) (fun j u hj => cell_of_new hj) (wcell_one _) (by omega) (by unfold maxLen; omega) (by omega) (Nat.zero_le _) _ rfl ?_
      intro gg cap w5 hown5 hg5 hat5 hlt5
      obtain ⟨hc5, hf5⟩ := c1_grown (HD1.out.below ((Below.refl _ _).alloc (Nat.le_refl _) _) |>.drew |>.below ((Below.refl _ _).alloc (Nat.le_refl _) _)) hg5
      refine hK.out _ _ ?_ (fun hHeld2 => ?_)
      · exact (range_grown hHeld hg5 (fun hk => absurd (HPV.out _ hk.symm) (Nat.lt_irrefl _)) (by rw [size_a]; omega))
      clear hK K hHeld
      have hHeld := hHeld2
      clear hHeld2
      try simp only [Act.put, List.setIfInBounds_toArray, List.set_cons_zero, List.set_cons_succ]
      refine take_at (i := 8) (v := ?_) (some 34) rfl rfl (by kernel_rfl) (by kernel_rfl) (by kernel_rfl) (fun _ _ _ h => h) (Or.inl ⟨by rfl, ?_⟩) (by assumption) ?_
      rotate_left
      · intro w hSw
        first | (go_simp; done) | (go_simp; with_reducible rfl)
      try simp only [Act.put, List.setIfInBounds_toArray, List.set_cons_zero, List.set_cons_succ]
      refine take_at (i := 9) (v := ?_) (some 35) rfl rfl (by kernel_rfl) (by kernel_rfl) (by kernel_rfl) (fun _ _ _ h => h) (Or.inl ⟨by rfl, ?_⟩) (by assumption) ?_
      rotate_left
      · intro w hSw
        first | (go_simp; done) | (go_simp; with_reducible rfl)
      try simp only [Act.put, List.setIfInBounds_toArray, List.set_cons_zero, List.set_cons_succ]
      refine wpAnyH_ready (rs := [10]) (by kernel_rfl) (by simp) ?_
      refine AllReadyH.cons rfl (fun K hK => ?_) AllReadyH.nil
      go_simp
      refine hK.out _ _ ?_ (fun hHeld2 => ?_)
      · exact (range_set hHeld (by omega))
      clear hK K hHeld
      have hHeld := hHeld2
      clear hHeld2
      try simp only [Act.put, List.setIfInBounds_toArray, List.set_cons_zero, List.set_cons_succ]
      refine wpAnyH_done (by kernel_rfl) ?_ _
      refine NoPanic.normal ?_
      go_wp2_with fail
      go_meet
      obtain ⟨hm, ho⟩ := mid_of HD1.out (by first | exact below_a _ _ _ | exact below_b _ _ _) hg5 hown5 rfl rfl
      exact ⟨_, hm, rfl, rfl, rfl, rfl, pv_case hat5 (by first | (rw [size_a]; omega) | (rw [size_b]; omega)), ho⟩
    · refine step_buildSlice_one rfl 93 _ rfl (wcell (i, p)) _ rfl (hbs _) ?_
      refine hK.out _ _ ?_ (fun hHeld2 => ?_)
      · exact (range_below hHeld ((Below.refl _ _).alloc (Nat.le_refl _) _) (by simp [World.drew]))
      clear hK K hHeld
      have hHeld := hHeld2
      clear hHeld2
      try simp only [Act.put, List.setIfInBounds_toArray, List.set_cons_zero, List.set_cons_succ]
      refine wpAnyH_ready (rs := [4]) (by kernel_rfl) (by simp) ?_
      refine AllReadyH.cons rfl (fun K hK => ?_) AllReadyH.nil
      go_simp
      refine hK.out _ _ ?_ (fun hHeld2 => ?_)
      · exact hHeld
      clear hK K hHeld
      have hHeld := hHeld2
      clear hHeld2
      try simp only [Act.put, List.setIfInBounds_toArray, List.set_cons_zero, List.set_cons_succ]
      refine wpAnyH_ready (rs := [7]) (by kernel_rfl) (by simp) ?_
      refine AllReadyH.cons rfl (fun K hK => ?_) AllReadyH.nil
      refine step_append_lies _ (by rfl) _ _ _ (by rfl) 0 97 i0 _ 513 520 Try.underlying93 HI.out H0.out H1.out H2.out (by rfl) (by omega) b.pv pend.length (wcells pend) (by rfl) (HD1.out.below ((Below.refl _ _).alloc (Nat.le_refl _) _) |>.below ((Below.refl _ _).alloc (Nat.le_refl _) _) |>.drew).pe _ 1 1 (wcell (i, p)) (by rfl) (by rw [HWL.out]) (fun j u hj => cell_of_new_drew (by simp) hj) (wcell_one _) (by omega) (by unfold maxLen; omega) (by omega) (Nat.zero_le _) _ rfl ?_
      intro gg cap w5 hown5 hg5 hat5 hlt5
      obtain ⟨hc5, hf5⟩ := c1_grown (HD1.out.below ((Below.refl _ _).alloc (Nat.le_refl _) _) |>.below ((Below.refl _ _).alloc (Nat.le_refl _) _) |>.drew) hg5
      refine hK.out _ _ ?_ (fun hHeld2 => ?_)
      · exact (range_grown hHeld hg5 (fun hk => absurd (HPV.out _ hk.symm) (Nat.lt_irrefl _)) (by rw [size_b]; omega))
      clear hK K hHeld
      have hHeld := hHeld2
      clear hHeld2
      try simp only [Act.put, List.setIfInBounds_toArray, List.set_cons_zero, List.set_cons_succ]
      refine take_at (i := 8) (v := ?_) (some 34) rfl rfl (by kernel_rfl) (by kernel_rfl) (by kernel_rfl) (fun _ _ _ h => h) (Or.inl ⟨by rfl, ?_⟩) (by assumption) ?_
      rotate_left
      · intro w hSw
        first | (go_simp; done) | (go_simp; with_reducible rfl)
      try simp only [Act.put, List.setIfInBounds_toArray, List.set_cons_zero, List.set_cons_succ]
      refine take_at (i := 9) (v := ?_) (some 35) rfl rfl (by kernel_rfl) (by kernel_rfl) (by kernel_rfl) (fun _ _ _ h => h) (Or.inl ⟨by rfl, ?_⟩) (by assumption) ?_
      rotate_left
      · intro w hSw
        first | (go_simp; done) | (go_simp; with_reducible rfl)
      try simp only [Act.put, List.setIfInBounds_toArray, List.set_cons_zero, List.set_cons_succ]
      refine wpAnyH_ready (rs := [10]) (by kernel_rfl) (by simp) ?_
      refine AllReadyH.cons rfl (fun K hK => ?_) AllReadyH.nil
      go_simp
      refine hK.out _ _ ?_ (fun hHeld2 => ?_)
      · exact (range_set hHeld (by omega))
      clear hK K hHeld
      have hHeld := hHeld2
      clear hHeld2
      try simp only [Act.put, List.setIfInBounds_toArray, List.set_cons_zero, List.set_cons_succ]
      refine wpAnyH_done (by kernel_rfl) ?_ _
      refine NoPanic.normal ?_
      go_wp2_with fail
      go_meet
      obtain ⟨hm, ho⟩ := mid_of HD1.out (by first | exact below_a _ _ _ | exact below_b _ _ _) hg5 hown5 rfl rfl
      exact ⟨_, hm, rfl, rfl, rfl, rfl, pv_case hat5 (by first | (rw [size_a]; omega) | (rw [size_b]; omega)), ho⟩
--R11E
  case rest =>
    obtain ⟨b2, hMid, e1, e2, e3, e4, hpv, hO2⟩ := hcut
    obtain ⟨gp, cp, hpv2⟩ : ∃ gp cp, b2.pv = .slice (some ⟨gp, 0, none⟩) (pend.length + 1) cp := by
      rcases hMid.pe.2 with ⟨_, h0⟩ | ⟨g, cap, cur, h1, _⟩
      · simp at h0
      · exact ⟨g, cap, by rw [h1, List.length_append]; rfl⟩
    have d1 : wc.cell? ⟨gs, 1, none⟩ = some (.slice (some ⟨gp, 0, none⟩) (pend.length + 1) cp) := by rw [cell_of_row wc gs 1 _ _ _ hMid.st]; show some b2.pv = _; rw [hpv2]
    have d2 : wc.cell? ⟨gs, 2, none⟩ = some (.slice (some ⟨b2.gl, 0, none⟩) dur.length b2.cl) := by rw [cell_of_row wc gs 2 _ _ _ hMid.st]; rfl
    have d3 : wc.cell? ⟨gs, 3, none⟩ = some (.int .i64 wr) := by rw [cell_of_row wc gs 3 _ _ _ hMid.st]; rfl
    have f3 : wc.frozen? ⟨gs, 3, none⟩ = false := frozen_of_row wc gs 3 _ _ hMid.st
    have hl0 := lats_length dur.length pend
    obtain ⟨lv, d4⟩ : ∃ lv : Nat, wc.cell? ⟨b2.gl, i, none⟩ = some (.int .i64 (lv : Int)) := by
      refine ⟨(lats dur.length pend)[i]'(by rw [hl0]; exact hi), ?_⟩
      rw [hMid.la.cellAt i (by omega)]
      unfold ints
      rw [List.getElem?_map, List.getElem?_eq_getElem (by rw [hl0]; exact hi)]
      rfl
    have f4 : wc.frozen? ⟨b2.gl, i, none⟩ = false := hMid.la.frozenAt i
    have hi1 : (i : Int) < (dur.length : Int) := by omega
    have hi2 : (0 : Int) ≤ (i : Int) := by omega
    have hne : b2.gl ≠ gs := by
      intro e
      rcases hMid.la.2 with ⟨h1, _⟩ | ⟨g, cap, cur, h1, _, h2, _⟩
      · cases h1
      · injection h1 with h1
        injection h1 with h1
        injection h1 with h1
        rw [← h1, e, hMid.st] at h2
        injection h2 with h2
        injection h2 with _ h3
        exact absurd h3 (by decide)
    have HM := Lib.hid hMid
    have HE := Lib.hid (And.intro e1 (And.intro e2 (And.intro e3 e4)))
    have HPV2 := Lib.hid hpv
    have HO2 := Lib.hid hO2
    obtain ⟨wr0, wr1⟩ := hwr
    clear hMid e1 e2 e3 e4 hpv hO2 hpv2 hl0 hbs hinfo hund c1
    go_wp2
    go_region
    all_goals go_wp2
    all_goals
      go_ret
      obtain ⟨hEnd, ho3⟩ := mid_end HM.out (i := i) rfl HD1.out.sec (fun q hq => by
        rcases List.mem_append.1 hq with h | h
        · exact HD1.out.wri q h
        · rw [List.mem_singleton.1 h]; exact ⟨hi, hsec⟩) HD1.out.few (by rw [List.length_append]; simp; omega)
      have e : ((pend.length + 1 : Nat) : Int) = (pend.length : Int) + 1 := by omega
      rw [e] at hEnd ho3
      obtain ⟨e1, e2, e3, e4⟩ := HE.out
      refine ⟨rfl, b2, hEnd.drew, e1, e2, e3, e4, ?_, ?_⟩
      · rcases HPV2.out with h | ⟨g, h1, h2⟩
        · exact .inl h
        · exact .inr ⟨g, h1, Nat.le_trans HO1.out.size h2⟩
      · refine OnlyAt.drew (((HO1.out.mono fun k _ hk => .inl hk).trans (HO2.out.mono fun k _ hk => ?_)).trans (ho3.mono fun k _ hk => ?_))
        · rcases hk with h | h
          · exact .inl h
          · exact .inr (.inr h)
        · rcases hk with h | h
          · exact .inl h
          · exact .inr (.inl (by rw [h, e3]))

theorem write_good {w : World} {gs : Nat} {b : DB} {dur : List (List Nat)} {pend : List (Nat × List Nat)} {wr bud : Int} (h : Disk w gs b dur pend wr bud) (hb : bud ≠ 0) (hb2 : -9223372036854775808 ≤ bud ∧ bud ≤ 9223372036854775807)
    (hwr : 0 ≤ wr ∧ wr ≤ 1048576) (hmany : pend.length < 1048576) (i : Nat) (hi : i < dur.length) (A : Option Addr) (c : Nat) (p : List Nat) (hp : Bytes w w.heap.size (.slice A 512 c) p) (hsec : IsSec p) :
    Calls Try.prog 32 #[.pointer (some ⟨gs, 0, none⟩), .int .i64 (i : Int), .slice A 512 c] w fun e w' => e = .returned (.int .i64 0) ∧ ∃ b2, Disk w' gs b2 dur (pend ++ [(i, p)]) (wr + 1) (less bud) ∧
      b2.gd = b.gd ∧ b2.cd = b.cd ∧ b2.gl = b.gl ∧ b2.cl = b.cl ∧ (b2.pv.ownBlock = b.pv.ownBlock ∨ ∃ g, b2.pv.ownBlock = some g ∧ w.heap.size ≤ g) ∧ OnlyAt w w' (fun k => k = gs ∨ k = b.gl ∨ some k = b.pv.ownBlock) :=
  write_core i zero_wri (by rw [List.length_cons, byt_length, noughts_length]) (fun v hv => by
    rcases List.mem_cons.1 hv with rfl | hv
    · rfl
    · exact one_byt _ v hv) h hb hb2 hwr hmany hi A c p hp hsec
end Go.Proofs.Ytalpippeelomjaa
