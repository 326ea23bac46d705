/- Words that the laws on disks share: slices of bytes that the call itself makes; what a walk keeps. -/
import Derived.Test.YtmhhcblgeellnaaSame
import Derived.Test.YtmhhcblgeellnaaJoin
import Derived.Deep.RegionHeld3
import Derived.Deep.MidRow
import Derived.Deep.WholeRow
import Derived.OpenShut
namespace Go.Proofs.Ytmhhcblgeellnaa
open Go.RowKit

/-- A slice of bytes that came in reads as bytes. -/
theorem bytes_of_row {w : World} {a : Option Addr} {len cap : Nat} {zs : List Int}
    (h : (a = none ∧ len = 0 ∧ cap = 0 ∧ zs = []) ∨ ∃ x, a = some x ∧ len ≤ cap ∧ cap ≤ maxLen ∧ zs.length = cap ∧ (∀ i, i < zs.length → w.cell? (x.add i) = some (.int .u8 (zs.getD i 0))) ∧ ∀ n ∈ zs, (Lit.int .u8 n).wf = true) :
    ∃ l, Bytes w w.heap.size (.slice a len cap) l ∧ len = l.length := by
  rcases h with ⟨rfl, rfl, rfl, rfl⟩ | ⟨x, rfl, hl, hm, hz, hc, hw⟩
  · exact ⟨[], Bytes.none_ _ _, rfl⟩
  · have hlen : ((zs.take len).map Int.toNat).length = len := by rw [List.length_map, List.length_take]; omega
    refine ⟨(zs.take len).map Int.toNat, ⟨⟨some x, cap, by rw [hlen], ?_, by rw [hlen]; exact hl, fun e => by cases e⟩, ?_, by rw [hlen]; omega⟩, hlen.symm⟩
    · intro j v hj
      have hjl : j < len := by
        rcases Nat.lt_or_ge j len with h1 | h1
        · exact h1
        · rw [List.getElem?_eq_none (by rw [byt_length, hlen]; exact h1)] at hj; cases hj
      have hcell := hc j (by omega)
      have hb := World.block_lt_of_cell? w _ hcell
      rw [addr_add_block] at hb
      refine ⟨x, rfl, hb, ?_⟩
      rw [hcell]
      rw [byt_at, List.getElem?_map, List.getElem?_take, if_pos hjl, List.getElem?_eq_getElem (by omega)] at hj
      simp only [Option.map_some, Option.some.injEq] at hj
      rw [← hj]
      have hz0 : (zs.getD j 0) = zs[j]'(by omega) := by rw [List.getD_eq_getElem?_getD, List.getElem?_eq_getElem (by omega)]; rfl
      have hwf := bounds_u8 (hw _ (List.getElem_mem (by omega : j < zs.length)))
      rw [hz0]
      congr 2
      omega
    · intro b hb
      obtain ⟨n, hn, rfl⟩ := List.mem_map.1 hb
      have hwf := bounds_u8 (hw n (List.mem_of_mem_take hn))
      omega

/-- The slice with these three parts owns, in blocks from base on, just the bytes l. -/
structure Mine (w : World) (base : Nat) (A : Option Addr) (m c : Nat) (l : List Nat) : Prop where
  own : w.ownsRow base 5 1 (.slice A m c) m (byt l)
  len : m = l.length
  small : ∀ b ∈ l, b < 256
theorem Mine.of_own {w : World} {base : Nat} {v : Value} {l : List Nat} (h : Own w base v l) (hs : ∀ b ∈ l, b < 256) : ∃ A m c, v = .slice A m c ∧ Mine w base A m c l := by
  obtain ⟨A, c, rfl, _, _, _, ho⟩ := h.form
  exact ⟨A, _, c, rfl, ho, rfl, hs⟩
section
variable {w w' : World} {base m c B : Nat} {A : Option Addr} {l : List Nat}
theorem Mine.bytes (h : Mine w base A m c l) : Bytes w w.heap.size (.slice A m c) l := by
  have h1 := h.own
  rw [h.len] at h1 ⊢
  exact Own.bytes h1 h.small
theorem ownsRow_below {w w' : World} {base n size : Nat} {t : TypeId} {v : Value} {xs : List Value} (h : w.ownsRow base t size v n xs) (hb : Below w.heap.size w w') : w'.ownsRow base t size v n xs := by
  obtain ⟨hl, hv⟩ := id h
  refine ⟨hl, ?_⟩
  rcases hv with hv | ⟨g, cap, cur, rfl, h1, h2, h3⟩
  · exact .inl hv
  · refine .inr ⟨g, cap, cur, rfl, h1, ?_, h3⟩
    rw [hb.block g ?_]
    · exact h2
    · rcases Nat.lt_or_ge g w.heap.size with hlt | hge
      · exact hlt
      · rw [Array.getElem?_eq_none hge] at h2; cases h2
theorem Mine.below (h : Mine w base A m c l) (hb : Below w.heap.size w w') : Mine w' base A m c l := ⟨ownsRow_below h.own hb, h.len, h.small⟩
theorem Mine.at_ (h : Mine w base A m c l) {k : Nat} (hk : k < m) : ∃ g b, A = some ⟨g, 0, none⟩ ∧ base ≤ g ∧ l[k]? = some b ∧ b < 256 ∧ w.cell? ⟨g, k, none⟩ = some (.int .u8 (b : Int)) ∧ w.frozen? ⟨g, k, none⟩ = false := by
  obtain ⟨hl, ⟨_, h0⟩ | ⟨g, cap, cur, hv, h1, h2, h3⟩⟩ := id h.own
  · omega
  · have hA : A = some ⟨g, 0, none⟩ := by injection hv
    subst hA
    have hlk : k < l.length := by rw [← h.len]; exact hk
    have hb := List.getElem?_eq_getElem hlk
    refine ⟨g, l[k], rfl, h1, hb, h.small _ (List.getElem_mem hlk), ?_, frozen_of_row w g k cur _ h2⟩
    rw [h.own.cellAt k (by omega), byt_at, hb]
    rfl
end
theorem Bytes.cap {w : World} {B m c : Nat} {A : Option Addr} {q : List Nat} (h : Bytes w B (.slice A m c) q) : m ≤ c := by
  obtain ⟨⟨A1, c1, hv, _, hc, _⟩, _, _⟩ := h
  injection hv with h1 h2 h3
  omega
theorem small_take {l : List Nat} (h : ∀ b ∈ l, b < 256) (k : Nat) : ∀ b ∈ l.take k, b < 256 := fun b hb => h b (List.mem_of_mem_take hb)
theorem cut_mine (w : World) (v : Value) (l : List Nat) (most : Nat) (m : Int) (hm : m = (most : Int)) (hp : Bytes w w.heap.size v l) (hmost : most ≤ 1048576) :
    Calls Try.prog 34 #[v, .int .i64 m] w fun e w' => ∃ A n c, e = .returned (.slice A n c) ∧ Mine w' w.heap.size A n c (l.take most) ∧ Below w.heap.size w w' :=
  (cut_at w v l most m hm hp hmost).mono fun e w' ⟨u, he, ho, hb⟩ => by
    obtain ⟨A, n, c, rfl, hM⟩ := Mine.of_own ho (small_take hp.small most)
    exact ⟨A, n, c, he, hM, hb⟩
theorem join_mine (w : World) (v : Value) (ls : List (List Nat)) (hp : Parts w w.heap.size v ls) (hs : ∀ b ∈ ls.flatten, b < 256) (htot : ls.flatten.length ≤ 1048576) :
    Calls Try.prog 35 #[v] w fun e w' => ∃ A n c, e = .returned (.slice A n c) ∧ Mine w' w.heap.size A n c ls.flatten ∧ Below w.heap.size w w' :=
  (join_any w v ls hp htot).mono fun e w' ⟨u, he, ho, hb⟩ => by
    obtain ⟨A, n, c, rfl, hM⟩ := Mine.of_own ho hs
    exact ⟨A, n, c, he, hM, hb⟩
/-- The lesser of two, behind a name. -/
def lesser (x y : Nat) : Nat := if x ≤ y then x else y
theorem lesser_le (x y : Nat) : lesser x y ≤ y := by unfold lesser; split <;> omega
theorem ite_lesser (x y : Nat) : (if (y : Int) < (x : Int) then (y : Int) else (x : Int)) = ((lesser x y : Nat) : Int) := by
  unfold lesser
  by_cases h : x ≤ y
  · rw [if_pos h, if_neg (by omega)]
  · rw [if_neg h, if_pos (by omega)]
theorem run_lesser (x y : Nat) (w : World) : (Builtin.min_ #[3, 3] 3 #[.int .i64 (x : Int), .int .i64 (y : Int)]).run Try.prog w = .ok (.int .i64 ((lesser x y : Nat) : Int)) w := by
  rw [← ite_lesser]
  go_simp
theorem new_drew (w : World) (o : Obj) (g : Nat) (hg : g = w.heap.size) : (w.alloc o).drew.heap[g]? = some o := by
  rw [hg]
  exact Go.heap_alloc_new w o
/-- A step of a drawn region, taken first; the slot that it writes is written out. -/
theorem take_at {P : Program} {ops : Array Oper} {Q : Exit → Act → World → Prop} {md : Region.Mode} {S : World → Prop} {i : Nat} {oi : Oper} {v : Value} {fuel : Nat} {listed : Array Bool} {a : Act} {w : World} (d : Option Tmp)
    (hi : ops[i]? = some oi) (hd : oi.dst = d) (hs : Region.noSelect ops = true) (hf : Region.free md ops listed i = true) (hr : (Region.ready md ops listed).contains i = true)
    (hQ : ∀ c a w, Q (.panic c) (a.put d v) w → Q (.panic c) a w) (hy : YieldsIf P ops S oi v a) (hS : S w)
    (h : wpAnyH P md ops Q S fuel (listed.setIfInBounds i true) (a.put d v) w) : wpAnyH P md ops Q S (fuel + 1) listed a w := by
  subst hd
  exact wpAnyH_take hi hs hf hr hQ hy hS h
/-- The world behind a region, under a name of its own. -/
theorem gen_world {R : World → Prop} {G : World → Prop} {x : World} (h : R x) (k : ∀ X, R X → G X) : G x := k x h
/-- append(v, p...), v the call's own, p whatever slice of bytes (nil too). -/
theorem wpList_append_bytes {P : Program} {w : World} {ops : Array Oper} {rest : List Oper} {o : Oper} {a : Act} {Q : Exit → Act → World → Prop} (hgd : o.guard = none) (s x : Operand) (t : TypeId)
    (ho : o.op = .call { callee := .builtin .append, args := #[s, x], argTypes := #[t, t] })
    (base : Nat) (e : TypeId) (i : TypeInfo) (z : Value) (ht : P.underlying t = some (.slice e)) (hi : P.info? e = some i) (hz : i.zero = some z)
    (hsize : i.size = 1) (hby : i.bytes = 1) (hzs : z.cells.size = 1)
    (v : Value) (N : Nat) (xs : List Value) (hs : a.eval s = v) (hown : w.ownsRow base e 1 v N xs)
    (A : Option Addr) (n c B : Nat) (l : List Nat) (hx : a.eval x = .slice A n c) (hb : Bytes w B (.slice A n c) l)
    (hmax : N + n ≤ 140737488355328) (hbase : base ≤ w.heap.size)
    (h : ∀ v' w', w'.ownsRow base e 1 v' (N + n) (xs ++ byt l) → w.grownBy w' v.ownBlock → wpList P ops Q rest (a.put o.dst v') w') : wpList P ops Q (o :: rest) a w := by
  obtain ⟨⟨A1, c1, hv, hl, hc, hn⟩, _, _⟩ := hb
  injection hv with h1 h2 h3
  subst h1 h2 h3
  rcases A with _ | ad
  · have hl0 : l = [] := by
      have h1 := hl.empty
      rw [← List.length_eq_zero_iff, ← byt_length, h1]
      rfl
    subst hl0
    have hc0 := hn rfl
    subst hc0
    exact wpList_append_own_none hgd s x t ho base e i 1 ht hi v N xs hs hown hx (h v w (by simpa [byt] using hown) (World.grownBy.refl w _))
  · exact wpList_append_own w hgd s x t ho base e i z 1 1 ht hi hz hsize hby hzs (by decide) v N xs hs hown ad _ c (byt l) hx (by rw [byt_length]; omega) hl.cells (one_byt l) (by unfold maxLen; omega) (by omega) hbase
      (fun v' w' h1 h2 _ => h v' w' h1 h2)
theorem lies_block {w : World} {B g : Nat} {cs : Array Value} {t : TypeId} {fr : Nat × Nat} (hb : w.heap[g]? = some (.cells cs t fr)) (hB : g < B) : Lies w B (some ⟨g, 0, none⟩) cs.toList := fun j v hj => by
  refine ⟨⟨g, 0, none⟩, rfl, hB, ?_⟩
  have h1 : (⟨g, 0, none⟩ : Addr).add j = ⟨g, j, none⟩ := by
    unfold Addr.add
    split
    · simp_all
    · simp
  rw [h1, cell_of_row w g j cs t fr hb]
  simpa using hj

/-- The slice value that a block known whole makes. -/
theorem bytes_block {w : World} {B g : Nat} {l : List Nat} {n c : Nat} {fr : Nat × Nat} (hb : w.heap[g]? = some (.cells (byt l).toArray 5 fr)) (hB : g < B) (hn : n = l.length) (hc : n ≤ c) (hs : ∀ b ∈ l, b < 256) (hl : l.length ≤ maxLen) :
    Bytes w B (.slice (some ⟨g, 0, none⟩) n c) l := by
  subst hn
  have h := lies_block (B := B) hb hB
  simp only [] at h
  exact ⟨⟨_, c, rfl, h, hc, fun h => by cases h⟩, hs, hl⟩

/-- A list of slices in a block known whole. -/
theorem parts_block {w : World} {B g : Nat} {vs : Array Value} {t : TypeId} {ls : List (List Nat)} {n c : Nat} (hb : w.heap[g]? = some (.cells vs t (0, 0))) (hB : g < B) (hn : n = ls.length) (hv : vs.size = ls.length)
    (hall : ∀ (j : Nat) (u : Value) (l : List Nat), vs[j]? = some u → ls[j]? = some l → Bytes w B u l) (hl : ls.length ≤ maxLen) :
    Parts w B (.slice (some ⟨g, 0, none⟩) n c) ls := by
  subst hn
  exact ⟨⟨_, c, vs.toList, rfl, by simpa using hv, lies_block hb hB, fun j u l h1 h2 => hall j u l (by simpa using h1) h2⟩, hl⟩

/-- Two slices behind one another, joined. -/
theorem parts_two {y : World} {v u : Value} {l1 l2 : List Nat} {B gx : Nat} (hy : y.heap[gx]? = some (.cells #[v, u] 30 (0, 0))) (h : Bytes y B v l1) (h2 : Bytes y B u l2) (hB : B ≤ y.heap.size) :
    Parts y y.heap.size (.slice (some ⟨gx, 0, none⟩) 2 2) [l1, l2] := by
  refine parts_block hy ?_ rfl rfl ?_ (by unfold maxLen; simp)
  · rcases Nat.lt_or_ge gx y.heap.size with h1 | h1
    · exact h1
    · rw [Array.getElem?_eq_none h1] at hy; cases hy
  intro j u l h1 h3
  match j, h1, h3 with
  | 0, h1, h3 =>
    simp at h1 h3
    subst h1 h3
    exact h.up hB
  | 1, h1, h3 =>
    simp at h1 h3
    subst h1 h3
    exact h2.up hB
  | j + 2, h1, h3 => simp at h1
theorem unhide {p : Prop} (h : Hid p) : p := h
theorem hide {p : Prop} (h : p) : Hid p := h
theorem own_lower {w : World} {base base' N : Nat} {t : TypeId} {size : Nat} {v : Value} {xs : List Value} (h : w.ownsRow base t size v N xs) (hb : base' ≤ base) : w.ownsRow base' t size v N xs := by
  obtain ⟨hl, hv⟩ := id h
  refine ⟨hl, ?_⟩
  rcases hv with hv | ⟨g, cap, cur, rfl, h1, h2⟩
  · exact .inl hv
  · exact .inr ⟨g, cap, cur, rfl, Nat.le_trans hb h1, h2⟩
theorem Mine.lower {w : World} {base base' n c : Nat} {A : Option Addr} {l : List Nat} (h : Mine w base A n c l) (hb : base' ≤ base) : Mine w base' A n c l := ⟨own_lower h.own hb, h.len, h.small⟩
theorem Bytes.along {w w' : World} {v : Value} {l : List Nat} (h : Bytes w w.heap.size v l) (hb : Below w.heap.size w w') : Bytes w' w'.heap.size v l := (h.below hb).up hb.size
theorem Bytes.quiet {w : World} {v : Value} {l : List Nat} (h : Bytes w w.heap.size v l) (k : Nat) : Bytes (w.drewN k) (w.drewN k).heap.size v l := h.of_cells fun _ _ => rfl
theorem below_on {a w w' : World} (h : Below a.heap.size a w) (k : Below w.heap.size w w') : Below a.heap.size a w' := h.trans (k.mono h.size)
theorem new_past {w : World} {g : Nat} {x : Obj} (o : Obj) (h : w.heap[g]? = some x) : (w.alloc o).heap[g]? = some x := by
  have hlt : g < w.heap.size := by
    rcases Nat.lt_or_ge g w.heap.size with h1 | h1
    · exact h1
    · rw [Array.getElem?_eq_none h1] at h; cases h
  exact (Below.heap_alloc w o g hlt).trans h
theorem own_apart {w : World} {b b' n n' s s' : Nat} {e e' : TypeId} {v v' : Value} {xs xs' : List Value} (h : w.ownsRow b e s v n xs) (h' : w.ownsRow b' e' s' v' n' xs') (hne : e ≠ e') : v.ownBlock = none ∨ v.ownBlock ≠ v'.ownBlock := by
  rcases h.2 with ⟨rfl, _⟩ | ⟨g, cap, cur, rfl, _, h1, _⟩
  · exact .inl rfl
  · rcases h'.2 with ⟨rfl, _⟩ | ⟨g', cap', cur', rfl, _, h2, _⟩
    · exact .inr (by simp [Value.ownBlock])
    · refine .inr (fun he => ?_)
      have hg : g = g' := by simpa [Value.ownBlock] using he
      subst hg
      rw [h1] at h2
      injection h2 with h2
      injection h2 with _ h3
      exact hne h3
/-- A whole row stored into a block that has just been made. -/
theorem wpList_store_new {P : Program} {w : World} {ops : Array Oper} {rest : List Oper} {o : Oper} {a : Act} {Q : Exit → Act → World → Prop} (hgd : o.guard = none) (ty : TypeId) (x y : Operand) (ho : o.op = .store ty x y)
    (c : Array Value) (C : List Value) (hx : a.eval x = .pointer (some ⟨w.heap.size, 0, none⟩)) (hy : a.eval y = .agg C.toArray) (t : TypeId) (hi : (P.info? ty).map (·.size) = some C.length)
    (hold : c.size = C.length) (h1 : ∀ v ∈ C, v.oneCell' = true) (h : wpList P ops Q rest (a.put o.dst undef) (w.alloc (.cells C.toArray t))) : wpList P ops Q (o :: rest) a (w.alloc (.cells c t)) := by
  refine wpList_store_row hgd ty x y ho w.heap.size C.toArray hx hy t c (Go.heap_alloc_new w _) (by simpa using hi) (by simpa using hold) (by simpa using h1) ?_
  have e : (w.alloc (.cells c t)).setRow w.heap.size C.toArray = w.alloc (.cells C.toArray t) := by
    unfold World.setRow World.alloc
    congr 1
    apply Array.ext_getElem?
    intro k
    simp only [Array.getElem?_modify, Array.getElem?_push]
    by_cases hk : k = w.heap.size
    · subst hk
      simp
    · simp [hk]
      intro e
      exact absurd e.symm hk
  rw [e]
  exact h
theorem range_new (w : World) (C : List Value) (t : TypeId) : (w.alloc (.cells C.toArray t)).rangeAt w.heap.size 0 C := fun j v h => by
  rw [Nat.zero_add, World.cell?_alloc_at _ _ _ _ rfl]
  simpa using h
theorem range_below {B : Nat} {w w' : World} {g o : Nat} {C : List Value} (h : w.rangeAt g o C) (hb : Below B w w') (hg : g < B) : w'.rangeAt g o C := fun j v hj =>
  (hb.cell (p := ⟨g, o + j, none⟩) hg).trans (h j v hj)
theorem fold_set_at (L : List Value) : ∀ (k : Nat) (base : Array Value) (i : Nat), i < base.size →
    ((L.zipIdx k).foldl (fun (cs : Array Value) x => cs.setIfInBounds (0 + x.2) x.1) base)[i]? = if k ≤ i ∧ i < k + L.length then L[i - k]? else base[i]? := by
  induction L with
  | nil => intro k base i hi; rw [if_neg (by intro h; have := h.2; simp at this; omega)]; rfl
  | cons v L ih =>
    intro k base i hi
    rw [List.zipIdx_cons, List.foldl_cons, ih (k + 1) _ i (by simpa using hi)]
    by_cases h1 : k = i
    · subst h1
      rw [if_neg (by omega), if_pos (by simp), Nat.sub_self, Nat.zero_add, Array.getElem?_setIfInBounds, if_pos rfl, if_pos hi]
      rfl
    · by_cases h2 : k + 1 ≤ i ∧ i < k + 1 + L.length
      · rw [if_pos h2, if_pos (by simp; omega)]
        obtain ⟨m, hm⟩ : ∃ m, i - k = m + 1 := ⟨i - k - 1, by omega⟩
        rw [hm, List.getElem?_cons_succ]
        congr 1
        omega
      · rw [if_neg h2, if_neg (by simp; omega), Nat.zero_add, Array.getElem?_setIfInBounds, if_neg h1]
theorem fold_set_size (L : List (Value × Nat)) : ∀ (base : Array Value), (L.foldl (fun (cs : Array Value) x => cs.setIfInBounds (0 + x.2) x.1) base).size = base.size := by
  induction L with
  | nil => intro base; rfl
  | cons x L ih => intro base; rw [List.foldl_cons, ih]; simp
theorem fold_set (L : List Value) (base : Array Value) (h : base.size = L.length) : (L.toArray.zipIdx.foldl (fun (cs : Array Value) x => cs.setIfInBounds (0 + x.2) x.1) base) = L.toArray := by
  have e : L.toArray.zipIdx.foldl (fun (cs : Array Value) x => cs.setIfInBounds (0 + x.2) x.1) base = (L.zipIdx).foldl (fun (cs : Array Value) x => cs.setIfInBounds (0 + x.2) x.1) base := by
    rw [← Array.foldl_toList, Array.toList_zipIdx]
  rw [e]
  apply Array.ext_getElem?
  intro i
  rcases Nat.lt_or_ge i base.size with hi | hi
  · rw [fold_set_at L 0 base i hi, if_pos (by omega)]
    simp
  · rw [Array.getElem?_eq_none (by rw [fold_set_size]; exact hi), Array.getElem?_eq_none (by simp; omega)]
theorem run_buildSlice_one {P : Program} (w : World) (t e : TypeId) (i : TypeInfo) (z : Value) (C : List Value) (ht : P.underlying t = some (.slice e)) (hi : P.info? e = some i) (hz : i.zero = some z) (hs : i.size = C.length) (h0 : 0 < C.length) (hb : C.length ≤ 16777216) :
    (Instr.buildSlice t 1 #[(0, .agg C.toArray)]).run P w = .ok (.slice (some ⟨w.heap.size, 0, none⟩) 1 1) (w.alloc (.cells C.toArray e)) := by
  have hf : Instr.fill (fun j => some (j * C.length, C.length)) ((Array.range (1 * C.length)).map (z.cells[· % z.cells.size]!)) [(0, .agg C.toArray)] = some C.toArray := by
    unfold Instr.fill
    have e1 : (Value.agg C.toArray).cells = C.toArray := rfl
    simp only [e1, Nat.zero_mul]
    rw [if_neg (by simp)]
    unfold Instr.fill
    rw [fold_set C _ (by simp)]
  simp only [Instr.buildSlice, Sem.run_bind, run_underlying ht, Result.andThen_ok, sizeOf, typeInfo]
  simp [zeroValue, typeInfo, hi, hz]
  rw [Nat.one_mul] at hf
  rw [if_neg (by omega), if_neg (by omega), hs, hf]
  rfl
end Go.Proofs.Ytmhhcblgeellnaa
