/- ATreeM, ATreeP: joined by program (tools/merge.py). -/
import Derived.Test.YtdphpjlhkamadaaAWalkI
namespace Go.Proofs.Ytdphpjlhkamadaa
open Go.RowKit
set_option linter.unusedSimpArgs false
set_option linter.unusedVariables false
def depL (dm : List (Nat × Nat)) (x : Nat) : Nat := (getL dm x).getD 0
/-- The kids of x get their depths, if each is a node that has none. -/
def kidsGo (ns : List (Nat × Nd)) (x : Nat) : List Nat → List (Nat × Nat) → Option (List (Nat × Nat))
  | [], dm => some dm
  | k :: r, dm => if hasL ns k = true ∧ depL dm k = 0 then kidsGo ns x r (putL' dm k (depL dm x + 1)) else none
def badAt (ns : List (Nat × Nd)) (dm : List (Nat × Nat)) (x : Nat) : Prop := 200 < depL dm x ∨ ((ndOf ns x).ref ≠ 0 ∧ hasL ns (ndOf ns x).ref = false)
instance (ns : List (Nat × Nd)) (dm : List (Nat × Nat)) (x : Nat) : Decidable (badAt ns dm x) := by unfold badAt; infer_instance
def stepT (ns : List (Nat × Nd)) (x : Nat) (dm : List (Nat × Nat)) : Option (List (Nat × Nat)) := if badAt ns dm x then none else kidsGo ns x (ndOf ns x).kids dm
def treeGo (ns : List (Nat × Nd)) : List Nat → List (Nat × Nat) → Option (List (Nat × Nat))
  | [], dm => some dm
  | x :: L, dm => (stepT ns x dm).bind (treeGo ns L)
theorem treeGo_append (ns : List (Nat × Nd)) : ∀ (A B : List Nat) (dm : List (Nat × Nat)), treeGo ns (A ++ B) dm = (treeGo ns A dm).bind (treeGo ns B)
  | [], B, dm => rfl
  | x :: A, B, dm => by
    show (stepT ns x dm).bind (treeGo ns (A ++ B)) = ((stepT ns x dm).bind (treeGo ns A)).bind (treeGo ns B)
    cases stepT ns x dm with
    | none => rfl
    | some dm' => exact treeGo_append ns A B dm'
theorem treeGo_snoc (ns : List (Nat × Nd)) (A : List Nat) (x : Nat) (dm : List (Nat × Nat)) : treeGo ns (A ++ [x]) dm = (treeGo ns A dm).bind (stepT ns x) := by
  rw [treeGo_append]
  congr 1
  funext dm'
  show (stepT ns x dm').bind (treeGo ns []) = stepT ns x dm'
  cases stepT ns x dm' <;> rfl
theorem treeGo_none {ns : List (Nat × Nd)} {L : List Nat} {k : Nat} {dm : List (Nat × Nat)} (h : treeGo ns (L.take k) dm = none) : treeGo ns L dm = none := by
  have h1 := treeGo_append ns (L.take k) (L.drop k) dm
  rw [List.take_append_drop, h] at h1
  exact h1
theorem kidsGo_append (ns : List (Nat × Nd)) (x : Nat) : ∀ (A B : List Nat) (dm : List (Nat × Nat)), kidsGo ns x (A ++ B) dm = (kidsGo ns x A dm).bind (kidsGo ns x B)
  | [], B, dm => rfl
  | k :: A, B, dm => by
    show (if _ then kidsGo ns x (A ++ B) _ else none) = Option.bind (if _ then kidsGo ns x A _ else none) (kidsGo ns x B)
    split
    · exact kidsGo_append ns x A B _
    · rfl
theorem kidsGo_none {ns : List (Nat × Nd)} {x k : Nat} {l : List Nat} {dm : List (Nat × Nat)} (h : kidsGo ns x (l.take k) dm = none) : kidsGo ns x l dm = none := by
  have h1 := kidsGo_append ns x (l.take k) (l.drop k) dm
  rw [List.take_append_drop, h] at h1
  exact h1
theorem kidsGo_next {ns : List (Nat × Nd)} {x k y : Nat} {l : List Nat} {dm dm' : List (Nat × Nat)} (h : kidsGo ns x (l.take k) dm = some dm') (hy : l[k]? = some y) : kidsGo ns x (l.take (k + 1)) dm = if hasL ns y = true ∧ depL dm' y = 0 then some (putL' dm' y (depL dm' x + 1)) else none := by
  rw [List.take_add_one, hy, Option.toList_some, kidsGo_append, h]
  show kidsGo ns x [y] dm' = _
  show (if _ then kidsGo ns x [] _ else none) = _
  split <;> rfl
/-- The depths so far. -/
structure DmOk (ns : List (Nat × Nd)) (dm : List (Nat × Nat)) : Prop where
  rise : Rise dm
  le : ∀ p ∈ dm, p.2 ≤ 201
  node : ∀ p ∈ dm, hasL ns p.1 = true
theorem DmOk.start {ns : List (Nat × Nd)} (h : hasL ns 1 = true) : DmOk ns [(1, 1)] := ⟨by unfold Rise; simp, by simp, by simp [h]⟩
theorem DmOk.few {ns : List (Nat × Nd)} {dm : List (Nat × Nat)} (h : DmOk ns dm) : dm.length ≤ ns.length := by
  rw [← List.length_map (f := Prod.fst)]
  refine nodup_le ?_ fun x hx => ?_
  · have h1 := h.rise
    unfold Rise at h1
    unfold List.Nodup
    rw [List.pairwise_map]
    exact h1.imp fun h2 => by omega
  · obtain ⟨p, hp, rfl⟩ := List.mem_map.1 hx
    exact h.node p hp
theorem DmOk.dep {ns : List (Nat × Nd)} {dm : List (Nat × Nat)} (h : DmOk ns dm) (x : Nat) : depL dm x ≤ 201 := by
  unfold depL
  cases hg : getL dm x with
  | none => exact Nat.zero_le _
  | some d => exact h.le _ (getL_mem hg)
theorem DmOk.put {ns : List (Nat × Nd)} {dm : List (Nat × Nat)} (h : DmOk ns dm) {x y : Nat} (hx : depL dm x ≤ 200) (hy : hasL ns y = true) : DmOk ns (putL' dm y (depL dm x + 1)) :=
  ⟨h.rise.put y _, fun p hp => by rcases putL_mem hp with rfl | hp; exact Nat.succ_le_succ hx; exact h.le p hp, fun p hp => by rcases putL_mem hp with rfl | hp; exact hy; exact h.node p hp⟩
theorem depL_put {ns : List (Nat × Nd)} {dm : List (Nat × Nat)} (h : DmOk ns dm) {x y : Nat} (hx : depL dm x ≤ 200) (hy : depL dm y = 0) : depL (putL' dm y (depL dm x + 1)) x ≤ 200 := by
  unfold depL at *
  rw [getL_put h.rise]
  by_cases e : x = y
  · rw [if_pos e]
    show (getL dm x).getD 0 + 1 ≤ 200
    rw [e, hy]
    decide
  · rw [if_neg e]; exact hx
def iv (d : Nat) : Value := .int .i64 (d : Int)
theorem depV (dm : List (Nat × Nat)) (x : Nat) : (getL (mapL iv dm) x).getD (.int .i64 0) = .int .i64 (depL dm x : Int) := by
  rw [getL_map]
  unfold depL
  cases getL dm x <;> rfl
theorem mapL_length {α β : Type} (f : α → β) (m : List (Nat × α)) : (mapL f m).length = m.length := by unfold mapL; rw [List.length_map]
/-- Are they a tree? -/
def treeB (ns : List (Nat × Nd)) : Bool := decide ((ndOf ns 1).kind = 1) && ((treeGo ns (walkL ns 1) [(1, 1)]).isSome && decide ((walkL ns 1).length = ns.length))
theorem treeB_kind {ns : List (Nat × Nd)} (h : (ndOf ns 1).kind ≠ 1) : treeB ns = false := by unfold treeB; rw [decide_eq_false h]; rfl
theorem treeB_none {ns : List (Nat × Nd)} (h : treeGo ns (walkL ns 1) [(1, 1)] = none) : treeB ns = false := by unfold treeB; rw [h]; simp
theorem treeB_some {ns : List (Nat × Nd)} {dm : List (Nat × Nat)} (hk : (ndOf ns 1).kind = 1) (h : treeGo ns (walkL ns 1) [(1, 1)] = some dm) : treeB ns = decide ((walkL ns 1).length = ns.length) := by unfold treeB; rw [h, decide_eq_true hk]; rfl
theorem has_root {ns : List (Nat × Nd)} (hk : (ndOf ns 1).kind = 1) : hasL ns 1 = true := by
  unfold ndOf at hk
  unfold hasL
  cases hg : getL ns 1 with
  | none => rw [hg] at hk; exact absurd hk (by decide)
  | some n => rfl
end Go.Proofs.Ytdphpjlhkamadaa
namespace Go.Proofs.Ytdphpjlhkamadaa
open Go.RowKit Go.Shelf
set_option linter.unusedSimpArgs false
set_option linter.unusedVariables false
set_option maxRecDepth 100000
def lyingT (t : TypeId) : Prop := t = 24 ∨ t = 112 ∨ t = 108 ∨ t = 33
/-- But for boxes of other types, and one map, all lies as it lay. -/
structure TreeK (sM : Nat) (W W' : World) : Prop where
  size : W.heap.size ≤ W'.heap.size
  cells : ∀ (k : Nat) (cs : Array Value) (t : TypeId) (z : Nat × Nat), W.heap[k]? = some (.cells cs t z) → lyingT t → W'.heap[k]? = some (.cells cs t z)
  objs : ∀ (k : Nat) (o : Obj), k ≠ sM → W.heap[k]? = some o → o.isCells = false → W'.heap[k]? = some o
theorem TreeK.refl (sM : Nat) (W : World) : TreeK sM W W := ⟨Nat.le_refl _, fun _ _ _ _ h _ => h, fun _ _ _ h _ => h⟩
theorem TreeK.trans {sM : Nat} {a b c : World} (h : TreeK sM a b) (k : TreeK sM b c) : TreeK sM a c := ⟨Nat.le_trans h.size k.size, fun j cs t z hj ht => k.cells j cs t z (h.cells j cs t z hj ht) ht, fun j o hs hj ho => k.objs j o hs (h.objs j o hs hj ho) ho⟩
theorem TreeK.below {sM : Nat} {a b : World} (h : Below a.heap.size a b) : TreeK sM a b := ⟨h.size, fun j cs t z hj _ => (h.block j (lt_of_heap2 hj)).trans hj, fun j o _ hj _ => (h.block j (lt_of_heap2 hj)).trans hj⟩
theorem TreeK.turned {sM : Nat} {a b : World} (h : a.mapTurned b sM) (hm : ∃ es cl, a.heap[sM]? = some (.map es cl)) : TreeK sM a b := ⟨h.grown.size, fun j cs t z hj _ => turned_keeps h (fun e => by obtain ⟨es, cl, hm⟩ := hm; rw [e, hm] at hj; cases hj) hj, fun j o hs hj _ => turned_keeps h hs hj⟩
theorem TreeK.setCell {sM b i : Nat} {a : World} {cs : Array Value} {t : TypeId} {z : Nat × Nat} (hb : a.heap[b]? = some (.cells cs t z)) (ht : ¬ lyingT t) (v : Value) : TreeK sM a (a.setCell ⟨b, i, none⟩ v) := ⟨by simp [World.setCell], fun j cs' t' z' hj ht' => (heap_setCell_other _ ⟨b, i, none⟩ _ _ (fun e => by
    rw [e, hb] at hj
    injection hj with hj
    injection hj with _ e2 _
    exact ht (e2 ▸ ht'))).trans hj, fun j o _ hj ho => (heap_setCell_other _ ⟨b, i, none⟩ _ _ (fun e => by
    rw [e, hb] at hj
    injection hj with hj
    subst hj
    cases ho)).trans hj⟩
theorem TreeK.keeps {sM B0 : Nat} {a b : World} (h : TreeK sM a b) (hs : sM < B0) : KeepsFrom B0 a b := ⟨h.size, fun k o hk ho hc => h.objs k o (by omega) ho hc⟩
theorem TreeK.kp {sM B0 : Nat} {a b : World} (h : TreeK sM a b) : KpW B0 a b := ⟨h.size, fun k cs t z _ ht hk => h.cells k cs t z hk (by rcases ht with e | e | e; exact .inr (.inr (.inl e)); exact .inr (.inl e); exact .inl e)⟩
theorem TreeK.ids {sM B : Nat} {a b : World} {v : Value} {l : List Nat} (h : TreeK sM a b) (hi : IdSl a B v l) : IdSl b B v l := hi.keep fun j cs z _ hj => (h.cells j cs _ z hj (.inl rfl)).trans hj.symm
theorem NodeV.ids {w : World} {n : Nd} {A : Option Addr} {k c : Nat} (h : NodeV w (ndV n (.slice A k c)) n) : IdSl w w.heap.size (.slice A k c) n.kids ∧ NdOk n := by
  obtain ⟨⟨A', c', e, hi⟩, ok⟩ := h
  unfold ndV at e
  injection e with e
  simp at e
  obtain ⟨rfl, rfl, rfl⟩ := e
  exact ⟨hi, ok⟩
/-- The variables of Tree. -/
structure TreeW (w : World) (sD ga k : Nat) (dm : List (Nat × Nat)) (W : World) : Prop where
  below : Below w.heap.size w W
  a : W.heap[w.heap.size]? = some (.cells #[.pointer (some ⟨ga, 0, none⟩)] 26 (0, 0))
  r : W.heap[w.heap.size + 1]? = some (.cells #[.bool false] 4 (0, 0))
  d : W.heap[sD]? = some (.cells #[.map (some (w.heap.size + 1 + 1))] 105 (0, 0))
  c : W.heap[sD + 1]? = some (.cells #[.int .i64 (k : Int)] 3 (0, 0))
  m : MapV W (w.heap.size + 1 + 1) (mapL iv dm)
theorem TreeW.at_ {w W W' : World} {sD ga k : Nat} {dm : List (Nat × Nat)} (h : TreeW w sD ga k dm W) (hb : Below w.heap.size w W') (hk : ∀ (j : Nat) (o : Obj), W.heap[j]? = some o → (∀ cs z, o ≠ .cells cs 33 z) → W'.heap[j]? = some o) : TreeW w sD ga k dm W' := by
  obtain ⟨es, cl, hm⟩ := h.m.obj
  have hn : ∀ (t : TypeId) (cs : Array Value) (z : Nat × Nat), t ≠ 33 → ∀ cs' z', Obj.cells cs t z ≠ .cells cs' 33 z' := fun t cs z ht cs' z' e => by injection e with _ e _; exact ht e
  exact ⟨hb, hk _ _ h.a (hn _ _ _ (by decide)), hk _ _ h.r (hn _ _ _ (by decide)), hk _ _ h.d (hn _ _ _ (by decide)), hk _ _ h.c (hn _ _ _ (by decide)), h.m.at_ ((hk _ _ hm (fun cs z e => by cases e)).trans hm.symm)⟩
theorem TreeW.go {w W W' : World} {sD ga k : Nat} {dm : List (Nat × Nat)} (h : TreeW w sD ga k dm W) (hb : Below W.heap.size W W') : TreeW w sD ga k dm W' := h.at_ (h.below.trans (hb.mono h.below.size)) fun j o hj _ => (hb.block j (lt_of_heap2 hj)).trans hj
theorem TreeW.count {w W : World} {sD ga k : Nat} {dm : List (Nat × Nat)} (h : TreeW w sD ga k dm W) (hs : w.heap.size ≤ sD) : TreeW w sD ga (k + 1) dm (W.setCell ⟨sD + 1, 0, none⟩ (.int .i64 ((k + 1 : Nat) : Int))) := by
  obtain ⟨es, cl, hm⟩ := h.m.obj
  have ho : ∀ (j : Nat) (o : Obj), W.heap[j]? = some o → (∀ cs z, o ≠ .cells cs 3 z) → (W.setCell ⟨sD + 1, 0, none⟩ (.int .i64 ((k + 1 : Nat) : Int))).heap[j]? = some o := fun j o hj hn => (heap_setCell_other _ ⟨sD + 1, 0, none⟩ _ _ (fun e => by rw [e, h.c] at hj; injection hj with hj; exact hn _ _ hj.symm)).trans hj
  have hn : ∀ (t : TypeId) (cs : Array Value) (z : Nat × Nat), t ≠ 3 → ∀ cs' z', Obj.cells cs t z ≠ .cells cs' 3 z' := fun t cs z ht cs' z' e => by injection e with _ e _; exact ht e
  exact ⟨h.below.setCell (p := ⟨sD + 1, 0, none⟩) (by show w.heap.size ≤ sD + 1; omega) _, ho _ _ h.a (hn _ _ _ (by decide)), ho _ _ h.r (hn _ _ _ (by decide)), ho _ _ h.d (hn _ _ _ (by decide)), by rw [heap_setCell_same W (sD + 1) 0 _ _ _ h.c]; rfl, h.m.at_ ((ho _ _ hm (fun cs z e => by cases e)).trans hm.symm)⟩
theorem TreeW.put {w W W' : World} {sD ga k : Nat} {dm dm' : List (Nat × Nat)} (h : TreeW w sD ga k dm W) (hM : MapV W' (w.heap.size + 1 + 1) (mapL iv dm')) (hT : W.mapTurned W' (w.heap.size + 1 + 1)) : TreeW w sD ga k dm' W' := by
  obtain ⟨es, cl, hm⟩ := h.m.obj
  have ho : ∀ (j : Nat) (cs : Array Value) (t : TypeId) (z : Nat × Nat), W.heap[j]? = some (.cells cs t z) → W'.heap[j]? = some (.cells cs t z) := fun j cs t z hj => turned_keeps hT (fun e => by rw [e, hm] at hj; cases hj) hj
  exact ⟨h.below.grown hT.grown h.below.size (fun k e => by injection e with e; omega), ho _ _ _ _ h.a, ho _ _ _ _ h.r, ho _ _ _ _ h.d, ho _ _ _ _ h.c, hM⟩
theorem TreeW.fail {w W : World} {sD ga k : Nat} {dm : List (Nat × Nat)} (h : TreeW w sD ga k dm W) : Below w.heap.size w (W.setCell ⟨w.heap.size + 1, 0, none⟩ (.bool false)) ∧ (W.setCell ⟨w.heap.size + 1, 0, none⟩ (.bool false)).heap[w.heap.size + 1]? = some (.cells #[.bool false] 4 (0, 0)) ∧ TreeK (w.heap.size + 1 + 1) W (W.setCell ⟨w.heap.size + 1, 0, none⟩ (.bool false)) :=
  ⟨h.below.setCell (p := ⟨w.heap.size + 1, 0, none⟩) (Nat.le_succ _) _, by rw [heap_setCell_same W (w.heap.size + 1) 0 _ _ _ h.r]; rfl, TreeK.setCell h.r (by unfold lyingT; decide) _⟩
theorem go_bad {ns : List (Nat × Nd)} {L : List Nat} {k y : Nat} {dm s : List (Nat × Nat)} (h : L.take (k + 1) = L.take k ++ [y]) (hd : treeGo ns (L.take k) s = some dm) (hs : stepT ns y dm = none) : treeGo ns L s = none := treeGo_none (k := k + 1) (by rw [h, treeGo_snoc, hd]; exact hs)
/-- At the head of the walk. -/
def TreeI (w : World) (sD ga : Nat) (ns : List (Nat × Nd)) (L : List Nat) (k : Nat) (W : World) : Prop := ∃ dm, treeGo ns (L.take k) [(1, 1)] = some dm ∧ DmOk ns dm ∧ TreeW w sD ga k dm W
/-- Where it is left: it is no tree. -/
def TreeX (w : World) (ns : List (Nat × Nd)) (L : List Nat) (W : World) : Prop := treeGo ns L [(1, 1)] = none ∧ Below w.heap.size w W ∧ W.heap[w.heap.size + 1]? = some (.cells #[.bool false] 4 (0, 0))
theorem grown_cells {W W' : World} {row : Option Nat} {B : Nat} (hg : W.grownBy W' row) (hr : ∀ r, row = some r → B ≤ r ∧ ∃ o : Obj, W.heap[r]? = some o ∧ o.isCells = false) {j : Nat} {cs : Array Value} {t : TypeId} {z : Nat × Nat} (hj : W.heap[j]? = some (.cells cs t z)) : W'.heap[j]? = some (.cells cs t z) :=
  (hg.block j (lt_of_heap2 hj) (fun e => by
    obtain ⟨_, o, ho, hc⟩ := hr j e.symm
    rw [hj] at ho
    injection ho with ho
    subst ho
    cases hc)).trans hj
theorem treeI_own {w : World} {sD ga B : Nat} {ns : List (Nat × Nd)} {L : List Nat} {α : Type} {f : List α → Nat} (hB : w.heap.size ≤ B) (hM : w.heap.size + 1 + 1 < B) : OwnFrom B (fun pre W => TreeI w sD ga ns L (f pre) W) := fun pre W W' row hs hg hr => by
  obtain ⟨dm, h1, h2, h3⟩ := hs
  refine ⟨dm, h1, h2, h3.below.grown hg h3.below.size (fun k e => Nat.le_trans hB (hr k e).1), grown_cells hg hr h3.a, grown_cells hg hr h3.r, grown_cells hg hr h3.d, grown_cells hg hr h3.c, h3.m.at_ (hg.block _ h3.m.lt (fun e => ?_))⟩
  have := (hr _ e.symm).1
  omega
theorem treeX_own {w : World} {B : Nat} {ns : List (Nat × Nd)} {L : List Nat} {α : Type} (c : Code) (hB : w.heap.size ≤ B) : OwnFrom B (fun (pre : List α) W => c = Code.ret ∧ TreeX w ns L W) := fun pre W W' row hs hg hr => by
  obtain ⟨h0, h1, h2, h3⟩ := hs
  exact ⟨h0, h1, h2.grown hg h2.size (fun k e => Nat.le_trans hB (hr k e).1), grown_cells hg hr h3⟩
/-- A round's own variables: the number, and the node in a box. -/
def TreeA (B0 : Nat) (ns : List (Nat × Nd)) (L : List Nat) (T : Array Value) (pre : List WAt) (x : WAt) (a : Act) (W : World) : Prop :=
  x.1 = pre.length ∧ ∃ p : Nat, 0 ≤ p ∧ a = { tmps := (((T.setIfInBounds 24 (.int .u64 ((L.getD x.1 0 : Nat) : Int))).setIfInBounds 25 (wVal ns L x)).setIfInBounds 5 (.int .u64 ((L.getD x.1 0 : Nat) : Int))).setIfInBounds 6 (.pointer (some ⟨p, 0, none⟩)), defers := [] } ∧
    W.heap[p]? = some (.cells #[.int .u8 ((wNode ns L x).kind : Int), .string (wNode ns L x).name, .int .i64 (wNode ns L x).num, .int .u8 ((wNode ns L x).typ : Int), .int .u64 ((wNode ns L x).ref : Int), .slice x.2.1 (wNode ns L x).kids.length x.2.2] 33 (0, 0)) ∧
    IdSl W W.heap.size (.slice x.2.1 (wNode ns L x).kids.length x.2.2) (wNode ns L x).kids ∧ NdOk (wNode ns L x)
theorem treeA_own {B0 B : Nat} {ns : List (Nat × Nd)} {L : List Nat} {T : Array Value} (pre : List WAt) (x : WAt) (a : Act) : OwnFrom B (fun (_ : Unit) W => TreeA B0 ns L T pre x a W) := fun _ W W' row hs hg hr => by
  obtain ⟨h1, p, h2, h3, h4, h5, h6⟩ := hs
  exact ⟨h1, p, h2, h3, grown_cells hg hr h4, (h5.keep fun j cs z _ hj => (grown_cells hg hr hj).trans hj.symm).up hg.size, h6⟩
theorem enc_tmps (T : Array Value) (ns : List (Nat × Nd)) (L : List Nat) (x : WAt) : ((#[24, 25] : Array Tmp).zip (wEnc ns L x)).foldl (fun t (p, v) => t.setIfInBounds p v) T = (T.setIfInBounds 24 (.int .u64 ((L.getD x.1 0 : Nat) : Int))).setIfInBounds 25 (wVal ns L x) := by
  unfold wEnc
  simp
end Go.Proofs.Ytdphpjlhkamadaa
