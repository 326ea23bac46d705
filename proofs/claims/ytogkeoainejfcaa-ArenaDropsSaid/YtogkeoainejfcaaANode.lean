/- Nodes and arenas, as memory has them. -/
import Derived.Test.YtogkeoainejfcaaAExch
namespace Go.Proofs.Ytogkeoainejfcaa
open Go.RowKit
set_option linter.unusedSimpArgs false
set_option linter.unusedVariables false
set_option maxRecDepth 100000
structure Nd where
  kind : Nat
  name : ByteArray
  num : Int
  typ : Nat
  ref : Nat
  kids : List Nat
def ndV (n : Nd) (kv : Value) : Value := .agg #[.int .u8 (n.kind : Int), .string n.name, .int .i64 n.num, .int .u8 (n.typ : Int), .int .u64 (n.ref : Int), kv]
def zeroNd : Nd := ⟨0, ⟨#[]⟩, 0, 0, 0, []⟩
structure NdOk (n : Nd) : Prop where
  kind : n.kind < 256
  name : n.name.size ≤ 9223372036854775807
  num : -9223372036854775808 ≤ n.num ∧ n.num ≤ 9223372036854775807
  typ : n.typ < 256
  ref : n.ref < 18446744073709551616
/-- A value that is a node. -/
def NodeV (w : World) (v : Value) (n : Nd) : Prop := (∃ A c, v = ndV n (.slice A n.kids.length c) ∧ IdSl w w.heap.size (.slice A n.kids.length c) n.kids) ∧ NdOk n
theorem NodeV.zero (w : World) : NodeV w (ndV zeroNd (.slice none 0 0)) zeroNd := ⟨⟨none, 0, rfl, IdSl.nil _ _⟩, ⟨by decide, by decide, by decide, by decide, by decide⟩⟩
theorem NodeV.keep {w w' : World} {v : Value} {n : Nd} (h : NodeV w v n) (hs : w.heap.size ≤ w'.heap.size) (hb : ∀ (j : Nat) (cs : Array Value) (z : Nat × Nat), w.heap[j]? = some (.cells cs 24 z) → w'.heap[j]? = w.heap[j]?) : NodeV w' v n := by
  obtain ⟨⟨A, c, e, h1⟩, h2⟩ := h
  exact ⟨⟨A, c, e, (h1.keep fun j cs z _ hj => hb j cs z hj).up hs⟩, h2⟩
theorem NodeV.below {w w' : World} {v : Value} {n : Nd} (h : NodeV w v n) (hb : Below w.heap.size w w') : NodeV w' v n := h.keep hb.size fun j cs z hj => hb.block j (lt_of_heap2 hj)
def cntOf (ns : List (Nat × Nd)) : Cnt := fun k i => match getL ns i with | some n => n.kids.count k | none => 0
def NodesV (w : World) (vs : List (Nat × Value)) (ns : List (Nat × Nd)) : Prop := ∀ k, match getL vs k, getL ns k with | some v, some n => NodeV w v n | none, none => True | _, _ => False
theorem NodesV.keep {w w' : World} {vs : List (Nat × Value)} {ns : List (Nat × Nd)} (h : NodesV w vs ns) (hs : w.heap.size ≤ w'.heap.size) (hb : ∀ (j : Nat) (cs : Array Value) (z : Nat × Nat), w.heap[j]? = some (.cells cs 24 z) → w'.heap[j]? = w.heap[j]?) : NodesV w' vs ns := fun k => by
  have h1 := h k
  revert h1
  cases getL vs k <;> cases getL ns k <;> intro h1
  · trivial
  · exact h1
  · exact h1
  · exact NodeV.keep h1 hs hb
theorem NodesV.get {w : World} {vs : List (Nat × Value)} {ns : List (Nat × Nd)} (h : NodesV w vs ns) (k : Nat) : ∃ A c, (getL vs k).getD (ndV zeroNd (.slice none 0 0)) = ndV ((getL ns k).getD zeroNd) (.slice A ((getL ns k).getD zeroNd).kids.length c) ∧ IdSl w w.heap.size (.slice A ((getL ns k).getD zeroNd).kids.length c) ((getL ns k).getD zeroNd).kids ∧ NdOk ((getL ns k).getD zeroNd) ∧ hasL vs k = hasL ns k := by
  have h1 := h k
  unfold hasL
  revert h1
  cases getL vs k <;> cases getL ns k <;> intro h1
  · obtain ⟨⟨A, c, e, h2⟩, h3⟩ := NodeV.zero w
    exact ⟨A, c, e, h2, h3, rfl⟩
  · exact h1.elim
  · exact h1.elim
  · obtain ⟨⟨A, c, e, h2⟩, h3⟩ := h1
    exact ⟨A, c, e, h2, h3, rfl⟩
theorem NodesV.put {w : World} {vs : List (Nat × Value)} {ns : List (Nat × Nd)} (h : NodesV w vs ns) (hv : Rise vs) (hn : Rise ns) (k : Nat) {v : Value} {n : Nd} (hk : NodeV w v n) : NodesV w (putL' vs k v) (putL' ns k n) := fun j => by
  rw [getL_put hv, getL_put hn]
  by_cases e : j = k
  · rw [if_pos e, if_pos e]; exact hk
  · rw [if_neg e, if_neg e]; exact h j
theorem NodesV.del {w : World} {vs : List (Nat × Value)} {ns : List (Nat × Nd)} (h : NodesV w vs ns) (k : Nat) : NodesV w (delL vs k) (delL ns k) := fun j => by
  rw [getL_del, getL_del]
  by_cases e : j = k
  · rw [if_pos e, if_pos e]; trivial
  · rw [if_neg e, if_neg e]; exact h j
/-- An arena: its nodes. -/
structure AR (w : World) (base ga gm gp : Nat) (F : PF) (vs : List (Nat × Value)) (ns : List (Nat × Nd)) (N : Nat) : Prop where
  st : w.heap[ga]? = some (.cells #[.map (some gm), .map (some gp)] 74 (0, 0))
  map : MapV w gm vs
  rise : Rise ns
  nodes : NodesV w vs ns
  par : ParC w base gp F (cntOf ns) N
  ne : gm ≠ gp
  o1 : base ≤ ga
  o2 : base ≤ gm
  o3 : base ≤ gp
  hb : base ≤ w.heap.size
/-- The blocks that an arena's calls may change. -/
def OwnA (gm gp : Nat) (F : PF) (j : Nat) : Prop := j = gm ∨ j = gp ∨ OwnsF F j
theorem MapV.obj {w : World} {b : Nat} {m : List (Nat × Value)} (h : MapV w b m) : ∃ es clock, w.heap[b]? = some (.map es clock) := by
  obtain ⟨es, clock, h1, _⟩ := h.own
  exact ⟨es, clock, h1⟩
/-- What an arena's calls change is a map, or a row of parents. -/
theorem AR.obj {w : World} {base ga gm gp N : Nat} {F : PF} {vs : List (Nat × Value)} {ns : List (Nat × Nd)} (h : AR w base ga gm gp F vs ns N) {j : Nat} (ho : OwnA gm gp F j) : (∃ es clock, w.heap[j]? = some (.map es clock)) ∨ ∃ cs, w.heap[j]? = some (.cells cs 129 (0, 0)) := by
  rcases ho with e | e | e
  · rw [e]; exact .inl h.map.obj
  · rw [e]; exact .inl h.par.par.map.obj
  · exact .inr (e.ty h.par.par)
theorem AR.low {w : World} {base ga gm gp N : Nat} {F : PF} {vs : List (Nat × Value)} {ns : List (Nat × Nd)} (h : AR w base ga gm gp F vs ns N) {j : Nat} (ho : OwnA gm gp F j) : base ≤ j := by
  rcases ho with e | e | e
  · rw [e]; exact h.o2
  · rw [e]; exact h.o3
  · exact (e.lt h.par.par).1
theorem AR.other {w w' : World} {base ga gm gp N : Nat} {F : PF} {vs : List (Nat × Value)} {ns : List (Nat × Nd)} (h : AR w base ga gm gp F vs ns N) (ht : Touch w w' (OwnA gm gp F)) {j : Nat} {cs : Array Value} {t : TypeId} {z : Nat × Nat} (hj : w.heap[j]? = some (.cells cs t z)) (hne : t ≠ 129) : w'.heap[j]? = some (.cells cs t z) := (ht.block j (lt_of_heap2 hj) fun e => by
  rcases h.obj e with ⟨es, clock, h1⟩ | ⟨cs', h1⟩
  · rw [h1] at hj; cases hj
  · rw [h1] at hj
    injection hj with hj
    injection hj with _ h2 _
    exact hne h2.symm).trans hj
/-- An arena stays while none of its blocks is changed. -/
theorem AR.keep {w w' : World} {base ga gm gp N : Nat} {F : PF} {vs : List (Nat × Value)} {ns : List (Nat × Nd)} {S : Nat → Prop} (h : AR w base ga gm gp F vs ns N) (ht : Touch w w' S) (hS : ∀ j, S j → j ≠ ga ∧ ¬ OwnA gm gp F j ∧ ∀ cs z, w.heap[j]? ≠ some (.cells cs 24 z)) : AR w' base ga gm gp F vs ns N :=
  ⟨(ht.block ga (lt_of_heap2 h.st) fun e => (hS _ e).1 rfl).trans h.st, h.map.at_ (ht.block gm h.map.lt fun e => (hS _ e).2.1 (.inl rfl)), h.rise,
    h.nodes.keep ht.size (fun j cs z hj => ht.block j (lt_of_heap2 hj) fun e => (hS _ e).2.2 cs z hj), ⟨h.par.par.touch ht (fun e => (hS _ e).2.1 (.inr (.inl rfl))) (fun j hj e => (hS _ e).2.1 (.inr (.inr hj))), h.par.cnt, h.par.rows, h.par.keys, h.par.few⟩, h.ne, h.o1, h.o2, h.o3, Nat.le_trans h.hb ht.size⟩
theorem AR.below {w w' : World} {base ga gm gp N : Nat} {F : PF} {vs : List (Nat × Value)} {ns : List (Nat × Nd)} (h : AR w base ga gm gp F vs ns N) (hb : Below w.heap.size w w') : AR w' base ga gm gp F vs ns N := h.keep (.of_below hb (fun _ => False)) fun _ e => e.elim
theorem exC_put {ns : List (Nat × Nd)} (hr : Rise ns) (id : Nat) (n : Nd) : exC (cntOf ns) id ((getL ns id).getD zeroNd).kids n.kids = cntOf (putL' ns id n) := by
  funext k i
  unfold exC cntOf
  rw [getL_put hr]
  by_cases e : i = id
  · rw [if_pos e, if_pos e, e]
    cases hg : getL ns id with
    | none => simp [zeroNd]
    | some m => simp
  · rw [if_neg e, if_neg e]
theorem exC_del {ns : List (Nat × Nd)} (id : Nat) : exC (cntOf ns) id ((getL ns id).getD zeroNd).kids [] = cntOf (delL ns id) := by
  funext k i
  unfold exC cntOf
  rw [getL_del]
  by_cases e : i = id
  · rw [if_pos e, if_pos e, e]
    cases hg : getL ns id with
    | none => simp [zeroNd]
    | some m => simp
  · rw [if_neg e, if_neg e]
theorem cnt_le {ns : List (Nat × Nd)} (id k : Nat) : ((getL ns id).getD zeroNd).kids.count k ≤ cntOf ns k id := by
  unfold cntOf
  cases getL ns id with
  | none => simp [zeroNd]
  | some m => simp
theorem zeroNode (w : World) : (zeroValue 33).run Try.prog w = .ok (ndV zeroNd (.slice none 0 0)) w := by kernel_rfl
end Go.Proofs.Ytogkeoainejfcaa
