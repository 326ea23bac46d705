/- ANode, ASet: joined by program (tools/merge.py). -/
import Derived.Test.YtdphpjlhkamadaaAExch
import Derived.Deep.RegionHeld3
import Derived.Deep.DeepCutAuto
namespace Go.Proofs.Ytdphpjlhkamadaa
open Go.RowKit
set_option linter.unusedSimpArgs false
set_option linter.unusedVariables false
set_option maxRecDepth 100000
structure Nd where
  kind : Nat
  name : ByteArray
  num : Int
  typ : Nat
  ref : Nat
  kids : List Nat
def ndV (n : Nd) (kv : Value) : Value := .agg #[.int .u8 (n.kind : Int), .string n.name, .int .i64 n.num, .int .u8 (n.typ : Int), .int .u64 (n.ref : Int), kv]
def zeroNd : Nd := ⟨0, ⟨#[]⟩, 0, 0, 0, []⟩
structure NdOk (n : Nd) : Prop where
  kind : n.kind < 256
  name : n.name.size ≤ 9223372036854775807
  num : -9223372036854775808 ≤ n.num ∧ n.num ≤ 9223372036854775807
  typ : n.typ < 256
  ref : n.ref < 18446744073709551616
/-- A value that is a node. -/
def NodeV (w : World) (v : Value) (n : Nd) : Prop := (∃ A c, v = ndV n (.slice A n.kids.length c) ∧ IdSl w w.heap.size (.slice A n.kids.length c) n.kids) ∧ NdOk n
theorem NodeV.zero (w : World) : NodeV w (ndV zeroNd (.slice none 0 0)) zeroNd := ⟨⟨none, 0, rfl, IdSl.nil _ _⟩, ⟨by decide, by decide, by decide, by decide, by decide⟩⟩
theorem NodeV.keep {w w' : World} {v : Value} {n : Nd} (h : NodeV w v n) (hs : w.heap.size ≤ w'.heap.size) (hb : ∀ (j : Nat) (cs : Array Value) (z : Nat × Nat), w.heap[j]? = some (.cells cs 24 z) → w'.heap[j]? = w.heap[j]?) : NodeV w' v n := by
  obtain ⟨⟨A, c, e, h1⟩, h2⟩ := h
  exact ⟨⟨A, c, e, (h1.keep fun j cs z _ hj => hb j cs z hj).up hs⟩, h2⟩
theorem NodeV.below {w w' : World} {v : Value} {n : Nd} (h : NodeV w v n) (hb : Below w.heap.size w w') : NodeV w' v n := h.keep hb.size fun j cs z hj => hb.block j (lt_of_heap2 hj)
def cntOf (ns : List (Nat × Nd)) : Cnt := fun k i => match getL ns i with | some n => n.kids.count k | none => 0
def NodesV (w : World) (vs : List (Nat × Value)) (ns : List (Nat × Nd)) : Prop := ∀ k, match getL vs k, getL ns k with | some v, some n => NodeV w v n | none, none => True | _, _ => False
theorem NodesV.keep {w w' : World} {vs : List (Nat × Value)} {ns : List (Nat × Nd)} (h : NodesV w vs ns) (hs : w.heap.size ≤ w'.heap.size) (hb : ∀ (j : Nat) (cs : Array Value) (z : Nat × Nat), w.heap[j]? = some (.cells cs 24 z) → w'.heap[j]? = w.heap[j]?) : NodesV w' vs ns := fun k => by
  have h1 := h k
  revert h1
  cases getL vs k <;> cases getL ns k <;> intro h1
  · trivial
  · exact h1
  · exact h1
  · exact NodeV.keep h1 hs hb
theorem NodesV.get {w : World} {vs : List (Nat × Value)} {ns : List (Nat × Nd)} (h : NodesV w vs ns) (k : Nat) : ∃ A c, (getL vs k).getD (ndV zeroNd (.slice none 0 0)) = ndV ((getL ns k).getD zeroNd) (.slice A ((getL ns k).getD zeroNd).kids.length c) ∧ IdSl w w.heap.size (.slice A ((getL ns k).getD zeroNd).kids.length c) ((getL ns k).getD zeroNd).kids ∧ NdOk ((getL ns k).getD zeroNd) ∧ hasL vs k = hasL ns k := by
  have h1 := h k
  unfold hasL
  revert h1
  cases getL vs k <;> cases getL ns k <;> intro h1
  · obtain ⟨⟨A, c, e, h2⟩, h3⟩ := NodeV.zero w
    exact ⟨A, c, e, h2, h3, rfl⟩
  · exact h1.elim
  · exact h1.elim
  · obtain ⟨⟨A, c, e, h2⟩, h3⟩ := h1
    exact ⟨A, c, e, h2, h3, rfl⟩
theorem NodesV.put {w : World} {vs : List (Nat × Value)} {ns : List (Nat × Nd)} (h : NodesV w vs ns) (hv : Rise vs) (hn : Rise ns) (k : Nat) {v : Value} {n : Nd} (hk : NodeV w v n) : NodesV w (putL' vs k v) (putL' ns k n) := fun j => by
  rw [getL_put hv, getL_put hn]
  by_cases e : j = k
  · rw [if_pos e, if_pos e]; exact hk
  · rw [if_neg e, if_neg e]; exact h j
theorem NodesV.del {w : World} {vs : List (Nat × Value)} {ns : List (Nat × Nd)} (h : NodesV w vs ns) (k : Nat) : NodesV w (delL vs k) (delL ns k) := fun j => by
  rw [getL_del, getL_del]
  by_cases e : j = k
  · rw [if_pos e, if_pos e]; trivial
  · rw [if_neg e, if_neg e]; exact h j
/-- An arena: its nodes. -/
structure AR (w : World) (base ga gm gp : Nat) (F : PF) (vs : List (Nat × Value)) (ns : List (Nat × Nd)) (N : Nat) : Prop where
  st : w.heap[ga]? = some (.cells #[.map (some gm), .map (some gp)] 74 (0, 0))
  map : MapV w gm vs
  rise : Rise ns
  nodes : NodesV w vs ns
  par : ParC w base gp F (cntOf ns) N
  ne : gm ≠ gp
  o1 : base ≤ ga
  o2 : base ≤ gm
  o3 : base ≤ gp
  hb : base ≤ w.heap.size
/-- The blocks that an arena's calls may change. -/
def OwnA (gm gp : Nat) (F : PF) (j : Nat) : Prop := j = gm ∨ j = gp ∨ OwnsF F j
theorem MapV.obj {w : World} {b : Nat} {m : List (Nat × Value)} (h : MapV w b m) : ∃ es clock, w.heap[b]? = some (.map es clock) := by
  obtain ⟨es, clock, h1, _⟩ := h.own
  exact ⟨es, clock, h1⟩
/-- What an arena's calls change is a map, or a row of parents. -/
theorem AR.obj {w : World} {base ga gm gp N : Nat} {F : PF} {vs : List (Nat × Value)} {ns : List (Nat × Nd)} (h : AR w base ga gm gp F vs ns N) {j : Nat} (ho : OwnA gm gp F j) : (∃ es clock, w.heap[j]? = some (.map es clock)) ∨ ∃ cs, w.heap[j]? = some (.cells cs 129 (0, 0)) := by
  rcases ho with e | e | e
  · rw [e]; exact .inl h.map.obj
  · rw [e]; exact .inl h.par.par.map.obj
  · exact .inr (e.ty h.par.par)
theorem AR.low {w : World} {base ga gm gp N : Nat} {F : PF} {vs : List (Nat × Value)} {ns : List (Nat × Nd)} (h : AR w base ga gm gp F vs ns N) {j : Nat} (ho : OwnA gm gp F j) : base ≤ j := by
  rcases ho with e | e | e
  · rw [e]; exact h.o2
  · rw [e]; exact h.o3
  · exact (e.lt h.par.par).1
theorem AR.other {w w' : World} {base ga gm gp N : Nat} {F : PF} {vs : List (Nat × Value)} {ns : List (Nat × Nd)} (h : AR w base ga gm gp F vs ns N) (ht : Touch w w' (OwnA gm gp F)) {j : Nat} {cs : Array Value} {t : TypeId} {z : Nat × Nat} (hj : w.heap[j]? = some (.cells cs t z)) (hne : t ≠ 129) : w'.heap[j]? = some (.cells cs t z) := (ht.block j (lt_of_heap2 hj) fun e => by
  rcases h.obj e with ⟨es, clock, h1⟩ | ⟨cs', h1⟩
  · rw [h1] at hj; cases hj
  · rw [h1] at hj
    injection hj with hj
    injection hj with _ h2 _
    exact hne h2.symm).trans hj
/-- An arena stays while none of its blocks is changed. -/
theorem AR.keep {w w' : World} {base ga gm gp N : Nat} {F : PF} {vs : List (Nat × Value)} {ns : List (Nat × Nd)} {S : Nat → Prop} (h : AR w base ga gm gp F vs ns N) (ht : Touch w w' S) (hS : ∀ j, S j → j ≠ ga ∧ ¬ OwnA gm gp F j ∧ ∀ cs z, w.heap[j]? ≠ some (.cells cs 24 z)) : AR w' base ga gm gp F vs ns N :=
  ⟨(ht.block ga (lt_of_heap2 h.st) fun e => (hS _ e).1 rfl).trans h.st, h.map.at_ (ht.block gm h.map.lt fun e => (hS _ e).2.1 (.inl rfl)), h.rise,
    h.nodes.keep ht.size (fun j cs z hj => ht.block j (lt_of_heap2 hj) fun e => (hS _ e).2.2 cs z hj), ⟨h.par.par.touch ht (fun e => (hS _ e).2.1 (.inr (.inl rfl))) (fun j hj e => (hS _ e).2.1 (.inr (.inr hj))), h.par.cnt, h.par.rows, h.par.keys, h.par.few⟩, h.ne, h.o1, h.o2, h.o3, Nat.le_trans h.hb ht.size⟩
theorem AR.below {w w' : World} {base ga gm gp N : Nat} {F : PF} {vs : List (Nat × Value)} {ns : List (Nat × Nd)} (h : AR w base ga gm gp F vs ns N) (hb : Below w.heap.size w w') : AR w' base ga gm gp F vs ns N := h.keep (.of_below hb (fun _ => False)) fun _ e => e.elim
theorem exC_put {ns : List (Nat × Nd)} (hr : Rise ns) (id : Nat) (n : Nd) : exC (cntOf ns) id ((getL ns id).getD zeroNd).kids n.kids = cntOf (putL' ns id n) := by
  funext k i
  unfold exC cntOf
  rw [getL_put hr]
  by_cases e : i = id
  · rw [if_pos e, if_pos e, e]
    cases hg : getL ns id with
    | none => simp [zeroNd]
    | some m => simp
  · rw [if_neg e, if_neg e]
theorem exC_del {ns : List (Nat × Nd)} (id : Nat) : exC (cntOf ns) id ((getL ns id).getD zeroNd).kids [] = cntOf (delL ns id) := by
  funext k i
  unfold exC cntOf
  rw [getL_del]
  by_cases e : i = id
  · rw [if_pos e, if_pos e, e]
    cases hg : getL ns id with
    | none => simp [zeroNd]
    | some m => simp
  · rw [if_neg e, if_neg e]
theorem cnt_le {ns : List (Nat × Nd)} (id k : Nat) : ((getL ns id).getD zeroNd).kids.count k ≤ cntOf ns k id := by
  unfold cntOf
  cases getL ns id with
  | none => simp [zeroNd]
  | some m => simp
theorem zeroNode (w : World) : (zeroValue 33).run Try.prog w = .ok (ndV zeroNd (.slice none 0 0)) w := by kernel_rfl
end Go.Proofs.Ytdphpjlhkamadaa
namespace Go.Proofs.Ytdphpjlhkamadaa
open Go.RowKit
set_option linter.unusedSimpArgs false
set_option linter.unusedVariables false
set_option maxRecDepth 100000
theorem ride_alloc {W x : World} (h : Below W.heap.size W x) (o : Obj) : Below W.heap.size W (x.alloc o) := h.alloc h.size o
theorem ride_drew {W x : World} (h : Below W.heap.size W x) : Below W.heap.size W x.drew := h.drew
theorem ride_call {W x y : World} (hb : Below x.heap.size x y) (h : Below W.heap.size W x) : Below W.heap.size W y := h.trans (hb.mono h.size)
theorem nodes_len {w : World} {vs : List (Nat × Value)} {ns : List (Nat × Nd)} (h : NodesV w vs ns) (hv : Rise vs) (hn : Rise ns) : vs.length = ns.length := by
  have e : mapL (fun _ => ()) vs = mapL (fun _ => ()) ns := rise_ext (hv.map _) (hn.map _) fun k => by
    rw [getL_map, getL_map]
    have h1 := h k
    revert h1
    cases getL vs k <;> cases getL ns k <;> intro h1
    · rfl
    · exact h1.elim
    · exact h1.elim
    · rfl
  have e2 := congrArg List.length e
  unfold mapL at e2
  rw [List.length_map, List.length_map] at e2
  exact e2
theorem run_look {w : World} (t e : TypeId) (ht : Try.prog.underlying t = some (.map 24 e)) (z : Value) (hz : (zeroValue e).run Try.prog w = .ok z w) {b : Nat} {l : List (Nat × Value)} (h : MapV w b l) (k : Nat) (hk : k < 18446744073709551616) (v : Value) (hv : (getL l k).getD z = v) :
    (Instr.lookup t (.map (some b)) (.int .u64 (k : Int)) false).run Try.prog w = .ok v w := by
  obtain ⟨v', ps, hrun, hv'⟩ := h.own.lookup idKeyed ht hz (zd := .held z) (zp := []) rfl (key_of hk)
  rw [mapD_at] at hv'
  have hv2 : v' = v := by
    rw [← hv]
    unfold heldE at hv'
    injection hv' with hv'
    have h1 := congrArg Prod.fst hv'
    cases hg : getL l k with
    | none => rw [hg] at h1; injection h1
    | some u => rw [hg] at h1; injection h1
  rw [← hv2]
  exact hrun
theorem run_kids (x : World) (k y r : Int) (m : Int) (s : ByteArray) (v : Value) : (Instr.field 33 (.agg #[.int .u8 k, .string s, .int .i64 m, .int .u8 y, .int .u64 r, v]) 5).run Try.prog x = .ok v x := by kernel_rfl
theorem run_store {w : World} (t e : TypeId) (ht : Try.prog.underlying t = some (.map 24 e)) {b : Nat} {l : List (Nat × Value)} (h : MapV w b l) (hl : l.length < maxLen) (k : Nat) (hk : k < 18446744073709551616) (u : Value) :
    ∃ w', (Instr.mapUpdate t (.map (some b)) (.int .u64 (k : Int)) u).run Try.prog w = .ok () w' ∧ MapV w' b (putL' l k u) ∧ w.mapTurned w' b := by
  obtain ⟨w', hrun, h1, h2⟩ := h.own.store idKeyed ht hl (key_of hk) (val := u) (d := .held u) (ps := []) rfl
  refine ⟨w', hrun, ⟨h.rise.put k u, fun p hp => ?_, ?_⟩, h2⟩
  · rcases putL_mem hp with rfl | hp
    · exact hk
    · exact h.small p hp
  · rw [mapD_put h.rise] at h1
    have h3 := ownsMap_tight h1
    rw [mapD_size] at h3
    exact h3
def SetR (w : World) (base ga gm gp : Nat) (F : PF) (ns' : List (Nat × Nd)) (N' : Nat) (e : Ending) (w' : World) : Prop :=
  e = .returned (.tuple #[]) ∧ ∃ F' vs', AR w' base ga gm gp F' vs' ns' N' ∧ Touch w w' (OwnA gm gp F) ∧ (∀ j, OwnsF F' j → OwnsF F j ∨ w.heap.size ≤ j)
set_option maxHeartbeats 8000000 in
theorem set_any (w : World) (base ga gm gp id N : Nat) (F : PF) (vs : List (Nat × Value)) (ns : List (Nat × Nd)) (v : Value) (n : Nd) (h : AR w base ga gm gp F vs ns N) (hv : NodeV w v n) (hid : id < 18446744073709551616) (hN : N + ((getL ns id).getD zeroNd).kids.length + n.kids.length ≤ 999999990) (hns : ns.length ≤ 1000000000) :
    Calls Try.prog 38 #[.pointer (some ⟨ga, 0, none⟩), .int .u64 (id : Int), v] w (SetR w base ga gm gp F (putL' ns id n) (N + ((getL ns id).getD zeroNd).kids.length + n.kids.length)) := by
  have hvl := nodes_len h.nodes h.map.rise h.rise
  have hvl2 : vs.length < maxLen := by unfold maxLen; omega
  obtain ⟨⟨A, c, rfl, hks⟩, hok⟩ := (show NodeV w v n from hv)
  obtain ⟨Ao, co, hold, hos, hook, _⟩ := h.nodes.get id
  obtain ⟨o, ho⟩ : ∃ o, o = (getL ns id).getD zeroNd := ⟨_, rfl⟩
  rw [← ho] at hold hos hook hN ⊢
  obtain ⟨X, hX⟩ : ∃ X, X = w.alloc (.cells #[.int .u8 (n.kind : Int), .string n.name, .int .i64 n.num, .int .u8 (n.typ : Int), .int .u64 (n.ref : Int), .slice A n.kids.length c] 33) := ⟨_, rfl⟩
  have hXb : Below w.heap.size w X := hX ▸ (Below.refl _ _).alloc (Nat.le_refl _) _
  have hXh : X.heap[w.heap.size]? = some (.cells #[.int .u8 (n.kind : Int), .string n.name, .int .i64 n.num, .int .u8 (n.typ : Int), .int .u64 (n.ref : Int), .slice A n.kids.length c] 33 (0, 0)) := hX ▸ Go.heap_alloc_new w _
  have hAX := h.below hXb
  have q0 : X.cell? ⟨ga, 0, none⟩ = some (.map (some gm)) := by unfold World.cell?; rw [hAX.st]; rfl
  have q1 : X.cell? ⟨ga, 1, none⟩ = some (.map (some gp)) := by unfold World.cell?; rw [hAX.st]; rfl
  have q5 : X.cell? ⟨w.heap.size, 5, none⟩ = some (.slice A n.kids.length c) := by unfold World.cell?; rw [hXh]; rfl
  have HEX : Hid (∀ y, Below X.heap.size X y → Calls Try.prog 61 #[.map (some gp), .int .u64 (id : Int), .slice Ao o.kids.length co, .slice A n.kids.length c] y (AddC y base gp F (cntOf (putL' ns id n)) (N + o.kids.length + n.kids.length))) := Lib.hid fun y hy => by
    have hwy := hXb.trans (hy.mono hXb.size)
    have hex := exchange_any y base gp id F (cntOf ns) N _ _ o.kids n.kids (h.par.below hwy) hid ((hos.below hwy).up hwy.size) ((hks.below hwy).up hwy.size) (fun k => by rw [ho]; exact cnt_le id k) (by omega) (Nat.le_trans h.hb hwy.size)
    rw [ho, exC_put h.rise, ← ho] at hex
    exact hex
  have HLK : Hid (∀ y, Below X.heap.size X y → y.cell? ⟨ga, 0, none⟩ = some (.map (some gm)) ∧ y.cell? ⟨ga, 1, none⟩ = some (.map (some gp)) ∧ y.cell? ⟨w.heap.size, 5, none⟩ = some (.slice A n.kids.length c) ∧ (Instr.lookup 70 (.map (some gm)) (.int .u64 (id : Int)) false).run Try.prog y = .ok (.agg #[.int .u8 (o.kind : Int), .string o.name, .int .i64 o.num, .int .u8 (o.typ : Int), .int .u64 (o.ref : Int), .slice Ao o.kids.length co]) y) := Lib.hid fun y hy => ⟨(hy.cell (p := ⟨ga, 0, none⟩) (lt_of_heap2 hAX.st)).trans q0, (hy.cell (p := ⟨ga, 1, none⟩) (lt_of_heap2 hAX.st)).trans q1, (hy.cell (p := ⟨w.heap.size, 5, none⟩) (lt_of_heap2 hXh)).trans q5, run_look _ 33 Try.underlying70 _ (zeroNode _) (b := gm) (l := vs) (hAX.below hy).map id hid _ hold⟩
  have hfk := fun x => run_kids x (o.kind : Int) (o.typ : Int) (o.ref : Int) o.num o.name (.slice Ao o.kids.length co)
  have HH := Lib.hid hAX
  have HV := Lib.hid (hv.below hXb)
  have HXB := Lib.hid hXb
  have HOLD := Lib.hid hold
  have HX := Lib.hid hX
  have HXH := Lib.hid hXh
  obtain ⟨nk, hnk⟩ : ∃ m, m = n.kids.length := ⟨_, rfl⟩
  obtain ⟨ok, hok2⟩ : ∃ m, m = o.kids.length := ⟨_, rfl⟩
  clear h hv hold hos hks ho hAX hXb hXh
  unfold ndV
  go_enter Try.func38, Try.ntmps38
  go_wp2_with fail
  rw [← HX.out]
  clear hX
  obtain ⟨_, _, _, hlk⟩ := HLK.out X.drew (Below.refl _ _).drew
  go_cut [] (fun wx => ∃ F1 : PF, ParC wx base gp F1 (cntOf (putL' ns id n)) (N + o.kids.length + n.kids.length) ∧ Touch X wx (fun j => j = gp ∨ OwnsF F j) ∧ (∀ j, OwnsF F1 j → OwnsF F j ∨ X.heap.size ≤ j))
  case first =>
    go_region_law (go_simp; go_at_call 61; (with_reducible refine (HEX.out _ (ride_drew (Below.refl _ _))).mono ?_); rintro e w1 ⟨rfl, F1, hP1, hT1, hO1⟩)
    all_goals
      go_wp2_with fail
      go_meet
      exact ⟨F1, hP1, ((Touch.refl X _).drewN 1).trans hT1 (fun j e => .inl e), hO1⟩
  case rest =>
  obtain ⟨F1, hP1, hT1, hO1⟩ := hcut
  have HP1 := Lib.hid hP1
  have HO1 := Lib.hid hO1
  have HT1 := Lib.hid hT1
  have hst := HH.out.other (w' := wc) (hT1.more fun j e => .inr e) HH.out.st (by decide)
  have hbx := HH.out.other (w' := wc) (hT1.more fun j e => .inr e) HXH.out (by decide)
  have p0 : wc.cell? ⟨ga, 0, none⟩ = some (.map (some gm)) := by unfold World.cell?; rw [hst]; rfl
  have p1 : wc.cell? ⟨w.heap.size, 1, none⟩ = some (.string n.name) := by unfold World.cell?; rw [hbx]; rfl
  have p2 : wc.cell? ⟨w.heap.size, 2, none⟩ = some (.int .i64 n.num) := by unfold World.cell?; rw [hbx]; rfl
  have p3 : wc.cell? ⟨w.heap.size, 3, none⟩ = some (.int .u8 (n.typ : Int)) := by unfold World.cell?; rw [hbx]; rfl
  have p4 : wc.cell? ⟨w.heap.size, 4, none⟩ = some (.int .u64 (n.ref : Int)) := by unfold World.cell?; rw [hbx]; rfl
  have p5 : wc.cell? ⟨w.heap.size, 5, none⟩ = some (.slice A n.kids.length c) := by unfold World.cell?; rw [hbx]; rfl
  have p6 : wc.cell? ⟨w.heap.size, 0, none⟩ = some (.int .u8 (n.kind : Int)) := by unfold World.cell?; rw [hbx]; rfl
  have hM1 : MapV wc gm vs := HH.out.map.at_ (hT1.block gm HH.out.map.lt (fun e => by
    rcases e with e | e
    · exact HH.out.ne e
    · obtain ⟨es, clock, h1⟩ := HH.out.map.obj
      obtain ⟨cs, h2⟩ := e.ty HH.out.par.par
      rw [h1] at h2
      cases h2))
  obtain ⟨w2, hrun, hM2, hT2⟩ := run_store (w := wc.drew) 70 33 Try.underlying70 (hM1.at_ rfl) hvl2 id hid (.agg #[.int .u8 (n.kind : Int), .string n.name, .int .i64 n.num, .int .u8 (n.typ : Int), .int .u64 (n.ref : Int), .slice A n.kids.length c])
  have HM1 := Lib.hid hM1
  have HM2 := Lib.hid hM2
  have HT2 := Lib.hid hT2
  have HST := Lib.hid hst
  clear hP1 hO1 hT1 hM1 hst hlk hfk q0 q1 q5 hM2 hT2 hbx
  go_wp2_with fail
  go_region_law (fail)
  all_goals
    go_wp2_with fail
    go_end0
    have hT : Touch w w2 (OwnA gm gp F) := ((((Touch.of_below HXB.out (fun _ => False)).more (fun _ e => e.elim)).trans (HT1.out.more (S' := OwnA gm gp F) fun j e => .inr e) (fun j e => .inl e)).drewN 1).trans (Touch.turned (S := fun j => j = gm) HT2.out rfl) (fun j e => .inl (.inl e))
    have hT2' : Touch wc.drew w2 (fun j => j = gm) := Touch.turned HT2.out rfl
    have hT2c : Touch wc w2 (fun j => j = gm) := ((Touch.refl wc _).drewN 1).trans hT2' (fun j e => .inl e)
    have hTX : Touch X w2 (OwnA gm gp F) := ((HT1.out.more (S' := OwnA gm gp F) fun j e => .inr e).drewN 1).trans hT2' (fun j e => .inl (.inl e))
    have hgm : ∃ es clock, wc.drew.heap[gm]? = some (.map es clock) := HM1.out.obj
    have hF1 : ∀ j, OwnsF F1 j → j ≠ gm := fun j hj e => by
      obtain ⟨es, clock, h1⟩ := hgm
      obtain ⟨cs, h2⟩ := hj.ty HP1.out.par
      rw [e] at h2
      have h1' : wc.heap[gm]? = some (.map es clock) := h1
      rw [h1'] at h2
      cases h2
    have hne := HH.out.ne
    refine ⟨rfl, F1, _, ⟨(hT2'.block ga (lt_of_heap2 HST.out) (fun e => by
      obtain ⟨es, clock, h1⟩ := hgm
      have h1' : wc.heap[gm]? = some (.map es clock) := h1
      have h2 := HST.out
      rw [e, h1'] at h2
      cases h2)).trans HST.out, HM2.out, HH.out.rise.put id n, ?_, ⟨HP1.out.par.touch (w' := w2) (S := fun j => j = gm) hT2c (fun e => hne e.symm) (fun j hj e => hF1 j hj e), HP1.out.cnt, HP1.out.rows, HP1.out.keys, HP1.out.few⟩, hne, HH.out.o1, HH.out.o2, HH.out.o3, Nat.le_trans HH.out.hb hTX.size⟩, hT, fun j hj => (HO1.out j hj).imp (fun h => h) fun h => Nat.le_trans HXB.out.size h⟩
    have hkeep : ∀ (j : Nat) (cs : Array Value) (z : Nat × Nat), X.heap[j]? = some (.cells cs 24 z) → w2.heap[j]? = X.heap[j]? := fun j cs z hj => (HH.out.other hTX hj (by decide)).trans hj.symm
    exact NodesV.put (HH.out.nodes.keep hTX.size hkeep) HH.out.map.rise HH.out.rise id (HV.out.keep hTX.size hkeep)
end Go.Proofs.Ytdphpjlhkamadaa
