/- ARange, AMarks, AFindP: joined by program (tools/merge.py). -/
import Derived.RangeFuncOwn
import Derived.Test.YtecbaceinifjiaaGreatDoorZ8
import Derived.RangeFuncLeaves
namespace Go.Proofs.YtecbaceinifjiaaGreatDoor
open Go.RowKit Go.Shelf
set_option linter.unusedSimpArgs false
set_option linter.unusedVariables false
section
variable {P : Program}
theorem range_two {α : Type} {p p2 q : Tmp} {g : Operand} {assign body : Code} {Q : Exit → Act → World → Prop} {T : Array Value} {ds : List Deferred} {w : World} {m : Nat} (h1 : 1 ≤ m) (gf : Nat) (lb : Array Value) (hg : ({ tmps := T, defers := ds } : Act).eval g = .func (.func gf) #[] lb)
    (eg : ∀ args w, (callFunc gf args).run P w = .ok (.enter gf args) w) {e1 e2 : α → Value} {Kp : World → World → Prop} {S Sp : List α → Prop} {N : Nat} (hseq : SeqStopsK Fence.wide (m - 1) P gf lb (fun x => #[e1 x, e2 x]) Kp S Sp N w)
    (hKt : ∀ {A B C : World}, Kp A B → Kp B C → Kp A C) (hKb : ∀ (W : World) (l : Nat) (o' : Obj), w.heap.size ≤ l → Kp W (W.putObj l o'))
    (I : List α → World → Prop) (hI : OwnFrom w.heap.size I) (h0 : I [] w)
    (hassign : ∀ (l : Nat) (x : α) (W : World) (K : Act → World → Prop), K { tmps := ((T.setIfInBounds p (e1 x)).setIfInBounds p2 (e2 x)).setIfInBounds q (e2 x), defers := [] } W →
      assign.wpIn (Fence.wide.inRound l) (m - 1 - 1) P (Exit.then K (fun _ _ _ => False)) { tmps := (T.setIfInBounds p (e1 x)).setIfInBounds p2 (e2 x), defers := [] } W)
    (hbody : ∀ (l : Nat) (pre : List α) (x : α) (W : World), I pre W → pre.length < N → body.wpIn (Fence.wide.inRound l) (m - 1 - 1) P (ownPostG w.heap.size Kp I (fun _ _ _ => False) (pre ++ [x]) W) { tmps := ((T.setIfInBounds p (e1 x)).setIfInBounds p2 (e2 x)).setIfInBounds q (e2 x), defers := [] } W)
    (hdone : ∀ (D : Nat) (xs : List α) (W : World), w.heap.size ≤ D → S xs → I xs W → W.heap[D]? = some (.deferred (some [])) → Q .normal { tmps := T, defers := { target := .collected D, args := #[] } :: ds } W) :
    (Code.rangeFunc g #[p, p2] assign body).wpIn Fence.wide m P Q { tmps := T, defers := ds } w :=
  wpIn_rangeFunc_ownG (F := Fence.wide) rfl h1 hg trivial eg hseq (fun h k => hKt h k) (fun W l _ o' hl _ _ _ => hKb W l o' hl) (Below.refl _ _) (fun _ => rfl) I (fun _ _ _ => False) hI (fun _ _ _ _ _ hs _ _ => hs) h0 (fun x => { tmps := ((T.setIfInBounds p (e1 x)).setIfInBounds p2 (e2 x)).setIfInBounds q (e2 x), defers := [] }) (fun l x W K hK => by simpa using hassign l x W K hK) hbody hdone (fun _ _ _ _ _ _ h _ => h.elim)
end
end Go.Proofs.YtecbaceinifjiaaGreatDoor
namespace Go.Proofs.YtecbaceinifjiaaGreatDoor
open Go.RowKit Go.Shelf
set_option linter.unusedSimpArgs false
set_option linter.unusedVariables false
def marks (Ds : List Nat) : List Deferred := Ds.map fun D => { target := .collected D, args := #[] }
structure Marked (B : Nat) (Ds : List Nat) (w : World) : Prop where
  once : Ds.Pairwise (fun a b => b < a)
  mine : ∀ D ∈ Ds, B ≤ D
  shut : ∀ D ∈ Ds, w.heap[D]? = some (.deferred (some []))
theorem Marked.nil (B : Nat) (w : World) : Marked B [] w := ⟨List.Pairwise.nil, fun _ h => (by cases h), fun _ h => (by cases h)⟩
theorem Marked.at_ {B : Nat} {Ds : List Nat} {w w' : World} (h : Marked B Ds w) (hk : ∀ D : Nat, w.heap[D]? = some (.deferred (some [])) → w'.heap[D]? = some (.deferred (some []))) : Marked B Ds w' := ⟨h.once, h.mine, fun D hD => hk D (h.shut D hD)⟩
theorem Marked.more {B D : Nat} {Ds : List Nat} {w : World} (h : Marked B Ds w) (hD : B ≤ D) (hlt : ∀ E ∈ Ds, E < D) (hw : w.heap[D]? = some (.deferred (some []))) : Marked B (D :: Ds) w :=
  ⟨List.Pairwise.cons hlt h.once, fun E hE => by rcases List.mem_cons.1 hE with rfl | hE; exact hD; exact h.mine E hE, fun E hE => by rcases List.mem_cons.1 hE with rfl | hE; exact hw; exact h.shut E hE⟩
theorem putObj_below {B D : Nat} {w : World} (h : B ≤ D) (o : Obj) : Below B w (w.putObj D o) := by
  refine ⟨rfl, rfl, rfl, Nat.le_of_eq World.putObj_size.symm, fun k hk => World.putObj_heap_other (by omega)⟩
/-- What the marks' end leaves: all that is no mark. -/
def Unmarked (B : Nat) (w w' : World) : Prop := Below B w w' ∧ ∀ (k : Nat) (o : Obj), w.heap[k]? = some o → (∀ x, o ≠ Obj.deferred x) → w'.heap[k]? = some o
section
variable {P : Program} {F : Fence} {n : Nat}
theorem leaves_marked {fn : Func} {T : Array Value} {R : Ending → World → Prop} {B : Nat} : ∀ (Ds : List Nat) (w : World), Marked B Ds w → (∀ w', Unmarked B w w' → ∃ v, (results fn T).run P w' = .ok v w' ∧ R (.returned v) w') →
    LeavesInM F n P fn T R (marks Ds) .returning w
  | [], w, _, h => h w ⟨Below.refl _ _, fun _ _ hk _ => hk⟩
  | D :: Ds, w, hm, h => by
    have hD := hm.shut D (by simp)
    have ho := hm.once
    rw [List.pairwise_cons] at ho
    refine ⟨by simp, .inl ⟨D, _, rfl, run_takeDeferred hD, ?_⟩⟩
    refine leaves_marked Ds _ ⟨ho.2, fun E hE => hm.mine E (by simp [hE]), fun E hE => ?_⟩ fun w' hw' => h w' ⟨(putObj_below (hm.mine D (by simp)) _).trans hw'.1, fun k o hk hn => ?_⟩
    · have := ho.1 E hE
      rw [World.putObj_heap_other (by omega)]
      exact hm.shut E (by simp [hE])
    · refine hw'.2 k o ?_ hn
      rw [World.putObj_heap_other (fun e => by rw [e, hD] at hk; injection hk with hk; exact hn _ hk.symm)]
      exact hk
/-- A loop whose rounds leave marks. -/
theorem wp_loop_marks {c : Code} {Q : Exit → Act → World → Prop} {T : Array Value} {Ds : List Nat} {w : World} (I : Array Value → List Nat → World → Prop) (μ : Array Value → World → Nat) (h₀ : I T Ds w)
    (round : ∀ T Ds w, I T Ds w → c.wp P (Exit.then (fun a' w' => ∃ Ds', a'.defers = marks Ds' ∧ I a'.tmps Ds' w' ∧ μ a'.tmps w' < μ T w) Q) { tmps := T, defers := marks Ds } w) : (Code.loop c).wp P Q { tmps := T, defers := marks Ds } w := by
  refine wp_loop (fun a w => ∃ Ds, a.defers = marks Ds ∧ I a.tmps Ds w) (fun a w => μ a.tmps w) ⟨Ds, rfl, h₀⟩ ?_
  rintro ⟨T', ds'⟩ w' ⟨Ds', rfl, hI⟩
  refine wp_mono (round T' Ds' w' hI) fun e a'' w'' hq => ?_
  cases e with
  | normal => obtain ⟨Ds'', h1, h2, h3⟩ := hq; exact ⟨⟨Ds'', h1, h2⟩, h3⟩
  | exit id => exact hq
  | goto l => exact hq
  | ret => exact hq
  | panic ch => exact hq
  | outgrown => exact hq
end
end Go.Proofs.YtecbaceinifjiaaGreatDoor
namespace Go.Proofs.YtecbaceinifjiaaGreatDoor
open Go.RowKit Go.Shelf
set_option linter.unusedSimpArgs false
set_option linter.unusedVariables false
set_option maxRecDepth 100000
attribute [local go_sem] Oper.semAt_some
theorem own_cut {w : World} {base n size c : Nat} {t : TypeId} {A : Option Addr} {xs : List Value} (h : w.ownsRow base t size (.slice A n c) n xs) {f : Nat} (hf : f ≤ n) : w.ownsRow base t size (.slice A f c) f (xs.take (f * size)) := by
  obtain ⟨hl, h2⟩ := h
  have hfm : f * size ≤ n * size := Nat.mul_le_mul_right _ hf
  refine ⟨by rw [List.length_take]; omega, ?_⟩
  rcases h2 with ⟨hv, hn⟩ | ⟨g, cap, cur, hv, hb, hg, hc, hm, hs, ht⟩
  · injection hv with h1 h2 h3
    subst h1 h2 h3
    exact .inl ⟨by rw [show f = 0 by omega], by omega⟩
  · injection hv with h1 h2 h3
    subst h1 h3
    refine .inr ⟨g, c, cur, rfl, hb, hg, by omega, hm, hs, ?_⟩
    rw [← ht, List.take_take, Nat.min_eq_left hfm]
/-- The cells of a node. -/
def ndCells : Value → List Value
  | .agg cs => cs.toList
  | _ => []
/-- The cells of what was found. -/
def fCells (vs : List (Nat × Value)) (done : List Nat) : List Value := done.flatMap fun (x : Nat) => .int .u64 (x : Int) :: ndCells ((getL vs x).getD (ndV zeroNd (.slice none 0 0)))
def SeenOf (sl : List (Nat × Value)) (done : List Nat) : Prop := Rise sl ∧ ∀ k, getL sl k = if k ∈ done then some (.agg #[]) else none
theorem SeenOf.nil : SeenOf [] [] := ⟨Rise.nil, fun k => by simp [getL]⟩
theorem SeenOf.put {sl : List (Nat × Value)} {done : List Nat} (h : SeenOf sl done) (x : Nat) : SeenOf (putL' sl x (.agg #[])) (done ++ [x]) := ⟨h.1.put x _, fun k => by
  rw [getL_put h.1, h.2 k]
  by_cases e : k = x <;> by_cases e2 : k ∈ done <;> simp [e, e2]⟩
theorem nodup_le : ∀ {ns : List (Nat × Nd)} {done : List Nat}, done.Nodup → (∀ x ∈ done, hasL ns x = true) → done.length ≤ ns.length
  | [], done, _, h => by
    cases done with
    | nil => exact Nat.le_refl _
    | cons x r => exact absurd (h x (by simp)) (by simp [hasL, getL])
  | p :: ns, done, hn, h => by
    have h1 := nodup_le (ns := ns) (hn.erase p.1) (fun x hx => by
      have h2 := h x (List.mem_of_mem_erase hx)
      have h3 : x ≠ p.1 := fun e => by
        rw [e] at hx
        exact (List.Nodup.not_mem_erase hn) hx
      unfold hasL at h2 ⊢
      have h4 : getL (p :: ns) x = if p.1 = x then some p.2 else getL ns x := rfl
      rw [h4, if_neg (fun e => h3 e.symm)] at h2
      exact h2)
    have h5 : (done.erase p.1).length ≥ done.length - 1 := by
      rw [List.length_erase]
      split <;> omega
    rw [List.length_cons]
    omega
theorem SeenOf.look {sl : List (Nat × Value)} {done : List Nat} (h : SeenOf sl done) (x : Nat) : (getL sl x).getD (.agg #[]) = .agg #[] ∧ hasL sl x = decide (x ∈ done) := by
  unfold hasL
  rw [h.2 x]
  by_cases e : x ∈ done <;> simp [e]
theorem SeenOf.few {sl : List (Nat × Value)} {done : List Nat} {ns : List (Nat × Nd)} (h : SeenOf sl done) (hn : ∀ x ∈ done, hasL ns x = true) : sl.length ≤ ns.length := by
  rw [← List.length_map (f := Prod.fst)]
  refine nodup_le ?_ fun x hx => ?_
  · have h1 := h.1
    unfold Rise at h1
    unfold List.Nodup
    rw [List.pairwise_map]
    exact h1.imp fun h2 => by omega
  · obtain ⟨p, hp, rfl⟩ := List.mem_map.1 hx
    refine hn p.1 ?_
    have h2 := getL_of_mem h.1 (k := p.1) (v := p.2) hp
    rw [h.2 p.1] at h2
    split at h2
    · assumption
    · cases h2
theorem turned_keeps {w w' : World} {g j : Nat} {o : Obj} (h : w.mapTurned w' g) (hj : j ≠ g) (ho : w.heap[j]? = some o) : w'.heap[j]? = some o :=
  ((Touch.turned (S := fun k => k = g) h rfl).block j (lt_of_heap2 ho) hj).trans ho
theorem node_new (wr : World) (p : Addr) (v : Value) (o : Obj) : ((wr.setCell p v).alloc o).heap[wr.heap.size]? = some o := by
  have h := Go.heap_alloc_new (wr.setCell p v) o
  rw [show (wr.setCell p v).heap.size = wr.heap.size by simp [World.setCell]] at h
  exact h
theorem found_one {o : Nd} {x : Int} {Ao : Option Addr} {k co : Nat} : ∀ u ∈ [Value.int .u64 x, .int .u8 (o.kind : Int), .string o.name, .int .i64 o.num, .int .u8 (o.typ : Int), .int .u64 (o.ref : Int), .slice Ao k co], u.oneCell' = true := fun u hu => by
  simp at hu
  rcases hu with rfl | rfl | rfl | rfl | rfl | rfl | rfl <;> rfl
def leftLen (wr : World) : Value → Nat
  | .pointer (some a) => lenV ((wr.cell? a).getD undef)
  | _ => 0
theorem ownsRow_at {w w' : World} {base size n : Nat} {t : TypeId} {v : Value} {xs : List Value} (h : w.ownsRow base t size v n xs) (hk : ∀ (g : Nat) (cs : Array Value), w.heap[g]? = some (Obj.cells cs t (0, 0)) → w'.heap[g]? = w.heap[g]?) : w'.ownsRow base t size v n xs := by
  obtain ⟨hl, h2⟩ := h
  refine ⟨hl, ?_⟩
  rcases h2 with h2 | ⟨g, cap, cur, hv, hb, hg, hc, hm, hs, ht⟩
  · exact .inl h2
  · exact .inr ⟨g, cap, cur, hv, hb, (hk g cur hg).trans hg, hc, hm, hs, ht⟩
theorem other_ty {wr : World} {b j : Nat} {cs cs' : Array Value} {t t' : TypeId} (hb : wr.heap[b]? = some (.cells cs t (0, 0))) (hj : wr.heap[j]? = some (.cells cs' t' (0, 0))) (ht : t' ≠ t) : j ≠ b := fun e => by
  rw [e, hb] at hj
  injection hj with hj
  injection hj with _ h2 _
  exact ht h2.symm
theorem grown_keeps {w w' : World} {base n size : Nat} {tp : TypeId} {v : Value} {xs : List Value} (hg : w.grownBy w' v.ownBlock) (ho : w.ownsRow base tp size v n xs) {k : Nat} {cs : Array Value} {t : TypeId} (h : w.heap[k]? = some (.cells cs t (0, 0))) (ht : t ≠ tp) : w'.heap[k]? = some (.cells cs t (0, 0)) :=
  (hg.block k (lt_of_heap2 h) (fun e => by
    rcases ho.2 with ⟨hv, _⟩ | ⟨g, cap, cur, hv, _, h2, _⟩
    · rw [hv] at e; cases e
    · rw [hv] at e
      have e2 : g = k := (Option.some.inj e.symm)
      rw [e2, h] at h2
      injection h2 with h2
      injection h2 with _ h3 _
      exact ht h3)).trans h
theorem cell_box {w : World} {b : Nat} {v : Value} {t : TypeId} (h : w.heap[b]? = some (.cells #[v] t (0, 0))) : w.cell? ⟨b, 0, none⟩ = some v := by unfold World.cell?; rw [h]; rfl
theorem cell_putObj {w : World} {l : Nat} {o : Obj} {p : Addr} (h : p.block ≠ l) : (w.putObj l o).cell? p = w.cell? p := by
  unfold World.cell?
  rw [World.putObj_heap_other h]
theorem kpB_putObj {w0 : World} {Bs : Nat} {Ao : Option Addr} (hB : Bs < w0.heap.size) (hA : ∀ ad, Ao = some ad → ad.block < w0.heap.size) (W : World) (l : Nat) (o : Obj) (hl : w0.heap.size ≤ l) : KpB Bs Ao W (W.putObj l o) :=
  ⟨cell_putObj (by show Bs ≠ l; omega), fun ad e i => cell_putObj (by rw [addr_add_block]; have := hA ad e; omega)⟩
theorem fCells_snoc (vs : List (Nat × Value)) (done : List Nat) (x : Nat) : fCells vs (done ++ [x]) = fCells vs done ++ .int .u64 (x : Int) :: ndCells ((getL vs x).getD (ndV zeroNd (.slice none 0 0))) := by
  unfold fCells
  rw [List.flatMap_append]
  simp
theorem kids_rev {ks : List Nat} {xs : List (At_ ks)} (h : atNo xs = downs ks.length 0) : xs.map (fun k => ks[k.1]) = ks.reverse := by
  have h1 : xs.map (fun k => ks[k.1]) = (atNo xs).map (fun i => ks.getD i 0) := by
    unfold atNo
    rw [List.map_map]
    refine List.map_congr_left fun k _ => ?_
    show ks[k.1] = ks.getD k.1 0
    rw [List.getD_eq_getElem?_getD, List.getElem?_eq_getElem k.2]
    rfl
  rw [h1, h]
  refine List.ext_getElem (by simp [downs]) fun i h2 h3 => ?_
  simp only [downs, List.getElem_map, List.getElem_range, List.getElem_reverse]
  rw [List.getD_eq_getElem?_getD, List.getElem?_eq_getElem (by simp at h3; omega)]
  rfl
theorem mu_less {S N d l l' : Nat} (h : d + 1 ≤ N) (hl : l' ≤ S + 1) (h1 : 1 ≤ l) : (S + 1) * (N - (d + 1)) + l' < (S + 1) * (N - d) + l := by
  rw [show N - d = N - (d + 1) + 1 by omega, Nat.mul_succ]
  omega
end Go.Proofs.YtecbaceinifjiaaGreatDoor
