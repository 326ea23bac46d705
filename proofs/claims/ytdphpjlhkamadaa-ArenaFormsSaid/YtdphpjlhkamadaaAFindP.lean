/- What find keeps while it goes. -/
import Derived.Test.YtdphpjlhkamadaaZ12
namespace Go.Proofs.Ytdphpjlhkamadaa
open Go.RowKit Go.Shelf
set_option linter.unusedSimpArgs false
set_option linter.unusedVariables false
set_option maxRecDepth 100000
attribute [local go_sem] Oper.semAt_some
theorem find_nil (w : World) (x : Value) : Calls Try.prog 62 #[.pointer none, x] w (fun e w' => e = .returned (.slice none 0 0) ∧ Below w.heap.size w w') := by
  go_enter Try.func62, Try.ntmps62
  go_wp2_with fail
  go_ret
  exact ⟨rfl, Below.refl _ _⟩
theorem own_cut {w : World} {base n size c : Nat} {t : TypeId} {A : Option Addr} {xs : List Value} (h : w.ownsRow base t size (.slice A n c) n xs) {f : Nat} (hf : f ≤ n) : w.ownsRow base t size (.slice A f c) f (xs.take (f * size)) := by
  obtain ⟨hl, h2⟩ := h
  have hfm : f * size ≤ n * size := Nat.mul_le_mul_right _ hf
  refine ⟨by rw [List.length_take]; omega, ?_⟩
  rcases h2 with ⟨hv, hn⟩ | ⟨g, cap, cur, hv, hb, hg, hc, hm, hs, ht⟩
  · injection hv with h1 h2 h3
    subst h1 h2 h3
    exact .inl ⟨by rw [show f = 0 by omega], by omega⟩
  · injection hv with h1 h2 h3
    subst h1 h3
    refine .inr ⟨g, c, cur, rfl, hb, hg, by omega, hm, hs, ?_⟩
    rw [← ht, List.take_take, Nat.min_eq_left hfm]
/-- The cells of a node. -/
def ndCells : Value → List Value
  | .agg cs => cs.toList
  | _ => []
/-- The cells of what was found. -/
def fCells (vs : List (Nat × Value)) (done : List Nat) : List Value := done.flatMap fun (x : Nat) => .int .u64 (x : Int) :: ndCells ((getL vs x).getD (ndV zeroNd (.slice none 0 0)))
def SeenOf (sl : List (Nat × Value)) (done : List Nat) : Prop := Rise sl ∧ ∀ k, getL sl k = if k ∈ done then some (.agg #[]) else none
theorem SeenOf.nil : SeenOf [] [] := ⟨Rise.nil, fun k => by simp [getL]⟩
theorem SeenOf.put {sl : List (Nat × Value)} {done : List Nat} (h : SeenOf sl done) (x : Nat) : SeenOf (putL' sl x (.agg #[])) (done ++ [x]) := ⟨h.1.put x _, fun k => by
  rw [getL_put h.1, h.2 k]
  by_cases e : k = x <;> by_cases e2 : k ∈ done <;> simp [e, e2]⟩
theorem nodup_le : ∀ {ns : List (Nat × Nd)} {done : List Nat}, done.Nodup → (∀ x ∈ done, hasL ns x = true) → done.length ≤ ns.length
  | [], done, _, h => by
    cases done with
    | nil => exact Nat.le_refl _
    | cons x r => exact absurd (h x (by simp)) (by simp [hasL, getL])
  | p :: ns, done, hn, h => by
    have h1 := nodup_le (ns := ns) (hn.erase p.1) (fun x hx => by
      have h2 := h x (List.mem_of_mem_erase hx)
      have h3 : x ≠ p.1 := fun e => by
        rw [e] at hx
        exact (List.Nodup.not_mem_erase hn) hx
      unfold hasL at h2 ⊢
      have h4 : getL (p :: ns) x = if p.1 = x then some p.2 else getL ns x := rfl
      rw [h4, if_neg (fun e => h3 e.symm)] at h2
      exact h2)
    have h5 : (done.erase p.1).length ≥ done.length - 1 := by
      rw [List.length_erase]
      split <;> omega
    rw [List.length_cons]
    omega
/-- What find keeps at the head of its loop. -/
structure FindAt (W wr : World) (vs : List (Nat × Value)) (gs : Nat) (fv lp : Value) (left done : List Nat) : Prop where
  below : Below W.heap.size W wr
  seen : ∃ sl, SeenOf sl done ∧ MapV wr gs sl
  gs0 : W.heap.size ≤ gs
  small : ∀ y ∈ left, y < 18446744073709551616
  found : wr.ownsRow W.heap.size 112 7 fv done.length (fCells vs done)
  left_ : ∃ b A c, lp = .pointer (some ⟨b, 0, none⟩) ∧ W.heap.size ≤ b ∧ wr.heap[b]? = some (.cells #[.slice A left.length c] 30 (0, 0)) ∧ wr.ownsRow W.heap.size 24 1 (.slice A left.length c) left.length (ids left.reverse)
theorem zeroUnit (w : World) : (zeroValue 133).run Try.prog w = .ok (.agg #[]) w := by kernel_rfl
theorem SeenOf.look {sl : List (Nat × Value)} {done : List Nat} (h : SeenOf sl done) (x : Nat) : (getL sl x).getD (.agg #[]) = .agg #[] ∧ hasL sl x = decide (x ∈ done) := by
  unfold hasL
  rw [h.2 x]
  by_cases e : x ∈ done <;> simp [e]
theorem SeenOf.few {sl : List (Nat × Value)} {done : List Nat} {ns : List (Nat × Nd)} (h : SeenOf sl done) (hn : ∀ x ∈ done, hasL ns x = true) : sl.length ≤ ns.length := by
  rw [← List.length_map (f := Prod.fst)]
  refine nodup_le ?_ fun x hx => ?_
  · have h1 := h.1
    unfold Rise at h1
    unfold List.Nodup
    rw [List.pairwise_map]
    exact h1.imp fun h2 => by omega
  · obtain ⟨p, hp, rfl⟩ := List.mem_map.1 hx
    refine hn p.1 ?_
    have h2 := getL_of_mem h.1 (k := p.1) (v := p.2) hp
    rw [h.2 p.1] at h2
    split at h2
    · assumption
    · cases h2
theorem turned_keeps {w w' : World} {g j : Nat} {o : Obj} (h : w.mapTurned w' g) (hj : j ≠ g) (ho : w.heap[j]? = some o) : w'.heap[j]? = some o :=
  ((Touch.turned (S := fun k => k = g) h rfl).block j (lt_of_heap2 ho) hj).trans ho
theorem node_new (wr : World) (p : Addr) (v : Value) (o : Obj) : ((wr.setCell p v).alloc o).heap[wr.heap.size]? = some o := by
  have h := Go.heap_alloc_new (wr.setCell p v) o
  rw [show (wr.setCell p v).heap.size = wr.heap.size by simp [World.setCell]] at h
  exact h
theorem infoFound : (Try.prog.info? 112).map (fun i => (i.zero, i.size, i.bytes)) = some (some (.agg #[.int .u64 0, .int .u8 0, .string ⟨#[]⟩, .int .i64 0, .int .u8 0, .int .u64 0, .slice none 0 0]), 7, 80) := by kernel_rfl
theorem found_lie (w5 : World) {cs : List Value} (j : Nat) (u : Value) (hj : cs[j]? = some u) : (w5.alloc (.cells cs.toArray 112)).cell? ((⟨w5.heap.size, 0, none⟩ : Addr).add j) = some u := by
  have ha : (⟨w5.heap.size, 0, none⟩ : Addr).add j = ⟨w5.heap.size, j, none⟩ := by
    unfold Addr.add
    split <;> simp_all
  rw [ha]
  unfold World.cell?
  dsimp only
  rw [Go.heap_alloc_new]
  show cs.toArray[j]? = some u
  simpa using hj
theorem found_one {o : Nd} {x : Int} {Ao : Option Addr} {k co : Nat} : ∀ u ∈ [Value.int .u64 x, .int .u8 (o.kind : Int), .string o.name, .int .i64 o.num, .int .u8 (o.typ : Int), .int .u64 (o.ref : Int), .slice Ao k co], u.oneCell' = true := fun u hu => by
  simp at hu
  rcases hu with rfl | rfl | rfl | rfl | rfl | rfl | rfl <;> rfl
def leftLen (wr : World) : Value → Nat
  | .pointer (some a) => lenV ((wr.cell? a).getD undef)
  | _ => 0
theorem ownsRow_at {w w' : World} {base size n : Nat} {t : TypeId} {v : Value} {xs : List Value} (h : w.ownsRow base t size v n xs) (hk : ∀ (g : Nat) (cs : Array Value), w.heap[g]? = some (Obj.cells cs t (0, 0)) → w'.heap[g]? = w.heap[g]?) : w'.ownsRow base t size v n xs := by
  obtain ⟨hl, h2⟩ := h
  refine ⟨hl, ?_⟩
  rcases h2 with h2 | ⟨g, cap, cur, hv, hb, hg, hc, hm, hs, ht⟩
  · exact .inl h2
  · exact .inr ⟨g, cap, cur, hv, hb, (hk g cur hg).trans hg, hc, hm, hs, ht⟩
theorem other_ty {wr : World} {b j : Nat} {cs cs' : Array Value} {t t' : TypeId} (hb : wr.heap[b]? = some (.cells cs t (0, 0))) (hj : wr.heap[j]? = some (.cells cs' t' (0, 0))) (ht : t' ≠ t) : j ≠ b := fun e => by
  rw [e, hb] at hj
  injection hj with hj
  injection hj with _ h2 _
  exact ht h2.symm
/-- The last that waits is taken: it is nothing new. -/
theorem FindAt.less {W wr wr' : World} {vs : List (Nat × Value)} {gs b B n c x : Nat} {fv : Value} {A : Option Addr} {rest done : List Nat} (h : FindAt W wr vs gs fv (.pointer (some ⟨b, 0, none⟩)) (x :: rest) done) (hn : n = rest.length)
    (hbx : wr.heap[b]? = some (.cells #[.slice A (n + 1) c] 30 (0, 0))) (hbb : W.heap.size ≤ b) (hlo : wr.ownsRow W.heap.size 24 1 (.slice A (n + 1) c) (n + 1) (ids (x :: rest).reverse))
    (hy : Below wr.heap.size (wr.setCell ⟨b, 0, none⟩ (.slice A n c)) wr') (hB : wr'.heap[B]? = some (.cells #[.slice A n c] 30 (0, 0))) (hBb : W.heap.size ≤ B) : FindAt W wr' vs gs fv (.pointer (some ⟨B, 0, none⟩)) rest done := by
  have hkeep : ∀ j, j < wr.heap.size → j ≠ b → wr'.heap[j]? = wr.heap[j]? := fun j hj hjb => (hy.block j hj).trans (heap_setCell_other _ ⟨b, 0, none⟩ _ _ hjb)
  obtain ⟨sl, hsl, hms⟩ := h.seen
  have hbs : gs ≠ b := fun e => by
    obtain ⟨es, clock, h1⟩ := hms.obj
    rw [e, hbx] at h1
    cases h1
  have hc2 := own_cut hlo (f := n) (by omega)
  have hids : (ids (x :: rest).reverse).take (n * 1) = ids rest.reverse := by
    rw [Nat.mul_one, ← ids_take, List.reverse_cons, hn, ← List.length_reverse, List.take_left]
  rw [hids] at hc2
  refine ⟨(h.below.setCell hbb _).trans (hy.mono (Nat.le_trans h.below.size (Nat.le_refl _))), ⟨sl, hsl, hms.at_ (hkeep gs hms.lt hbs)⟩, h.gs0, fun y hy => h.small y (by simp [hy]), ownsRow_at h.found fun g cs hg => hkeep g (lt_of_heap2 hg) (other_ty hbx hg (by decide)), B, A, c, rfl, hBb, ?_, ?_⟩
  · rw [← hn]; exact hB
  · rw [← hn]; exact ownsRow_at hc2 fun g cs hg => hkeep g (lt_of_heap2 hg) (other_ty hbx hg (by decide))
theorem found_at {W wr wr' w5 : World} {vs : List (Nat × Value)} {gs b : Nat} {fv lp v : Value} {left done : List Nat} {o1 o2 o3 : Obj} {cs : Array Value} (h : FindAt W wr vs gs fv lp left done) (hbx : wr.heap[b]? = some (.cells cs 30 (0, 0)))
    (hT : wr'.mapTurned w5 gs) (h1 : True) (h2 : True) (he : wr' = ((wr.setCell ⟨b, 0, none⟩ v).alloc o1).alloc o2) : (w5.alloc o3).ownsRow W.heap.size 112 7 fv done.length (fCells vs done) := by
  subst he
  refine ownsRow_at h.found fun g cs hg => ?_
  have hgl := lt_of_heap2 hg
  have e1 : ((((wr.setCell ⟨b, 0, none⟩ v).alloc o1).alloc o2).heap)[g]? = wr.heap[g]? := by
    rw [heap_alloc_lt _ _ (by simp [World.setCell]; omega), heap_alloc_lt _ _ (by simp [World.setCell]; omega)]
    exact heap_setCell_other _ ⟨b, 0, none⟩ _ _ (other_ty hbx hg (by decide))
  have e2 := turned_keeps hT (j := g) (fun e => by
    obtain ⟨sl, _, hms⟩ := h.seen
    obtain ⟨es, clock, h3⟩ := hms.obj
    rw [e, h3] at hg
    cases hg) (e1.trans hg)
  rw [heap_alloc_lt _ _ (lt_of_heap2 e2), e2, hg]
theorem grown_keeps {w w' : World} {base n size : Nat} {tp : TypeId} {v : Value} {xs : List Value} (hg : w.grownBy w' v.ownBlock) (ho : w.ownsRow base tp size v n xs) {k : Nat} {cs : Array Value} {t : TypeId} (h : w.heap[k]? = some (.cells cs t (0, 0))) (ht : t ≠ tp) : w'.heap[k]? = some (.cells cs t (0, 0)) :=
  (hg.block k (lt_of_heap2 h) (fun e => by
    rcases ho.2 with ⟨hv, _⟩ | ⟨g, cap, cur, hv, _, h2, _⟩
    · rw [hv] at e; cases e
    · rw [hv] at e
      have e2 : g = k := (Option.some.inj e.symm)
      rw [e2, h] at h2
      injection h2 with h2
      injection h2 with _ h3 _
      exact ht h3)).trans h
theorem cell_box {w : World} {b : Nat} {v : Value} {t : TypeId} (h : w.heap[b]? = some (.cells #[v] t (0, 0))) : w.cell? ⟨b, 0, none⟩ = some v := by unfold World.cell?; rw [h]; rfl
/-- While kids are laid behind what waits. -/
def BackI (w : World) (b Bs gs : Nat) (sl : List (Nat × Value)) (fv sV : Value) (dl : Nat) (fc : List Value) (Ds lw : List Nat) (W : World) : Prop :=
  ∃ A c, W.heap[b]? = some (.cells #[.slice A lw.length c] 30 (0, 0)) ∧ W.heap[Bs]? = some (.cells #[sV] 30 (0, 0)) ∧ W.ownsRow w.heap.size 24 1 (.slice A lw.length c) lw.length (ids lw) ∧
    W.ownsRow w.heap.size 112 7 fv dl fc ∧ MapV W gs sl ∧ Below w.heap.size w W ∧ (∀ y ∈ lw, y < 18446744073709551616) ∧ Marked w.heap.size Ds W
theorem backI_own {w : World} {b Bs gs B dl : Nat} {sl : List (Nat × Value)} {fv sV : Value} {fc : List Value} {Ds : List Nat} {α : Type} {f : List α → List Nat} (hB : w.heap.size ≤ B) (hgs : gs < B) (hDs : ∀ D ∈ Ds, D < B) : OwnFrom B (fun pre W => BackI w b Bs gs sl fv sV dl fc Ds (f pre) W) := fun pre W W' row hs hg hr => by
  obtain ⟨A, c, h1, h2, h3, h4, h5, h6, h7, h8⟩ := hs
  have hk : ∀ (k : Nat) (cs : Array Value) (t : TypeId), W.heap[k]? = some (Obj.cells cs t (0, 0)) → W'.heap[k]? = W.heap[k]? := fun k cs t h => hg.block k (lt_of_heap2 h) (fun e => by
    obtain ⟨_, o, ho, hc⟩ := hr k e.symm
    rw [h] at ho
    injection ho with ho
    subst ho
    cases hc)
  refine ⟨A, c, (hk _ _ _ h1).trans h1, (hk _ _ _ h2).trans h2, ownsRow_at h3 fun g cs h => hk g cs _ h, ownsRow_at h4 fun g cs h => hk g cs _ h, h5.at_ (hg.block gs h5.lt (fun e => ?_)), h6.grown hg h6.size (fun k e => Nat.le_trans hB (hr k e).1), h7, h8.once, h8.mine, fun D hD => (hg.block D (lt_of_heap2 (h8.shut D hD)) (fun e => ?_)).trans (h8.shut D hD)⟩
  · have := (hr gs e.symm).1
    omega
  · have h9 := (hr D e.symm).1
    have h10 := hDs D hD
    omega
/-- Behind a kid that was laid. -/
theorem back_end {w W w8 : World} {b Bs gs D dl m c k8 g8 kd : Nat} {sl : List (Nat × Value)} {fv sV : Value} {fc : List Value} {Ds lw : List Nat} {A Ao : Option Addr} (hm : m = lw.length) (hbb : w.heap.size ≤ b) (hbs : Bs ≠ b) (hgs : w.heap.size ≤ gs) (hA : ∀ ad, Ao = some ad → ad.block < w.heap.size) (hkd : kd < 18446744073709551616)
    (i1 : W.heap[b]? = some (.cells #[.slice A m c] 30 (0, 0))) (i2 : W.heap[Bs]? = some (.cells #[sV] 30 (0, 0))) (i3 : W.ownsRow w.heap.size 24 1 (.slice A m c) m (ids lw)) (i4 : W.ownsRow w.heap.size 112 7 fv dl fc) (i5 : MapV W gs sl) (i6 : Below w.heap.size w W) (i7 : ∀ y ∈ lw, y < 18446744073709551616) (i8 : Marked w.heap.size Ds W)
    (hg : (W.alloc (.cells #[.int .u64 (kd : Int)] 24)).grownBy w8 (Value.slice A m c).ownBlock) (ho8 : w8.ownsRow w.heap.size 24 1 (.slice (some ⟨g8, 0, none⟩) (m + 1) k8) (m + 1) (ids lw ++ [.int .u64 (kd : Int)])) (hb8 : w8.heap[b]? = some (.cells #[.slice A m c] 30 (0, 0))) :
    KeepsFrom D W (w8.setCell ⟨b, 0, none⟩ (.slice (some ⟨g8, 0, none⟩) (m + 1) k8)) ∧ KpB Bs Ao W (w8.setCell ⟨b, 0, none⟩ (.slice (some ⟨g8, 0, none⟩) (m + 1) k8)) ∧
      BackI w b Bs gs sl fv sV dl fc Ds (lw ++ [kd]) (w8.setCell ⟨b, 0, none⟩ (.slice (some ⟨g8, 0, none⟩) (m + 1) k8)) := by
  have hbA := (Below.refl W.heap.size W).alloc (Nat.le_refl _) (.cells #[.int .u64 (kd : Int)] 24)
  have i3A : (W.alloc (.cells #[.int .u64 (kd : Int)] 24)).ownsRow w.heap.size 24 1 (.slice A m c) m (ids lw) := ownsRow_at i3 (fun g cs h => heap_alloc_lt _ _ (lt_of_heap2 h))
  have hkeep : ∀ (k : Nat) (o : Obj), W.heap[k]? = some o → k ≠ b → (∀ cs, o ≠ .cells cs 24 (0, 0)) → (w8.setCell ⟨b, 0, none⟩ (.slice (some ⟨g8, 0, none⟩) (m + 1) k8)).heap[k]? = some o := fun k o hk h1 h2 => by
    have hkl := lt_of_heap2 hk
    rw [heap_setCell_other _ ⟨b, 0, none⟩ _ _ h1, hg.block k (Nat.lt_of_lt_of_le hkl hbA.size) (fun e => ?_), hbA.block k hkl, hk]
    rcases i3.2 with ⟨hv, _⟩ | ⟨g, cap, cur, hv, _, h3, _⟩
    · rw [hv] at e; cases e
    · rw [hv] at e
      have e2 : g = k := (Option.some.inj e.symm)
      rw [e2, hk] at h3
      injection h3 with h3
      exact h2 cur h3
  have hsz : W.heap.size ≤ (w8.setCell ⟨b, 0, none⟩ (.slice (some ⟨g8, 0, none⟩) (m + 1) k8)).heap.size := by
    have h1 := hbA.size
    have h2 := hg.size
    simp [World.setCell]
    omega
  have hown : ∀ k, (Value.slice A m c).ownBlock = some k → w.heap.size ≤ k := fun k e => (World.ownsRow.lt i3 k e).1
  have hbw : Below w.heap.size w (w8.setCell ⟨b, 0, none⟩ (.slice (some ⟨g8, 0, none⟩) (m + 1) k8)) := ((i6.alloc i6.size _).grown hg (Nat.le_trans i6.size hbA.size) (fun k e => hown k e)).setCell hbb _
  have k2 := hkeep Bs _ i2 hbs (fun cs e => by injection e with _ h2 _; revert h2; decide)
  refine ⟨⟨hsz, fun k o _ hk ho => ?_⟩, ⟨?_, fun ad e i => ?_⟩, ?_⟩
  · refine hkeep k o hk (fun e => ?_) (fun cs e => ?_)
    · rw [e, i1] at hk; injection hk with hk; subst hk; cases ho
    · rw [e] at ho; cases ho
  · rw [cell_box k2, cell_box i2]
  · rw [hbw.cell (by rw [addr_add_block]; exact hA ad e), i6.cell (by rw [addr_add_block]; exact hA ad e)]
  · have hlen : (lw ++ [kd]).length = m + 1 := by rw [List.length_append, hm]; rfl
    have hb9 : (w8.setCell ⟨b, 0, none⟩ (.slice (some ⟨g8, 0, none⟩) (m + 1) k8)).heap[b]? = some (.cells #[.slice (some ⟨g8, 0, none⟩) (m + 1) k8] 30 (0, 0)) := by rw [heap_setCell_same w8 b 0 _ _ _ hb8]; rfl
    refine ⟨some ⟨g8, 0, none⟩, k8, by rw [hlen]; exact hb9, k2, ?_, ?_, ?_, hbw, fun y hy => ?_, i8.at_ fun D hD => hkeep D _ hD (fun e => by rw [e, i1] at hD; cases hD) (fun cs e => by cases e)⟩
    · rw [hlen, show ids (lw ++ [kd]) = ids lw ++ [.int .u64 (kd : Int)] by unfold ids; rw [List.map_append]; rfl]
      exact ownsRow_at ho8 fun g cs h => heap_setCell_other _ ⟨b, 0, none⟩ _ _ (other_ty hb8 h (by decide))
    · refine ownsRow_at i4 fun g cs h => (hkeep g _ h (other_ty i1 h (by decide)) (fun cs e => by injection e with _ h2 _; revert h2; decide)).trans h.symm
    · obtain ⟨es, clock, h1⟩ := i5.obj
      refine i5.at_ ((hkeep gs _ h1 (fun e => ?_) (fun cs e => by cases e)).trans h1.symm)
      rw [e, i1] at h1
      cases h1
    · rcases List.mem_append.1 hy with hy | hy
      · exact i7 y hy
      · rw [List.mem_singleton] at hy; rw [hy]; exact hkd
theorem cell_putObj {w : World} {l : Nat} {o : Obj} {p : Addr} (h : p.block ≠ l) : (w.putObj l o).cell? p = w.cell? p := by
  unfold World.cell?
  rw [World.putObj_heap_other h]
theorem kpB_putObj {w0 : World} {Bs : Nat} {Ao : Option Addr} (hB : Bs < w0.heap.size) (hA : ∀ ad, Ao = some ad → ad.block < w0.heap.size) (W : World) (l : Nat) (o : Obj) (hl : w0.heap.size ≤ l) : KpB Bs Ao W (W.putObj l o) :=
  ⟨cell_putObj (by show Bs ≠ l; omega), fun ad e i => cell_putObj (by rw [addr_add_block]; have := hA ad e; omega)⟩
theorem chain_keeps {ws w5 w6 : World} {gs : Nat} {o1 o2 o3 : Obj} {base n : Nat} {fv : Value} {fc : List Value} (hT : ((ws.alloc o1).alloc o2).mapTurned w5 gs) (hFO : (w5.alloc o3).ownsRow base 112 7 fv n fc) (hG : (w5.alloc o3).grownBy w6 fv.ownBlock) (o4 : Obj) {k : Nat} {o : Obj} (hk : ws.heap[k]? = some o) (h1 : k ≠ gs) (h2 : ∀ cs, o ≠ .cells cs 112 (0, 0)) : (w6.alloc o4).heap[k]? = some o := by
  have hl := lt_of_heap2 hk
  have e1 : ((ws.alloc o1).alloc o2).heap[k]? = some o := by
    rw [heap_alloc_lt _ _ (by simp; omega), heap_alloc_lt _ _ hl]; exact hk
  have e2 := turned_keeps hT h1 e1
  have e3 : (w5.alloc o3).heap[k]? = some o := by rw [heap_alloc_lt _ _ (lt_of_heap2 e2)]; exact e2
  have e4 : w6.heap[k]? = some o := (hG.block k (lt_of_heap2 e3) (fun e => by
    rcases hFO.2 with ⟨hv, _⟩ | ⟨g, cap, cur, hv, _, h3, _⟩
    · rw [hv] at e; cases e
    · rw [hv] at e
      have e2 : g = k := (Option.some.inj e.symm)
      rw [e2, e3] at h3
      injection h3 with h3
      exact h2 cur h3)).trans e3
  rw [heap_alloc_lt _ _ (lt_of_heap2 e4)]; exact e4
theorem fCells_snoc (vs : List (Nat × Value)) (done : List Nat) (x : Nat) : fCells vs (done ++ [x]) = fCells vs done ++ .int .u64 (x : Int) :: ndCells ((getL vs x).getD (ndV zeroNd (.slice none 0 0))) := by
  unfold fCells
  rw [List.flatMap_append]
  simp
theorem kids_rev {ks : List Nat} {xs : List (At_ ks)} (h : atNo xs = downs ks.length 0) : xs.map (fun k => ks[k.1]) = ks.reverse := by
  have h1 : xs.map (fun k => ks[k.1]) = (atNo xs).map (fun i => ks.getD i 0) := by
    unfold atNo
    rw [List.map_map]
    refine List.map_congr_left fun k _ => ?_
    show ks[k.1] = ks.getD k.1 0
    rw [List.getD_eq_getElem?_getD, List.getElem?_eq_getElem k.2]
    rfl
  rw [h1, h]
  refine List.ext_getElem (by simp [downs]) fun i h2 h3 => ?_
  simp only [downs, List.getElem_map, List.getElem_range, List.getElem_reverse]
  rw [List.getD_eq_getElem?_getD, List.getElem?_eq_getElem (by simp at h3; omega)]
  rfl
/-- Where the range over the kids begins. -/
theorem back_start {w wr w5 w6 : World} {vs : List (Nat × Value)} {gs b n c x co : Nat} {fv v' : Value} {ad : Addr} {Ao : Option Addr} {rest done Ds : List Nat} {o1 o2 o3 : Obj} {nd : Nd} {sl : List (Nat × Value)}
    (h : FindAt w wr vs gs fv (.pointer (some ⟨b, 0, none⟩)) (x :: rest) done) (hn : n = rest.length) (hbx : wr.heap[b]? = some (.cells #[.slice (some ad) (n + 1) c] 30 (0, 0)))
    (hlo : wr.ownsRow w.heap.size 24 1 (.slice (some ad) (n + 1) c) (n + 1) (ids (x :: rest).reverse))
    (hT : (((wr.setCell ⟨b, 0, none⟩ (.slice (some ad) n c)).alloc o1).alloc o2).mapTurned w5 gs) (hM : MapV w5 gs (putL' sl x (.agg #[]))) (hFO : (w5.alloc o3).ownsRow w.heap.size 112 7 fv done.length (fCells vs done))
    (hO : w6.ownsRow w.heap.size 112 7 v' (done.length + 1) (fCells vs done ++ [.int .u64 (x : Int), .int .u8 (nd.kind : Int), .string nd.name, .int .i64 nd.num, .int .u8 (nd.typ : Int), .int .u64 (nd.ref : Int), .slice Ao nd.kids.length co])) (hG : (w5.alloc o3).grownBy w6 fv.ownBlock)
    (hv : (getL vs x).getD (ndV zeroNd (.slice none 0 0)) = ndV nd (.slice Ao nd.kids.length co)) (hb6 : Below w.heap.size w w6) (hmk : Marked w.heap.size Ds wr) :
    BackI w b w6.heap.size gs (putL' sl x (.agg #[])) v' (.slice Ao nd.kids.length co) (done.length + 1) (fCells vs (done ++ [x])) Ds rest.reverse (w6.alloc (.cells #[.slice Ao nd.kids.length co] 30)) ∧ b < w6.heap.size := by
  have hs : ∀ (k : Nat) (o : Obj), wr.heap[k]? = some o → k ≠ b → (wr.setCell ⟨b, 0, none⟩ (.slice (some ad) n c)).heap[k]? = some o := fun k o hk hne => (heap_setCell_other _ ⟨b, 0, none⟩ _ _ hne).trans hk
  have hsb : (wr.setCell ⟨b, 0, none⟩ (.slice (some ad) n c)).heap[b]? = some (.cells #[.slice (some ad) n c] 30 (0, 0)) := by rw [heap_setCell_same wr b 0 _ _ _ hbx]; rfl
  obtain ⟨sl0, _, hms0⟩ := h.seen
  obtain ⟨es0, cl0, hgs⟩ := hms0.obj
  have hbg : b ≠ gs := fun e => by rw [← e, hbx] at hgs; cases hgs
  have hmap : ∀ (k : Nat), k = gs → ∃ es cl, wr.heap[k]? = some (.map es cl) := fun k e => ⟨es0, cl0, e ▸ hgs⟩
  have hcell : ∀ (k : Nat) (cs : Array Value) (t : TypeId) (z : Nat × Nat), wr.heap[k]? = some (.cells cs t z) → k ≠ b → t ≠ 112 → (w6.alloc (.cells #[.slice Ao nd.kids.length co] 30)).heap[k]? = some (.cells cs t z) := fun k cs t z hk hne ht =>
    chain_keeps hT hFO hG _ (hs k _ hk hne) (fun e => by obtain ⟨es, cl, h1⟩ := hmap k e; rw [hk] at h1; cases h1) (fun cs' e => by injection e with _ e _; exact ht e)
  have hb1 : (w6.alloc (.cells #[.slice Ao nd.kids.length co] 30)).heap[b]? = some (.cells #[.slice (some ad) n c] 30 (0, 0)) := chain_keeps hT hFO hG _ hsb hbg (fun cs' e => by injection e with _ e _; revert e; decide)
  have hlen : rest.reverse.length = n := by rw [List.length_reverse, hn]
  have hc2 := own_cut hlo (f := n) (by omega)
  have hids : (ids (x :: rest).reverse).take (n * 1) = ids rest.reverse := by
    rw [Nat.mul_one, ← ids_take, List.reverse_cons, hn, ← List.length_reverse, List.take_left]
  rw [hids] at hc2
  refine ⟨⟨some ad, c, by rw [hlen]; exact hb1, Go.heap_alloc_new _ _, ?_, ?_, ?_, hb6.alloc hb6.size _, fun y hy => h.small y (by simp at hy; simp [hy]), ?_⟩, ?_⟩
  · rw [hlen]
    exact ownsRow_at hc2 fun g cs hg => (hcell g cs _ _ hg (other_ty hbx hg (by decide)) (by decide)).trans hg.symm
  · rw [fCells_snoc, hv]
    exact ownsRow_at hO fun g cs hg => heap_alloc_lt _ _ (lt_of_heap2 hg)
  · obtain ⟨es, cl, h5⟩ := hM.obj
    have e3 : (w5.alloc o3).heap[gs]? = some (.map es cl) := by rw [heap_alloc_lt _ _ (lt_of_heap2 h5)]; exact h5
    have e4 : w6.heap[gs]? = some (.map es cl) := (hG.block gs (lt_of_heap2 e3) (fun e => by
      rcases hFO.2 with ⟨hv, _⟩ | ⟨g, cap, cur, hv, _, h3, _⟩
      · rw [hv] at e; cases e
      · rw [hv] at e
        have e2 : g = gs := (Option.some.inj e.symm)
        rw [e2, e3] at h3
        cases h3)).trans e3
    refine hM.at_ ?_
    rw [heap_alloc_lt _ _ (lt_of_heap2 e4), e4, h5]
  · exact hmk.at_ fun D hD => chain_keeps hT hFO hG _ (hs D _ hD (fun e => by rw [e, hbx] at hD; cases hD)) (fun e => by obtain ⟨es, cl, h1⟩ := hmap D e; rw [hD] at h1; cases h1) (fun cs e => by cases e)
  · have h1 := chain_keeps hT hFO hG (.deferred none) hsb hbg (fun cs' e => by injection e with _ e _; revert e; decide)
    have h2 := lt_of_heap2 hsb
    have h3 : (w5.alloc o3).heap.size ≤ w6.heap.size := hG.size
    have h4 := (Touch.turned (S := fun k => k = gs) hT rfl).size
    simp only [World.size_alloc] at h3 h4
    omega
/-- Where it ends. -/
theorem back_done {w W : World} {vs : List (Nat × Value)} {gs b x Bs : Nat} {v' sV : Value} {rest done Ds : List Nat} {nd : Nd} {sl : List (Nat × Value)} {xs : List (At_ nd.kids)} (hS : atNo xs = downs nd.kids.length 0) (hsl : SeenOf sl done) (hbb : w.heap.size ≤ b) (hgs : w.heap.size ≤ gs)
    (h : BackI w b Bs gs (putL' sl x (.agg #[])) v' sV (done.length + 1) (fCells vs (done ++ [x])) Ds (rest.reverse ++ xs.map (fun k => nd.kids[k.1])) W) : FindAt w W vs gs v' (.pointer (some ⟨b, 0, none⟩)) (nd.kids ++ rest) (done ++ [x]) := by
  obtain ⟨A, c, i1, i2, i3, i4, i5, i6, i7, i8⟩ := h
  have e : rest.reverse ++ xs.map (fun k => nd.kids[k.1]) = (nd.kids ++ rest).reverse := by rw [kids_rev hS, List.reverse_append]
  rw [e] at i1 i3 i7
  rw [List.length_reverse] at i1 i3
  refine ⟨i6, ⟨_, hsl.put x, i5⟩, hgs, fun y hy => i7 y (by rw [List.mem_reverse]; exact hy), ?_, b, A, c, rfl, hbb, i1, i3⟩
  rw [List.length_append]
  exact i4
theorem FindAt.renew {w W : World} {vs : List (Nat × Value)} {gs b n c : Nat} {fv : Value} {A : Option Addr} {left done : List Nat} (h : FindAt w W vs gs fv (.pointer (some ⟨b, 0, none⟩)) left done) (hb : W.heap[b]? = some (.cells #[.slice A n c] 30 (0, 0))) :
    FindAt w (W.alloc (.cells #[.slice A n c] 30)) vs gs fv (.pointer (some ⟨W.heap.size, 0, none⟩)) left done ∧ n = left.length := by
  obtain ⟨b', A', c', e, hbb, hbx, hlo⟩ := h.left_
  injection e with e
  injection e with e
  injection e with e _ _
  subst e
  rw [hb] at hbx
  injection hbx with hbx
  injection hbx with hbx _ _
  injection hbx with hbx
  injection hbx with hbx _
  injection hbx with e1 e2 e3
  subst e1 e2 e3
  have hsz := h.below.size
  obtain ⟨sl, hsl, hms⟩ := h.seen
  exact ⟨⟨h.below.alloc hsz _, ⟨sl, hsl, hms.at_ (heap_alloc_lt _ _ hms.lt)⟩, h.gs0, h.small, ownsRow_at h.found fun g cs hg => heap_alloc_lt _ _ (lt_of_heap2 hg), _, _, _, rfl, hsz, Go.heap_alloc_new _ _, ownsRow_at hlo fun g cs hg => heap_alloc_lt _ _ (lt_of_heap2 hg)⟩, rfl⟩
theorem mu_less {S N d l l' : Nat} (h : d + 1 ≤ N) (hl : l' ≤ S + 1) (h1 : 1 ≤ l) : (S + 1) * (N - (d + 1)) + l' < (S + 1) * (N - d) + l := by
  rw [show N - d = N - (d + 1) + 1 by omega, Nat.mul_succ]
  omega
end Go.Proofs.Ytdphpjlhkamadaa
