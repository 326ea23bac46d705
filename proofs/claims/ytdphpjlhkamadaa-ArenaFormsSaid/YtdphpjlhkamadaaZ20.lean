/- ADrop, ACopy: joined by program (tools/merge.py). -/
import Derived.Test.YtdphpjlhkamadaaAUp
import Derived.Maps.RangeWalk
namespace Go.Proofs.Ytdphpjlhkamadaa
open Go.RowKit Go.Shelf
set_option linter.unusedSimpArgs false
set_option linter.unusedVariables false
set_option maxRecDepth 100000
attribute [local go_sem] Oper.semAt_some undef
def dropL (ns : List (Nat × Nd)) (L : List Nat) : List (Nat × Nd) := L.foldl delL ns
theorem dropL_snoc (ns : List (Nat × Nd)) (L : List Nat) (x : Nat) : dropL ns (L ++ [x]) = delL (dropL ns L) x := by unfold dropL; rw [List.foldl_append]; rfl
theorem getL_drop : ∀ (L : List Nat) (ns : List (Nat × Nd)) (k : Nat), getL (dropL ns L) k = if k ∈ L then none else getL ns k
  | [], ns, k => by simp [dropL]
  | x :: L, ns, k => by
    show getL (dropL (delL ns x) L) k = _
    rw [getL_drop L, getL_del]
    by_cases e : k = x <;> by_cases e2 : k ∈ L <;> simp [e, e2]
theorem rise_drop : ∀ (L : List Nat) {ns : List (Nat × Nd)}, Rise ns → Rise (dropL ns L)
  | [], _, h => h
  | x :: L, _, h => rise_drop L (h.del x)
theorem length_drop : ∀ (L : List Nat) {ns : List (Nat × Nd)}, Rise ns → L.Nodup → (∀ x ∈ L, hasL ns x = true) → (dropL ns L).length + L.length = ns.length
  | [], ns, _, _, _ => rfl
  | x :: L, ns, hr, hn, hh => by
    have hx := hh x (by simp)
    rw [List.nodup_cons] at hn
    have h1 := length_drop L (hr.del x) hn.2 (fun y hy => by
      have h2 := hh y (by simp [hy])
      unfold hasL at h2 ⊢
      rw [getL_del, if_neg (fun e : y = x => hn.1 (by rw [← e]; exact hy))]
      exact h2)
    have h2 := delL_length hr x
    unfold hasL at hx
    rw [hx] at h2
    have h3 : 0 < ns.length := by
      cases ns with
      | nil => simp [getL] at hx
      | cons p r => simp
    show (dropL (delL ns x) L).length + (L.length + 1) = ns.length
    simp at h2
    omega
theorem AR.more {w : World} {base ga gm gp N N' : Nat} {F : PF} {vs : List (Nat × Value)} {ns : List (Nat × Nd)} (h : AR w base ga gm gp F vs ns N) (hN : N ≤ N') : AR w base ga gm gp F vs ns N' := ⟨h.st, h.map, h.rise, h.nodes, h.par.more hN, h.ne, h.o1, h.o2, h.o3, h.hb⟩
theorem AR.unmarked {w w' : World} {base ga gm gp N B : Nat} {F : PF} {vs : List (Nat × Value)} {ns : List (Nat × Nd)} (h : AR w base ga gm gp F vs ns N) (hu : Unmarked B w w') : AR w' base ga gm gp F vs ns N := by
  refine h.keep (S := fun j => ∃ x, w.heap[j]? = some (.deferred x)) ⟨hu.1.os, hu.1.tape, hu.1.output, hu.1.size, fun j hj hn => ?_⟩ fun j hS => ?_
  · have hj2 := Array.getElem?_eq_getElem hj
    rw [hu.2 j _ hj2 (fun x e => hn ⟨x, by rw [hj2, e]⟩), hj2]
  · obtain ⟨x, hx⟩ := hS
    refine ⟨fun e => ?_, fun ho => ?_, fun cs z e => ?_⟩
    · rw [e, h.st] at hx; cases hx
    · rcases h.obj ho with ⟨es, cl, h1⟩ | ⟨cs, h1⟩
      · rw [h1] at hx; cases hx
      · rw [h1] at hx; cases hx
    · rw [hx] at e; cases e
theorem AR.grown {w w' : World} {base ga gm gp N B : Nat} {F : PF} {vs : List (Nat × Value)} {ns : List (Nat × Nd)} {row : Option Nat} (h : AR w base ga gm gp F vs ns N) (hg : w.grownBy w' row) (hr : ∀ r, row = some r → B ≤ r ∧ ∃ o : Obj, w.heap[r]? = some o ∧ o.isCells = false) (h1 : gm < B) (h2 : gp < B) : AR w' base ga gm gp F vs ns N := by
  refine h.keep (S := fun j => row = some j) (Touch.of_grown hg fun j e => e) fun j hS => ?_
  obtain ⟨hB, o, ho, hc⟩ := hr j hS
  refine ⟨fun e => ?_, fun hO => ?_, fun cs z e => ?_⟩
  · rw [e, h.st] at ho; injection ho with ho; subst ho; cases hc
  · rcases hO with e | e | e
    · omega
    · omega
    · obtain ⟨cs, h3⟩ := e.ty h.par.par
      rw [h3] at ho; injection ho with ho; subst ho; cases hc
  · rw [e] at ho; injection ho with ho; subst ho; cases hc
/-- What a call that changes an arena leaves to a walk that goes on. -/
theorem AR.touchKp {w w' : World} {base ga gm gp N B : Nat} {F : PF} {vs : List (Nat × Value)} {ns : List (Nat × Nd)} (h : AR w base ga gm gp F vs ns N) (ht : Touch w w' (OwnA gm gp F)) : KpW B w w' := ⟨ht.size, fun k cs t z _ hty hk => h.other ht hk (by rcases hty with e | e | e <;> rw [e] <;> decide)⟩
theorem AR.touchKeeps {w w' : World} {base ga gm gp N B : Nat} {F : PF} {vs : List (Nat × Value)} {ns : List (Nat × Nd)} (h : AR w base ga gm gp F vs ns N) (ht : Touch w w' (OwnA gm gp F)) (h1 : gm < B) (h2 : gp < B) : KeepsFrom B w w' := ⟨ht.size, fun k o hB hk hc => (ht.block k (lt_of_heap2 hk) fun hO => by
  rcases hO with e | e | e
  · omega
  · omega
  · obtain ⟨cs, h3⟩ := e.ty h.par.par
    rw [h3] at hk; injection hk with hk; subst hk; cases hc).trans hk⟩
/-- An arena that calls have changed since w0. -/
def ARs (w0 : World) (base ga gm gp : Nat) (F : PF) (ns : List (Nat × Nd)) (N : Nat) (W : World) : Prop := ∃ F' vs', AR W base ga gm gp F' vs' ns N ∧ Touch w0 W (OwnA gm gp F) ∧ ∀ j, OwnsF F' j → OwnsF F j ∨ w0.heap.size ≤ j
theorem touch_grown {w0 w w' : World} {S : Nat → Prop} {row : Option Nat} {B : Nat} (h : Touch w0 w S) (hg : w.grownBy w' row) (hr : ∀ r, row = some r → B ≤ r) (hB : w0.heap.size ≤ B) : Touch w0 w' S := h.trans (Touch.of_grown hg (S := fun j => row = some j) fun j e => e) fun j e => .inr (Nat.le_trans hB (hr j e))
theorem owns_next {w0 W : World} {gm gp : Nat} {F F1 : PF} (h : ∀ j, OwnsF F1 j → OwnsF F j ∨ w0.heap.size ≤ j) : ∀ j, OwnA gm gp F1 j → OwnA gm gp F j ∨ w0.heap.size ≤ j := fun j hj => by
  rcases hj with e | e | e
  · exact .inl (.inl e)
  · exact .inl (.inr (.inl e))
  · exact (h j e).imp (fun h => .inr (.inr h)) fun h => h
theorem ARs.next {w0 W W' : World} {base ga gm gp N' : Nat} {F F1 : PF} {ns' : List (Nat × Nd)} {e : Ending} (hT : Touch w0 W (OwnA gm gp F)) (hO : ∀ j, OwnsF F1 j → OwnsF F j ∨ w0.heap.size ≤ j) (h : SetR W base ga gm gp F1 ns' N' e W') : ARs w0 base ga gm gp F ns' N' W' := by
  obtain ⟨_, F2, vs2, hA, hT2, hO2⟩ := h
  refine ⟨F2, vs2, hA, hT.trans hT2 (owns_next (W := W) hO), fun j hj => ?_⟩
  rcases hO2 j hj with h | h
  · exact hO j h
  · exact .inr (Nat.le_trans hT.size h)
def DropI (w0 : World) (base ga gm gp N : Nat) (F : PF) (ns : List (Nat × Nd)) (L : List Nat) (bA k : Nat) (W : World) : Prop :=
  ARs w0 base ga gm gp F (dropL ns (L.take k)) (N + (sumU ns [] - sumU ns (L.take k))) W ∧ W.heap[bA]? = some (.cells #[.pointer (some ⟨ga, 0, none⟩)] 26 (0, 0))
theorem dropI_own {w0 : World} {base ga gm gp N B bA : Nat} {F : PF} {ns : List (Nat × Nd)} {L : List Nat} {α : Type} {f : List α → Nat} (h1 : gm < B) (h2 : gp < B) (hB : w0.heap.size ≤ B) : OwnFrom B (fun pre W => DropI w0 base ga gm gp N F ns L bA (f pre) W) := fun pre W W' row hs hg hr => by
  obtain ⟨⟨F', vs', hA, hT, hO⟩, hb⟩ := hs
  exact ⟨⟨F', vs', hA.grown hg hr h1 h2, touch_grown hT hg (fun r e => (hr r e).1) hB, hO⟩, grown_cells hg hr hb⟩
theorem enc_tmps2 (p q : Tmp) (T : Array Value) (ns : List (Nat × Nd)) (L : List Nat) (x : WAt) : ((#[p, q] : Array Tmp).zip (wEnc ns L x)).foldl (fun t (p, v) => t.setIfInBounds p v) T = (T.setIfInBounds p (.int .u64 ((L.getD x.1 0 : Nat) : Int))).setIfInBounds q (wVal ns L x) := by
  unfold wEnc
  simp
/-- A round's own variable: the number. -/
def NumA (p q r : Tmp) (ns : List (Nat × Nd)) (L : List Nat) (T : Array Value) (pre : List WAt) (x : WAt) (a : Act) (W : World) : Prop :=
  x.1 = pre.length ∧ a = { tmps := ((T.setIfInBounds p (.int .u64 ((L.getD x.1 0 : Nat) : Int))).setIfInBounds q (wVal ns L x)).setIfInBounds r (.int .u64 ((L.getD x.1 0 : Nat) : Int)), defers := [] }
theorem sumU_next {ns : List (Nat × Nd)} (hr : Rise ns) {L : List Nat} {k x : Nat} (hx : L[k]? = some x) (hh : hasL ns x = true) (hn : L.Nodup) : sumU ns (L.take k) = sumU ns (L.take (k + 1)) + (ndOf ns x).kids.length ∧ x ∉ L.take k := by
  have ht : L.take (k + 1) = L.take k ++ [x] := by rw [List.take_add_one, hx]; rfl
  have hni : x ∉ L.take k := fun hm => by
    have h1 : (L.take (k + 1)).Nodup := hn.sublist (List.take_sublist _ _)
    rw [ht, List.nodup_append] at h1
    exact h1.2.2 x hm x (by simp) rfl
  unfold hasL at hh
  obtain ⟨n, hg⟩ := Option.isSome_iff_exists.1 hh
  rw [ht]
  refine ⟨?_, hni⟩
  rw [sumU_some hr hg hni]
  unfold ndOf
  rw [hg]
  rfl
theorem sumU_le {ns : List (Nat × Nd)} (done : List Nat) : sumU ns done ≤ sumU ns [] := by
  unfold sumU
  induction ns with
  | nil => exact Nat.le_refl _
  | cons p r ih =>
    rw [List.map_cons, List.map_cons, List.sum_cons, List.sum_cons]
    refine Nat.add_le_add ?_ ih
    split <;> simp
theorem drop_nil (w : World) (x : Value) : Calls Try.prog 13 #[.pointer none, x] w (fun e w' => e = .returned (.int .i64 0) ∧ Below w.heap.size w w') := by
  refine callsIn_wide.1 (callsIn_of_wp_marks (n := 5) Try.func13 rfl trivial ((wpIn_wide (n := 5)).2 ?_))
  simp only [Try.ntmps13, List.size_toArray, List.length_cons, List.length_nil, Nat.reduceAdd, Nat.reduceSub, Array.replicate_succ, Array.replicate_zero, List.push_toArray, List.append_toArray, List.nil_append, List.cons_append]
  go_wp2_with fail
  refine leaves_marked (B := w.heap.size) [] _ (Marked.nil _ _) fun w' hu => ⟨_, results_tmp rfl _ _ _, rfl, ((Below.refl _ _).alloc (Nat.le_refl _) _).trans hu.1⟩
def DropR (w : World) (base ga gm gp N : Nat) (F : PF) (ns : List (Nat × Nd)) (L : List Nat) (e : Ending) (w' : World) : Prop := e = .returned (.int .i64 (L.length : Int)) ∧ ARs w base ga gm gp F (dropL ns L) (N + sumU ns []) w'
set_option maxHeartbeats 4000000 in
theorem drop_any (w : World) (base ga gm gp id N : Nat) (F : PF) (vs : List (Nat × Value)) (ns : List (Nat × Nd)) (h : AR w base ga gm gp F vs ns N) (hid : id < 18446744073709551616) (hfew : N + sumU ns [] ≤ 900000000) (hns : ns.length ≤ 1000000) :
    Calls Try.prog 13 #[.pointer (some ⟨ga, 0, none⟩), .int .u64 (id : Int)] w (DropR w base ga gm gp N F ns (walkL ns id)) := by
  obtain ⟨w1, hw1⟩ : ∃ w1, w1 = w.alloc (.cells #[.pointer (some ⟨ga, 0, none⟩)] 26) := ⟨_, rfl⟩
  have hb1 : Below w.heap.size w w1 := by rw [hw1]; exact (Below.refl _ _).alloc (Nat.le_refl _) _
  have hA1 : w1.heap[w.heap.size]? = some (.cells #[.pointer (some ⟨ga, 0, none⟩)] 26 (0, 0)) := by rw [hw1]; exact Go.heap_alloc_new _ _
  have har := h.below hb1
  have q0 : w1.cell? ⟨ga, 0, none⟩ = some (.map (some gm)) := by unfold World.cell?; rw [har.st]; rfl
  have q1 := cell_box hA1
  have hln := nodes_len har.nodes har.map.rise har.rise
  have q2 := run_count 70 33 Try.underlying70 har.map 3
  rw [hln] at q2
  have HWK := Lib.hid (walk_any w1 base ga gm gp id N F vs ns har hid (by omega) hns)
  subst hw1
  have HH := Lib.hid h
  have HAR := Lib.hid har
  have HB1 := Lib.hid hb1
  have HA1 := Lib.hid hA1
  clear h har hb1 hA1 hln
  refine callsIn_wide.1 (callsIn_of_wp_marks (n := 5) Try.func13 rfl trivial ((wpIn_wide (n := 5)).2 ?_))
  simp only [Try.ntmps13, List.size_toArray, List.length_cons, List.length_nil, Nat.reduceAdd, Nat.reduceSub, Array.replicate_succ, Array.replicate_zero, List.push_toArray, List.append_toArray, List.nil_append, List.cons_append]
  go_wp2_with (first
    | (at_len; go_loud (
      refine wpList_count _ rfl _ 70 33 rfl Try.underlying70 gm vs rfl HAR.out.map ?_;
      rw [nodes_len HAR.out.nodes HAR.out.map.rise HAR.out.rise]))
    | (go_at_call 41; (with_reducible refine (HWK.out).mono ?_); rintro e w5 ⟨B, A, c, rfl, hB1, hB2, hB3, hB4⟩; go_loud (
          have HC1 := Lib.hid hB1;
          have HC2 := Lib.hid hB2;
          have HC3 := Lib.hid hB3;
          have HC4 := Lib.hid hB4;
          clear hB1 hB2 hB3 hB4)))
  have hok := walkL_ok ns id
  obtain ⟨L, hL⟩ : ∃ L, L = walkL ns id := ⟨_, rfl⟩
  rw [← hL] at HC2 HC3 hok ⊢
  have hle := nodup_le hok.1 hok.2
  have hrow := WRow.start HAR.out HC2.out HC3.out HC4.out (Nat.le_trans hle hns)
  have hA5 := HAR.out.below HC4.out
  have hb5 : Below w.heap.size w w5 := HB1.out.trans (HC4.out.mono HB1.out.size)
  have hbx5 := (HC4.out.block _ (lt_of_heap2 HA1.out)).trans HA1.out
  have hI0 : DropI w base ga gm gp N F ns L w.heap.size (([] : List WAt).length) w5 := ⟨⟨F, vs, hA5.more (by omega), Touch.of_below hb5 _, fun j hj => .inl hj⟩, hbx5⟩
  have hgm : gm < w5.heap.size := hA5.map.lt
  have hgp : gp < w5.heap.size := hA5.par.par.map.lt
  have HRW := Lib.hid hrow
  have HI0 := Lib.hid hI0
  have HOK := Lib.hid hok
  have HB5 := Lib.hid hb5
  have HGM := Lib.hid hgm
  have HGP := Lib.hid hgp
  have HLE := Lib.hid hle
  have HL := Lib.hid hL
  clear hrow hI0 hok hb5 hgm hgp hle hL hbx5 hA5 q0 q1 q2
  refine (wpIn_wide (n := 5)).1 ?_
  refine range_tells (ps := #[17, 18]) (by omega) 63 _ rfl (enters_of Try.func63 (by kernel_rfl) rfl) (walk_tells (5 - 1) (by omega) B c A vs ns L w5 HRW.out) (fun _ => rfl) KpW.trans (fun W l o' hl => KpW.putObj W l o' hl)
    (fun pre W => DropI w base ga gm gp N F ns L w.heap.size pre.length W) (fun _ _ _ => False) (dropI_own HGM.out HGP.out HB5.out.size) (fun _ _ _ _ _ hs _ _ => hs) HI0.out
    (fun T pre x a' W => NumA 17 18 6 ns L T pre x a' W) (fun pre x a' _ _ _ _ hs _ _ => hs) ?assign ?body ?done (fun _ _ _ _ _ _ hs _ => hs.elim)
  case assign =>
    intro l pre x W K hI hOk hK
    rw [enc_tmps2]
    simp only [List.setIfInBounds_toArray, List.set_cons_zero, List.set_cons_succ]
    gi_wp2
    exact hK _ _ (KeepsFrom.refl _ _) (KpW.refl _ _) hI ⟨hOk.1, rfl⟩
  case body =>
    rintro l pre x a' W hl ⟨⟨F1, vs1, hA, hT, hO⟩, hb⟩ ⟨hx, rfl⟩ hlen
    obtain ⟨k, hk⟩ : ∃ k, k = pre.length := ⟨_, rfl⟩
    rw [← hk] at hA hlen
    obtain ⟨y, hy⟩ : ∃ y, L[k]? = some y := ⟨_, List.getElem?_eq_getElem hlen⟩
    have hyd : L.getD x.1 0 = y := by rw [hx, ← hk, List.getD_eq_getElem?_getD, hy]; rfl
    have hyl : y ∈ L := List.mem_of_getElem? hy
    have hy64 : y < 18446744073709551616 := HH.out.map.small' HH.out.nodes (HOK.out.2 y hyl)
    obtain ⟨hsum, hni⟩ := sumU_next HH.out.rise hy (HOK.out.2 y hyl) HOK.out.1
    have hget : (getL (dropL ns (L.take k)) y).getD zeroNd = ndOf ns y := by rw [getL_drop, if_neg hni]; rfl
    have htake : L.take (k + 1) = L.take k ++ [y] := by rw [List.take_add_one, hy]; rfl
    have hsl := sumU_le (ns := ns) (L.take k)
    have hus := unset_any W base ga gm gp y _ F1 vs1 _ hA hy64 (by rw [hget]; omega)
    rw [hget, ← dropL_snoc, ← htake] at hus
    have hN : N + (sumU ns [] - sumU ns (L.take k)) + (ndOf ns y).kids.length = N + (sumU ns [] - sumU ns (L.take (k + 1))) := by omega
    rw [hN] at hus
    have HUS := Lib.hid (CallsIn.inRound l ((callsIn_wide (n := 2)).2 hus))
    have q1 := cell_box hb
    rw [hyd]
    have HA := Lib.hid hA
    have HT := Lib.hid hT
    have HO := Lib.hid hO
    have HB := Lib.hid hb
    have HK := Lib.hid hk
    clear hA hT hO hb hk hx hlen hy hyd hsum hni hget htake hsl hus hN
    unfold wVal ndV
    simp only [List.setIfInBounds_toArray, List.set_cons_zero, List.set_cons_succ]
    gi_wp2_with (first
      | (refine And.intro trivial ?_; gi_at_call 42; go_loud (
          (with_reducible refine ((HUS.out).mono ?_));
          rintro e w6 hset;
          have hset2 := hset;
          obtain ⟨rfl, F2, vs2, hA2, hT2, hO2⟩ := hset2;
          have HSET := Lib.hid hset;
          have HT2 := Lib.hid hT2;
          clear hset hA2 hT2 hO2)))
    refine ⟨HA.out.touchKeeps HT2.out HGM.out HGP.out, HA.out.touchKp HT2.out, ?_⟩
    show DropI w base ga gm gp N F ns L w.heap.size (pre ++ [x]).length w6
    rw [List.length_append, ← HK.out]
    exact ⟨ARs.next HT.out HO.out HSET.out, HA.out.other HT2.out HB.out (by decide)⟩
  case done =>
    intro D xs W hD hS hI hK
    obtain ⟨⟨F1, vs1, hA, hT, hO⟩, hb⟩ := hI
    have hxl : xs.length = L.length := by have := congrArg List.length hS; rw [wNo_length, List.length_range] at this; exact this
    rw [hxl, List.take_length] at hA
    have hlen := length_drop L HH.out.rise HOK.out.1 HOK.out.2
    have hln := nodes_len hA.nodes hA.map.rise hA.rise
    have q0 : W.cell? ⟨ga, 0, none⟩ = some (.map (some gm)) := by unfold World.cell?; rw [hA.st]; rfl
    have q1 := cell_box hb
    have q2 := run_count 70 33 Try.underlying70 hA.map 3
    rw [hln] at q2
    have hmk : Marked w.heap.size [D] W := (Marked.nil w.heap.size _).more (Nat.le_trans HB5.out.size hD) (fun E hE => by cases hE) hK
    have HA := Lib.hid hA
    have HT := Lib.hid hT
    have HO := Lib.hid hO
    have HLN := Lib.hid hlen
    have HMK := Lib.hid hmk
    clear hA hT hO hlen hln hb hmk hS hK hD hxl
    go_wp2_with (at_len; go_loud (
      refine wpList_count _ rfl _ 70 33 rfl Try.underlying70 gm vs1 rfl HA.out.map ?_;
      rw [nodes_len HA.out.nodes HA.out.map.rise HA.out.rise]))
    have hval : wrap64 ((ns.length : Int) - ((dropL ns L).length : Int)) = (L.length : Int) := by
      have h1 := HLN.out
      unfold wrap64
      omega
    refine leaves_marked (B := w.heap.size) [D] _ HMK.out fun w' hu => ⟨_, results_tmp rfl _ _ _, ?_, F1, vs1, ?_, HT.out.trans (S' := fun j => w.heap.size ≤ j) ⟨hu.1.os, hu.1.tape, hu.1.output, hu.1.size, fun j _ hn => hu.1.block j (by omega)⟩ (fun j hj => .inr hj), HO.out⟩
    · show Ending.returned (.int .i64 (wrap64 ((ns.length : Int) - ((dropL ns L).length : Int)))) = _
      rw [hval, ← HL.out]
    · rw [← HL.out]
      exact (HA.out.unmarked hu).more (by omega)
end Go.Proofs.Ytdphpjlhkamadaa
namespace Go.Proofs.Ytdphpjlhkamadaa
open Go.RowKit Go.Shelf
open Go.Maps (Keyed)
set_option linter.unusedSimpArgs false
set_option linter.unusedVariables false
set_option maxRecDepth 100000
attribute [local go_sem] Oper.semAt_some undef
abbrev RangesV (w : World) (b r n : Nat) (vs : List (Nat × Value)) (left : Lit → Bool) (cnt : Nat) : Prop := w.ranges Try.prog 24 heldE b r n (mapD vs) left cnt
theorem ranges_at {w w' : World} {b r n cnt : Nat} {vs : List (Nat × Value)} {left : Lit → Bool} (h : RangesV w b r n vs left cnt) (hb : w'.heap[b]? = w.heap[b]?) (hr : w'.heap[r]? = w.heap[r]?) : RangesV w' b r n vs left cnt := by
  obtain ⟨es, clock, since, seen, c0, h1, F, hs, hD, h2, rest⟩ := h
  exact ⟨es, clock, since, seen, c0, hb.trans h1, F, hs, hD, hr.trans h2, rest⟩
theorem ranges_iter {w : World} {b r n cnt : Nat} {vs : List (Nat × Value)} {left : Lit → Bool} (h : RangesV w b r n vs left cnt) : ∃ m since seen c0, w.heap[r]? = some (.mapIter m since seen c0) := by
  obtain ⟨es, clock, since, seen, c0, h1, F, hs, hD, h2, rest⟩ := h
  exact ⟨_, _, _, _, h2⟩
theorem keyInv (key : Value) (kl : Lit) (h : keyOf Try.prog 24 key = some kl) : ∃ x : Nat, key = .int .u64 (x : Int) := by
  obtain ⟨x, rfl, rfl, hw⟩ := Maps.keyOf_int_inv Try.underlying24 h
  have h1 : 0 ≤ x := by
    simp [Lit.wf, IntKind.min, IntKind.max, IntKind.signed, IntKind.bits] at hw
    exact hw.1
  exact ⟨x.toNat, by rw [Int.toNat_of_nonneg h1]⟩
theorem keyIs {x : Nat} {kl : Lit} (h : keyOf Try.prog 24 (.int .u64 (x : Int)) = some kl) : kl = keyL x ∧ x < 18446744073709551616 := by
  obtain ⟨y, e, rfl, hw⟩ := Maps.keyOf_int_inv Try.underlying24 h
  injection e with _ e
  subst e
  refine ⟨rfl, ?_⟩
  simp [Lit.wf, IntKind.min, IntKind.max, IntKind.signed, IntKind.bits] at hw
  omega
theorem valIs {vs : List (Nat × Value)} {x : Nat} {c : Value} {y : DataW Value × List MemPlace} (hv : heldE c = some y) (hat : ∀ zd, (mapD vs).atKey (keyL x) zd = y.1) : getL vs x = some c := by
  unfold heldE at hv
  injection hv with hv
  subst hv
  have h1 := hat (.map [])
  rw [mapD_at] at h1
  cases hg : getL vs x with
  | none => rw [hg] at h1; cases h1
  | some v => rw [hg] at h1; injection h1 with h1; rw [h1]
/-- Where a copy stands: what is in it, and what is still to come. -/
structure CopyI (w : World) (gm r : Nat) (vs : List (Nat × Value)) (ns : List (Nat × Nd)) (ga2 gm2 gp2 : Nat) (left : Lit → Bool) (cnt : Nat) (done : List Nat) (W : World) : Prop where
  below : Below w.heap.size w W
  rng : RangesV W gm r vs.length vs left cnt
  once : done.Nodup
  node : ∀ x ∈ done, hasL ns x = true
  left_ : ∀ k, hasL ns k = true → left (keyL k) = !decide (k ∈ done)
  ar : ∃ F2 vs2 ns2, AR W w.heap.size ga2 gm2 gp2 F2 vs2 ns2 (sumU ns [] - sumU ns done) ∧ ∀ k, getL ns2 k = if k ∈ done then getL ns k else none
theorem CopyI.end_ {w W : World} {gm r : Nat} {vs : List (Nat × Value)} {ns : List (Nat × Nd)} {ga2 gm2 gp2 cnt : Nat} {left : Lit → Bool} {done : List Nat} (hr : Rise ns) (h : CopyI w gm r vs ns ga2 gm2 gp2 left cnt done W) (hl : ∀ kl, left kl = false) : ∃ F2 vs2, AR W w.heap.size ga2 gm2 gp2 F2 vs2 ns (sumU ns []) := by
  obtain ⟨F2, vs2, ns2, hA, hg⟩ := h.ar
  have e : ns2 = ns := rise_ext hA.rise hr fun k => by
    rw [hg k]
    split
    · rfl
    · rename_i hk
      cases hh : getL ns k with
      | none => rfl
      | some n =>
        have h1 := h.left_ k (by unfold hasL; rw [hh]; rfl)
        rw [hl, decide_eq_false hk] at h1
        cases h1
  subst e
  exact ⟨F2, vs2, hA.more (Nat.sub_le _ _)⟩
theorem copy_nil (w : World) : Calls Try.prog 10 #[.pointer none] w (fun e w' => e = .returned (.pointer none) ∧ Below w.heap.size w w') := by
  go_enter Try.func10, Try.ntmps10
  go_wp2_with fail
  go_ret
  exact ⟨rfl, Below.refl _ _⟩
theorem rise_le {α : Type} {m : List (Nat × α)} {ns : List (Nat × Nd)} (hr : Rise m) (hn : ∀ p ∈ m, hasL ns p.1 = true) : m.length ≤ ns.length := by
  rw [← List.length_map (f := Prod.fst)]
  refine nodup_le ?_ fun x hx => ?_
  · have h1 := hr
    unfold Rise at h1
    unfold List.Nodup
    rw [List.pairwise_map]
    exact h1.imp fun h2 => by omega
  · obtain ⟨p, hp, rfl⟩ := List.mem_map.1 hx
    exact hn p hp
theorem AR.iter {w w' : World} {base ga gm gp N r : Nat} {F : PF} {vs : List (Nat × Value)} {ns : List (Nat × Nd)} (h : AR w base ga gm gp F vs ns N) (hg : w.grownBy w' (some r)) (hi : ∃ m since seen c0, w.heap[r]? = some (.mapIter m since seen c0)) : AR w' base ga gm gp F vs ns N := by
  obtain ⟨m, since, seen, c0, hi⟩ := hi
  refine h.keep (S := fun j => j = r) (Touch.of_grown hg fun j e => by injection e with e; exact e.symm) fun j hS => ?_
  rw [hS]
  refine ⟨fun e => ?_, fun hO => ?_, fun cs z e => ?_⟩
  · rw [e, h.st] at hi; cases hi
  · rcases h.obj hO with ⟨es, cl, h1⟩ | ⟨cs, h1⟩
    · rw [h1] at hi; cases hi
    · rw [h1] at hi; cases hi
  · rw [e] at hi; cases hi
/-- One more node is in the copy. -/
theorem CopyI.next {w W W' : World} {gm r x : Nat} {vs : List (Nat × Value)} {ns : List (Nat × Nd)} {ga2 gm2 gp2 cnt' : Nat} {left : Lit → Bool} {done : List Nat} {F2 : PF} {ns2 : List (Nat × Nd)} {e : Ending} (hr : Rise ns) (hb : Below w.heap.size w W) (hrng : RangesV W gm r vs.length vs (fun z => left z && !z.sameKey (keyL x)) cnt') (honce : done.Nodup) (hnode : ∀ x ∈ done, hasL ns x = true)
    (hleft : ∀ k, hasL ns k = true → left (keyL k) = !decide (k ∈ done)) (hx : hasL ns x = true) (hlx : left (keyL x) = true) {vs2 : List (Nat × Value)} (hA : AR W w.heap.size ga2 gm2 gp2 F2 vs2 ns2 (sumU ns [] - sumU ns done)) (hg : ∀ k, getL ns2 k = if k ∈ done then getL ns k else none) (hgm : gm < w.heap.size)
    (hS : SetR W w.heap.size ga2 gm2 gp2 F2 (putL' ns2 x (ndOf ns x)) (sumU ns [] - sumU ns done + ((getL ns2 x).getD zeroNd).kids.length + (ndOf ns x).kids.length) e W') : CopyI w gm r vs ns ga2 gm2 gp2 (fun z => left z && !z.sameKey (keyL x)) cnt' (done ++ [x]) W' := by
  obtain ⟨_, F', vs', hA', hT, hO⟩ := hS
  have hxd : x ∉ done := fun hm => by
    have h1 := hleft x hx
    rw [hlx, decide_eq_true hm] at h1
    cases h1
  have hx2 := hx
  unfold hasL at hx2
  obtain ⟨n, hn⟩ := Option.isSome_iff_exists.1 hx2
  have hnd : ndOf ns x = n := by unfold ndOf; rw [hn]; rfl
  have hsum := sumU_some hr hn hxd
  have hle := sumU_le (ns := ns) done
  have hz : ((getL ns2 x).getD zeroNd).kids.length = 0 := by rw [hg x, if_neg hxd]; rfl
  obtain ⟨m, since, seen, c0, hi⟩ := ranges_iter hrng
  have hno : ∀ j, OwnA gm2 gp2 F2 j → w.heap.size ≤ j ∧ j ≠ r := fun j hj => ⟨hA.low hj, fun e => by
    rw [← e] at hi
    rcases hA.obj hj with ⟨es, cl, h1⟩ | ⟨cs, h1⟩
    · rw [h1] at hi; cases hi
    · rw [h1] at hi; cases hi⟩
  refine ⟨hb.trans (hT.below hb.size fun j hj => (hno j hj).1), ranges_at hrng (hT.block gm (Nat.lt_of_lt_of_le hgm hb.size) fun hj => by have := (hno _ hj).1; omega) (hT.block r (lt_of_heap2 hi) fun hj => (hno _ hj).2 rfl), ?_, fun y hy => ?_, fun k hk => ?_, F', vs', putL' ns2 x (ndOf ns x), ?_, fun k => ?_⟩
  · rw [List.nodup_append]
    exact ⟨honce, by simp, fun a ha b hb2 e => by simp at hb2; rw [e, hb2] at ha; exact hxd ha⟩
  · rcases List.mem_append.1 hy with hy | hy
    · exact hnode y hy
    · rw [List.mem_singleton] at hy; rw [hy]; exact hx
  · rw [hleft k hk, key_same]
    by_cases e : k = x <;> by_cases e2 : k ∈ done <;> simp [e, e2]
  · refine hA'.more ?_
    rw [hz, hnd]
    omega
  · rw [getL_put hA.rise, hg k]
    by_cases e : k = x
    · rw [if_pos e, if_pos (by rw [e]; simp), e, hnd, hn]
    · rw [if_neg e]
      by_cases e2 : k ∈ done <;> simp [e, e2]
def CopyR (w : World) (ns : List (Nat × Nd)) (e : Ending) (w' : World) : Prop := ∃ ga gm gp F vs, e = .returned (.pointer (some ⟨ga, 0, none⟩)) ∧ AR w' w.heap.size ga gm gp F vs ns (sumU ns []) ∧ Below w.heap.size w w'
set_option maxHeartbeats 4000000 in
theorem copy_any (w : World) (base ga gm gp N : Nat) (F : PF) (vs : List (Nat × Value)) (ns : List (Nat × Nd)) (h : AR w base ga gm gp F vs ns N) (hfew : sumU ns [] ≤ 400000000) (hns : ns.length ≤ 1000000) :
    Calls Try.prog 10 #[.pointer (some ⟨ga, 0, none⟩)] w (CopyR w ns) := by
  have HE := Lib.hid (empty_any w)
  have HH := Lib.hid h
  clear h
  go_enter Try.func10, Try.ntmps10
  go_wp2_with (first
    | (go_at_call 37; (with_reducible refine (HE.out).mono ?_); rintro e w1 ⟨ga2, gm2, gp2, rfl, hA2, hb1⟩; go_loud (
        have q0 : w1.cell? ⟨ga, 0, none⟩ = some (.map (some gm)) := (hb1.cell (p := ⟨ga, 0, none⟩) (lt_of_heap2 HH.out.st)).trans (by unfold World.cell?; rw [HH.out.st]; rfl);
        have HA2 := Lib.hid hA2;
        have HB1 := Lib.hid hb1;
        clear hA2 hb1))
    | (at_range; go_loud (
        refine wpList_range_own w1 rfl _ _ rfl 24 33 idKeyed Try.underlying70 heldE gm vs.length (mapD vs) rfl (HH.out.below HB1.out).map.own ?_;
        intro w2 hr2 hg2 hs2;
        have HR2 := Lib.hid hr2;
        have HG2 := Lib.hid hg2;
        clear hr2 hg2)))
  go_frame
  obtain ⟨r, hr⟩ : ∃ r, r = w1.heap.size := ⟨_, rfl⟩
  rw [← hr]
  have hgm : gm < w.heap.size := HH.out.map.lt
  have hwr : w.heap.size ≤ r := by rw [hr]; exact HB1.out.size
  have HR := Lib.hid hr
  have hI0 : CopyI w gm r vs ns ga2 gm2 gp2 (Maps.has (mapD vs)) (Maps.size (mapD vs)) [] w2 := by
    have hb2 := HB1.out.grown HG2.out HB1.out.size (fun k e => by cases e)
    refine ⟨hb2, by rw [hr]; exact HR2.out, List.nodup_nil, by simp, fun k hk => ?_, [], [], [], ?_, fun k => rfl⟩
    · rw [mapD_has]
      obtain ⟨_, _, _, _, _, hh⟩ := HH.out.nodes.get k
      show hasL vs k = _
      rw [hh, hk]
      rfl
    · exact (HA2.out.keep (Touch.of_grown HG2.out (S := fun _ => False) fun j e => by cases e) fun j e => e.elim).more (Nat.zero_le _)
  have HI0 := Lib.hid hI0
  clear hI0 hr
  go_loopw [14] (fun _ wr => ∃ left cnt done, CopyI w gm r vs ns ga2 gm2 gp2 left cnt done wr) (fun _ wr => wr.rangeLeft gm r)
  case atStart => exact ⟨_, _, _, HI0.out⟩
  case round =>
    obtain ⟨left, cnt, done, hI⟩ := hrel
    obtain ⟨hb, hrng, honce, hnode, hleft, F2, vs2, ns2, hA, hg⟩ := hI
    have hcnt := hrng.left_eq
    have HI := Lib.hid (⟨hb, hrng, honce, hnode, hleft, F2, vs2, ns2, hA, hg⟩ : CopyI w gm r vs ns ga2 gm2 gp2 left cnt done wr)
    rcases hrng.next idKeyed 0 with ⟨h0, hl, hrun⟩ | ⟨key, v, kl, y, w3, cnt', hkey, hlk, hv, hat, hrun, hrg3, hlt, hgr, hsz, hen⟩
    · have HL := Lib.hid hl
      clear hb hrng honce hnode hleft hA hg hl
      go_wp2_with fail
      go_ret
      obtain ⟨F3, vs3, h3⟩ := HI.out.end_ HH.out.rise HL.out
      exact ⟨ga2, gm2, gp2, F3, vs3, rfl, h3, HI.out.below⟩
    · obtain ⟨x, rfl⟩ := keyInv key kl hkey
      obtain ⟨rfl, hx⟩ := keyIs hkey
      have hgx := valIs hv hat
      have hb3 : Below w.heap.size w w3 := hb.grown hgr hb.size (fun k e => by injection e with e; omega)
      obtain ⟨Ao, co, hold, hos, hook, hhas⟩ := HH.out.nodes.get x
      rw [hgx] at hold
      have hhx : hasL ns x = true := by rw [← hhas]; unfold hasL; rw [hgx]; rfl
      obtain ⟨o, ho⟩ : ∃ o, o = ndOf ns x := ⟨_, rfl⟩
      rw [show (getL ns x).getD zeroNd = o from ho.symm] at hold hos hook
      have hvo : v = ndV o (.slice Ao o.kids.length co) := hold
      subst hvo
      unfold ndV at hrun hen
      have hA3 := hA.iter hgr (ranges_iter hrng)
      have hx2 : x ∉ done := fun hm => by
        have h1 := hleft x hhx
        rw [hlk, decide_eq_true hm] at h1
        cases h1
      have hz : ((getL ns2 x).getD zeroNd).kids.length = 0 := by rw [hg x, if_neg hx2]; rfl
      have hn2 : ns2.length ≤ ns.length := rise_le hA.rise fun p hp => by
        have h1 := getL_of_mem hA.rise (k := p.1) (v := p.2) hp
        rw [hg] at h1
        split at h1
        · unfold hasL; rw [h1]; rfl
        · cases h1
      have hkb : o.kids.length ≤ sumU ns [] := by
        have h1 := sumU_some HH.out.rise (x := x) (n := o) (done := []) (by rw [ho]; unfold ndOf; unfold hasL at hhx; obtain ⟨q, hq⟩ := Option.isSome_iff_exists.1 hhx; rw [hq]; rfl) (by simp)
        omega
      have HWH : Hid (∀ z, Below w.heap.size w z → Calls Try.prog 17 #[.agg #[.int .u8 (o.kind : Int), .string o.name, .int .i64 o.num, .int .u8 (o.typ : Int), .int .u64 (o.ref : Int), .slice Ao o.kids.length co]] z (WholeR z o)) := Lib.hid fun z hz => by
        have hi := (hos.below hz).up hz.size
        exact whole_any z o Ao co ⟨⟨Ao, co, rfl, hi⟩, hook⟩ hi
      have HA3 := Lib.hid hA3
      have HB3 := Lib.hid hb3
      have HRG := Lib.hid hrg3
      have HON := Lib.hid honce
      have HND := Lib.hid hnode
      have HLF := Lib.hid hleft
      have HLK := Lib.hid hlk
      have HHX := Lib.hid hhx
      have HG := Lib.hid hg
      have HZ := Lib.hid hz
      have HN2 := Lib.hid hn2
      have HO := Lib.hid ho
      have HKB := Lib.hid hkb
      have HC := Lib.hid hcnt
      have HLT := Lib.hid hlt
      clear hb hrng honce hnode hleft hA hg hkey hlk hv hat hrg3 hlt hgr hsz hgx hb3 hold hos hook hhas hhx hA3 hx2 hz hn2 ho hkb hcnt
      go_wp2_with (first
        | (go_at_call 17; go_loud (
            have hb4 := HB3.out.alloc HB3.out.size (.cells #[.int .u8 (o.kind : Int), .string o.name, .int .i64 o.num, .int .u8 (o.typ : Int), .int .u64 (o.ref : Int), .slice Ao o.kids.length co] 33);
            (with_reducible refine (HWH.out _ hb4).mono ?_);
            rintro e w5 ⟨A1, c1, rfl, hn5, hfr5, hb5⟩;
            have hb34 : Below w3.heap.size w3 (w3.alloc (.cells #[.int .u8 (o.kind : Int), .string o.name, .int .i64 o.num, .int .u8 (o.typ : Int), .int .u64 (o.ref : Int), .slice Ao o.kids.length co] 33)) := (Below.refl _ _).alloc (Nat.le_refl _) _;
            have hb35 := hb34.trans (hb5.mono hb34.size);
            have hset := set_any w5 w.heap.size ga2 gm2 gp2 x _ F2 vs2 ns2 _ o (HA3.out.below hb35) hn5 hx (by rw [HZ.out]; have := HKB.out; omega) (by have := HN2.out; omega);
            unfold ndV at hset ⊢;
            have HSET := Lib.hid hset;
            have HB35 := Lib.hid hb35;
            clear hset hb34 hb35 hb4 hb5 hn5 hfr5))
        | (go_at_call 38; go_loud (
            (with_reducible refine (HSET.out).mono ?_);
            rintro e w6 hS6;
            have hS7 := hS6;
            obtain ⟨rfl, _⟩ := hS7;
            have HS6 := Lib.hid hS6;
            clear hS6)))
      have hS := HS6.out
      rw [HO.out] at hS
      obtain ⟨mm, since, seen, c0, hi⟩ := ranges_iter HRG.out
      have hnx := CopyI.next HH.out.rise (HB3.out.trans (HB35.out.mono HB3.out.size)) (ranges_at HRG.out (HB35.out.block gm (Nat.lt_of_lt_of_le hgm HB3.out.size)) (HB35.out.block r (lt_of_heap2 hi))) HON.out HND.out HLF.out HHX.out HLK.out (HA3.out.below HB35.out) HG.out hgm hS
      go_roundw
      case rel => exact ⟨_, _, _, hnx⟩
      case measure =>
        rw [hnx.rng.left_eq, HC.out]
        exact HLT.out
end Go.Proofs.Ytdphpjlhkamadaa
