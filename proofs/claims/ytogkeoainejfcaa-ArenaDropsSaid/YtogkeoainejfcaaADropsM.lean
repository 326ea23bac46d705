/- What is left of a dropped tree: pure; and what the walk of ArenaDrops wants. -/
import Derived.Test.YtogkeoainejfcaaR3
import Derived.Test.YtogkeoainejfcaaADrop
import Derived.Test.YtogkeoainejfcaaArenaPutsWalk
namespace Go.Proofs.Ytogkeoainejfcaa
open Go.RowKit
set_option linter.unusedSimpArgs false
set_option linter.unusedVariables false
set_option maxRecDepth 100000
theorem dropL_filter : ∀ (L : List Nat) (ns : List (Nat × Nd)), dropL ns L = ns.filter fun p => decide (p.1 ∉ L)
  | [], ns => (List.filter_eq_self.2 (by simp)).symm
  | x :: L, ns => by
    show dropL (delL ns x) L = _
    rw [dropL_filter L]
    unfold delL
    rw [List.filter_filter]
    congr 1
    funext p
    by_cases h1 : p.1 = x <;> by_cases h2 : p.1 ∈ L <;> simp [h1, h2]
theorem xNs_less (ks : List Nat) (xs : XL) : xNs (lessX ks xs) = dropL (xNs xs) ks := by
  rw [dropL_filter]
  unfold xNs mapL lessX
  rw [List.filter_map]
  rfl
theorem sumU_filter (q : Nat × Nd → Bool) : ∀ ns : List (Nat × Nd), sumU (ns.filter q) [] ≤ sumU ns []
  | [] => Nat.le_refl _
  | p :: r => by
    have h := sumU_filter q r
    have e : sumU (p :: r) [] = p.2.kids.length + sumU r [] := by unfold sumU; rw [List.map_cons, List.sum_cons, if_neg (by simp)]
    rw [List.filter_cons]
    split
    · have e2 : sumU (p :: r.filter q) [] = p.2.kids.length + sumU (r.filter q) [] := by unfold sumU; rw [List.map_cons, List.sum_cons, if_neg (by simp)]
      omega
    · omega
theorem dropL_sum (L : List Nat) (ns : List (Nat × Nd)) : sumU (dropL ns L) [] ≤ sumU ns [] := by rw [dropL_filter]; exact sumU_filter _ _
theorem dropL_len (L : List Nat) (ns : List (Nat × Nd)) : (dropL ns L).length ≤ ns.length := by rw [dropL_filter]; exact List.length_filter_le _ _
theorem walkF_sub (ns : List (Nat × Nd)) : ∀ (f : Nat) (left done : List Nat) (x : Nat), x ∈ done → x ∈ walkF ns f left done
  | 0, _, _, _, h => h
  | _ + 1, [], _, _, h => h
  | f + 1, y :: left, done, x, h => by
    show x ∈ (match getL ns y with | none => walkF ns f left done | some n => if y ∈ done then walkF ns f left done else walkF ns f (n.kids ++ left) (done ++ [y]))
    split
    · exact walkF_sub ns f _ _ _ h
    · split
      · exact walkF_sub ns f _ _ _ h
      · exact walkF_sub ns f _ _ _ (by simp [h])
theorem walkL_none {ns : List (Nat × Nd)} {id : Nat} (h : getL ns id = none) : walkL ns id = [] := by
  unfold walkL
  rw [walkF_none h, walkF_nil]
theorem walkL_self {ns : List (Nat × Nd)} {id : Nat} {n : Nd} (h : getL ns id = some n) : id ∈ walkL ns id := by
  unfold walkL
  rw [walkF_some h (by simp)]
  exact walkF_sub _ _ _ _ _ (by simp)
theorem sumU_kids (ns : List (Nat × Nd)) (id : Nat) : ((getL ns id).getD zeroNd).kids.length ≤ sumU ns [] := by
  induction ns with
  | nil => exact Nat.zero_le _
  | cons p r ih =>
    have e : sumU (p :: r) [] = p.2.kids.length + sumU r [] := by unfold sumU; rw [List.map_cons, List.sum_cons, if_neg (by simp)]
    show ((if p.1 = id then some p.2 else getL r id).getD zeroNd).kids.length ≤ _
    split
    · show p.2.kids.length ≤ _; omega
    · omega
/-- What was dropped is there no more. -/
theorem walkL_gone (ns : List (Nat × Nd)) (id : Nat) : walkL (dropL ns (walkL ns id)) id = [] := by
  refine walkL_none ?_
  rw [getL_drop]
  cases h : getL ns id with
  | none => split <;> rfl
  | some n => rw [if_pos (walkL_self h)]
theorem wrap_add (z j : Nat) : IntKind.u64.wrap ((z : Int) + (j : Int)) = (((z + j) % 18446744073709551616 : Nat) : Int) := by
  have h : IntKind.u64.wrap ((z : Int) + (j : Int)) = ((z : Int) + (j : Int)) % 18446744073709551616 := by first | rfl | (simp [IntKind.wrap]; done) | (unfold IntKind.wrap; rfl)
  rw [h]
  omega
/-- An arena's blocks are no blocks of its copy. -/
theorem copy_far {w w6 : World} {b ga gm gp N gc gcm gcp Nc : Nat} {F Fc : PF} {vs vsc : List (Nat × Value)} {ns nc : List (Nat × Nd)} (h : AR w b ga gm gp F vs ns N) (h6 : AR w6 b ga gm gp F vs ns N) (hc : AR w6 w.heap.size gc gcm gcp Fc vsc nc Nc) {j : Nat} (hj : OwnA gm gp F j) : j ≠ gc ∧ ¬ OwnA gcm gcp Fc j ∧ ∀ cs z, w6.heap[j]? ≠ some (.cells cs 24 z) := by
  have hlt : j < w.heap.size := by
    rcases h.obj hj with ⟨es, cl, e⟩ | ⟨cs, e⟩ <;> exact lt_of_heap2 e
  refine ⟨fun e => by have := hc.o1; omega, fun e => by have := hc.low e; omega, fun cs z e => ?_⟩
  rcases h6.obj hj with ⟨es, cl, e2⟩ | ⟨cs2, e2⟩
  · rw [e2] at e; cases e
  · rw [e2] at e
    injection e with e
    injection e with _ h2 _
    revert h2
    decide
/-- One number of a row of one's own is another. -/
theorem own_set {w : World} {base n c k : Nat} {A : Option Addr} {K : List Nat} (h : w.ownsRow base 24 1 (.slice A n c) n (ids K)) (hk : k < n) (y : Nat) :
    ∃ g, A = some ⟨g, 0, none⟩ ∧ base ≤ g ∧ (∃ cs, w.heap[g]? = some (.cells cs 24 (0, 0))) ∧ (∃ z, K[k]? = some z ∧ w.cell? ⟨g, k, none⟩ = some (.int .u64 (z : Int))) ∧ w.frozen? ⟨g, k, none⟩ = false ∧ k < c ∧ (w.setCell ⟨g, k, none⟩ (.int .u64 (y : Int))).ownsRow base 24 1 (.slice A n c) n (ids (K.set k y)) := by
  rcases h.2 with ⟨e, h0⟩ | ⟨g, cap, cur, e, hb, hg, hnc, hm, hs, ht⟩
  · omega
  · injection e with e1 _ e3
    subst e1 e3
    have hlen : K.length = n := by have := h.1; rw [ids_length] at this; omega
    obtain ⟨z, hz⟩ : ∃ z, K[k]? = some z := ⟨_, List.getElem?_eq_getElem (by omega)⟩
    have hcell : cur[k]? = some (.int .u64 (z : Int)) := by
      have h2 : (ids K)[k]? = some (.int .u64 (z : Int)) := by rw [ids_at, hz]; rfl
      rw [← ht, List.getElem?_take_of_lt (by omega)] at h2
      simpa using h2
    refine ⟨g, rfl, hb, ⟨cur, hg⟩, ⟨z, hz, by unfold World.cell?; rw [hg]; exact hcell⟩, frozen_of_row w g _ _ _ hg, by omega, ⟨by rw [ids_length, List.length_set]; omega, .inr ⟨g, c, cur.setIfInBounds k (.int .u64 (y : Int)), rfl, hb, heap_setCell_same _ g k _ _ _ hg, hnc, hm, by simpa using hs, ?_⟩⟩⟩
    rw [Array.toList_setIfInBounds, List.take_set, ht]
    unfold ids
    rw [List.map_set]
/-- The first number of a row of one's own. -/
theorem own_first {w : World} {B n c g y : Nat} {K : List Nat} (h : w.ownsRow B 24 1 (.slice (some ⟨g, 0, none⟩) n c) n (ids K)) (hy : K[0]? = some y) : w.cell? ⟨g, 0, none⟩ = some (.int .u64 (y : Int)) := by
  have hl : 0 < n := by
    have h1 := (List.getElem?_eq_some_iff.1 hy).1
    have h2 := h.1
    rw [ids_length] at h2
    omega
  obtain ⟨g2, e, _, _, ⟨z, hz, hc⟩, _⟩ := own_set h hl 0
  injection e with e
  injection e with e _ _
  subst e
  rw [hy] at hz
  injection hz with hz
  subst hz
  exact hc
/-- What the last region reads. -/
structure DropS (w w4 w12 : World) (g9 g12 : Nat) (b9 b12 : Array Value) (v9 v12 : Value) (kl : Nat) (K K2 : List Nat) (x : World) : Prop where
  below : Below w.heap.size w x
  h9 : x.heap[g9]? = some (.cells b9 33 (0, 0))
  h12 : x.heap[g12]? = some (.cells b12 33 (0, 0))
  k9 : x.ownsRow w4.heap.size 24 1 v9 kl (ids K)
  k12 : x.ownsRow w12.heap.size 24 1 v12 kl (ids K2)
theorem DropS.drew {w w4 w12 x : World} {g9 g12 : Nat} {b9 b12 : Array Value} {v9 v12 : Value} {kl : Nat} {K K2 : List Nat} (h : DropS w w4 w12 g9 g12 b9 b12 v9 v12 kl K K2 x) : DropS w w4 w12 g9 g12 b9 b12 v9 v12 kl K K2 x.drew := ⟨ride_drew h.below, h.h9, h.h12, ownsRow_at h.k9 fun _ _ _ => rfl, ownsRow_at h.k12 fun _ _ _ => rfl⟩
theorem DropS.touch {w w4 w12 x x' : World} {g9 g12 : Nat} {b9 b12 : Array Value} {v9 v12 : Value} {kl : Nat} {K K2 : List Nat} {b ga gm gp N : Nat} {F : PF} {vs : List (Nat × Value)} {ns : List (Nat × Nd)} (h : DropS w w4 w12 g9 g12 b9 b12 v9 v12 kl K K2 x) (hA : AR x b ga gm gp F vs ns N) (hT : Touch x x' (OwnA gm gp F)) (hb : w.heap.size ≤ b) : DropS w w4 w12 g9 g12 b9 b12 v9 v12 kl K K2 x' :=
  ⟨h.below.trans (hT.below h.below.size fun j hj => Nat.le_trans hb (hA.low hj)), hA.other hT h.h9 (by decide), hA.other hT h.h12 (by decide), ownsRow_at h.k9 fun g cs hg => (hA.other hT hg (by decide)).trans hg.symm, ownsRow_at h.k12 fun g cs hg => (hA.other hT hg (by decide)).trans hg.symm⟩
end Go.Proofs.Ytogkeoainejfcaa
