/- The parents of all children, as memory has them. -/
import Derived.Test.YtogkeoainejfcaaADelete
namespace Go.Proofs.Ytogkeoainejfcaa
open Go.RowKit
set_option linter.unusedSimpArgs false
set_option linter.unusedVariables false
set_option maxRecDepth 100000
/-- Nothing but these blocks has changed. -/
structure Touch (w w' : World) (S : Nat → Prop) : Prop where
  os : w'.os = w.os
  tape : w'.tape = w.tape
  output : w'.output = w.output
  size : w.heap.size ≤ w'.heap.size
  block : ∀ j, j < w.heap.size → ¬ S j → w'.heap[j]? = w.heap[j]?
theorem Touch.refl (w : World) (S : Nat → Prop) : Touch w w S := ⟨rfl, rfl, rfl, Nat.le_refl _, fun _ _ _ => rfl⟩
theorem Touch.trans {a b c : World} {S S' : Nat → Prop} (h : Touch a b S) (k : Touch b c S') (hS : ∀ j, S' j → S j ∨ a.heap.size ≤ j) : Touch a c S :=
  ⟨k.os.trans h.os, k.tape.trans h.tape, k.output.trans h.output, Nat.le_trans h.size k.size, fun j hj hn => (k.block j (Nat.lt_of_lt_of_le hj h.size) (fun e => by rcases hS j e with e | e; exact hn e; omega)).trans (h.block j hj hn)⟩
theorem Touch.of_below {w w' : World} (h : Below w.heap.size w w') (S : Nat → Prop) : Touch w w' S := ⟨h.os, h.tape, h.output, h.size, fun j hj _ => h.block j hj⟩
theorem Touch.of_grown {w w' : World} {row : Option Nat} (h : w.grownBy w' row) {S : Nat → Prop} (hS : ∀ j, row = some j → S j) : Touch w w' S := ⟨h.os, h.tape, h.output, h.size, fun j hj hn => h.block j hj fun e => hn (hS j e.symm)⟩
theorem Touch.more {w w' : World} {S S' : Nat → Prop} (h : Touch w w' S) (hS : ∀ j, S j → S' j) : Touch w w' S' := ⟨h.os, h.tape, h.output, h.size, fun j hj hn => h.block j hj fun e => hn (hS j e)⟩
theorem Touch.below {w w' : World} {S : Nat → Prop} (h : Touch w w' S) {B : Nat} (hB : B ≤ w.heap.size) (hS : ∀ j, S j → B ≤ j) : Below B w w' := ⟨h.os, h.tape, h.output, h.size, fun j hj => h.block j (by omega) fun e => by have := hS j e; omega⟩
theorem Touch.after {a b c : World} {S : Nat → Prop} (h : Touch a b S) (k : Below b.heap.size b c) : Touch a c S := h.trans (.of_below k (fun _ => False)) fun _ e => e.elim
theorem Touch.turned {w w' : World} {b : Nat} (h : w.mapTurned w' b) {S : Nat → Prop} (hS : S b) : Touch w w' S := .of_grown h.grown fun j e => by injection e with e; rw [← e]; exact hS
theorem Touch.setCell {a b : World} {S : Nat → Prop} (h : Touch a b S) (p : Addr) (v : Value) (hp : S p.block ∨ a.heap.size ≤ p.block) : Touch a (b.setCell p v) S :=
  ⟨h.os, h.tape, h.output, Nat.le_trans h.size (by simp [World.setCell]), fun j hj hn => (heap_setCell_other _ p j _ (fun e => by rcases hp with e2 | e2; exact hn (by rw [e]; exact e2); omega)).trans (h.block j hj hn)⟩
/-- The rows of all children, with their slices. -/
abbrev PF := List (Nat × (Value × List (Nat × Nat)))
def OwnsF (F : PF) (j : Nat) : Prop := ∃ k x, getL F k = some x ∧ x.1.ownBlock = some j
structure ParW (w : World) (base gp : Nat) (F : PF) : Prop where
  map : MapV w gp (mapL Prod.fst F)
  own : ∀ k x, getL F k = some x → POwn w base x.1 x.2 ∧ x.2 ≠ [] ∧ Rise x.2
  apart : ∀ k k' x x', getL F k = some x → getL F k' = some x' → k ≠ k' → x.1.ownBlock ≠ x'.1.ownBlock
theorem ParW.rise {w : World} {base gp : Nat} {F : PF} (h : ParW w base gp F) : Rise F := by
  have h1 := h.map.rise
  unfold Rise mapL at h1
  rw [List.pairwise_map] at h1
  exact h1
theorem ParW.made (w : World) (base : Nat) : ParW (w.alloc (.map #[] 0)) base w.heap.size [] := ⟨MapV.made w, fun k x h => (by cases h), fun k k' x x' h => (by cases h)⟩
theorem ParW.at_ {w w' : World} {base gp : Nat} {F : PF} (h : ParW w base gp F) (hm : w'.heap[gp]? = w.heap[gp]?) (hk : ∀ j, OwnsF F j → w'.heap[j]? = w.heap[j]?) : ParW w' base gp F :=
  ⟨h.map.at_ hm, fun k x hx => ⟨(h.own k x hx).1.at_ fun g hg => hk g ⟨k, x, hx, hg⟩, (h.own k x hx).2⟩, h.apart⟩
theorem OwnsF.lt {w : World} {base gp : Nat} {F : PF} (h : ParW w base gp F) {j : Nat} (ho : OwnsF F j) : base ≤ j ∧ j < w.heap.size := by
  obtain ⟨k, x, hx, hg⟩ := ho
  exact (h.own k x hx).1.block hg
theorem OwnsF.ne {w : World} {base gp : Nat} {F : PF} (h : ParW w base gp F) {j : Nat} (ho : OwnsF F j) : j ≠ gp := fun e => by
  obtain ⟨k, x, hx, hg⟩ := ho
  obtain ⟨es, clock, h1, _⟩ := h.map.own
  rcases (h.own k x hx).1.2 with ⟨h0, _⟩ | ⟨g, cap, cur, e2, _, h2, _⟩
  · rw [h0] at hg; cases hg
  · rw [e2] at hg
    have e3 : g = j := Option.some.inj hg
    rw [e3, e, h1] at h2
    cases h2
theorem ParW.below {w w' : World} {base gp : Nat} {F : PF} (h : ParW w base gp F) (hb : Below w.heap.size w w') : ParW w' base gp F := h.at_ (hb.block gp h.map.lt) fun j hj => hb.block j (hj.lt h).2
theorem ParW.touch {w w' : World} {base gp : Nat} {F : PF} {S : Nat → Prop} (h : ParW w base gp F) (ht : Touch w w' S) (h1 : ¬ S gp) (h2 : ∀ j, OwnsF F j → ¬ S j) : ParW w' base gp F := h.at_ (ht.block gp h.map.lt h1) fun j hj => ht.block j (hj.lt h).2 (h2 j hj)
/-- The row of a child. -/
def rowP (F : PF) (k : Nat) : List (Nat × Nat) := ((getL F k).map Prod.snd).getD []
def valP (F : PF) (k : Nat) : Value := ((getL F k).map Prod.fst).getD (.slice none 0 0)
theorem ParW.row {w : World} {base gp : Nat} {F : PF} (h : ParW w base gp F) (k : Nat) : POwn w base (valP F k) (rowP F k) ∧ Rise (rowP F k) := by
  unfold valP rowP
  cases hx : getL F k with
  | none => exact ⟨POwn.nil _ _, Rise.nil⟩
  | some x => exact ⟨(h.own k x hx).1, (h.own k x hx).2.2⟩
theorem valP_own {F : PF} {k j : Nat} (h : (valP F k).ownBlock = some j) : OwnsF F j := by
  unfold valP at h
  cases hx : getL F k with
  | none => rw [hx] at h; cases h
  | some x => rw [hx] at h; exact ⟨k, x, hx, h⟩
/-- A child's row has been laid anew. -/
theorem ParW.put {w w' : World} {base gp : Nat} {F : PF} (h : ParW w base gp F) {k : Nat} {v : Value} {l : List (Nat × Nat)} (hm : MapV w' gp (putL' (mapL Prod.fst F) k v)) (ho : POwn w' base v l) (hl : l ≠ []) (hr : Rise l)
    (hk : ∀ j, OwnsF F j → (valP F k).ownBlock ≠ some j → w'.heap[j]? = w.heap[j]?) (hn : ∀ j, v.ownBlock = some j → (valP F k).ownBlock = some j ∨ ¬ OwnsF F j) : ParW w' base gp (putL' F k (v, l)) := by
  have hF := h.rise
  have hne : ∀ k' x, getL F k' = some x → k' ≠ k → ∀ j, x.1.ownBlock = some j → (valP F k).ownBlock ≠ some j := fun k' x hx hk' j hj e => by
    unfold valP at e
    cases hy : getL F k with
    | none => rw [hy] at e; cases e
    | some y => rw [hy] at e; exact h.apart k' k x y hx hy hk' (hj.trans e.symm)
  refine ⟨?_, fun k' x hx => ?_, fun k1 k2 x1 x2 h1 h2 hk12 => ?_⟩
  · have e : mapL Prod.fst (putL' F k (v, l)) = putL' (mapL Prod.fst F) k v := (putL_map Prod.fst F k (v, l)).symm
    rw [e]
    exact hm
  · rw [getL_put hF] at hx
    by_cases e : k' = k
    · rw [if_pos e] at hx
      injection hx with hx
      subst hx
      exact ⟨ho, hl, hr⟩
    · rw [if_neg e] at hx
      exact ⟨(h.own k' x hx).1.at_ fun g hg => hk g ⟨k', x, hx, hg⟩ (hne k' x hx e g hg), (h.own k' x hx).2⟩
  · rw [getL_put hF] at h1 h2
    have key : ∀ k' x, getL F k' = some x → k' ≠ k → x.1.ownBlock ≠ v.ownBlock := fun k' x hx hk' e => by
      obtain ⟨p1, p2, _⟩ := h.own k' x hx
      cases hb : x.1.ownBlock with
      | none =>
        rcases p1.2 with ⟨h0, h00⟩ | ⟨g, cap, cur, e2, _⟩
        · exact p2 (List.eq_nil_of_length_eq_zero h00)
        · rw [e2] at hb; cases hb
      | some j =>
        rcases hn j (by rw [← e]; exact hb) with h3 | h3
        · exact hne k' x hx hk' j hb h3
        · exact h3 ⟨k', x, hx, hb⟩
    by_cases e1 : k1 = k
    · rw [if_pos e1] at h1
      injection h1 with h1
      subst h1
      rw [if_neg (by omega)] at h2
      exact fun e => key k2 x2 h2 (by omega) e.symm
    · rw [if_neg e1] at h1
      by_cases e2 : k2 = k
      · rw [if_pos e2] at h2
        injection h2 with h2
        subst h2
        exact key k1 x1 h1 e1
      · rw [if_neg e2] at h2
        exact h.apart k1 k2 x1 x2 h1 h2 hk12
/-- .. and is none any more. -/
theorem ParW.del {w w' : World} {base gp : Nat} {F : PF} (h : ParW w base gp F) {k : Nat} (hm : MapV w' gp (delL (mapL Prod.fst F) k)) (hk : ∀ j, OwnsF F j → (valP F k).ownBlock ≠ some j → w'.heap[j]? = w.heap[j]?) : ParW w' base gp (delL F k) := by
  have hne : ∀ k' x, getL F k' = some x → k' ≠ k → ∀ j, x.1.ownBlock = some j → (valP F k).ownBlock ≠ some j := fun k' x hx hk' j hj e => by
    unfold valP at e
    cases hy : getL F k with
    | none => rw [hy] at e; cases e
    | some y => rw [hy] at e; exact h.apart k' k x y hx hy hk' (hj.trans e.symm)
  refine ⟨by rw [← delL_map]; exact hm, fun k' x hx => ?_, fun k1 k2 x1 x2 h1 h2 hk12 => ?_⟩
  · rw [getL_del] at hx
    by_cases e : k' = k
    · rw [if_pos e] at hx; cases hx
    · rw [if_neg e] at hx
      exact ⟨(h.own k' x hx).1.at_ fun g hg => hk g ⟨k', x, hx, hg⟩ (hne k' x hx e g hg), (h.own k' x hx).2⟩
  · rw [getL_del] at h1 h2
    by_cases e1 : k1 = k
    · rw [if_pos e1] at h1; cases h1
    · rw [if_neg e1] at h1
      by_cases e2 : k2 = k
      · rw [if_pos e2] at h2; cases h2
      · rw [if_neg e2] at h2
        exact h.apart k1 k2 x1 x2 h1 h2 hk12
theorem prow_set : ∀ (l : List (Nat × Nat)) (i a c : Nat) (q : Nat × Nat), l[i]? = some q → q.1 = a → prow (l.set i (a, c)) = (prow l).set (i * 2 + 1) (.int .i64 (c : Int))
  | [], i, a, c, q, h, _ => by simp at h
  | p :: l, 0, a, c, q, h, e => by
    simp at h
    subst h
    subst e
    rfl
  | p :: l, i + 1, a, c, q, h, e => by
    have h2 := prow_set l i a c q (by simpa using h) e
    rw [List.set_cons_succ, prow_cons, prow_cons, h2, show (i + 1) * 2 + 1 = (i * 2 + 1) + 2 by omega, List.set_cons_succ, List.set_cons_succ]
theorem POwn.set {w : World} {base g cap n : Nat} {l : List (Nat × Nat)} (h : POwn w base (.slice (some ⟨g, 0, none⟩) n cap) l) {i a b : Nat} (c : Nat) (hi : l[i]? = some (a, b)) : POwn (w.setCell ⟨g, i * 2 + 1, none⟩ (.int .i64 (c : Int))) base (.slice (some ⟨g, 0, none⟩) n cap) (l.set i (a, c)) := by
  have hil := (List.getElem?_eq_some_iff.1 hi).1
  obtain ⟨h1, h2⟩ := h
  unfold POwn
  rw [List.length_set]
  refine ⟨by rw [prow_length, List.length_set], ?_⟩
  rcases h2 with ⟨h0, _⟩ | ⟨g', cap', cur, e, h3, h4, h5, h6, h7, h8⟩
  · cases h0
  · injection e with e1 e2 e3
    injection e1 with e1
    injection e1 with e1 _ _
    subst e1 e2 e3
    refine .inr ⟨g, cap, cur.setIfInBounds (i * 2 + 1) (.int .i64 (c : Int)), rfl, h3, heap_setCell_same w g (i * 2 + 1) _ _ _ h4, h5, h6, by simp [h7], ?_⟩
    rw [Array.toList_setIfInBounds, List.take_set, h8, prow_set l i a c (a, b) hi rfl]
end Go.Proofs.Ytogkeoainejfcaa
