/- AFirst, ABack, AWalkMath: joined by program (tools/merge.py). -/
import Derived.Test.YtecbaceinifjiaaGreatDoorZ7
import Derived.RangeFuncBox
import Derived.RangeFuncNested
import Derived.RangeFuncCalls
import Derived.RangeFuncLeaves
import Derived.Shelf.Abstract
import Derived.Shelf.RegionOpen
import Derived.WalkKit
import Derived.OwnWalkIn
import Derived.TacticsInMore
import Derived.LoopNIn
import Derived.LoopIn
import Derived.Maps.AppendAt
namespace Go.Proofs.YtecbaceinifjiaaGreatDoor
open Go.RowKit
set_option linter.unusedSimpArgs false
set_option linter.unusedVariables false
set_option maxRecDepth 100000
def firstP (l : List (Nat × Nat)) : Nat := (l.head?.map Prod.fst).getD 0
end Go.Proofs.YtecbaceinifjiaaGreatDoor
namespace Go.Proofs.YtecbaceinifjiaaGreatDoor
open Go.RowKit Go.Shelf
set_option linter.unusedSimpArgs false
set_option linter.unusedVariables false
attribute [local go_sem] Oper.semAt_some
/-- The indexes that were told, from the last one down to k. -/
def downs (N k : Nat) : List Nat := (List.range (N - k)).map fun j => N - 1 - j
theorem downs_all (N : Nat) : downs N N = [] := by unfold downs; rw [Nat.sub_self]; rfl
theorem downs_next {N k : Nat} (h : k < N) : downs N k = downs N (k + 1) ++ [k] := by
  unfold downs
  rw [show N - k = (N - (k + 1)) + 1 by omega, List.range_succ, List.map_append]
  congr 1
  show [N - 1 - (N - (k + 1))] = [k]
  rw [show N - 1 - (N - (k + 1)) = k by omega]
theorem downs_length (N k : Nat) : (downs N k).length = N - k := by unfold downs; rw [List.length_map, List.length_range]
abbrev At_ (l : List Nat) := Fin l.length
def atNo {l : List Nat} (xs : List (At_ l)) : List Nat := xs.map fun x => x.1
theorem atNo_snoc {l : List Nat} (xs : List (At_ l)) (x : At_ l) : atNo (xs ++ [x]) = atNo xs ++ [x.1] := by unfold atNo; rw [List.map_append]; rfl
theorem atNo_length {l : List Nat} (xs : List (At_ l)) : (atNo xs).length = xs.length := by unfold atNo; rw [List.length_map]
/-- What a round keeps: the iterator's variable, and the row that it goes through. -/
def KpB (B1 : Nat) (A : Option Addr) (W W' : World) : Prop := W'.cell? ⟨B1, 0, none⟩ = W.cell? ⟨B1, 0, none⟩ ∧ ∀ ad, A = some ad → ∀ i, W'.cell? (ad.add i) = W.cell? (ad.add i)
theorem KpB.refl (B1 : Nat) (A : Option Addr) (W : World) : KpB B1 A W W := ⟨rfl, fun _ _ _ => rfl⟩
theorem KpB.trans {B1 : Nat} {A : Option Addr} {a b c : World} (h : KpB B1 A a b) (k : KpB B1 A b c) : KpB B1 A a c := ⟨k.1.trans h.1, fun ad e i => (k.2 ad e i).trans (h.2 ad e i)⟩
def backV {l : List Nat} (x : At_ l) : Array Value := #[.int .i64 (x.1 : Int), .int .u64 (l[x.1] : Int)]
end Go.Proofs.YtecbaceinifjiaaGreatDoor
namespace Go.Proofs.YtecbaceinifjiaaGreatDoor
open Go.RowKit
set_option linter.unusedSimpArgs false
set_option linter.unusedVariables false
/-- What is found while some wait and some are done. -/
def walkF (ns : List (Nat × Nd)) : Nat → List Nat → List Nat → List Nat
  | 0, _, done => done
  | _ + 1, [], done => done
  | f + 1, x :: left, done => match getL ns x with
    | none => walkF ns f left done
    | some n => if x ∈ done then walkF ns f left done else walkF ns f (n.kids ++ left) (done ++ [x])
/-- How many kids the nodes have that are not done. -/
def sumU (ns : List (Nat × Nd)) (done : List Nat) : Nat := (ns.map fun p => if p.1 ∈ done then 0 else p.2.kids.length).sum
theorem walkF_nil (ns : List (Nat × Nd)) (f : Nat) (done : List Nat) : walkF ns f [] done = done := by cases f <;> rfl
theorem walkF_none {ns : List (Nat × Nd)} {f x : Nat} {left done : List Nat} (h : getL ns x = none) : walkF ns (f + 1) (x :: left) done = walkF ns f left done := by
  show (match getL ns x with | none => _ | some n => _) = _
  rw [h]
theorem walkF_again {ns : List (Nat × Nd)} {f x : Nat} {left done : List Nat} (h : x ∈ done) : walkF ns (f + 1) (x :: left) done = walkF ns f left done := by
  show (match getL ns x with | none => _ | some n => _) = _
  cases hg : getL ns x with
  | none => rfl
  | some n => dsimp only; rw [if_pos h]
theorem walkF_some {ns : List (Nat × Nd)} {f x : Nat} {n : Nd} {left done : List Nat} (h : getL ns x = some n) (hd : x ∉ done) : walkF ns (f + 1) (x :: left) done = walkF ns f (n.kids ++ left) (done ++ [x]) := by
  show (match getL ns x with | none => _ | some n => _) = _
  rw [h]
  dsimp only
  rw [if_neg hd]
theorem sumU_out {ns : List (Nat × Nd)} {x : Nat} {done : List Nat} (h : ∀ p ∈ ns, p.1 ≠ x) : sumU ns (done ++ [x]) = sumU ns done := by
  unfold sumU
  congr 1
  refine List.map_congr_left fun p hp => ?_
  have := h p hp
  simp [this]
theorem sumU_some : ∀ {ns : List (Nat × Nd)} {x : Nat} {n : Nd} {done : List Nat}, Rise ns → getL ns x = some n → x ∉ done → sumU ns done = sumU ns (done ++ [x]) + n.kids.length
  | [], x, n, done, _, h, _ => by cases h
  | p :: ns, x, n, done, hr, h, hd => by
    have hr2 : Rise ns := List.Pairwise.tail hr
    by_cases e : p.1 = x
    · have hp : p.2 = n := by
        have h3 : (if p.1 = x then some p.2 else getL ns x) = some n := h
        rw [if_pos e] at h3
        exact Option.some.inj h3
      have hout : ∀ q ∈ ns, q.1 ≠ x := fun q hq e2 => by
        have := List.rel_of_pairwise_cons hr hq
        omega
      have h1 := sumU_out (done := done) hout
      unfold sumU at h1 ⊢
      rw [List.map_cons, List.map_cons, List.sum_cons, List.sum_cons, h1, if_neg (by rw [e]; exact hd), if_pos (by rw [e]; simp), hp]
      omega
    · have h2 : getL ns x = some n := by
        have h3 : (if p.1 = x then some p.2 else getL ns x) = some n := h
        rw [if_neg e] at h3
        exact h3
      have h1 := sumU_some hr2 h2 hd
      unfold sumU at h1 ⊢
      rw [List.map_cons, List.map_cons, List.sum_cons, List.sum_cons, h1]
      have h3 : (p.1 ∈ done ++ [x]) = (p.1 ∈ done) := by simp [e]
      simp only [h3]
      omega
/-- A node and everything below it. -/
def walkL (ns : List (Nat × Nd)) (id : Nat) : List Nat := walkF ns (sumU ns [] + 1) [id] []
/-- Where a walk stands: done, waiting; f steps are left. -/
structure WalkAt (ns : List (Nat × Nd)) (id : Nat) (left done : List Nat) : Prop where
  goal : walkF ns (sumU ns done + left.length) left done = walkL ns id
  once : done.Nodup
  node : ∀ x ∈ done, hasL ns x = true
  few : sumU ns done + left.length ≤ sumU ns [] + 1
theorem WalkAt.start (ns : List (Nat × Nd)) (id : Nat) : WalkAt ns id [id] [] := ⟨rfl, List.nodup_nil, by simp, Nat.le_refl _⟩
theorem WalkAt.end_ {ns : List (Nat × Nd)} {id : Nat} {done : List Nat} (h : WalkAt ns id [] done) : done = walkL ns id := by
  have := h.goal
  rw [walkF_nil] at this
  exact this
theorem WalkAt.skip {ns : List (Nat × Nd)} {id x : Nat} {left done : List Nat} (h : WalkAt ns id (x :: left) done) (hx : hasL ns x = false ∨ x ∈ done) : WalkAt ns id left done := by
  have hg := h.goal
  have hf := h.few
  rw [List.length_cons] at hg hf
  rw [show sumU ns done + (left.length + 1) = (sumU ns done + left.length) + 1 by omega] at hg
  refine ⟨?_, h.once, h.node, by omega⟩
  rcases hx with hx | hx
  · rw [walkF_none (by unfold hasL at hx; cases hq : getL ns x with | none => rfl | some n => rw [hq] at hx; cases hx)] at hg
    exact hg
  · rw [walkF_again hx] at hg
    exact hg
theorem WalkAt.step {ns : List (Nat × Nd)} {id x : Nat} {n : Nd} {left done : List Nat} (hr : Rise ns) (h : WalkAt ns id (x :: left) done) (hx : getL ns x = some n) (hd : x ∉ done) : WalkAt ns id (n.kids ++ left) (done ++ [x]) := by
  have hg := h.goal
  have hf := h.few
  have hs := sumU_some hr hx hd
  rw [List.length_cons] at hg hf
  rw [show sumU ns done + (left.length + 1) = (sumU ns (done ++ [x]) + (n.kids ++ left).length) + 1 by rw [List.length_append]; omega, walkF_some hx hd] at hg
  refine ⟨hg, ?_, fun y hy => ?_, by rw [List.length_append]; omega⟩
  · rw [List.nodup_append]
    exact ⟨h.once, by simp, fun a ha b hb e => by simp at hb; rw [e, hb] at ha; exact hd ha⟩
  · rcases List.mem_append.1 hy with hy | hy
    · exact h.node y hy
    · simp at hy
      rw [hy]
      unfold hasL
      rw [hx]
      rfl
end Go.Proofs.YtecbaceinifjiaaGreatDoor
