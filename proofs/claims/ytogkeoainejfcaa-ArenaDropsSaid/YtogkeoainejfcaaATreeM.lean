/- Whether nodes are a tree, as a walk tells it: pure. -/
import Derived.Test.YtogkeoainejfcaaAWalkI
namespace Go.Proofs.Ytogkeoainejfcaa
open Go.RowKit
set_option linter.unusedSimpArgs false
set_option linter.unusedVariables false
def depL (dm : List (Nat × Nat)) (x : Nat) : Nat := (getL dm x).getD 0
/-- The kids of x get their depths, if each is a node that has none. -/
def kidsGo (ns : List (Nat × Nd)) (x : Nat) : List Nat → List (Nat × Nat) → Option (List (Nat × Nat))
  | [], dm => some dm
  | k :: r, dm => if hasL ns k = true ∧ depL dm k = 0 then kidsGo ns x r (putL' dm k (depL dm x + 1)) else none
def badAt (ns : List (Nat × Nd)) (dm : List (Nat × Nat)) (x : Nat) : Prop := 200 < depL dm x ∨ ((ndOf ns x).ref ≠ 0 ∧ hasL ns (ndOf ns x).ref = false)
instance (ns : List (Nat × Nd)) (dm : List (Nat × Nat)) (x : Nat) : Decidable (badAt ns dm x) := by unfold badAt; infer_instance
def stepT (ns : List (Nat × Nd)) (x : Nat) (dm : List (Nat × Nat)) : Option (List (Nat × Nat)) := if badAt ns dm x then none else kidsGo ns x (ndOf ns x).kids dm
def treeGo (ns : List (Nat × Nd)) : List Nat → List (Nat × Nat) → Option (List (Nat × Nat))
  | [], dm => some dm
  | x :: L, dm => (stepT ns x dm).bind (treeGo ns L)
theorem treeGo_append (ns : List (Nat × Nd)) : ∀ (A B : List Nat) (dm : List (Nat × Nat)), treeGo ns (A ++ B) dm = (treeGo ns A dm).bind (treeGo ns B)
  | [], B, dm => rfl
  | x :: A, B, dm => by
    show (stepT ns x dm).bind (treeGo ns (A ++ B)) = ((stepT ns x dm).bind (treeGo ns A)).bind (treeGo ns B)
    cases stepT ns x dm with
    | none => rfl
    | some dm' => exact treeGo_append ns A B dm'
theorem treeGo_snoc (ns : List (Nat × Nd)) (A : List Nat) (x : Nat) (dm : List (Nat × Nat)) : treeGo ns (A ++ [x]) dm = (treeGo ns A dm).bind (stepT ns x) := by
  rw [treeGo_append]
  congr 1
  funext dm'
  show (stepT ns x dm').bind (treeGo ns []) = stepT ns x dm'
  cases stepT ns x dm' <;> rfl
theorem treeGo_none {ns : List (Nat × Nd)} {L : List Nat} {k : Nat} {dm : List (Nat × Nat)} (h : treeGo ns (L.take k) dm = none) : treeGo ns L dm = none := by
  have h1 := treeGo_append ns (L.take k) (L.drop k) dm
  rw [List.take_append_drop, h] at h1
  exact h1
theorem kidsGo_append (ns : List (Nat × Nd)) (x : Nat) : ∀ (A B : List Nat) (dm : List (Nat × Nat)), kidsGo ns x (A ++ B) dm = (kidsGo ns x A dm).bind (kidsGo ns x B)
  | [], B, dm => rfl
  | k :: A, B, dm => by
    show (if _ then kidsGo ns x (A ++ B) _ else none) = Option.bind (if _ then kidsGo ns x A _ else none) (kidsGo ns x B)
    split
    · exact kidsGo_append ns x A B _
    · rfl
theorem kidsGo_none {ns : List (Nat × Nd)} {x k : Nat} {l : List Nat} {dm : List (Nat × Nat)} (h : kidsGo ns x (l.take k) dm = none) : kidsGo ns x l dm = none := by
  have h1 := kidsGo_append ns x (l.take k) (l.drop k) dm
  rw [List.take_append_drop, h] at h1
  exact h1
theorem kidsGo_next {ns : List (Nat × Nd)} {x k y : Nat} {l : List Nat} {dm dm' : List (Nat × Nat)} (h : kidsGo ns x (l.take k) dm = some dm') (hy : l[k]? = some y) : kidsGo ns x (l.take (k + 1)) dm = if hasL ns y = true ∧ depL dm' y = 0 then some (putL' dm' y (depL dm' x + 1)) else none := by
  rw [List.take_add_one, hy, Option.toList_some, kidsGo_append, h]
  show kidsGo ns x [y] dm' = _
  show (if _ then kidsGo ns x [] _ else none) = _
  split <;> rfl
/-- The depths so far. -/
structure DmOk (ns : List (Nat × Nd)) (dm : List (Nat × Nat)) : Prop where
  rise : Rise dm
  le : ∀ p ∈ dm, p.2 ≤ 201
  node : ∀ p ∈ dm, hasL ns p.1 = true
theorem DmOk.start {ns : List (Nat × Nd)} (h : hasL ns 1 = true) : DmOk ns [(1, 1)] := ⟨by unfold Rise; simp, by simp, by simp [h]⟩
theorem DmOk.few {ns : List (Nat × Nd)} {dm : List (Nat × Nat)} (h : DmOk ns dm) : dm.length ≤ ns.length := by
  rw [← List.length_map (f := Prod.fst)]
  refine nodup_le ?_ fun x hx => ?_
  · have h1 := h.rise
    unfold Rise at h1
    unfold List.Nodup
    rw [List.pairwise_map]
    exact h1.imp fun h2 => by omega
  · obtain ⟨p, hp, rfl⟩ := List.mem_map.1 hx
    exact h.node p hp
theorem DmOk.dep {ns : List (Nat × Nd)} {dm : List (Nat × Nat)} (h : DmOk ns dm) (x : Nat) : depL dm x ≤ 201 := by
  unfold depL
  cases hg : getL dm x with
  | none => exact Nat.zero_le _
  | some d => exact h.le _ (getL_mem hg)
theorem DmOk.put {ns : List (Nat × Nd)} {dm : List (Nat × Nat)} (h : DmOk ns dm) {x y : Nat} (hx : depL dm x ≤ 200) (hy : hasL ns y = true) : DmOk ns (putL' dm y (depL dm x + 1)) :=
  ⟨h.rise.put y _, fun p hp => by rcases putL_mem hp with rfl | hp; exact Nat.succ_le_succ hx; exact h.le p hp, fun p hp => by rcases putL_mem hp with rfl | hp; exact hy; exact h.node p hp⟩
theorem depL_put {ns : List (Nat × Nd)} {dm : List (Nat × Nat)} (h : DmOk ns dm) {x y : Nat} (hx : depL dm x ≤ 200) (hy : depL dm y = 0) : depL (putL' dm y (depL dm x + 1)) x ≤ 200 := by
  unfold depL at *
  rw [getL_put h.rise]
  by_cases e : x = y
  · rw [if_pos e]
    show (getL dm x).getD 0 + 1 ≤ 200
    rw [e, hy]
    decide
  · rw [if_neg e]; exact hx
def iv (d : Nat) : Value := .int .i64 (d : Int)
theorem depV (dm : List (Nat × Nat)) (x : Nat) : (getL (mapL iv dm) x).getD (.int .i64 0) = .int .i64 (depL dm x : Int) := by
  rw [getL_map]
  unfold depL
  cases getL dm x <;> rfl
theorem mapL_length {α β : Type} (f : α → β) (m : List (Nat × α)) : (mapL f m).length = m.length := by unfold mapL; rw [List.length_map]
/-- Are they a tree? -/
def treeB (ns : List (Nat × Nd)) : Bool := decide ((ndOf ns 1).kind = 1) && ((treeGo ns (walkL ns 1) [(1, 1)]).isSome && decide ((walkL ns 1).length = ns.length))
theorem treeB_kind {ns : List (Nat × Nd)} (h : (ndOf ns 1).kind ≠ 1) : treeB ns = false := by unfold treeB; rw [decide_eq_false h]; rfl
theorem treeB_none {ns : List (Nat × Nd)} (h : treeGo ns (walkL ns 1) [(1, 1)] = none) : treeB ns = false := by unfold treeB; rw [h]; simp
theorem treeB_some {ns : List (Nat × Nd)} {dm : List (Nat × Nat)} (hk : (ndOf ns 1).kind = 1) (h : treeGo ns (walkL ns 1) [(1, 1)] = some dm) : treeB ns = decide ((walkL ns 1).length = ns.length) := by unfold treeB; rw [h, decide_eq_true hk]; rfl
theorem has_root {ns : List (Nat × Nd)} (hk : (ndOf ns 1).kind = 1) : hasL ns 1 = true := by
  unfold ndOf at hk
  unfold hasL
  cases hg : getL ns 1 with
  | none => rw [hg] at hk; exact absurd hk (by decide)
  | some n => rfl
end Go.Proofs.Ytogkeoainejfcaa
