/- AMath, AMap, ACmp, AFind: joined by program (tools/merge.py). -/
import Derived.Maps.OwnSet
import Derived.Test.YtecbaceinifjiaaGreatDoorRows
import Derived.Maps.RangeWalk
import Derived.WalkKit
import Derived.OwnWalk
import Derived.Below
import Derived.Lib.Hide
import Derived.Test.YtecbaceinifjiaaGreatDoorZ0
import Derived.OneCell
import Derived.Laws.BitsAllLaws
import Derived.Laws.Bits64
namespace Go.Proofs.YtecbaceinifjiaaGreatDoor
set_option linter.unusedSimpArgs false
set_option linter.unusedVariables false
section
variable {α β : Type}
/-- Rising by their numbers. -/
def Rise (m : List (Nat × α)) : Prop := m.Pairwise (fun p q => p.1 < q.1)
def getL : List (Nat × α) → Nat → Option α
  | [], _ => none
  | p :: r, k => if p.1 = k then some p.2 else getL r k
def putL' : List (Nat × α) → Nat → α → List (Nat × α)
  | [], k, v => [(k, v)]
  | p :: r, k, v => if p.1 < k then p :: putL' r k v else if p.1 = k then (k, v) :: r else (k, v) :: p :: r
def delL (m : List (Nat × α)) (k : Nat) : List (Nat × α) := m.filter fun p => decide (p.1 ≠ k)
def hasL (m : List (Nat × α)) (k : Nat) : Bool := (getL m k).isSome
theorem Rise.nil : Rise ([] : List (Nat × α)) := List.Pairwise.nil
theorem Rise.tail {p : Nat × α} {r : List (Nat × α)} (h : Rise (p :: r)) : Rise r := (List.pairwise_cons.1 h).2
theorem Rise.head {p : Nat × α} {r : List (Nat × α)} (h : Rise (p :: r)) : ∀ q ∈ r, p.1 < q.1 := (List.pairwise_cons.1 h).1
theorem Rise.cons {p : Nat × α} {r : List (Nat × α)} (h : Rise r) (h1 : ∀ q ∈ r, p.1 < q.1) : Rise (p :: r) := List.pairwise_cons.2 ⟨h1, h⟩
theorem getL_none {m : List (Nat × α)} {k : Nat} (h : ∀ q ∈ m, q.1 ≠ k) : getL m k = none := by
  induction m with
  | nil => rfl
  | cons p r ih =>
    unfold getL
    rw [if_neg (h p (by simp))]
    exact ih fun q hq => h q (by simp [hq])
theorem getL_mem {m : List (Nat × α)} {k : Nat} {v : α} (h : getL m k = some v) : (k, v) ∈ m := by
  induction m with
  | nil => cases h
  | cons p r ih =>
    unfold getL at h
    split at h
    · rename_i e
      injection h with h
      rw [← e, ← h]
      simp
    · exact List.mem_cons_of_mem _ (ih h)
theorem getL_of_mem {m : List (Nat × α)} (hr : Rise m) {k : Nat} {v : α} (h : (k, v) ∈ m) : getL m k = some v := by
  induction m with
  | nil => cases h
  | cons p r ih =>
    unfold getL
    rcases List.mem_cons.1 h with e | h
    · rw [← e, if_pos rfl]
    · have := hr.head _ h
      rw [if_neg (by simp at this; omega)]
      exact ih hr.tail h
theorem getL_iff {m : List (Nat × α)} (hr : Rise m) {k : Nat} {v : α} : getL m k = some v ↔ (k, v) ∈ m := ⟨getL_mem, getL_of_mem hr⟩
theorem putL_mem {m : List (Nat × α)} {k : Nat} {v : α} {q : Nat × α} (h : q ∈ putL' m k v) : q = (k, v) ∨ q ∈ m := by
  induction m with
  | nil => simpa [putL'] using h
  | cons p r ih =>
    unfold putL' at h
    split at h
    · rcases List.mem_cons.1 h with h | h
      · exact .inr (by simp [h])
      · rcases ih h with h | h
        · exact .inl h
        · exact .inr (by simp [h])
    · split at h
      · rcases List.mem_cons.1 h with h | h
        · exact .inl h
        · exact .inr (by simp [h])
      · rcases List.mem_cons.1 h with h | h
        · exact .inl h
        · exact .inr h
theorem Rise.put {m : List (Nat × α)} (hr : Rise m) (k : Nat) (v : α) : Rise (putL' m k v) := by
  induction m with
  | nil => exact List.pairwise_singleton _ _
  | cons p r ih =>
    unfold putL'
    split
    · rename_i h1
      refine (ih hr.tail).cons fun q hq => ?_
      rcases putL_mem hq with rfl | hq
      · exact h1
      · exact hr.head q hq
    · split
      · rename_i h1 h2
        exact hr.tail.cons fun q hq => by have := hr.head q hq; show k < q.1; omega
      · rename_i h1 h2
        refine hr.cons fun q hq => ?_
        show k < q.1
        rcases List.mem_cons.1 hq with rfl | hq
        · omega
        · have := hr.head q hq; omega
theorem getL_put {m : List (Nat × α)} (hr : Rise m) (k : Nat) (v : α) (j : Nat) : getL (putL' m k v) j = if j = k then some v else getL m j := by
  induction m with
  | nil =>
    show (if k = j then some v else none) = if j = k then some v else none
    by_cases h : j = k
    · rw [if_pos h, if_pos h.symm]
    · rw [if_neg h, if_neg (by omega)]
  | cons p r ih =>
    unfold putL'
    split
    · rename_i h1
      unfold getL
      by_cases h2 : p.1 = j
      · rw [if_pos h2, if_pos h2, if_neg (by omega)]
      · rw [if_neg h2, if_neg h2]
        exact ih hr.tail
    · split
      · rename_i h1 h2
        unfold getL
        by_cases h3 : j = k
        · rw [if_pos h3, if_pos (by show k = j; omega)]
        · rw [if_neg h3, if_neg (by show ¬ k = j; omega), if_neg (by omega)]
      · rename_i h1 h2
        by_cases h3 : j = k
        · rw [if_pos h3]
          unfold getL
          rw [if_pos (by show k = j; omega)]
        · rw [if_neg h3]
          show (if k = j then some v else getL (p :: r) j) = _
          rw [if_neg (by omega)]
theorem putL_length {m : List (Nat × α)} (k : Nat) (v : α) (hr : Rise m) : (putL' m k v).length = if (getL m k).isSome then m.length else m.length + 1 := by
  induction m with
  | nil => rfl
  | cons p r ih =>
    unfold putL' getL
    by_cases h1 : p.1 < k
    · rw [if_pos h1, if_neg (show ¬ p.1 = k by omega), List.length_cons, ih hr.tail, List.length_cons]
      split <;> rfl
    · by_cases h2 : p.1 = k
      · rw [if_neg h1, if_pos h2, if_pos h2]; rfl
      · rw [if_neg h1, if_neg h2, if_neg h2, getL_none (fun q hq => by have := hr.head q hq; omega)]
        rfl
theorem Rise.del {m : List (Nat × α)} (hr : Rise m) (k : Nat) : Rise (delL m k) := List.Pairwise.filter _ hr
theorem delL_mem {m : List (Nat × α)} {k : Nat} {q : Nat × α} : q ∈ delL m k ↔ q ∈ m ∧ q.1 ≠ k := by
  unfold delL
  rw [List.mem_filter]
  simp
theorem delL_cons {p : Nat × α} {r : List (Nat × α)} {k : Nat} : delL (p :: r) k = if p.1 = k then delL r k else p :: delL r k := by
  unfold delL
  rw [List.filter_cons]
  by_cases h : p.1 = k <;> simp [h]
theorem getL_del {m : List (Nat × α)} (k j : Nat) : getL (delL m k) j = if j = k then none else getL m j := by
  induction m with
  | nil => unfold delL getL; simp
  | cons p r ih =>
    rw [delL_cons]
    by_cases h : p.1 = k
    · rw [if_pos h, ih]
      by_cases hj : j = k
      · rw [if_pos hj, if_pos hj]
      · rw [if_neg hj, if_neg hj]
        show _ = if p.1 = j then _ else _
        rw [if_neg (by omega)]
    · rw [if_neg h]
      show (if p.1 = j then some p.2 else getL (delL r k) j) = if j = k then none else (if p.1 = j then some p.2 else getL r j)
      rw [ih]
      by_cases hj : j = k
      · rw [if_pos hj, if_neg (by omega), if_pos hj]
      · rw [if_neg hj, if_neg hj]
theorem delL_length {m : List (Nat × α)} (hr : Rise m) (k : Nat) : (delL m k).length = if (getL m k).isSome then m.length - 1 else m.length := by
  induction m with
  | nil => rfl
  | cons p r ih =>
    rw [delL_cons]
    unfold getL
    by_cases h : p.1 = k
    · rw [if_pos h, if_pos h, ih hr.tail, getL_none (fun q hq => by have := hr.head q hq; omega)]
      simp
    · rw [if_neg h, if_neg h, List.length_cons, ih hr.tail, List.length_cons]
      cases hg : (getL r k).isSome
      · simp
      · have : 0 < r.length := by
          cases r with
          | nil => simp [getL] at hg
          | cons a b => simp
        simp
        omega
/-- Two rising lists with the same at each number are one. -/
theorem rise_ext : ∀ {m n : List (Nat × α)}, Rise m → Rise n → (∀ k, getL m k = getL n k) → m = n
  | [], [], _, _, _ => rfl
  | [], q :: n, _, hn, h => by have := h q.1; simp [getL] at this
  | p :: m, [], hm, _, h => by have := h p.1; simp [getL] at this
  | p :: m, q :: n, hm, hn, h => by
    have h1 := h p.1
    have h2 := h q.1
    have e1 : getL (p :: m) p.1 = some p.2 := by unfold getL; rw [if_pos rfl]
    have e2 : getL (q :: n) q.1 = some q.2 := by unfold getL; rw [if_pos rfl]
    rw [e1] at h1
    rw [e2] at h2
    have m1 := getL_mem h1.symm
    have m2 := getL_mem h2
    have e : p.1 = q.1 := by
      rcases List.mem_cons.1 m1 with a | a
      · exact congrArg Prod.fst a
      · rcases List.mem_cons.1 m2 with b | b
        · exact (congrArg Prod.fst b).symm
        · have := hm.head _ b; have := hn.head _ a; simp at *; omega
    have e3 : p = q := by
      have h3 : getL (q :: n) p.1 = some q.2 := by rw [e]; exact e2
      rw [h3] at h1
      injection h1 with h1
      exact Prod.ext e h1
    subst e3
    congr 1
    refine rise_ext hm.tail hn.tail fun k => ?_
    by_cases hk : p.1 = k
    · rw [getL_none (fun x hx => by have := hm.head x hx; omega), getL_none (fun x hx => by have := hn.head x hx; omega)]
    · have := h k
      unfold getL at this
      rw [if_neg hk, if_neg hk] at this
      exact this
def mapL (f : α → β) (m : List (Nat × α)) : List (Nat × β) := m.map fun p => (p.1, f p.2)
theorem Rise.map {m : List (Nat × α)} (h : Rise m) (f : α → β) : Rise (mapL f m) := by
  unfold Rise mapL
  rw [List.pairwise_map]
  exact h
theorem getL_map (f : α → β) (m : List (Nat × α)) (k : Nat) : getL (mapL f m) k = (getL m k).map f := by
  induction m with
  | nil => rfl
  | cons p r ih =>
    show (if p.1 = k then some (f p.2) else getL (mapL f r) k) = ((if p.1 = k then some p.2 else getL r k)).map f
    by_cases h : p.1 = k
    · rw [if_pos h, if_pos h]; rfl
    · rw [if_neg h, if_neg h]; exact ih
theorem putL_map (f : α → β) (m : List (Nat × α)) (k : Nat) (v : α) : putL' (mapL f m) k (f v) = mapL f (putL' m k v) := by
  induction m with
  | nil => rfl
  | cons p r ih =>
    show (if p.1 < k then (p.1, f p.2) :: putL' (mapL f r) k (f v) else if p.1 = k then (k, f v) :: mapL f r else (k, f v) :: (p.1, f p.2) :: mapL f r) = _
    show _ = mapL f (if p.1 < k then p :: putL' r k v else if p.1 = k then (k, v) :: r else (k, v) :: p :: r)
    split
    · rw [ih]; rfl
    · split <;> rfl
theorem delL_map (f : α → β) (m : List (Nat × α)) (k : Nat) : delL (mapL f m) k = mapL f (delL m k) := by
  unfold delL mapL
  rw [List.filter_map]
  rfl
end
end Go.Proofs.YtecbaceinifjiaaGreatDoor
namespace Go.Proofs.YtecbaceinifjiaaGreatDoor
open Go.RowKit
open Go.Maps (Keyed)
set_option linter.unusedSimpArgs false
set_option linter.unusedVariables false
set_option maxRecDepth 100000
def heldE (v : Value) : Option (DataW Value × List MemPlace) := some (.held v, [])
def keyL (k : Nat) : Lit := .int .u64 (k : Int)
def esOf (m : List (Nat × Value)) : List (Lit × DataW Value) := m.map fun p => (keyL p.1, .held p.2)
def mapD (m : List (Nat × Value)) : DataW Value := .map (esOf m)
theorem esOf_cons (p : Nat × Value) (m : List (Nat × Value)) : esOf (p :: m) = (keyL p.1, .held p.2) :: esOf m := rfl
theorem key_same (a b : Nat) : (keyL a).sameKey (keyL b) = decide (a = b) := by
  unfold keyL
  show decide (IntKind.u64 = IntKind.u64 ∧ (a : Int) = (b : Int)) = decide (a = b)
  by_cases h : a = b
  · rw [decide_eq_true h, decide_eq_true ⟨rfl, by omega⟩]
  · rw [decide_eq_false h, decide_eq_false (fun e => h (by omega))]
theorem key_before (a b : Nat) : (keyL a).before (keyL b) = decide (a < b) := by
  unfold keyL
  show decide ((a : Int) < (b : Int)) = decide (a < b)
  by_cases h : a < b
  · rw [decide_eq_true h, decide_eq_true (by omega)]
  · rw [decide_eq_false h, decide_eq_false (by omega)]
theorem esOf_filter (m : List (Nat × Value)) (k : Nat) : (esOf m).filter (fun p => !p.1.sameKey (keyL k)) = esOf (delL m k) := by
  induction m with
  | nil => rfl
  | cons p r ih =>
    rw [esOf_cons, List.filter_cons, delL_cons, ih]
    show (if (!(keyL p.1).sameKey (keyL k)) = true then _ else _) = _
    rw [key_same]
    by_cases h : p.1 = k
    · rw [decide_eq_true h, if_neg (by simp), if_pos h]
    · rw [decide_eq_false h, if_pos (by simp), if_neg h]; rfl
theorem esOf_front (v : Value) : ∀ (m : List (Nat × Value)) (k : Nat), (∀ q ∈ m, k < q.1) → DataW.insert (keyL k, .held v) (esOf m) = esOf ((k, v) :: m)
  | [], k, _ => rfl
  | p :: r, k, h => by
    rw [esOf_cons]
    unfold DataW.insert
    show (if (keyL k).before (keyL p.1) = true then _ else _) = _
    rw [key_before, decide_eq_true (h p (by simp)), if_pos rfl]
    rfl
theorem delL_none {m : List (Nat × Value)} {k : Nat} (h : ∀ q ∈ m, q.1 ≠ k) : delL m k = m := by
  unfold delL
  exact List.filter_eq_self.2 fun q hq => decide_eq_true (h q hq)
theorem esOf_put (v : Value) : ∀ (m : List (Nat × Value)) (k : Nat), Rise m → DataW.insert (keyL k, .held v) (esOf (delL m k)) = esOf (putL' m k v)
  | [], k, _ => rfl
  | p :: r, k, h => by
    rw [delL_cons]
    unfold putL'
    by_cases h1 : p.1 < k
    · rw [if_neg (by omega), if_pos h1, esOf_cons]
      unfold DataW.insert
      show (if (keyL k).before (keyL p.1) = true then _ else _) = _
      rw [key_before, decide_eq_false (by omega), if_neg (by simp), esOf_put v r k h.tail]
      rfl
    · by_cases h2 : p.1 = k
      · rw [if_pos h2, if_neg h1, if_pos h2, delL_none (fun q hq => by have := h.head q hq; omega)]
        exact esOf_front v r k fun q hq => by have := h.head q hq; omega
      · rw [if_neg h2, if_neg h1, if_neg h2, delL_none (fun q hq => by have := h.head q hq; omega)]
        exact esOf_front v (p :: r) k fun q hq => by
          rcases List.mem_cons.1 hq with rfl | hq
          · omega
          · have := h.head q hq; omega
theorem mapD_put {m : List (Nat × Value)} (hr : Rise m) (k : Nat) (v : Value) : (mapD m).put (keyL k) (.held v) = mapD (putL' m k v) := by
  show DataW.map (DataW.insert (keyL k, .held v) ((esOf m).filter fun p => !p.1.sameKey (keyL k))) = _
  rw [esOf_filter, esOf_put v m k hr]
  rfl
theorem mapD_del (m : List (Nat × Value)) (k : Nat) : (mapD m).del (keyL k) = mapD (delL m k) := by
  show DataW.map ((esOf m).filter fun p => !p.1.sameKey (keyL k)) = _
  rw [esOf_filter]
  rfl
theorem mapD_at (m : List (Nat × Value)) (k : Nat) (z : DataW Value) : (mapD m).atKey (keyL k) z = match getL m k with | some v => .held v | none => z := by
  unfold mapD DataW.atKey
  dsimp only
  induction m with
  | nil => rfl
  | cons p r ih =>
    rw [esOf_cons, List.find?_cons, key_same]
    unfold getL
    by_cases h : p.1 = k
    · rw [decide_eq_true h, if_pos h]
    · rw [decide_eq_false h, if_neg h]; exact ih
theorem mapD_has (m : List (Nat × Value)) (k : Nat) : Maps.has (mapD m) (keyL k) = (getL m k).isSome := by
  show (esOf m).any (fun p => p.1.sameKey (keyL k)) = _
  induction m with
  | nil => rfl
  | cons p r ih =>
    rw [esOf_cons, List.any_cons, ih]
    show ((keyL p.1).sameKey (keyL k) || _) = (if p.1 = k then some p.2 else getL r k).isSome
    rw [key_same]
    by_cases h : p.1 = k
    · rw [decide_eq_true h, if_pos h]; rfl
    · rw [decide_eq_false h, if_neg h]; rfl
theorem mapD_size (m : List (Nat × Value)) : Maps.size (mapD m) = m.length := by
  show (esOf m).length = _
  unfold esOf
  rw [List.length_map]
theorem mapD_inj : ∀ {m n : List (Nat × Value)}, esOf m = esOf n → m = n
  | [], [], _ => rfl
  | [], _ :: _, h => by cases h
  | _ :: _, [], h => by cases h
  | p :: m, q :: n, h => by
    rw [esOf_cons, esOf_cons] at h
    injection h with h1 h2
    injection h1 with h3 h4
    injection h4 with h4
    unfold keyL at h3
    injection h3 with _ h3
    rw [mapD_inj h2, show p = q from Prod.ext (by omega) h4]
/-- Block b is a map that holds just these. -/
structure MapV (w : World) (b : Nat) (m : List (Nat × Value)) : Prop where
  rise : Rise m
  small : ∀ p ∈ m, p.1 < 18446744073709551616
  own : w.ownsMap Tryz.prog 30 heldE b m.length (mapD m)
theorem idKeyed : Keyed Tryz.prog 30 := Maps.int_keyed Tryz.underlying30
theorem key_of {k : Nat} (hk : k < 18446744073709551616) : keyOf Tryz.prog 30 (.int .u64 (k : Int)) = some (keyL k) :=
  Maps.keyOf_int_mk Tryz.underlying30 (by
    have e : IntKind.u64.max = 18446744073709551615 := rfl
    have e2 : IntKind.u64.min = 0 := rfl
    show (decide (IntKind.u64.min ≤ (k : Int)) && decide ((k : Int) ≤ IntKind.u64.max)) = true
    rw [e, e2, decide_eq_true (by omega), decide_eq_true (by omega)]
    rfl)
theorem MapV.lt {w : World} {b : Nat} {m : List (Nat × Value)} (h : MapV w b m) : b < w.heap.size := h.own.lt
/-- A map stays what it is while its block does. -/
theorem MapV.at_ {w w' : World} {b : Nat} {m : List (Nat × Value)} (h : MapV w b m) (hb : w'.heap[b]? = w.heap[b]?) : MapV w' b m := by
  obtain ⟨es, clock, h1, h2⟩ := h.own
  exact ⟨h.rise, h.small, es, clock, hb.trans h1, h2⟩
theorem ownsMap_tight {w : World} {b n : Nat} {D : DataW Value} (h : w.ownsMap Tryz.prog 30 heldE b n D) : w.ownsMap Tryz.prog 30 heldE b (Maps.size D) D := by
  obtain ⟨es, clock, h1, h2, h3, h4⟩ := h
  refine ⟨es, clock, h1, h2, ?_, h4⟩
  rw [h4]
  simp [Maps.size, length_sorted]
theorem MapV.made (w : World) : MapV (w.alloc (.map #[] 0)) w.heap.size [] := ⟨Rise.nil, by simp, World.ownsMap_made w _ _ _⟩
section
variable {P : Program} {ops : Array Oper} {rest : List Oper} {o : Oper} {a : Act} {Q : Exit → Act → World → Prop}
theorem wpList_look (w : World) (hg : o.guard = none) (m x : Operand) (t e : TypeId) (hop : o.op = Op.lookup t m x false) (ht : Tryz.prog.underlying t = some (.map 30 e)) (z : Value) (hz : (zeroValue e).run Tryz.prog w = .ok z w)
    (b : Nat) (l : List (Nat × Value)) (hm : a.eval m = .map (some b)) (h : MapV w b l) (k : Nat) (hk : k < 18446744073709551616) (hx : a.eval x = .int .u64 (k : Int))
    (hK : wpList Tryz.prog ops Q rest (a.put o.dst ((getL l k).getD z)) w) : wpList Tryz.prog ops Q (o :: rest) a w := by
  refine wpList_plain hg fun K' hK' => ?_
  obtain ⟨v, ps, hrun, hv⟩ := h.own.lookup idKeyed ht hz (zd := .held z) (zp := []) rfl (key_of hk)
  rw [mapD_at] at hv
  have hv2 : v = (getL l k).getD z := by
    unfold heldE at hv
    injection hv with hv
    have h1 := congrArg Prod.fst hv
    cases hg : getL l k with
    | none => rw [hg] at h1; injection h1
    | some u => rw [hg] at h1; injection h1
  unfold Oper.wp
  simp [execOp, hop, hm, hx, hrun, Result.andThen]
  exact hK' _ _ (hv2 ▸ hK)
theorem wpList_lookOk (w : World) (hg : o.guard = none) (m x : Operand) (t e : TypeId) (hop : o.op = Op.lookup t m x true) (ht : Tryz.prog.underlying t = some (.map 30 e)) (z : Value) (hz : (zeroValue e).run Tryz.prog w = .ok z w)
    (b : Nat) (l : List (Nat × Value)) (hm : a.eval m = .map (some b)) (h : MapV w b l) (k : Nat) (hk : k < 18446744073709551616) (hx : a.eval x = .int .u64 (k : Int))
    (hK : wpList Tryz.prog ops Q rest (a.put o.dst (.tuple #[(getL l k).getD z, .bool (hasL l k)])) w) : wpList Tryz.prog ops Q (o :: rest) a w := by
  refine wpList_plain hg fun K' hK' => ?_
  obtain ⟨v, ps, hrun, hv⟩ := h.own.look_ok idKeyed ht hz (zd := .held z) (zp := []) rfl (key_of hk)
  rw [mapD_at] at hv
  have hv2 : v = (getL l k).getD z := by
    unfold heldE at hv
    injection hv with hv
    have h1 := congrArg Prod.fst hv
    cases hg : getL l k with
    | none => rw [hg] at h1; injection h1
    | some u => rw [hg] at h1; injection h1
  rw [mapD_has] at hrun
  unfold Oper.wp
  simp [execOp, hop, hm, hx, hrun, Result.andThen]
  rw [hv2]
  exact hK' _ _ hK
theorem wpList_store (w : World) (hg : o.guard = none) (m x v : Operand) (t e : TypeId) (hop : o.op = Op.mapUpdate t m x v) (ht : Tryz.prog.underlying t = some (.map 30 e))
    (b : Nat) (l : List (Nat × Value)) (hm : a.eval m = .map (some b)) (h : MapV w b l) (hl : l.length < maxLen) (k : Nat) (hk : k < 18446744073709551616) (hx : a.eval x = .int .u64 (k : Int)) (u : Value) (hv : a.eval v = u)
    (hK : ∀ w', MapV w' b (putL' l k u) → w.mapTurned w' b → wpList Tryz.prog ops Q rest (a.put o.dst undef) w') : wpList Tryz.prog ops Q (o :: rest) a w :=
  wpList_mapUpdate_in w hg m x v t hop 30 e idKeyed ht heldE b _ _ hm h.own hl _ _ _ hx hv (key_of hk) (.held u) [] rfl fun w' h1 h2 => by
    refine hK w' ⟨h.rise.put k u, fun p hp => ?_, ?_⟩ h2
    · rcases putL_mem hp with rfl | hp
      · exact hk
      · exact h.small p hp
    · rw [mapD_put h.rise] at h1
      have h3 := ownsMap_tight h1
      rw [mapD_size] at h3
      exact h3
theorem wpList_less (w : World) (hg : o.guard = none) (m x : Operand) (t e : TypeId) (hop : o.op = Op.call { callee := Callee.builtin Builtin.delete, args := #[m, x], argTypes := #[t, 30] }) (ht : Tryz.prog.underlying t = some (.map 30 e))
    (b : Nat) (l : List (Nat × Value)) (hm : a.eval m = .map (some b)) (h : MapV w b l) (k : Nat) (hk : k < 18446744073709551616) (hx : a.eval x = .int .u64 (k : Int))
    (hK : ∀ w', MapV w' b (delL l k) → w.mapTurned w' b → wpList Tryz.prog ops Q rest (a.put o.dst (.tuple #[])) w') : wpList Tryz.prog ops Q (o :: rest) a w :=
  wpList_delete_own w hg m x t 30 hop e idKeyed ht heldE b _ _ hm h.own _ _ hx (key_of hk) fun w' h1 h2 => by
    refine hK w' ⟨h.rise.del k, fun p hp => h.small p (delL_mem.1 hp).1, ?_⟩ h2
    rw [mapD_del] at h1
    have h3 := ownsMap_tight h1
    rw [mapD_size] at h3
    exact h3
theorem wpList_count (w : World) (hg : o.guard = none) (m : Operand) (t e : TypeId) (hop : o.op = Op.call { callee := Callee.builtin Builtin.len, args := #[m], argTypes := #[t] }) (ht : Tryz.prog.underlying t = some (.map 30 e))
    (b : Nat) (l : List (Nat × Value)) (hm : a.eval m = .map (some b)) (h : MapV w b l) (hK : wpList Tryz.prog ops Q rest (a.put o.dst (.int .i64 (l.length : Int))) w) : wpList Tryz.prog ops Q (o :: rest) a w :=
  wpList_len_own w hg m t hop 30 e ht heldE b _ _ hm h.own (by rw [mapD_size]; exact hK)
end
end Go.Proofs.YtecbaceinifjiaaGreatDoor
namespace Go.Proofs.YtecbaceinifjiaaGreatDoor
open Go.RowKit
set_option linter.unusedSimpArgs false
set_option linter.unusedVariables false
set_option maxRecDepth 100000
theorem isNaN_any (w : World) (k : Nat) : Calls Tryz.prog 126 #[.int .u64 (k : Int)] w fun e w' => e = .returned (.bool false) ∧ w = w' := by
  go_enter Tryz.func126, Tryz.ntmps126
  go_wp2
  go_ret
  simp
def cmpN (a b : Nat) : Int := if a < b then -1 else if b < a then 1 else 0
theorem compare_any (w : World) (a b : Nat) : Calls Tryz.prog 107 #[.int .u64 (a : Int), .int .u64 (b : Int)] w fun e w' => e = .returned (.int .i64 (cmpN a b)) ∧ w = w' := by
  have h1 := isNaN_any w a
  have h2 := isNaN_any w b
  have H1 := Lib.hid h1
  have H2 := Lib.hid h2
  clear h1 h2
  rcases Nat.lt_trichotomy a b with h | h | h
  · have e1 : (a : Int) < (b : Int) := by omega
    have e2 : cmpN a b = -1 := by unfold cmpN; rw [if_pos h]
    rw [e2]
    clear h e2
    go_enter Tryz.func107, Tryz.ntmps107
    go_wp2_with (first
      | (go_at_call 126; (with_reducible refine (H1.out).mono ?_); rintro e w1 ⟨rfl, rfl⟩)
      | (go_at_call 126; (with_reducible refine (H2.out).mono ?_); rintro e w1 ⟨rfl, rfl⟩))
    go_ret
    exact ⟨rfl, rfl⟩
  · subst h
    have e2 : cmpN a a = 0 := by unfold cmpN; rw [if_neg (Nat.lt_irrefl _), if_neg (Nat.lt_irrefl _)]
    rw [e2]
    clear e2
    go_enter Tryz.func107, Tryz.ntmps107
    go_wp2_with (first
      | (go_at_call 126; (with_reducible refine (H1.out).mono ?_); rintro e w1 ⟨rfl, rfl⟩)
      | (go_at_call 126; (with_reducible refine (H2.out).mono ?_); rintro e w1 ⟨rfl, rfl⟩))
    go_ret
    exact ⟨rfl, rfl⟩
  · have e1 : ¬ (a : Int) < (b : Int) := by omega
    have e3 : (a : Int) > (b : Int) := by omega
    have e2 : cmpN a b = 1 := by unfold cmpN; rw [if_neg (by omega), if_pos h]
    rw [e2]
    clear h e2
    go_enter Tryz.func107, Tryz.ntmps107
    go_wp2_with (first
      | (go_at_call 126; (with_reducible refine (H1.out).mono ?_); rintro e w1 ⟨rfl, rfl⟩)
      | (go_at_call 126; (with_reducible refine (H2.out).mono ?_); rintro e w1 ⟨rfl, rfl⟩))
    go_ret
    exact ⟨rfl, rfl⟩
theorem closure_any (w : World) (p c b : Nat) : Calls Tryz.prog 106 #[.agg #[.int .u64 (p : Int), .int .i64 (c : Int)], .int .u64 (b : Int)] w fun e w' => e = .returned (.int .i64 (cmpN p b)) ∧ Below w.heap.size w w' := by
  go_enter Tryz.func106, Tryz.ntmps106
  go_wp2_with (first
    | (go_at_call 107; (with_reducible refine (compare_any _ p b).mono ?_); rintro e w1 ⟨rfl, rfl⟩))
  go_ret
  exact ⟨rfl, by first | exact Below.refl _ _ | exact (Below.refl _ _).alloc (Nat.le_refl _) _⟩
end Go.Proofs.YtecbaceinifjiaaGreatDoor
namespace Go.Proofs.YtecbaceinifjiaaGreatDoor
open Go.RowKit
set_option linter.unusedSimpArgs false
set_option linter.unusedVariables false
set_option maxRecDepth 100000
section
variable {α : Type}
def posL : List (Nat × α) → Nat → Nat
  | [], _ => 0
  | p :: r, k => if p.1 < k then posL r k + 1 else 0
theorem posL_le : ∀ (m : List (Nat × α)) (k : Nat), posL m k ≤ m.length
  | [], _ => Nat.le_refl _
  | p :: r, k => by
    unfold posL
    have := posL_le r k
    rw [List.length_cons]
    split <;> omega
theorem posL_iff : ∀ {m : List (Nat × α)} (hr : Rise m) (k i : Nat) (p : Nat × α), m[i]? = some p → (p.1 < k ↔ i < posL m k)
  | [], _, _, _, _, h => by simp at h
  | q :: r, hr, k, 0, p, h => by
    simp at h
    subst h
    unfold posL
    by_cases h1 : q.1 < k
    · rw [if_pos h1]; exact ⟨fun _ => by omega, fun _ => h1⟩
    · rw [if_neg h1]; exact ⟨fun h => absurd h h1, fun h => by omega⟩
  | q :: r, hr, k, i + 1, p, h => by
    simp at h
    have h2 := posL_iff hr.tail k i p h
    unfold posL
    by_cases h1 : q.1 < k
    · rw [if_pos h1]; omega
    · rw [if_neg h1]
      have := hr.head p (List.mem_of_getElem? h)
      omega
theorem hasL_pos : ∀ {m : List (Nat × α)} (hr : Rise m) (k : Nat), hasL m k = match m[posL m k]? with | some p => decide (p.1 = k) | none => false
  | [], _, _ => rfl
  | q :: r, hr, k => by
    unfold hasL getL posL
    by_cases h1 : q.1 < k
    · rw [if_neg (by omega), if_pos h1]
      simp only [List.getElem?_cons_succ]
      exact hasL_pos hr.tail k
    · rw [if_neg h1]
      simp only [List.getElem?_cons_zero]
      by_cases h2 : q.1 = k
      · rw [if_pos h2, decide_eq_true h2]; rfl
      · rw [if_neg h2, decide_eq_false h2, getL_none (fun x hx => by have := hr.head x hx; omega)]; rfl
theorem getL_pos {m : List (Nat × α)} (hr : Rise m) {k : Nat} {v : α} (h : getL m k = some v) : m[posL m k]? = some (k, v) := by
  induction m with
  | nil => cases h
  | cons q r ih =>
    unfold getL at h
    unfold posL
    by_cases h2 : q.1 = k
    · rw [if_pos h2] at h
      injection h with h
      rw [if_neg (by omega), List.getElem?_cons_zero, ← h2, ← h]
    · rw [if_neg h2] at h
      have h3 := hr.head _ (getL_mem h)
      rw [if_pos (show q.1 < k from h3), List.getElem?_cons_succ]
      exact ih hr.tail h
theorem put_new : ∀ {m : List (Nat × α)} (hr : Rise m) (k : Nat) (v : α), hasL m k = false → putL' m k v = m.take (posL m k) ++ (k, v) :: m.drop (posL m k)
  | [], _, _, _, _ => rfl
  | q :: r, hr, k, v, h => by
    unfold hasL getL at h
    unfold putL' posL
    by_cases h2 : q.1 = k
    · rw [if_pos h2] at h; cases h
    · rw [if_neg h2] at h
      by_cases h1 : q.1 < k
      · rw [if_pos h1, if_pos h1, List.take_succ_cons, List.drop_succ_cons, put_new hr.tail k v h]
        rfl
      · rw [if_neg h1, if_neg h2, if_neg h1]
        rfl
theorem put_old : ∀ {m : List (Nat × α)} (hr : Rise m) (k : Nat) (v : α), hasL m k = true → putL' m k v = m.set (posL m k) (k, v)
  | [], _, _, _, h => by cases h
  | q :: r, hr, k, v, h => by
    unfold hasL getL at h
    unfold putL' posL
    by_cases h2 : q.1 = k
    · rw [if_neg (by omega), if_pos h2, if_neg (by omega)]
      rfl
    · rw [if_neg h2] at h
      have h3 : q.1 < k := by
        obtain ⟨u, hu⟩ := Option.isSome_iff_exists.1 h
        exact hr.head _ (getL_mem hu)
      rw [if_pos h3, if_pos h3, put_old hr.tail k v h]
      rfl
theorem del_old : ∀ {m : List (Nat × α)} (hr : Rise m) (k : Nat), hasL m k = true → delL m k = m.eraseIdx (posL m k)
  | [], _, _, h => by cases h
  | q :: r, hr, k, h => by
    unfold hasL getL at h
    rw [delL_cons]
    unfold posL
    by_cases h2 : q.1 = k
    · rw [if_pos h2, if_neg (by omega), List.eraseIdx_cons_zero]
      unfold delL
      exact List.filter_eq_self.2 fun x hx => decide_eq_true (by have := hr.head x hx; omega)
    · rw [if_neg h2] at h ⊢
      have h3 : q.1 < k := by
        obtain ⟨u, hu⟩ := Option.isSome_iff_exists.1 h
        exact hr.head _ (getL_mem hu)
      rw [if_pos h3, List.eraseIdx_cons_succ, del_old hr.tail k h]
end
/-- A row of parents. -/
def PLies (w : World) (B : Nat) (A : Option Addr) (l : List (Nat × Nat)) : Prop := ∀ (i : Nat) (p : Nat × Nat), l[i]? = some p → ∃ ad, A = some ad ∧ ad.block < B ∧ w.cell? (ad.add (i * 2)) = some (.int .u64 (p.1 : Int)) ∧ w.cell? (ad.add (i * 2 + 1)) = some (.int .i64 (p.2 : Int))
theorem PLies.below {w w' : World} {B : Nat} {A : Option Addr} {l : List (Nat × Nat)} (h : PLies w B A l) (hb : Below B w w') : PLies w' B A l := fun i p hp => by
  obtain ⟨ad, e, h1, h2, h3⟩ := h i p hp
  exact ⟨ad, e, h1, (hb.cell (by rw [addr_add_block]; exact h1)).trans h2, (hb.cell (by rw [addr_add_block]; exact h1)).trans h3⟩
theorem PLies.up {w : World} {B B' : Nat} {A : Option Addr} {l : List (Nat × Nat)} (h : PLies w B A l) (hB : B ≤ B') : PLies w B' A l := fun i p hp => by
  obtain ⟨ad, e, h1, h2, h3⟩ := h i p hp
  exact ⟨ad, e, by omega, h2, h3⟩
theorem addr_in (ad : Addr) (m j : Nat) (hj : j ≠ 0) : (⟨(ad.add m).block, (ad.add m).off + j, none⟩ : Addr) = ad.add (m + j) := ((if_neg hj).symm : _ = (ad.add m).add j).trans (addr_add_add ad m j)
def FindI (w : World) (n pos : Nat) (i j : Value) (wr : World) : Prop := ∃ a b : Nat, a ≤ pos ∧ pos ≤ b ∧ b ≤ n ∧ i = .int .i64 (a : Int) ∧ j = .int .i64 (b : Int) ∧ Below w.heap.size w wr
def intV : Value → Int
  | .int _ x => x
  | _ => 0
set_option maxHeartbeats 4000000 in
theorem find_any (w : World) (A : Option Addr) (n c : Nat) (l : List (Nat × Nat)) (k : Nat) (hl : PLies w w.heap.size A l) (hn : l.length = n) (hr : Rise l) (hn2 : n ≤ 1000000000) :
    Calls Tryz.prog 105 #[.slice A n c, .int .u64 (k : Int), .func (.func 106) #[] #[]] w fun e w' => e = .returned (.tuple #[.int .i64 ((posL l k : Nat) : Int), .bool (hasL l k)]) ∧ Below w.heap.size w w' := by
  go_enter Tryz.func105, Tryz.ntmps105
  go_wp2_with fail
  go_loopw [9, 10] (fun i j wr => FindI w n (posL l k) i j wr) (fun i j _ => (intV j - intV i).toNat)
  case atStart => exact ⟨0, n, Nat.zero_le _, by rw [← hn]; exact posL_le l k, Nat.le_refl _, rfl, rfl, Below.refl _ _⟩
  case round =>
    obtain ⟨a, b, ha, hb, hbn, rfl, rfl, hB⟩ := hrel
    by_cases hlt : a < b
    · obtain ⟨h, hh⟩ : ∃ h, h = (a + b) / 2 := ⟨_, rfl⟩
      have hhb : a ≤ h ∧ h < b := by omega
      obtain ⟨p, hp⟩ : ∃ p, l[h]? = some p := ⟨_, List.getElem?_eq_getElem (by omega)⟩
      obtain ⟨ad, hA, hbk, c0, c1⟩ := hl h p hp
      subst hA
      have q0 : wr.cell? (ad.add (h * 2)) = some (.int .u64 (p.1 : Int)) := (hB.cell (by rw [addr_add_block]; exact hbk)).trans c0
      have q1 : wr.cell? ⟨(ad.add (h * 2)).block, (ad.add (h * 2)).off + 1, none⟩ = some (.int .i64 (p.2 : Int)) := by
        rw [addr_in _ _ _ (by decide)]
        exact (hB.cell (by rw [addr_add_block]; exact hbk)).trans c1
      obtain ⟨p1, p2⟩ := p
      dsimp only at q0 q1
      have hiff := posL_iff hr k h _ hp
      have hcmp : (cmpN p1 k < 0) ↔ h < posL l k := by
        rw [← hiff]
        show cmpN p1 k < 0 ↔ p1 < k
        unfold cmpN
        split
        · rename_i h1; exact ⟨fun _ => h1, fun _ => by omega⟩
        · rename_i h1
          refine ⟨fun h2 => ?_, fun h2 => absurd h2 h1⟩
          split at h2 <;> omega
      have HCL : Hid (∀ y, Calls Tryz.prog 106 #[.agg #[.int .u64 (p1 : Int), .int .i64 (p2 : Int)], .int .u64 (k : Int)] y fun e w' => e = .returned (.int .i64 (cmpN p1 k)) ∧ Below y.heap.size y w') := Lib.hid fun y => closure_any y p1 p2 k
      have HB := Lib.hid hB
      have HH := Lib.hid hh
      have hh2 : ((a : Int) + (b : Int)) / 2 = (h : Int) := by omega
      have HH2 := Lib.hid hh2
      rw [hh] at q0 q1
      obtain ⟨r, hr2⟩ : ∃ r, r = cmpN p1 k := ⟨_, rfl⟩
      rw [← hr2] at HCL hcmp
      clear hB hh hh2 hiff hp hr2 c0 c1
      by_cases hr0 : r < 0
      · have HQ := Lib.hid (hcmp.1 hr0)
        clear hcmp
        go_wp2_with (go_at_call 106; (with_reducible refine (HCL.out _).mono ?_); rintro e w1 ⟨rfl, hb1⟩)
        go_roundw
        case rel => exact ⟨h + 1, b, HQ.out, hb, hbn, by rw [HH2.out]; rfl, rfl, HB.out.trans (hb1.mono HB.out.size)⟩
        case measure => simp [intV]; omega
      · have HQ : Hid (¬ h < posL l k) := Lib.hid fun h2 => hr0 (hcmp.2 h2)
        clear hcmp
        go_wp2_with (go_at_call 106; (with_reducible refine (HCL.out _).mono ?_); rintro e w1 ⟨rfl, hb1⟩)
        go_roundw
        case rel => exact ⟨a, h, ha, Nat.not_lt.1 HQ.out, by omega, rfl, by rw [HH2.out], HB.out.trans (hb1.mono HB.out.size)⟩
        case measure => simp [intV]; omega
    · obtain rfl : a = b := by omega
      obtain rfl : a = posL l k := by omega
      have HB := Lib.hid hB
      have hhas := hasL_pos hr k
      obtain ⟨q, hq⟩ : ∃ q, q = posL l k := ⟨_, rfl⟩
      rw [← hq] at hhas
      try rw [← hq]
      by_cases hlt2 : q < n
      · obtain ⟨p, hp⟩ : ∃ p, l[q]? = some p := ⟨_, List.getElem?_eq_getElem (by omega)⟩
        obtain ⟨ad, hA, hbk, c0, c1⟩ := hl q p hp
        subst hA
        have q0 : wr.cell? (ad.add (q * 2)) = some (.int .u64 (p.1 : Int)) := (hB.cell (by rw [addr_add_block]; exact hbk)).trans c0
        have q1 : wr.cell? ⟨(ad.add (q * 2)).block, (ad.add (q * 2)).off + 1, none⟩ = some (.int .i64 (p.2 : Int)) := by
          rw [addr_in _ _ _ (by decide)]
          exact (hB.cell (by rw [addr_add_block]; exact hbk)).trans c1
        obtain ⟨p1, p2⟩ := p
        dsimp only at q0 q1
        rw [hp] at hhas
        have hhas2 : hasL l k = (cmpN p1 k == 0) := by
          rw [hhas]
          show decide (p1 = k) = _
          unfold cmpN
          rcases Nat.lt_trichotomy p1 k with h | h | h
          · rw [decide_eq_false (by omega), if_pos h]; rfl
          · rw [decide_eq_true h, if_neg (by omega), if_neg (by omega)]; rfl
          · rw [decide_eq_false (by omega), if_neg (by omega), if_pos h]; rfl
        have HCL : Hid (∀ y, Calls Tryz.prog 106 #[.agg #[.int .u64 (p1 : Int), .int .i64 (p2 : Int)], .int .u64 (k : Int)] y fun e w' => e = .returned (.int .i64 (cmpN p1 k)) ∧ Below y.heap.size y w') := Lib.hid fun y => closure_any y p1 p2 k
        obtain ⟨r, hr2⟩ : ∃ r, r = cmpN p1 k := ⟨_, rfl⟩
        rw [← hr2] at HCL hhas2
        have HHAS := Lib.hid hhas2
        have HQQ := Lib.hid hq
        clear hB hhas hhas2 hp hr2 c0 c1 hq hlt
        go_wp2_with (go_at_call 106; (with_reducible refine (HCL.out _).mono ?_); rintro e w1 ⟨rfl, hb1⟩)
        go_ret2
        have hfin : Ending.returned (.tuple #[.int .i64 (q : Int), .bool (r == 0)]) = .returned (.tuple #[.int .i64 ((posL l k : Nat) : Int), .bool (hasL l k)]) := by rw [HHAS.out, ← HQQ.out]
        exact ⟨hfin, HB.out.trans (hb1.mono HB.out.size)⟩
      · rw [List.getElem?_eq_none (by omega)] at hhas
        have HHAS := Lib.hid hhas
        have HQQ := Lib.hid hq
        clear hB hhas hq hlt
        go_wp2_with fail
        go_ret2
        have hfin : Ending.returned (.tuple #[.int .i64 (q : Int), .bool false]) = .returned (.tuple #[.int .i64 ((posL l k : Nat) : Int), .bool (hasL l k)]) := by rw [HHAS.out, ← HQQ.out]
        exact ⟨hfin, HB.out⟩
end Go.Proofs.YtecbaceinifjiaaGreatDoor
