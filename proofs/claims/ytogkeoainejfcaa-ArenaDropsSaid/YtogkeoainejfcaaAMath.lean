/- Plain facts: lists that rise by their numbers: put, get, less. -/
import Derived.Maps.OwnSet
namespace Go.Proofs.Ytogkeoainejfcaa
set_option linter.unusedSimpArgs false
set_option linter.unusedVariables false
section
variable {α β : Type}
/-- Rising by their numbers. -/
def Rise (m : List (Nat × α)) : Prop := m.Pairwise (fun p q => p.1 < q.1)
def getL : List (Nat × α) → Nat → Option α
  | [], _ => none
  | p :: r, k => if p.1 = k then some p.2 else getL r k
def putL' : List (Nat × α) → Nat → α → List (Nat × α)
  | [], k, v => [(k, v)]
  | p :: r, k, v => if p.1 < k then p :: putL' r k v else if p.1 = k then (k, v) :: r else (k, v) :: p :: r
def delL (m : List (Nat × α)) (k : Nat) : List (Nat × α) := m.filter fun p => decide (p.1 ≠ k)
def hasL (m : List (Nat × α)) (k : Nat) : Bool := (getL m k).isSome
theorem Rise.nil : Rise ([] : List (Nat × α)) := List.Pairwise.nil
theorem Rise.tail {p : Nat × α} {r : List (Nat × α)} (h : Rise (p :: r)) : Rise r := (List.pairwise_cons.1 h).2
theorem Rise.head {p : Nat × α} {r : List (Nat × α)} (h : Rise (p :: r)) : ∀ q ∈ r, p.1 < q.1 := (List.pairwise_cons.1 h).1
theorem Rise.cons {p : Nat × α} {r : List (Nat × α)} (h : Rise r) (h1 : ∀ q ∈ r, p.1 < q.1) : Rise (p :: r) := List.pairwise_cons.2 ⟨h1, h⟩
theorem getL_none {m : List (Nat × α)} {k : Nat} (h : ∀ q ∈ m, q.1 ≠ k) : getL m k = none := by
  induction m with
  | nil => rfl
  | cons p r ih =>
    unfold getL
    rw [if_neg (h p (by simp))]
    exact ih fun q hq => h q (by simp [hq])
theorem getL_mem {m : List (Nat × α)} {k : Nat} {v : α} (h : getL m k = some v) : (k, v) ∈ m := by
  induction m with
  | nil => cases h
  | cons p r ih =>
    unfold getL at h
    split at h
    · rename_i e
      injection h with h
      rw [← e, ← h]
      simp
    · exact List.mem_cons_of_mem _ (ih h)
theorem getL_of_mem {m : List (Nat × α)} (hr : Rise m) {k : Nat} {v : α} (h : (k, v) ∈ m) : getL m k = some v := by
  induction m with
  | nil => cases h
  | cons p r ih =>
    unfold getL
    rcases List.mem_cons.1 h with e | h
    · rw [← e, if_pos rfl]
    · have := hr.head _ h
      rw [if_neg (by simp at this; omega)]
      exact ih hr.tail h
theorem getL_iff {m : List (Nat × α)} (hr : Rise m) {k : Nat} {v : α} : getL m k = some v ↔ (k, v) ∈ m := ⟨getL_mem, getL_of_mem hr⟩
theorem putL_mem {m : List (Nat × α)} {k : Nat} {v : α} {q : Nat × α} (h : q ∈ putL' m k v) : q = (k, v) ∨ q ∈ m := by
  induction m with
  | nil => simpa [putL'] using h
  | cons p r ih =>
    unfold putL' at h
    split at h
    · rcases List.mem_cons.1 h with h | h
      · exact .inr (by simp [h])
      · rcases ih h with h | h
        · exact .inl h
        · exact .inr (by simp [h])
    · split at h
      · rcases List.mem_cons.1 h with h | h
        · exact .inl h
        · exact .inr (by simp [h])
      · rcases List.mem_cons.1 h with h | h
        · exact .inl h
        · exact .inr h
theorem Rise.put {m : List (Nat × α)} (hr : Rise m) (k : Nat) (v : α) : Rise (putL' m k v) := by
  induction m with
  | nil => exact List.pairwise_singleton _ _
  | cons p r ih =>
    unfold putL'
    split
    · rename_i h1
      refine (ih hr.tail).cons fun q hq => ?_
      rcases putL_mem hq with rfl | hq
      · exact h1
      · exact hr.head q hq
    · split
      · rename_i h1 h2
        exact hr.tail.cons fun q hq => by have := hr.head q hq; show k < q.1; omega
      · rename_i h1 h2
        refine hr.cons fun q hq => ?_
        show k < q.1
        rcases List.mem_cons.1 hq with rfl | hq
        · omega
        · have := hr.head q hq; omega
theorem getL_put {m : List (Nat × α)} (hr : Rise m) (k : Nat) (v : α) (j : Nat) : getL (putL' m k v) j = if j = k then some v else getL m j := by
  induction m with
  | nil =>
    show (if k = j then some v else none) = if j = k then some v else none
    by_cases h : j = k
    · rw [if_pos h, if_pos h.symm]
    · rw [if_neg h, if_neg (by omega)]
  | cons p r ih =>
    unfold putL'
    split
    · rename_i h1
      unfold getL
      by_cases h2 : p.1 = j
      · rw [if_pos h2, if_pos h2, if_neg (by omega)]
      · rw [if_neg h2, if_neg h2]
        exact ih hr.tail
    · split
      · rename_i h1 h2
        unfold getL
        by_cases h3 : j = k
        · rw [if_pos h3, if_pos (by show k = j; omega)]
        · rw [if_neg h3, if_neg (by show ¬ k = j; omega), if_neg (by omega)]
      · rename_i h1 h2
        by_cases h3 : j = k
        · rw [if_pos h3]
          unfold getL
          rw [if_pos (by show k = j; omega)]
        · rw [if_neg h3]
          show (if k = j then some v else getL (p :: r) j) = _
          rw [if_neg (by omega)]
theorem putL_length {m : List (Nat × α)} (k : Nat) (v : α) (hr : Rise m) : (putL' m k v).length = if (getL m k).isSome then m.length else m.length + 1 := by
  induction m with
  | nil => rfl
  | cons p r ih =>
    unfold putL' getL
    by_cases h1 : p.1 < k
    · rw [if_pos h1, if_neg (show ¬ p.1 = k by omega), List.length_cons, ih hr.tail, List.length_cons]
      split <;> rfl
    · by_cases h2 : p.1 = k
      · rw [if_neg h1, if_pos h2, if_pos h2]; rfl
      · rw [if_neg h1, if_neg h2, if_neg h2, getL_none (fun q hq => by have := hr.head q hq; omega)]
        rfl
theorem Rise.del {m : List (Nat × α)} (hr : Rise m) (k : Nat) : Rise (delL m k) := List.Pairwise.filter _ hr
theorem delL_mem {m : List (Nat × α)} {k : Nat} {q : Nat × α} : q ∈ delL m k ↔ q ∈ m ∧ q.1 ≠ k := by
  unfold delL
  rw [List.mem_filter]
  simp
theorem delL_cons {p : Nat × α} {r : List (Nat × α)} {k : Nat} : delL (p :: r) k = if p.1 = k then delL r k else p :: delL r k := by
  unfold delL
  rw [List.filter_cons]
  by_cases h : p.1 = k <;> simp [h]
theorem getL_del {m : List (Nat × α)} (k j : Nat) : getL (delL m k) j = if j = k then none else getL m j := by
  induction m with
  | nil => unfold delL getL; simp
  | cons p r ih =>
    rw [delL_cons]
    by_cases h : p.1 = k
    · rw [if_pos h, ih]
      by_cases hj : j = k
      · rw [if_pos hj, if_pos hj]
      · rw [if_neg hj, if_neg hj]
        show _ = if p.1 = j then _ else _
        rw [if_neg (by omega)]
    · rw [if_neg h]
      show (if p.1 = j then some p.2 else getL (delL r k) j) = if j = k then none else (if p.1 = j then some p.2 else getL r j)
      rw [ih]
      by_cases hj : j = k
      · rw [if_pos hj, if_neg (by omega), if_pos hj]
      · rw [if_neg hj, if_neg hj]
theorem delL_length {m : List (Nat × α)} (hr : Rise m) (k : Nat) : (delL m k).length = if (getL m k).isSome then m.length - 1 else m.length := by
  induction m with
  | nil => rfl
  | cons p r ih =>
    rw [delL_cons]
    unfold getL
    by_cases h : p.1 = k
    · rw [if_pos h, if_pos h, ih hr.tail, getL_none (fun q hq => by have := hr.head q hq; omega)]
      simp
    · rw [if_neg h, if_neg h, List.length_cons, ih hr.tail, List.length_cons]
      cases hg : (getL r k).isSome
      · simp
      · have : 0 < r.length := by
          cases r with
          | nil => simp [getL] at hg
          | cons a b => simp
        simp
        omega
/-- Two rising lists with the same at each number are one. -/
theorem rise_ext : ∀ {m n : List (Nat × α)}, Rise m → Rise n → (∀ k, getL m k = getL n k) → m = n
  | [], [], _, _, _ => rfl
  | [], q :: n, _, hn, h => by have := h q.1; simp [getL] at this
  | p :: m, [], hm, _, h => by have := h p.1; simp [getL] at this
  | p :: m, q :: n, hm, hn, h => by
    have h1 := h p.1
    have h2 := h q.1
    have e1 : getL (p :: m) p.1 = some p.2 := by unfold getL; rw [if_pos rfl]
    have e2 : getL (q :: n) q.1 = some q.2 := by unfold getL; rw [if_pos rfl]
    rw [e1] at h1
    rw [e2] at h2
    have m1 := getL_mem h1.symm
    have m2 := getL_mem h2
    have e : p.1 = q.1 := by
      rcases List.mem_cons.1 m1 with a | a
      · exact congrArg Prod.fst a
      · rcases List.mem_cons.1 m2 with b | b
        · exact (congrArg Prod.fst b).symm
        · have := hm.head _ b; have := hn.head _ a; simp at *; omega
    have e3 : p = q := by
      have h3 : getL (q :: n) p.1 = some q.2 := by rw [e]; exact e2
      rw [h3] at h1
      injection h1 with h1
      exact Prod.ext e h1
    subst e3
    congr 1
    refine rise_ext hm.tail hn.tail fun k => ?_
    by_cases hk : p.1 = k
    · rw [getL_none (fun x hx => by have := hm.head x hx; omega), getL_none (fun x hx => by have := hn.head x hx; omega)]
    · have := h k
      unfold getL at this
      rw [if_neg hk, if_neg hk] at this
      exact this
def mapL (f : α → β) (m : List (Nat × α)) : List (Nat × β) := m.map fun p => (p.1, f p.2)
theorem Rise.map {m : List (Nat × α)} (h : Rise m) (f : α → β) : Rise (mapL f m) := by
  unfold Rise mapL
  rw [List.pairwise_map]
  exact h
theorem getL_map (f : α → β) (m : List (Nat × α)) (k : Nat) : getL (mapL f m) k = (getL m k).map f := by
  induction m with
  | nil => rfl
  | cons p r ih =>
    show (if p.1 = k then some (f p.2) else getL (mapL f r) k) = ((if p.1 = k then some p.2 else getL r k)).map f
    by_cases h : p.1 = k
    · rw [if_pos h, if_pos h]; rfl
    · rw [if_neg h, if_neg h]; exact ih
theorem putL_map (f : α → β) (m : List (Nat × α)) (k : Nat) (v : α) : putL' (mapL f m) k (f v) = mapL f (putL' m k v) := by
  induction m with
  | nil => rfl
  | cons p r ih =>
    show (if p.1 < k then (p.1, f p.2) :: putL' (mapL f r) k (f v) else if p.1 = k then (k, f v) :: mapL f r else (k, f v) :: (p.1, f p.2) :: mapL f r) = _
    show _ = mapL f (if p.1 < k then p :: putL' r k v else if p.1 = k then (k, v) :: r else (k, v) :: p :: r)
    split
    · rw [ih]; rfl
    · split <;> rfl
theorem delL_map (f : α → β) (m : List (Nat × α)) (k : Nat) : delL (mapL f m) k = mapL f (delL m k) := by
  unfold delL mapL
  rw [List.filter_map]
  rfl
end
end Go.Proofs.Ytogkeoainejfcaa
