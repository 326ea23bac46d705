/- Nodes one below the other: pure. -/
import Derived.Test.YtedkkfndobiedaaAAwake
namespace Go.Proofs.Ytedkkfndobiedaa
open Go.RowKit
set_option linter.unusedSimpArgs false
set_option linter.unusedVariables false
theorem put_last {α : Type} : ∀ (m : List (Nat × α)) (k : Nat) (v : α), (∀ p ∈ m, p.1 < k) → putL' m k v = m ++ [(k, v)]
  | [], k, v, _ => rfl
  | p :: r, k, v, h => by
    have hp := h p (by simp)
    show (if p.1 < k then p :: putL' r k v else if p.1 = k then (k, v) :: r else (k, v) :: p :: r) = p :: (r ++ [(k, v)])
    rw [if_pos hp, put_last r k v fun q hq => h q (by simp [hq])]
def rowL {α : Type} (f : Nat → α) (k : Nat) : List (Nat × α) := (List.range k).map fun j => (j + 1, f (j + 1))
theorem rowL_succ {α : Type} (f : Nat → α) (k : Nat) : rowL f (k + 1) = rowL f k ++ [(k + 1, f (k + 1))] := by unfold rowL; rw [List.range_succ, List.map_append]; rfl
theorem rowL_lt {α : Type} {f : Nat → α} {k : Nat} : ∀ p ∈ rowL f k, p.1 < k + 1 ∧ 1 ≤ p.1 ∧ p.2 = f p.1 := fun p hp => by
  unfold rowL at hp
  obtain ⟨j, hj, rfl⟩ := List.mem_map.1 hp
  rw [List.mem_range] at hj
  exact ⟨by show j + 1 < k + 1; omega, by show 1 ≤ j + 1; omega, rfl⟩
theorem rowL_put {α : Type} (f : Nat → α) (k : Nat) : putL' (rowL f k) (k + 1) (f (k + 1)) = rowL f (k + 1) := by rw [put_last _ _ _ fun p hp => (rowL_lt p hp).1, rowL_succ]
theorem rowL_length {α : Type} (f : Nat → α) (k : Nat) : (rowL f k).length = k := by unfold rowL; rw [List.length_map, List.length_range]
theorem getL_append {α : Type} : ∀ (m : List (Nat × α)) (q : Nat × α) (x : Nat), getL (m ++ [q]) x = match getL m x with | some v => some v | none => if q.1 = x then some q.2 else none
  | [], q, x => rfl
  | p :: r, q, x => by
    show (if p.1 = x then some p.2 else getL (r ++ [q]) x) = match (if p.1 = x then some p.2 else getL r x) with | some v => some v | none => if q.1 = x then some q.2 else none
    by_cases e : p.1 = x
    · rw [if_pos e, if_pos e]
    · rw [if_neg e, if_neg e, getL_append r q x]
theorem getL_row {α : Type} (f : Nat → α) : ∀ (k x : Nat), getL (rowL f k) x = if 1 ≤ x ∧ x ≤ k then some (f x) else none
  | 0, x => by rw [if_neg (by omega)]; rfl
  | k + 1, x => by
    rw [rowL_succ, getL_append, getL_row f k x]
    by_cases h1 : 1 ≤ x ∧ x ≤ k
    · rw [if_pos h1, if_pos (by omega : 1 ≤ x ∧ x ≤ k + 1)]
    · rw [if_neg h1]
      by_cases h2 : k + 1 = x
      · show (if k + 1 = x then some (f (k + 1)) else none) = _
        rw [if_pos h2, if_pos (by omega), h2]
      · show (if k + 1 = x then some (f (k + 1)) else none) = _
        rw [if_neg h2, if_neg (by omega)]
theorem rise_row {α : Type} (f : Nat → α) (k : Nat) : Rise (rowL f k) := by
  unfold Rise rowL
  rw [List.pairwise_map]
  exact List.pairwise_lt_range.imp fun h => by show _ + 1 < _ + 1; omega
/-- The nodes of the law. -/
def dNode (S i : Nat) : Nd := ⟨if i = 1 then 1 else 2, ⟨#[]⟩, 0, 0, 0, if i < S then [i + 1] else []⟩
theorem dKids (S x : Nat) : (dNode S x).kids = if x < S then [x + 1] else [] := rfl
def dRow (S k : Nat) : List (Nat × Nd) := rowL (dNode S) k
theorem dNd {S x : Nat} (h1 : 1 ≤ x) (h2 : x ≤ S) : ndOf (dRow S S) x = dNode S x := by unfold ndOf dRow; rw [getL_row, if_pos ⟨h1, h2⟩]; rfl
theorem dHas {S x : Nat} : hasL (dRow S S) x = decide (1 ≤ x ∧ x ≤ S) := by
  unfold hasL dRow
  rw [getL_row]
  by_cases h : 1 ≤ x ∧ x ≤ S
  · rw [if_pos h, decide_eq_true h]; rfl
  · rw [if_neg h, decide_eq_false h]; rfl
theorem dSum (S : Nat) : ∀ k, sumU (dRow S k) [] = min k (S - 1)
  | 0 => by unfold dRow rowL sumU; simp
  | k + 1 => by
    have h := dSum S k
    unfold dRow at h ⊢
    rw [rowL_succ]
    unfold sumU at h ⊢
    rw [List.map_append, List.sum_append, h]
    show min k (S - 1) + ((if k + 1 ∈ ([] : List Nat) then 0 else (dNode S (k + 1)).kids.length) + 0) = _
    rw [if_neg (by simp)]
    unfold dNode
    dsimp only
    by_cases e : k + 1 < S
    · rw [if_pos e]; simp; omega
    · rw [if_neg e]; simp; omega
def segL (x m : Nat) : List Nat := (List.range (m + 1)).map (x + ·)
theorem segL_cons (x m : Nat) : segL x (m + 1) = x :: segL (x + 1) m := by
  unfold segL
  rw [List.range_succ_eq_map, List.map_cons, List.map_map]
  congr 1
  refine List.map_congr_left fun j _ => ?_
  show x + (j + 1) = x + 1 + j
  omega
theorem segL_length (x m : Nat) : (segL x m).length = m + 1 := by unfold segL; rw [List.length_map, List.length_range]
theorem walk_deep {S : Nat} : ∀ (m x f : Nat) (done : List Nat), x + m = S → 1 ≤ x → (∀ y ∈ done, y < x) → m + 1 ≤ f → walkF (dRow S S) f [x] done = done ++ segL x m
  | m, x, 0, done, _, _, _, hf => by omega
  | m, x, f + 1, done, hx, h1, hd, hf => by
    have hg : getL (dRow S S) x = some (dNode S x) := by unfold dRow; rw [getL_row, if_pos ⟨h1, by omega⟩]
    have hn : x ∉ done := fun h => by have := hd x h; omega
    rw [walkF_some hg hn]
    cases m with
    | zero =>
      have hk : (dNode S x).kids = [] := by rw [dKids, if_neg (by omega)]
      rw [hk, List.nil_append, walkF_nil]
      rfl
    | succ m =>
      have hk : (dNode S x).kids = [x + 1] := by rw [dKids, if_pos (by omega)]
      rw [hk, List.append_nil, walk_deep m (x + 1) f (done ++ [x]) (by omega) (by omega) (fun y hy => by
        rcases List.mem_append.1 hy with hy | hy
        · have := hd y hy; omega
        · simp at hy; omega) (by omega), segL_cons, List.append_assoc]
      rfl
theorem walkL_deep {S x : Nat} (h1 : 1 ≤ x) (h2 : x ≤ S) : walkL (dRow S S) x = segL x (S - x) := by
  unfold walkL
  rw [dSum, walk_deep (S - x) x _ [] (by omega) h1 (by simp) (by omega)]
  rfl
def idm (k : Nat) : List (Nat × Nat) := rowL (fun j => j) k
theorem depL_idm (k x : Nat) : depL (idm k) x = if 1 ≤ x ∧ x ≤ k then x else 0 := by
  unfold depL idm
  rw [getL_row]
  split <;> rfl
theorem take_seg {x m k : Nat} (h : k ≤ m) : (segL x m).take (k + 1) = segL x k := by
  unfold segL
  rw [← List.map_take, List.take_range, Nat.min_eq_left (by omega)]
theorem segL_snoc (x m : Nat) : segL x (m + 1) = segL x m ++ [x + (m + 1)] := by unfold segL; rw [List.range_succ, List.map_append]; rfl
theorem step_deep {S x : Nat} (h1 : 1 ≤ x) (h2 : x < S) (h3 : x ≤ 200) : stepT (dRow S S) x (idm x) = some (idm (x + 1)) := by
  have hb : ¬ badAt (dRow S S) (idm x) x := by
    unfold badAt
    rw [dNd h1 (by omega), depL_idm, if_pos (by omega)]
    rintro (h | ⟨h, _⟩)
    · omega
    · exact h rfl
  unfold stepT
  rw [if_neg hb, dNd h1 (by omega)]
  have hk : (dNode S x).kids = [x + 1] := by rw [dKids, if_pos (by omega)]
  rw [hk]
  show (if hasL (dRow S S) (x + 1) = true ∧ depL (idm x) (x + 1) = 0 then _ else _) = _
  rw [if_pos ⟨by rw [dHas, decide_eq_true (by omega)], by rw [depL_idm, if_neg (by omega)]⟩, depL_idm, if_pos (by omega)]
  show some (putL' (idm x) (x + 1) (x + 1)) = _
  exact congrArg some (rowL_put (fun j => j) x)
theorem go_deep {S : Nat} : ∀ (m : Nat), m + 1 < S → m + 1 ≤ 200 → treeGo (dRow S S) (segL 1 m) [(1, 1)] = some (idm (m + 2))
  | 0, h1, h2 => by
    show (stepT (dRow S S) 1 (idm 1)).bind (treeGo (dRow S S) []) = _
    rw [step_deep (by omega) h1 h2]
    rfl
  | m + 1, h1, h2 => by
    rw [segL_snoc, treeGo_snoc, go_deep m (by omega) (by omega)]
    have e : 1 + (m + 1) = m + 2 := by omega
    rw [e]
    exact step_deep (by omega) (by omega) h2
theorem end_deep {S : Nat} (h1 : 1 ≤ S) (h3 : S ≤ 200) : stepT (dRow S S) S (idm S) = some (idm S) := by
  have hb : ¬ badAt (dRow S S) (idm S) S := by
    unfold badAt
    rw [dNd h1 (by omega), depL_idm, if_pos (by omega)]
    rintro (h | ⟨h, _⟩)
    · omega
    · exact h rfl
  unfold stepT
  rw [if_neg hb, dNd h1 (by omega)]
  have hk : (dNode S S).kids = [] := by rw [dKids, if_neg (by omega)]
  rw [hk]
  rfl
theorem tree_deep {S : Nat} (h1 : 2 ≤ S) : treeB (dRow S S) = decide (S ≤ 200) := by
  have hk : (ndOf (dRow S S) 1).kind = 1 := by rw [dNd (by omega) (by omega)]; rfl
  have hw := walkL_deep (S := S) (x := 1) (by omega) (by omega)
  by_cases h : S ≤ 200
  · obtain ⟨m, rfl⟩ : ∃ m, S = m + 2 := ⟨S - 2, by omega⟩
    have hg : treeGo (dRow (m + 2) (m + 2)) (walkL (dRow (m + 2) (m + 2)) 1) [(1, 1)] = some (idm (m + 2)) := by
      rw [hw, show m + 2 - 1 = m + 1 by omega, segL_snoc, treeGo_snoc, go_deep m (by omega) (by omega)]
      have e : 1 + (m + 1) = m + 2 := by omega
      rw [e]
      exact end_deep (by omega) h
    rw [treeB_some hk hg, hw, segL_length, decide_eq_true h]
    refine decide_eq_true ?_
    show m + 2 - 1 + 1 = (dRow (m + 2) (m + 2)).length
    unfold dRow
    rw [rowL_length]
    omega
  · have hn : treeGo (dRow S S) (walkL (dRow S S) 1) [(1, 1)] = none := by
      rw [hw]
      refine treeGo_none (k := 201) ?_
      rw [take_seg (by omega), segL_snoc, treeGo_snoc, go_deep 199 (by omega) (by omega)]
      show stepT (dRow S S) 201 (idm 201) = none
      unfold stepT
      rw [if_pos (.inl (by rw [depL_idm, if_pos (by omega)]; omega))]
    rw [treeB_none hn, decide_eq_false h]
theorem parent_deep {S x : Nat} (h1 : 1 ≤ x) (h2 : x ≤ S) : parentL (dRow S S) x = x - 1 := by
  have hin : ∀ y n, (y, n) ∈ dRow S S → x ∈ n.kids → y + 1 = x ∧ 1 ≤ y := fun y n hm hk => by
    obtain ⟨a1, a2, a3⟩ := rowL_lt _ hm
    dsimp only at a1 a2 a3
    rw [a3] at hk
    unfold dNode at hk
    dsimp only at hk
    split at hk
    · simp at hk; omega
    · simp at hk
  unfold parentL
  cases hp : parentO (dRow S S) x with
  | none =>
    by_cases e : x = 1
    · rw [e]; rfl
    · have hg : getL (dRow S S) (x - 1) = some (dNode S (x - 1)) := by unfold dRow; rw [getL_row, if_pos (by omega)]
      exact absurd (by unfold dNode; dsimp only; rw [if_pos (by omega)]; simp; omega) (parentO_none hp _ (getL_mem hg))
  | some y =>
    obtain ⟨n, a1, a2, _⟩ := parentO_some (rise_row _ _) hp
    have := hin y n a1 a2
    show y = x - 1
    omega
theorem above_deep {S : Nat} : ∀ (x f : Nat), 1 ≤ x → x ≤ S → x ≤ f → aboveF (dRow S S) 1 f x = 1
  | 0, _, h, _, _ => by omega
  | x + 1, 0, _, _, h => by omega
  | x + 1, f + 1, h1, h2, h3 => by
    rw [aboveF_some (by rw [dHas, decide_eq_true ⟨h1, h2⟩]), dNd h1 h2]
    by_cases e : x = 0
    · subst e; rfl
    · rw [if_neg (by unfold dNode; dsimp only; rw [if_neg (by omega)]; decide), parent_deep h1 h2]
      exact above_deep x f (by omega) (by omega) (by omega)
theorem kids_deep {S x i : Nat} (h1 : 1 ≤ x) (h2 : x < S) (h : FirstAt (ndOf (dRow S S) x).kids (x + 1) i) : i = 0 := by
  rw [dNd h1 (by omega)] at h
  have hk : (dNode S x).kids = [x + 1] := by rw [dKids, if_pos h2]
  rw [hk] at h
  have := (List.getElem?_eq_some_iff.1 h.1).1
  simp at this
  exact this
end Go.Proofs.Ytedkkfndobiedaa
