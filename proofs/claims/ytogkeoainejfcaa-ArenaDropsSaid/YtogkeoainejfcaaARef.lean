/- The reference's list of nodes, as memory has it; and its Put. -/
import Derived.Test.YtogkeoainejfcaaAFew
namespace Go.Proofs.Ytogkeoainejfcaa
open Go.RowKit Go.Shelf
set_option linter.unusedSimpArgs false
set_option linter.unusedVariables false
set_option maxRecDepth 100000
attribute [local go_sem] Oper.semAt_some undef
/-- A list of nodes, with what each is in memory. -/
abbrev XL := List (Nat × (Value × Nd))
def xCells (xs : XL) : List Value := xs.flatMap fun p => .int .u64 (p.1 : Int) :: ndCells p.2.1
def xNs (xs : XL) : List (Nat × Nd) := mapL Prod.snd xs
structure XR (w : World) (base : Nat) (v : Value) (xs : XL) : Prop where
  own : w.ownsRow base 69 7 v xs.length (xCells xs)
  node : ∀ p ∈ xs, NodeV w p.2.1 p.2.2
  small : ∀ p ∈ xs, p.1 < 18446744073709551616
theorem XR.keep {w w' : World} {base : Nat} {v : Value} {xs : XL} (h : XR w base v xs) (hs : w.heap.size ≤ w'.heap.size) (hk : ∀ (g : Nat) (cs : Array Value) (t : TypeId) (z : Nat × Nat), (t = 69 ∨ t = 24) → w.heap[g]? = some (.cells cs t z) → w'.heap[g]? = w.heap[g]?) : XR w' base v xs :=
  ⟨ownsRow_at h.own fun g cs hg => hk g cs _ _ (.inl rfl) hg, fun p hp => (h.node p hp).keep hs fun j cs z hj => hk j cs _ z (.inr rfl) hj, h.small⟩
theorem XR.below {w w' : World} {base : Nat} {v : Value} {xs : XL} (h : XR w base v xs) (hb : Below w.heap.size w w') : XR w' base v xs := h.keep hb.size fun g cs t z _ hg => hb.block g (lt_of_heap2 hg)
theorem NodeV.cells {w : World} {v : Value} {n : Nd} (h : NodeV w v n) : ∃ A c, v = ndV n (.slice A n.kids.length c) ∧ IdSl w w.heap.size (.slice A n.kids.length c) n.kids ∧ NdOk n := by
  obtain ⟨⟨A, c, e, hi⟩, ok⟩ := h
  exact ⟨A, c, e, hi, ok⟩
theorem xCells_at : ∀ {xs : XL} {k j : Nat} {p : Nat × (Value × Nd)}, (∀ q ∈ xs, (ndCells q.2.1).length = 6) → xs[k]? = some p → j < 7 → (xCells xs)[k * 7 + j]? = (Value.int .u64 (p.1 : Int) :: ndCells p.2.1)[j]?
  | [], k, j, p, _, h, _ => by cases h
  | q :: xs, k, j, p, h6, h, hj => by
    have h1 := h6 q (by simp)
    have hc : xCells (q :: xs) = (Value.int .u64 (q.1 : Int) :: ndCells q.2.1) ++ xCells xs := by unfold xCells; rw [List.flatMap_cons]
    rw [hc]
    cases k with
    | zero =>
      injection h with h
      subst h
      rw [Nat.zero_mul, Nat.zero_add, List.getElem?_append_left (by rw [List.length_cons, h1]; omega)]
    | succ k =>
      rw [List.getElem?_append_right (by rw [List.length_cons, h1]; omega), List.length_cons, h1, show (k + 1) * 7 + j - (6 + 1) = k * 7 + j by omega]
      exact xCells_at (fun z hz => h6 z (by simp [hz])) h hj
theorem xCells_snoc (xs : XL) (q : Nat × (Value × Nd)) : xCells (xs ++ [q]) = xCells xs ++ (.int .u64 (q.1 : Int) :: ndCells q.2.1) := by unfold xCells; rw [List.flatMap_append]; simp
/-- The cells of one row of the list. -/
theorem XR.at_ {w : World} {base n c : Nat} {A : Option Addr} {xs : XL} (h : XR w base (.slice A n c) xs) {k : Nat} {p : Nat × (Value × Nd)} (hp : xs[k]? = some p) :
    ∃ g Ak ck, A = some ⟨g, 0, none⟩ ∧ base ≤ g ∧ p.2.1 = ndV p.2.2 (.slice Ak p.2.2.kids.length ck) ∧ IdSl w w.heap.size (.slice Ak p.2.2.kids.length ck) p.2.2.kids ∧ NdOk p.2.2 ∧
      w.cell? ⟨g, k * 7, none⟩ = some (.int .u64 (p.1 : Int)) ∧ w.cell? ⟨g, k * 7 + 1, none⟩ = some (.int .u8 (p.2.2.kind : Int)) ∧ w.cell? ⟨g, k * 7 + 2, none⟩ = some (.string p.2.2.name) ∧ w.cell? ⟨g, k * 7 + 3, none⟩ = some (.int .i64 p.2.2.num) ∧ w.cell? ⟨g, k * 7 + 4, none⟩ = some (.int .u8 (p.2.2.typ : Int)) ∧
      w.cell? ⟨g, k * 7 + 5, none⟩ = some (.int .u64 (p.2.2.ref : Int)) ∧ w.cell? ⟨g, k * 7 + 6, none⟩ = some (.slice Ak p.2.2.kids.length ck) := by
  obtain ⟨Ak, ck, hv, hi, hok⟩ := (h.node p (List.mem_of_getElem? hp)).cells
  have hk := (List.getElem?_eq_some_iff.1 hp).1
  rcases h.own.2 with ⟨e, h0⟩ | ⟨g, cap, cur, e, hb, hg, _, _, _, ht⟩
  · omega
  · injection e with e1 e2 e3
    have hcell : ∀ j v, j < 7 → (Value.int .u64 (p.1 : Int) :: ndCells p.2.1)[j]? = some v → w.cell? ⟨g, k * 7 + j, none⟩ = some v := fun j v hj hv => by
      have h1 := xCells_at (k := k) (j := j) (fun q hq => by obtain ⟨A, c, e, _⟩ := (h.node q hq).cells; rw [e]; rfl) hp hj
      rw [hv, ← ht, List.getElem?_take_of_lt (by omega)] at h1
      unfold World.cell?
      rw [hg]
      dsimp only
      rw [← h1]
      simp
    rw [hv] at hcell
    exact ⟨g, Ak, ck, e1, hb, hv, hi, hok, hcell 0 _ (by omega) rfl, hcell 1 _ (by omega) rfl, hcell 2 _ (by omega) rfl, hcell 3 _ (by omega) rfl, hcell 4 _ (by omega) rfl, hcell 5 _ (by omega) rfl, hcell 6 _ (by omega) rfl⟩
section
variable {α : Type}
/-- What the reference's Put goes through. -/
def rputL (id : Nat) (v : α) : List (Nat × α) → Bool → List (Nat × α)
  | [], done => if done then [] else [(id, v)]
  | p :: r, done => if p.1 = id then rputL id v r done else if id < p.1 ∧ done = false then (id, v) :: p :: rputL id v r true else p :: rputL id v r done
theorem rputL_done {id : Nat} {v : α} : ∀ {m : List (Nat × α)}, (∀ p ∈ m, id < p.1) → rputL id v m true = m
  | [], _ => rfl
  | p :: r, h => by
    have hp := h p (by simp)
    show (if p.1 = id then _ else if id < p.1 ∧ true = false then _ else p :: rputL id v r true) = _
    rw [if_neg (by omega), if_neg (by simp), rputL_done fun q hq => h q (by simp [hq])]
theorem rputL_big {id : Nat} {v : α} : ∀ {m : List (Nat × α)}, (∀ p ∈ m, id < p.1) → rputL id v m false = (id, v) :: m
  | [], _ => rfl
  | p :: r, h => by
    have hp := h p (by simp)
    show (if p.1 = id then _ else if id < p.1 ∧ false = false then (id, v) :: p :: rputL id v r true else _) = _
    rw [if_neg (by omega), if_pos ⟨hp, rfl⟩, rputL_done fun q hq => h q (by simp [hq])]
theorem rputL_put {id : Nat} {v : α} : ∀ {m : List (Nat × α)}, Rise m → rputL id v m false = putL' m id v
  | [], _ => rfl
  | p :: r, hr => by
    show (if p.1 = id then rputL id v r false else if id < p.1 ∧ false = false then (id, v) :: p :: rputL id v r true else p :: rputL id v r false) = (if p.1 < id then p :: putL' r id v else if p.1 = id then (id, v) :: r else (id, v) :: p :: r)
    by_cases h1 : p.1 < id
    · rw [if_pos h1, if_neg (by omega), if_neg (by omega), rputL_put hr.tail]
    · rw [if_neg h1]
      by_cases h2 : p.1 = id
      · rw [if_pos h2, if_pos h2, rputL_big fun q hq => by have := hr.head q hq; omega]
      · rw [if_neg h2, if_neg h2, if_pos ⟨by omega, rfl⟩, rputL_done fun q hq => by have := hr.head q hq; omega]
end
theorem infoRow : (Try.prog.info? 69).map (fun i => (i.zero, i.size, i.bytes)) = some (some (.agg #[.int .u64 0, .int .u8 0, .string ⟨#[]⟩, .int .i64 0, .int .u8 0, .int .u64 0, .slice none 0 0]), 7, 80) := by kernel_rfl
end Go.Proofs.Ytogkeoainejfcaa
