/- Rows of parents: words and laws. -/
import Derived.Test.YtogkeoainejfcaaAFind
import Derived.Laws.CopyRow
import Derived.Lib.Overlaps
import Derived.Maps.AppendAt
namespace Go.Proofs.Ytogkeoainejfcaa
open Go.RowKit
set_option linter.unusedSimpArgs false
set_option linter.unusedVariables false
set_option maxRecDepth 100000
def prow (l : List (Nat × Nat)) : List Value := l.flatMap fun p => [Value.int .u64 (p.1 : Int), Value.int .i64 (p.2 : Int)]
theorem prow_nil : prow [] = [] := rfl
theorem prow_cons (p : Nat × Nat) (l : List (Nat × Nat)) : prow (p :: l) = Value.int .u64 (p.1 : Int) :: Value.int .i64 (p.2 : Int) :: prow l := rfl
theorem prow_append (l m : List (Nat × Nat)) : prow (l ++ m) = prow l ++ prow m := by unfold prow; rw [List.flatMap_append]
theorem prow_length : ∀ l : List (Nat × Nat), (prow l).length = l.length * 2
  | [] => rfl
  | p :: l => by rw [prow_cons, List.length_cons, List.length_cons, prow_length l, List.length_cons]; omega
theorem prow_take : ∀ (l : List (Nat × Nat)) (k : Nat), (prow l).take (k * 2) = prow (l.take k)
  | [], k => by simp [prow_nil]
  | p :: l, 0 => by simp [prow_nil]
  | p :: l, k + 1 => by rw [prow_cons, show (k + 1) * 2 = k * 2 + 2 by omega, List.take_succ_cons, List.take_succ_cons, prow_take l k, List.take_succ_cons, prow_cons]
theorem prow_drop : ∀ (l : List (Nat × Nat)) (k : Nat), (prow l).drop (k * 2) = prow (l.drop k)
  | [], k => by simp [prow_nil]
  | p :: l, 0 => by simp
  | p :: l, k + 1 => by rw [prow_cons, show (k + 1) * 2 = k * 2 + 2 by omega, List.drop_succ_cons, List.drop_succ_cons, prow_drop l k, List.drop_succ_cons]
theorem prow_one {l : List (Nat × Nat)} : ∀ v ∈ prow l, v.oneCell' = true := fun v hv => by
  unfold prow at hv
  obtain ⟨p, _, hp⟩ := List.mem_flatMap.1 hv
  simp at hp
  rcases hp with rfl | rfl <;> rfl
theorem prow_at : ∀ {l : List (Nat × Nat)} {i : Nat} {p : Nat × Nat}, l[i]? = some p → (prow l)[i * 2]? = some (Value.int .u64 (p.1 : Int)) ∧ (prow l)[i * 2 + 1]? = some (Value.int .i64 (p.2 : Int))
  | [], i, p, h => by simp at h
  | q :: l, 0, p, h => by simp at h; subst h; exact ⟨rfl, rfl⟩
  | q :: l, i + 1, p, h => by
    have h2 := prow_at (l := l) (i := i) (p := p) (by simpa using h)
    rw [prow_cons, show (i + 1) * 2 = i * 2 + 2 by omega]
    exact h2
theorem infoPar : (Try.prog.info? 129).map (fun i => (i.zero, i.size, i.bytes)) = some (some (.agg #[.int .u64 0, .int .i64 0]), 2, 16) := by kernel_rfl
/-- A row of parents of one's own. -/
def POwn (w : World) (base : Nat) (v : Value) (l : List (Nat × Nat)) : Prop := w.ownsRow base 129 2 v l.length (prow l)
theorem POwn.nil (w : World) (base : Nat) : POwn w base (.slice none 0 0) [] := World.ownsRow_nil _ _ _ _
theorem POwn.form {w : World} {base : Nat} {v : Value} {l : List (Nat × Nat)} (h : POwn w base v l) : ∃ A c, v = .slice A l.length c := by
  rcases h.2 with ⟨rfl, h0⟩ | ⟨g, cap, cur, rfl, _⟩
  · exact ⟨_, _, by rw [h0]⟩
  · exact ⟨_, _, rfl⟩
theorem POwn.block {w : World} {base : Nat} {v : Value} {l : List (Nat × Nat)} (h : POwn w base v l) {g : Nat} (hg : v.ownBlock = some g) : base ≤ g ∧ g < w.heap.size := World.ownsRow.lt h g hg
theorem POwn.at_ {w w' : World} {base : Nat} {v : Value} {l : List (Nat × Nat)} (h : POwn w base v l) (hk : ∀ g, v.ownBlock = some g → w'.heap[g]? = w.heap[g]?) : POwn w' base v l := by
  refine ⟨h.1, ?_⟩
  rcases h.2 with h0 | ⟨g, cap, cur, rfl, h1, h2, h3⟩
  · exact .inl h0
  · exact .inr ⟨g, cap, cur, rfl, h1, (hk g rfl).trans h2, h3⟩
theorem POwn.lies {w : World} {base n c : Nat} {A : Option Addr} {l : List (Nat × Nat)} (h : POwn w base (.slice A n c) l) : PLies w w.heap.size A l := fun i p hp => by
  obtain ⟨h1, h2⟩ := prow_at hp
  rcases h.2 with ⟨h0, _⟩ | ⟨g, cap, cur, e, h3, h4, _⟩
  · injection h0 with hA hn0 _
    obtain ⟨A', c', e⟩ := POwn.form h
    injection e with _ e2 _
    have hn : l = [] := List.eq_nil_of_length_eq_zero (by omega)
    rw [hn] at hp
    cases hp
  · injection e with hA _ _
    subst hA
    exact ⟨_, rfl, (Array.getElem?_eq_some_iff.1 h4).1, World.ownsRow.cells h (g := g) rfl _ _ h1, World.ownsRow.cells h (g := g) rfl _ _ h2⟩
theorem run_copy2 (w : World) (ty : TypeId) (g o dLen dCap : Nat) (ad : Addr) (sLen sCap : Nat) (cur : Array Value) (cs : List Value)
    (hg : w.heap[g]? = some (.cells cur 129 (0, 0))) (hn : cs.length = Nat.min sLen dLen * 2) (hsrc : ∀ (j : Nat) (v : Value), cs[j]? = some v → w.cell? (ad.add j) = some v) (hfit : o + cs.length ≤ cur.size) (h1 : ∀ v ∈ cs, v.oneCell' = true) :
    (Builtin.copy_ #[127, 127] ty #[.slice (some ⟨g, o, none⟩) dLen dCap, .slice (some ad) sLen sCap]).run Try.prog w =
      .ok (goInt (Nat.min sLen dLen)) (w.setRow g (cur.toList.take o ++ cs ++ cur.toList.drop (o + cs.length)).toArray) := by
  have hl := run_loadCells_list (P := Try.prog) w ad cs hsrc
  have hst := run_storeCells_at Try.prog g o 129 cs 0 cur w hg (by simpa using hfit) h1
  obtain ⟨i, hi, _, hs, _⟩ := info_parts infoPar
  simp [Builtin.copy_, run_underlying Try.underlying127, Builtin.lenOf, Builtin.firstCells, sizeOf, typeInfo, hi, hs, ← hn, hl, hst]
section
variable {P : Program} {ops : Array Oper} {rest : List Oper} {o : Oper} {a : Act} {Q : Exit → Act → World → Prop}
theorem wpList_copy_r (w : World) (hgd : o.guard = none) (d s : Operand) (t t' : TypeId) (ho : o.op = .call { callee := .builtin .copy, args := #[d, s], argTypes := #[t, t'] }) (v u : Value) (hd : a.eval d = v) (hs : a.eval s = u) {v' : Value} {w' : World}
    (hr : (Builtin.copy_ #[t, t'] o.type #[v, u]).run P w = .ok v' w') (h : wpList P ops Q rest (a.put o.dst v') w') : wpList P ops Q (o :: rest) a w := by
  refine wpList_plain hgd fun _ hK => ?_
  unfold Oper.wp execOp
  simp only [ho, resolve, invoke, builtin, Sem.run_bind, Sem.run_pure, Result.andThen_ok, List.map_toArray, List.map_cons, List.map_nil, hd, hs, hr]
  exact hK _ _ h
theorem step_copy_r {w : World} {K : Act → World → Prop} {E : Prop} (hg : o.guard = none) (d x : Operand) (dT sT : TypeId) (hop : o.op = Op.call { callee := Callee.builtin Builtin.copy, args := #[d, x], argTypes := #[dT, sT] })
    (v u : Value) (hd : a.eval d = v) (hx : a.eval x = u) {v' : Value} {w' : World} (hr : (Builtin.copy_ #[dT, sT] o.type #[v, u]).run P w = .ok v' w') (hK : K (a.put o.dst v') w') :
    if Region.wanted o (yielded ops a.tmps) = true then Oper.wp P o a w K Q else E := by
  have hw : Region.wanted o (yielded ops a.tmps) = true := by simp [Region.wanted, hg]
  rw [if_pos hw]
  unfold Oper.wp
  simp [execOp, hop, resolve, invoke, builtin, hd, hx, hr, Result.andThen]
  exact hK
end
end Go.Proofs.Ytogkeoainejfcaa
