/- Maps keyed by a number, as memory has them. -/
import Derived.Test.YtogkeoainejfcaaRows
import Derived.Test.YtogkeoainejfcaaAMath
import Derived.Maps.OwnSet
import Derived.Maps.RangeWalk
import Derived.WalkKit
import Derived.OwnWalk
import Derived.Below
import Derived.Lib.Hide
namespace Go.Proofs.Ytogkeoainejfcaa
open Go.RowKit
open Go.Maps (Keyed)
set_option linter.unusedSimpArgs false
set_option linter.unusedVariables false
set_option maxRecDepth 100000
def heldE (v : Value) : Option (DataW Value × List MemPlace) := some (.held v, [])
def keyL (k : Nat) : Lit := .int .u64 (k : Int)
def esOf (m : List (Nat × Value)) : List (Lit × DataW Value) := m.map fun p => (keyL p.1, .held p.2)
def mapD (m : List (Nat × Value)) : DataW Value := .map (esOf m)
theorem esOf_cons (p : Nat × Value) (m : List (Nat × Value)) : esOf (p :: m) = (keyL p.1, .held p.2) :: esOf m := rfl
theorem key_same (a b : Nat) : (keyL a).sameKey (keyL b) = decide (a = b) := by
  unfold keyL
  show decide (IntKind.u64 = IntKind.u64 ∧ (a : Int) = (b : Int)) = decide (a = b)
  by_cases h : a = b
  · rw [decide_eq_true h, decide_eq_true ⟨rfl, by omega⟩]
  · rw [decide_eq_false h, decide_eq_false (fun e => h (by omega))]
theorem key_before (a b : Nat) : (keyL a).before (keyL b) = decide (a < b) := by
  unfold keyL
  show decide ((a : Int) < (b : Int)) = decide (a < b)
  by_cases h : a < b
  · rw [decide_eq_true h, decide_eq_true (by omega)]
  · rw [decide_eq_false h, decide_eq_false (by omega)]
theorem esOf_filter (m : List (Nat × Value)) (k : Nat) : (esOf m).filter (fun p => !p.1.sameKey (keyL k)) = esOf (delL m k) := by
  induction m with
  | nil => rfl
  | cons p r ih =>
    rw [esOf_cons, List.filter_cons, delL_cons, ih]
    show (if (!(keyL p.1).sameKey (keyL k)) = true then _ else _) = _
    rw [key_same]
    by_cases h : p.1 = k
    · rw [decide_eq_true h, if_neg (by simp), if_pos h]
    · rw [decide_eq_false h, if_pos (by simp), if_neg h]; rfl
theorem esOf_front (v : Value) : ∀ (m : List (Nat × Value)) (k : Nat), (∀ q ∈ m, k < q.1) → DataW.insert (keyL k, .held v) (esOf m) = esOf ((k, v) :: m)
  | [], k, _ => rfl
  | p :: r, k, h => by
    rw [esOf_cons]
    unfold DataW.insert
    show (if (keyL k).before (keyL p.1) = true then _ else _) = _
    rw [key_before, decide_eq_true (h p (by simp)), if_pos rfl]
    rfl
theorem delL_none {m : List (Nat × Value)} {k : Nat} (h : ∀ q ∈ m, q.1 ≠ k) : delL m k = m := by
  unfold delL
  exact List.filter_eq_self.2 fun q hq => decide_eq_true (h q hq)
theorem esOf_put (v : Value) : ∀ (m : List (Nat × Value)) (k : Nat), Rise m → DataW.insert (keyL k, .held v) (esOf (delL m k)) = esOf (putL' m k v)
  | [], k, _ => rfl
  | p :: r, k, h => by
    rw [delL_cons]
    unfold putL'
    by_cases h1 : p.1 < k
    · rw [if_neg (by omega), if_pos h1, esOf_cons]
      unfold DataW.insert
      show (if (keyL k).before (keyL p.1) = true then _ else _) = _
      rw [key_before, decide_eq_false (by omega), if_neg (by simp), esOf_put v r k h.tail]
      rfl
    · by_cases h2 : p.1 = k
      · rw [if_pos h2, if_neg h1, if_pos h2, delL_none (fun q hq => by have := h.head q hq; omega)]
        exact esOf_front v r k fun q hq => by have := h.head q hq; omega
      · rw [if_neg h2, if_neg h1, if_neg h2, delL_none (fun q hq => by have := h.head q hq; omega)]
        exact esOf_front v (p :: r) k fun q hq => by
          rcases List.mem_cons.1 hq with rfl | hq
          · omega
          · have := h.head q hq; omega
theorem mapD_put {m : List (Nat × Value)} (hr : Rise m) (k : Nat) (v : Value) : (mapD m).put (keyL k) (.held v) = mapD (putL' m k v) := by
  show DataW.map (DataW.insert (keyL k, .held v) ((esOf m).filter fun p => !p.1.sameKey (keyL k))) = _
  rw [esOf_filter, esOf_put v m k hr]
  rfl
theorem mapD_del (m : List (Nat × Value)) (k : Nat) : (mapD m).del (keyL k) = mapD (delL m k) := by
  show DataW.map ((esOf m).filter fun p => !p.1.sameKey (keyL k)) = _
  rw [esOf_filter]
  rfl
theorem mapD_at (m : List (Nat × Value)) (k : Nat) (z : DataW Value) : (mapD m).atKey (keyL k) z = match getL m k with | some v => .held v | none => z := by
  unfold mapD DataW.atKey
  dsimp only
  induction m with
  | nil => rfl
  | cons p r ih =>
    rw [esOf_cons, List.find?_cons, key_same]
    unfold getL
    by_cases h : p.1 = k
    · rw [decide_eq_true h, if_pos h]
    · rw [decide_eq_false h, if_neg h]; exact ih
theorem mapD_has (m : List (Nat × Value)) (k : Nat) : Maps.has (mapD m) (keyL k) = (getL m k).isSome := by
  show (esOf m).any (fun p => p.1.sameKey (keyL k)) = _
  induction m with
  | nil => rfl
  | cons p r ih =>
    rw [esOf_cons, List.any_cons, ih]
    show ((keyL p.1).sameKey (keyL k) || _) = (if p.1 = k then some p.2 else getL r k).isSome
    rw [key_same]
    by_cases h : p.1 = k
    · rw [decide_eq_true h, if_pos h]; rfl
    · rw [decide_eq_false h, if_neg h]; rfl
theorem mapD_size (m : List (Nat × Value)) : Maps.size (mapD m) = m.length := by
  show (esOf m).length = _
  unfold esOf
  rw [List.length_map]
theorem mapD_inj : ∀ {m n : List (Nat × Value)}, esOf m = esOf n → m = n
  | [], [], _ => rfl
  | [], _ :: _, h => by cases h
  | _ :: _, [], h => by cases h
  | p :: m, q :: n, h => by
    rw [esOf_cons, esOf_cons] at h
    injection h with h1 h2
    injection h1 with h3 h4
    injection h4 with h4
    unfold keyL at h3
    injection h3 with _ h3
    rw [mapD_inj h2, show p = q from Prod.ext (by omega) h4]
/-- Block b is a map that holds just these. -/
structure MapV (w : World) (b : Nat) (m : List (Nat × Value)) : Prop where
  rise : Rise m
  small : ∀ p ∈ m, p.1 < 18446744073709551616
  own : w.ownsMap Try.prog 24 heldE b m.length (mapD m)
theorem idKeyed : Keyed Try.prog 24 := Maps.int_keyed Try.underlying24
theorem key_of {k : Nat} (hk : k < 18446744073709551616) : keyOf Try.prog 24 (.int .u64 (k : Int)) = some (keyL k) :=
  Maps.keyOf_int_mk Try.underlying24 (by
    have e : IntKind.u64.max = 18446744073709551615 := rfl
    have e2 : IntKind.u64.min = 0 := rfl
    show (decide (IntKind.u64.min ≤ (k : Int)) && decide ((k : Int) ≤ IntKind.u64.max)) = true
    rw [e, e2, decide_eq_true (by omega), decide_eq_true (by omega)]
    rfl)
theorem MapV.lt {w : World} {b : Nat} {m : List (Nat × Value)} (h : MapV w b m) : b < w.heap.size := h.own.lt
/-- A map stays what it is while its block does. -/
theorem MapV.at_ {w w' : World} {b : Nat} {m : List (Nat × Value)} (h : MapV w b m) (hb : w'.heap[b]? = w.heap[b]?) : MapV w' b m := by
  obtain ⟨es, clock, h1, h2⟩ := h.own
  exact ⟨h.rise, h.small, es, clock, hb.trans h1, h2⟩
theorem ownsMap_tight {w : World} {b n : Nat} {D : DataW Value} (h : w.ownsMap Try.prog 24 heldE b n D) : w.ownsMap Try.prog 24 heldE b (Maps.size D) D := by
  obtain ⟨es, clock, h1, h2, h3, h4⟩ := h
  refine ⟨es, clock, h1, h2, ?_, h4⟩
  rw [h4]
  simp [Maps.size, length_sorted]
theorem MapV.made (w : World) : MapV (w.alloc (.map #[] 0)) w.heap.size [] := ⟨Rise.nil, by simp, World.ownsMap_made w _ _ _⟩
section
variable {P : Program} {ops : Array Oper} {rest : List Oper} {o : Oper} {a : Act} {Q : Exit → Act → World → Prop}
theorem wpList_look (w : World) (hg : o.guard = none) (m x : Operand) (t e : TypeId) (hop : o.op = Op.lookup t m x false) (ht : Try.prog.underlying t = some (.map 24 e)) (z : Value) (hz : (zeroValue e).run Try.prog w = .ok z w)
    (b : Nat) (l : List (Nat × Value)) (hm : a.eval m = .map (some b)) (h : MapV w b l) (k : Nat) (hk : k < 18446744073709551616) (hx : a.eval x = .int .u64 (k : Int))
    (hK : wpList Try.prog ops Q rest (a.put o.dst ((getL l k).getD z)) w) : wpList Try.prog ops Q (o :: rest) a w := by
  refine wpList_plain hg fun K' hK' => ?_
  obtain ⟨v, ps, hrun, hv⟩ := h.own.lookup idKeyed ht hz (zd := .held z) (zp := []) rfl (key_of hk)
  rw [mapD_at] at hv
  have hv2 : v = (getL l k).getD z := by
    unfold heldE at hv
    injection hv with hv
    have h1 := congrArg Prod.fst hv
    cases hg : getL l k with
    | none => rw [hg] at h1; injection h1
    | some u => rw [hg] at h1; injection h1
  unfold Oper.wp
  simp [execOp, hop, hm, hx, hrun, Result.andThen]
  exact hK' _ _ (hv2 ▸ hK)
theorem wpList_lookOk (w : World) (hg : o.guard = none) (m x : Operand) (t e : TypeId) (hop : o.op = Op.lookup t m x true) (ht : Try.prog.underlying t = some (.map 24 e)) (z : Value) (hz : (zeroValue e).run Try.prog w = .ok z w)
    (b : Nat) (l : List (Nat × Value)) (hm : a.eval m = .map (some b)) (h : MapV w b l) (k : Nat) (hk : k < 18446744073709551616) (hx : a.eval x = .int .u64 (k : Int))
    (hK : wpList Try.prog ops Q rest (a.put o.dst (.tuple #[(getL l k).getD z, .bool (hasL l k)])) w) : wpList Try.prog ops Q (o :: rest) a w := by
  refine wpList_plain hg fun K' hK' => ?_
  obtain ⟨v, ps, hrun, hv⟩ := h.own.look_ok idKeyed ht hz (zd := .held z) (zp := []) rfl (key_of hk)
  rw [mapD_at] at hv
  have hv2 : v = (getL l k).getD z := by
    unfold heldE at hv
    injection hv with hv
    have h1 := congrArg Prod.fst hv
    cases hg : getL l k with
    | none => rw [hg] at h1; injection h1
    | some u => rw [hg] at h1; injection h1
  rw [mapD_has] at hrun
  unfold Oper.wp
  simp [execOp, hop, hm, hx, hrun, Result.andThen]
  rw [hv2]
  exact hK' _ _ hK
theorem wpList_store (w : World) (hg : o.guard = none) (m x v : Operand) (t e : TypeId) (hop : o.op = Op.mapUpdate t m x v) (ht : Try.prog.underlying t = some (.map 24 e))
    (b : Nat) (l : List (Nat × Value)) (hm : a.eval m = .map (some b)) (h : MapV w b l) (hl : l.length < maxLen) (k : Nat) (hk : k < 18446744073709551616) (hx : a.eval x = .int .u64 (k : Int)) (u : Value) (hv : a.eval v = u)
    (hK : ∀ w', MapV w' b (putL' l k u) → w.mapTurned w' b → wpList Try.prog ops Q rest (a.put o.dst undef) w') : wpList Try.prog ops Q (o :: rest) a w :=
  wpList_mapUpdate_in w hg m x v t hop 24 e idKeyed ht heldE b _ _ hm h.own hl _ _ _ hx hv (key_of hk) (.held u) [] rfl fun w' h1 h2 => by
    refine hK w' ⟨h.rise.put k u, fun p hp => ?_, ?_⟩ h2
    · rcases putL_mem hp with rfl | hp
      · exact hk
      · exact h.small p hp
    · rw [mapD_put h.rise] at h1
      have h3 := ownsMap_tight h1
      rw [mapD_size] at h3
      exact h3
theorem wpList_less (w : World) (hg : o.guard = none) (m x : Operand) (t e : TypeId) (hop : o.op = Op.call { callee := Callee.builtin Builtin.delete, args := #[m, x], argTypes := #[t, 24] }) (ht : Try.prog.underlying t = some (.map 24 e))
    (b : Nat) (l : List (Nat × Value)) (hm : a.eval m = .map (some b)) (h : MapV w b l) (k : Nat) (hk : k < 18446744073709551616) (hx : a.eval x = .int .u64 (k : Int))
    (hK : ∀ w', MapV w' b (delL l k) → w.mapTurned w' b → wpList Try.prog ops Q rest (a.put o.dst (.tuple #[])) w') : wpList Try.prog ops Q (o :: rest) a w :=
  wpList_delete_own w hg m x t 24 hop e idKeyed ht heldE b _ _ hm h.own _ _ hx (key_of hk) fun w' h1 h2 => by
    refine hK w' ⟨h.rise.del k, fun p hp => h.small p (delL_mem.1 hp).1, ?_⟩ h2
    rw [mapD_del] at h1
    have h3 := ownsMap_tight h1
    rw [mapD_size] at h3
    exact h3
theorem wpList_count (w : World) (hg : o.guard = none) (m : Operand) (t e : TypeId) (hop : o.op = Op.call { callee := Callee.builtin Builtin.len, args := #[m], argTypes := #[t] }) (ht : Try.prog.underlying t = some (.map 24 e))
    (b : Nat) (l : List (Nat × Value)) (hm : a.eval m = .map (some b)) (h : MapV w b l) (hK : wpList Try.prog ops Q rest (a.put o.dst (.int .i64 (l.length : Int))) w) : wpList Try.prog ops Q (o :: rest) a w :=
  wpList_len_own w hg m t hop 24 e ht heldE b _ _ hm h.own (by rw [mapD_size]; exact hK)
end
end Go.Proofs.Ytogkeoainejfcaa
