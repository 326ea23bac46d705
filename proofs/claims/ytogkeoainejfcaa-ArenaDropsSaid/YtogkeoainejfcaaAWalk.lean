/- Contracts: Walk, and the iterator that it tells. -/
import Derived.Stop.RegionWithIn
import Derived.Test.YtogkeoainejfcaaAFindW
import Derived.Test.YtogkeoainejfcaaARangeR
namespace Go.Proofs.Ytogkeoainejfcaa
open Go.RowKit Go.Shelf
set_option linter.unusedSimpArgs false
set_option linter.unusedVariables false
set_option maxRecDepth 100000
attribute [local go_sem] Oper.semAt_some
/-- What Walk tells: its iterator, which holds what was found. -/
def WalkR (w : World) (vs : List (Nat × Value)) (L : List Nat) (e : Ending) (w' : World) : Prop :=
  ∃ B A c, e = .returned (.func (.func 63) #[] #[.pointer (some ⟨B, 0, none⟩)]) ∧ w.heap.size ≤ B ∧ w'.heap[B]? = some (.cells #[.slice A L.length c] 108 (0, 0)) ∧ w'.ownsRow w.heap.size 112 7 (.slice A L.length c) L.length (fCells vs L) ∧ Below w.heap.size w w'
theorem walk_nil (w : World) (x : Value) (vs : List (Nat × Value)) : Calls Try.prog 41 #[.pointer none, x] w (WalkR w vs []) := by
  have HF := Lib.hid (find_nil w x)
  go_enter Try.func41, Try.ntmps41
  go_wp2_with (go_at_call 62; (with_reducible refine (HF.out).mono ?_); rintro e w1 ⟨rfl, hb1⟩; go_loud (have HB1 := Lib.hid hb1; clear hb1))
  go_ret
  exact ⟨_, none, 0, rfl, HB1.out.size, Go.heap_alloc_new _ _, World.ownsRow_nil _ _ _ _, HB1.out.alloc HB1.out.size _⟩
theorem row_form {w : World} {base n size : Nat} {t : TypeId} {v : Value} {xs : List Value} (h : w.ownsRow base t size v n xs) : ∃ A c, v = .slice A n c := by
  rcases h.2 with ⟨e, h0⟩ | ⟨g, cap, cur, e, _⟩
  · exact ⟨none, 0, by rw [e, h0]⟩
  · exact ⟨_, _, e⟩
theorem walk_any (w : World) (base ga gm gp id N : Nat) (F : PF) (vs : List (Nat × Value)) (ns : List (Nat × Nd)) (h : AR w base ga gm gp F vs ns N) (hid : id < 18446744073709551616) (hfew : sumU ns [] ≤ 900000000) (hns : ns.length ≤ 1000000) :
    Calls Try.prog 41 #[.pointer (some ⟨ga, 0, none⟩), .int .u64 (id : Int)] w (WalkR w vs (walkL ns id)) := by
  have HF := Lib.hid (found_any w base ga gm gp id N F vs ns h hid hfew hns)
  obtain ⟨L, hL⟩ : ∃ L, L = walkL ns id := ⟨_, rfl⟩
  rw [← hL] at HF ⊢
  clear h hL
  go_enter Try.func41, Try.ntmps41
  go_wp2_with (go_at_call 62; (with_reducible refine (HF.out).mono ?_); rintro e w1 ⟨v, rfl, hr, hb1⟩; go_loud (
    obtain ⟨A, c, rfl⟩ := row_form hr;
    have HB1 := Lib.hid hb1;
    have HR := Lib.hid hr;
    clear hb1 hr))
  go_ret
  exact ⟨_, A, c, rfl, HB1.out.size, Go.heap_alloc_new _ _, ownsRow_at HR.out fun g cs hg => heap_alloc_lt _ _ (lt_of_heap2 hg), HB1.out.alloc HB1.out.size _⟩
/-- What a consumer of the walk may not touch. -/
def KpW (B0 : Nat) (W W' : World) : Prop := W.heap.size ≤ W'.heap.size ∧ ∀ (k : Nat) (cs : Array Value) (t : TypeId) (z : Nat × Nat), k < B0 → (t = 108 ∨ t = 112 ∨ t = 24) → W.heap[k]? = some (.cells cs t z) → W'.heap[k]? = some (.cells cs t z)
theorem KpW.refl (B0 : Nat) (W : World) : KpW B0 W W := ⟨Nat.le_refl _, fun _ _ _ _ _ _ h => h⟩
theorem KpW.trans {B0 : Nat} {a b c : World} (h : KpW B0 a b) (k : KpW B0 b c) : KpW B0 a c := ⟨Nat.le_trans h.1 k.1, fun j cs t z hj ht hk => k.2 j cs t z hj ht (h.2 j cs t z hj ht hk)⟩
theorem KpW.below {B0 : Nat} {a b : World} (h : Below B0 a b) : KpW B0 a b := ⟨h.size, fun j cs t z hj _ hk => (h.block j hj).trans hk⟩
theorem KpW.putObj {B0 : Nat} (W : World) (l : Nat) (o : Obj) (h : B0 ≤ l) : KpW B0 W (W.putObj l o) := .below (putObj_below h o)
/-- The node of a number. -/
def ndOf (ns : List (Nat × Nd)) (x : Nat) : Nd := (getL ns x).getD zeroNd
def valOf (vs : List (Nat × Value)) (x : Nat) : Value := (getL vs x).getD (ndV zeroNd (.slice none 0 0))
/-- What was found, as it lies. -/
structure WRow (w : World) (B0 B : Nat) (A : Option Addr) (c : Nat) (vs : List (Nat × Value)) (ns : List (Nat × Nd)) (L : List Nat) : Prop where
  box : w.heap[B]? = some (.cells #[.slice A L.length c] 108 (0, 0))
  lt : B < B0
  size : B0 ≤ w.heap.size
  row : L = [] ∨ ∃ g cur, A = some ⟨g, 0, none⟩ ∧ g < B0 ∧ w.heap[g]? = some (.cells cur 112 (0, 0)) ∧ cur.toList.take (L.length * 7) = fCells vs L
  kids : ∀ x ∈ L, ∃ A c, valOf vs x = ndV (ndOf ns x) (.slice A (ndOf ns x).kids.length c) ∧ IdSl w B0 (.slice A (ndOf ns x).kids.length c) (ndOf ns x).kids ∧ NdOk (ndOf ns x)
  long : L.length ≤ 1000000
theorem WRow.keep {w w' : World} {B0 B c : Nat} {A : Option Addr} {vs : List (Nat × Value)} {ns : List (Nat × Nd)} {L : List Nat} (h : WRow w B0 B A c vs ns L) (hk : KpW B0 w w') : WRow w' B0 B A c vs ns L := by
  refine ⟨hk.2 _ _ _ _ h.lt (.inl rfl) h.box, h.lt, Nat.le_trans h.size hk.1, ?_, fun x hx => ?_, h.long⟩
  · rcases h.row with e | ⟨g, cur, e, hg, hc, ht⟩
    · exact .inl e
    · exact .inr ⟨g, cur, e, hg, hk.2 _ _ _ _ hg (.inr (.inl rfl)) hc, ht⟩
  · obtain ⟨A, c, e, h1, h2⟩ := h.kids x hx
    exact ⟨A, c, e, h1.keep fun j cs z hj hc => (hk.2 _ _ _ _ hj (.inr (.inr rfl)) hc).trans hc.symm, h2⟩
theorem WRow.start {w w' : World} {base ga gm gp N B c : Nat} {A : Option Addr} {F : PF} {vs : List (Nat × Value)} {ns : List (Nat × Nd)} {L : List Nat} (h : AR w base ga gm gp F vs ns N) (hB : w'.heap[B]? = some (.cells #[.slice A L.length c] 108 (0, 0)))
    (hr : w'.ownsRow w.heap.size 112 7 (.slice A L.length c) L.length (fCells vs L)) (hb : Below w.heap.size w w') (hl : L.length ≤ 1000000) : WRow w' w'.heap.size B A c vs ns L := by
  refine ⟨hB, lt_of_heap2 hB, Nat.le_refl _, ?_, fun x hx => ?_, hl⟩
  · rcases hr.2 with ⟨e, h0⟩ | ⟨g, cap, cur, e, _, hg, _, _, _, ht⟩
    · exact .inl (List.eq_nil_of_length_eq_zero h0)
    · injection e with e1 e2 e3
      exact .inr ⟨g, cur, e1, lt_of_heap2 hg, hg, ht⟩
  · obtain ⟨A, c, e, h1, h2, _⟩ := (h.below hb).nodes.get x
    exact ⟨A, c, e, h1, h2⟩
theorem fCells_at {vs : List (Nat × Value)} : ∀ {L : List Nat} {k x j : Nat}, (∀ y ∈ L, (ndCells (valOf vs y)).length = 6) → L[k]? = some x → j < 7 → (fCells vs L)[k * 7 + j]? = (Value.int .u64 (x : Int) :: ndCells (valOf vs x))[j]?
  | [], k, x, j, _, h, _ => by cases h
  | y :: L, k, x, j, h6, h, hj => by
    have h1 := h6 y (by simp)
    have hc : fCells vs (y :: L) = (Value.int .u64 (y : Int) :: ndCells (valOf vs y)) ++ fCells vs L := by unfold fCells; rw [List.flatMap_cons]; rfl
    rw [hc]
    cases k with
    | zero =>
      injection h with h
      subst h
      rw [Nat.zero_mul, Nat.zero_add, List.getElem?_append_left (by rw [List.length_cons, h1]; omega)]
    | succ k =>
      rw [List.getElem?_append_right (by rw [List.length_cons, h1]; omega), List.length_cons, h1, show (k + 1) * 7 + j - (6 + 1) = k * 7 + j by omega]
      exact fCells_at (fun z hz => h6 z (by simp [hz])) h hj
end Go.Proofs.Ytogkeoainejfcaa
