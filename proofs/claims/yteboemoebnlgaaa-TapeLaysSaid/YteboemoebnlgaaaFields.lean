/- Words: a row of fields of the call's own; what a Reader's and a Writer's steps leave of all else. -/
import Derived.Test.YteboemoebnlgaaaTakeMath
import Derived.Test.YteboemoebnlgaaaTapeSizesWalk
namespace Go.Proofs.Yteboemoebnlgaaa
open Go.RowKit
set_option linter.unusedSimpArgs false
set_option linter.unusedVariables false

theorem fewF_ok {f : Fd} (h : f.ok) : (fewF f).ok ∧ (fewF f).s.size ≤ 40 ∧ ((fewF f).k % 5 = 2 → (fewF f).M < 1000) := by
  obtain ⟨h1, h2, h3, h4⟩ := h
  have hc := cutS_size f.s 40
  refine ⟨⟨h1, h2, ?_, ?_⟩, hc, ?_⟩
  · unfold fewF
    show (if f.k % 5 = 2 then f.M % 1000 else f.M) < _
    split <;> omega
  · show (cutS f.s 40).size ≤ maxLen
    unfold maxLen
    omega
  · intro hk
    have hk' : f.k % 5 = 2 := hk
    show (if f.k % 5 = 2 then f.M % 1000 else f.M) < 1000
    rw [if_pos hk']
    omega
theorem fewL_ok {l : List Fd} (h : ∀ f ∈ l, f.ok) : ∀ f ∈ fewL l, f.ok ∧ f.s.size ≤ 40 ∧ (f.k % 5 = 2 → f.M < 1000) := by
  intro f hf
  obtain ⟨g, hg, rfl⟩ := List.mem_map.1 hf
  exact fewF_ok (h g (List.mem_of_mem_take hg))
/-- A row of fields of the call's own. -/
def Row (w : World) (base : Nat) (v : Value) (l : List Fd) : Prop := w.ownsRow base 30 4 v l.length (fcs l)
theorem Row.form {w : World} {base : Nat} {v : Value} {l : List Fd} (h : Row w base v l) : ∃ A c, v = .slice A l.length c := by
  rcases h.2 with ⟨rfl, h0⟩ | ⟨g, cap, cur, rfl, _⟩
  · exact ⟨none, 0, by rw [h0]⟩
  · exact ⟨_, _, rfl⟩
theorem Row.fields {w : World} {base : Nat} {A : Option Addr} {n c : Nat} {l : List Fd} (h : Row w base (.slice A n c) l) (hok : ∀ f ∈ l, f.ok) (hl : l.length ≤ maxLen) : Fields w w.heap.size (.slice A n c) l := by
  obtain ⟨A', c', hv⟩ := h.form
  injection hv with e1 e2 e3
  subst e1 e2 e3
  refine ⟨⟨A, c, rfl, ?_, ?_⟩, hok, hl⟩
  · intro j v hj
    have hlj : j < (fcs l).length := by
      rcases Nat.lt_or_ge j (fcs l).length with h1 | h1
      · exact h1
      · rw [List.getElem?_eq_none h1] at hj; cases hj
    rcases h.2 with ⟨_, h0⟩ | ⟨g, cap, cur, hv, _, hh, _⟩
    · rw [fcs_length, h0] at hlj; omega
    · have hA : A = some ⟨g, 0, none⟩ := by injection hv
      subst hA
      exact ⟨_, rfl, lt_of_heap hh, World.ownsRow.cells h (g := g) rfl j v hj⟩
  · rcases h.2 with ⟨hv, _⟩ | ⟨g, cap, cur, hv, _, _, hc, _⟩
    · injection hv with _ e2 e3
      omega
    · injection hv with _ e2 e3
      omega
theorem Row.chg {w w' : World} {base g : Nat} {v : Value} {l : List Fd} {cs : Array Value} {t : TypeId} (h : Row w base v l) (hC : Chg w w' g none) (hg : w.heap[g]? = some (.cells cs t (0, 0))) (ht : 30 ≠ t) : Row w' base v l :=
  ownsRow_keep h fun k hk => hC.block k (own_block_lt h hk).2 (fun e => own_ne h hg ht (by rw [hk, e])) (by simp)
theorem Row.below {w w' : World} {base : Nat} {v : Value} {l : List Fd} (h : Row w base v l) (hb : Below w.heap.size w w') : Row w' base v l := ownsRow_below h hb
theorem Mine.chgR {w w' : World} {base m c g : Nat} {A : Option Addr} {l : List Nat} {cs : Array Value} (h : Mine w base A m c l) (hC : Chg w w' g none) (hg : w.heap[g]? = some (.cells cs 65 (0, 0))) : Mine w' base A m c l :=
  h.keep fun k hk => hC.block k (own_block_lt h.own hk).2 (fun e => own_ne h.own hg (by decide) (by rw [hk, e])) (by simp)
theorem Wtr.chgR {w w' : World} {base gw g : Nat} {v : Value} {l : List Nat} {cs : Array Value} (h : Wtr w base gw v l) (hC : Chg w w' g none) (hg : w.heap[g]? = some (.cells cs 65 (0, 0))) : Wtr w' base gw v l :=
  h.keep fun k hk => by
    rcases hk with rfl | e
    · refine hC.block k (lt_of_heap h.st) (fun e => ?_) (by simp)
      subst e
      have h1 := h.st
      rw [hg] at h1
      injection h1 with h1
      injection h1 with _ h1
      exact absurd h1 (by decide)
    · exact hC.block k (own_block_lt h.own e).2 (fun e2 => own_ne h.own hg (by decide) (by rw [e, e2])) (by simp)
/-- Behind what lies from B on. -/
theorem Chg.far {w w' W : World} {B g gr : Nat} {r : Option Nat} (hW : Chg W w gr none) (hC : Chg w w' g r) (hB : W.heap.size ≤ B) (hg : B ≤ g) (hr : ∀ k, r = some k → B ≤ k) : Chg W w' gr none :=
  ⟨hC.os.trans hW.os, hC.tape.trans hW.tape, hC.output.trans hW.output, Nat.le_trans hW.size hC.size, fun k hk h1 h2 => (hC.block k (Nat.lt_of_lt_of_le hk hW.size) (by omega) (fun e => by have := hr k e.symm; omega)).trans (hW.block k hk h1 h2)⟩
theorem Chg.alloc {w W : World} {gr : Nat} {r : Option Nat} (hW : Chg W w gr r) (o : Obj) : Chg W (w.alloc o) gr r :=
  ⟨hW.os, hW.tape, hW.output, by have := hW.size; simp; omega, fun k hk h1 h2 => (Go.heap_alloc_old w o (Nat.lt_of_lt_of_le hk hW.size)).trans (hW.block k hk h1 h2)⟩
theorem Rdr.writ {w w' : World} {B g gw : Nat} {v : Value} {bad : Bool} {l : List Nat} {r : Option Nat} (h : Rdr w B g v bad l) (hC : Chg w w' gw r) (hg : g < gw) (hr : ∀ k, r = some k → g < k) : Rdr w' B g v bad l :=
  h.keep fun k hk => hC.block k (Nat.lt_of_le_of_lt hk (lt_of_heap h.st)) (by omega) (fun e => by have := hr k e.symm; omega)
end Go.Proofs.Yteboemoebnlgaaa
