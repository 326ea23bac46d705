/- Several ranges over functions within one call: the marks that they leave behind, a loop that gathers them, and how a call ends with them. -/
import Derived.RangeFuncLeaves
import Derived.RangeFuncOwn
import Derived.Test.YtogkeoainejfcaaARange
namespace Go.Proofs.Ytogkeoainejfcaa
open Go.RowKit Go.Shelf
set_option linter.unusedSimpArgs false
set_option linter.unusedVariables false
def marks (Ds : List Nat) : List Deferred := Ds.map fun D => { target := .collected D, args := #[] }
structure Marked (B : Nat) (Ds : List Nat) (w : World) : Prop where
  once : Ds.Pairwise (fun a b => b < a)
  mine : ∀ D ∈ Ds, B ≤ D
  shut : ∀ D ∈ Ds, w.heap[D]? = some (.deferred (some []))
theorem Marked.nil (B : Nat) (w : World) : Marked B [] w := ⟨List.Pairwise.nil, fun _ h => (by cases h), fun _ h => (by cases h)⟩
theorem Marked.at_ {B : Nat} {Ds : List Nat} {w w' : World} (h : Marked B Ds w) (hk : ∀ D : Nat, w.heap[D]? = some (.deferred (some [])) → w'.heap[D]? = some (.deferred (some []))) : Marked B Ds w' := ⟨h.once, h.mine, fun D hD => hk D (h.shut D hD)⟩
theorem Marked.more {B D : Nat} {Ds : List Nat} {w : World} (h : Marked B Ds w) (hD : B ≤ D) (hlt : ∀ E ∈ Ds, E < D) (hw : w.heap[D]? = some (.deferred (some []))) : Marked B (D :: Ds) w :=
  ⟨List.Pairwise.cons hlt h.once, fun E hE => by rcases List.mem_cons.1 hE with rfl | hE; exact hD; exact h.mine E hE, fun E hE => by rcases List.mem_cons.1 hE with rfl | hE; exact hw; exact h.shut E hE⟩
theorem putObj_below {B D : Nat} {w : World} (h : B ≤ D) (o : Obj) : Below B w (w.putObj D o) := by
  refine ⟨rfl, rfl, rfl, Nat.le_of_eq World.putObj_size.symm, fun k hk => World.putObj_heap_other (by omega)⟩
/-- What the marks' end leaves: all that is no mark. -/
def Unmarked (B : Nat) (w w' : World) : Prop := Below B w w' ∧ ∀ (k : Nat) (o : Obj), w.heap[k]? = some o → (∀ x, o ≠ Obj.deferred x) → w'.heap[k]? = some o
section
variable {P : Program} {F : Fence} {n : Nat}
theorem leaves_marked {fn : Func} {T : Array Value} {R : Ending → World → Prop} {B : Nat} : ∀ (Ds : List Nat) (w : World), Marked B Ds w → (∀ w', Unmarked B w w' → ∃ v, (results fn T).run P w' = .ok v w' ∧ R (.returned v) w') →
    LeavesInM F n P fn T R (marks Ds) .returning w
  | [], w, _, h => h w ⟨Below.refl _ _, fun _ _ hk _ => hk⟩
  | D :: Ds, w, hm, h => by
    have hD := hm.shut D (by simp)
    have ho := hm.once
    rw [List.pairwise_cons] at ho
    refine ⟨by simp, .inl ⟨D, _, rfl, run_takeDeferred hD, ?_⟩⟩
    refine leaves_marked Ds _ ⟨ho.2, fun E hE => hm.mine E (by simp [hE]), fun E hE => ?_⟩ fun w' hw' => h w' ⟨(putObj_below (hm.mine D (by simp)) _).trans hw'.1, fun k o hk hn => ?_⟩
    · have := ho.1 E hE
      rw [World.putObj_heap_other (by omega)]
      exact hm.shut E (by simp [hE])
    · refine hw'.2 k o ?_ hn
      rw [World.putObj_heap_other (fun e => by rw [e, hD] at hk; injection hk with hk; exact hn _ hk.symm)]
      exact hk
/-- A loop whose rounds leave marks. -/
theorem wp_loop_marks {c : Code} {Q : Exit → Act → World → Prop} {T : Array Value} {Ds : List Nat} {w : World} (I : Array Value → List Nat → World → Prop) (μ : Array Value → World → Nat) (h₀ : I T Ds w)
    (round : ∀ T Ds w, I T Ds w → c.wp P (Exit.then (fun a' w' => ∃ Ds', a'.defers = marks Ds' ∧ I a'.tmps Ds' w' ∧ μ a'.tmps w' < μ T w) Q) { tmps := T, defers := marks Ds } w) : (Code.loop c).wp P Q { tmps := T, defers := marks Ds } w := by
  refine wp_loop (fun a w => ∃ Ds, a.defers = marks Ds ∧ I a.tmps Ds w) (fun a w => μ a.tmps w) ⟨Ds, rfl, h₀⟩ ?_
  rintro ⟨T', ds'⟩ w' ⟨Ds', rfl, hI⟩
  refine wp_mono (round T' Ds' w' hI) fun e a'' w'' hq => ?_
  cases e with
  | normal => obtain ⟨Ds'', h1, h2, h3⟩ := hq; exact ⟨⟨Ds'', h1, h2⟩, h3⟩
  | exit id => exact hq
  | goto l => exact hq
  | ret => exact hq
  | panic ch => exact hq
  | outgrown => exact hq
end
end Go.Proofs.Ytogkeoainejfcaa
