/- ARange, AMarks: joined by program (tools/merge.py). -/
import Derived.RangeFuncOwn
import Derived.Test.YtdphpjlhkamadaaZ11
import Derived.RangeFuncLeaves
namespace Go.Proofs.Ytdphpjlhkamadaa
open Go.RowKit Go.Shelf
set_option linter.unusedSimpArgs false
set_option linter.unusedVariables false
section
variable {P : Program}
theorem range_two {α : Type} {p p2 q : Tmp} {g : Operand} {assign body : Code} {Q : Exit → Act → World → Prop} {T : Array Value} {ds : List Deferred} {w : World} {m : Nat} (h1 : 1 ≤ m) (gf : Nat) (lb : Array Value) (hg : ({ tmps := T, defers := ds } : Act).eval g = .func (.func gf) #[] lb)
    (eg : ∀ args w, (callFunc gf args).run P w = .ok (.enter gf args) w) {e1 e2 : α → Value} {Kp : World → World → Prop} {S Sp : List α → Prop} {N : Nat} (hseq : SeqStopsK Fence.wide (m - 1) P gf lb (fun x => #[e1 x, e2 x]) Kp S Sp N w)
    (hKt : ∀ {A B C : World}, Kp A B → Kp B C → Kp A C) (hKb : ∀ (W : World) (l : Nat) (o' : Obj), w.heap.size ≤ l → Kp W (W.putObj l o'))
    (I : List α → World → Prop) (hI : OwnFrom w.heap.size I) (h0 : I [] w)
    (hassign : ∀ (l : Nat) (x : α) (W : World) (K : Act → World → Prop), K { tmps := ((T.setIfInBounds p (e1 x)).setIfInBounds p2 (e2 x)).setIfInBounds q (e2 x), defers := [] } W →
      assign.wpIn (Fence.wide.inRound l) (m - 1 - 1) P (Exit.then K (fun _ _ _ => False)) { tmps := (T.setIfInBounds p (e1 x)).setIfInBounds p2 (e2 x), defers := [] } W)
    (hbody : ∀ (l : Nat) (pre : List α) (x : α) (W : World), I pre W → pre.length < N → body.wpIn (Fence.wide.inRound l) (m - 1 - 1) P (ownPostG w.heap.size Kp I (fun _ _ _ => False) (pre ++ [x]) W) { tmps := ((T.setIfInBounds p (e1 x)).setIfInBounds p2 (e2 x)).setIfInBounds q (e2 x), defers := [] } W)
    (hdone : ∀ (D : Nat) (xs : List α) (W : World), w.heap.size ≤ D → S xs → I xs W → W.heap[D]? = some (.deferred (some [])) → Q .normal { tmps := T, defers := { target := .collected D, args := #[] } :: ds } W) :
    (Code.rangeFunc g #[p, p2] assign body).wpIn Fence.wide m P Q { tmps := T, defers := ds } w :=
  wpIn_rangeFunc_ownG (F := Fence.wide) rfl h1 hg trivial eg hseq (fun h k => hKt h k) (fun W l _ o' hl _ _ _ => hKb W l o' hl) (Below.refl _ _) (fun _ => rfl) I (fun _ _ _ => False) hI (fun _ _ _ _ _ hs _ _ => hs) h0 (fun x => { tmps := ((T.setIfInBounds p (e1 x)).setIfInBounds p2 (e2 x)).setIfInBounds q (e2 x), defers := [] }) (fun l x W K hK => by simpa using hassign l x W K hK) hbody hdone (fun _ _ _ _ _ _ h _ => h.elim)
end
end Go.Proofs.Ytdphpjlhkamadaa
namespace Go.Proofs.Ytdphpjlhkamadaa
open Go.RowKit Go.Shelf
set_option linter.unusedSimpArgs false
set_option linter.unusedVariables false
def marks (Ds : List Nat) : List Deferred := Ds.map fun D => { target := .collected D, args := #[] }
structure Marked (B : Nat) (Ds : List Nat) (w : World) : Prop where
  once : Ds.Pairwise (fun a b => b < a)
  mine : ∀ D ∈ Ds, B ≤ D
  shut : ∀ D ∈ Ds, w.heap[D]? = some (.deferred (some []))
theorem Marked.nil (B : Nat) (w : World) : Marked B [] w := ⟨List.Pairwise.nil, fun _ h => (by cases h), fun _ h => (by cases h)⟩
theorem Marked.at_ {B : Nat} {Ds : List Nat} {w w' : World} (h : Marked B Ds w) (hk : ∀ D : Nat, w.heap[D]? = some (.deferred (some [])) → w'.heap[D]? = some (.deferred (some []))) : Marked B Ds w' := ⟨h.once, h.mine, fun D hD => hk D (h.shut D hD)⟩
theorem Marked.more {B D : Nat} {Ds : List Nat} {w : World} (h : Marked B Ds w) (hD : B ≤ D) (hlt : ∀ E ∈ Ds, E < D) (hw : w.heap[D]? = some (.deferred (some []))) : Marked B (D :: Ds) w :=
  ⟨List.Pairwise.cons hlt h.once, fun E hE => by rcases List.mem_cons.1 hE with rfl | hE; exact hD; exact h.mine E hE, fun E hE => by rcases List.mem_cons.1 hE with rfl | hE; exact hw; exact h.shut E hE⟩
theorem putObj_below {B D : Nat} {w : World} (h : B ≤ D) (o : Obj) : Below B w (w.putObj D o) := by
  refine ⟨rfl, rfl, rfl, Nat.le_of_eq World.putObj_size.symm, fun k hk => World.putObj_heap_other (by omega)⟩
/-- What the marks' end leaves: all that is no mark. -/
def Unmarked (B : Nat) (w w' : World) : Prop := Below B w w' ∧ ∀ (k : Nat) (o : Obj), w.heap[k]? = some o → (∀ x, o ≠ Obj.deferred x) → w'.heap[k]? = some o
section
variable {P : Program} {F : Fence} {n : Nat}
theorem leaves_marked {fn : Func} {T : Array Value} {R : Ending → World → Prop} {B : Nat} : ∀ (Ds : List Nat) (w : World), Marked B Ds w → (∀ w', Unmarked B w w' → ∃ v, (results fn T).run P w' = .ok v w' ∧ R (.returned v) w') →
    LeavesInM F n P fn T R (marks Ds) .returning w
  | [], w, _, h => h w ⟨Below.refl _ _, fun _ _ hk _ => hk⟩
  | D :: Ds, w, hm, h => by
    have hD := hm.shut D (by simp)
    have ho := hm.once
    rw [List.pairwise_cons] at ho
    refine ⟨by simp, .inl ⟨D, _, rfl, run_takeDeferred hD, ?_⟩⟩
    refine leaves_marked Ds _ ⟨ho.2, fun E hE => hm.mine E (by simp [hE]), fun E hE => ?_⟩ fun w' hw' => h w' ⟨(putObj_below (hm.mine D (by simp)) _).trans hw'.1, fun k o hk hn => ?_⟩
    · have := ho.1 E hE
      rw [World.putObj_heap_other (by omega)]
      exact hm.shut E (by simp [hE])
    · refine hw'.2 k o ?_ hn
      rw [World.putObj_heap_other (fun e => by rw [e, hD] at hk; injection hk with hk; exact hn _ hk.symm)]
      exact hk
/-- A loop whose rounds leave marks. -/
theorem wp_loop_marks {c : Code} {Q : Exit → Act → World → Prop} {T : Array Value} {Ds : List Nat} {w : World} (I : Array Value → List Nat → World → Prop) (μ : Array Value → World → Nat) (h₀ : I T Ds w)
    (round : ∀ T Ds w, I T Ds w → c.wp P (Exit.then (fun a' w' => ∃ Ds', a'.defers = marks Ds' ∧ I a'.tmps Ds' w' ∧ μ a'.tmps w' < μ T w) Q) { tmps := T, defers := marks Ds } w) : (Code.loop c).wp P Q { tmps := T, defers := marks Ds } w := by
  refine wp_loop (fun a w => ∃ Ds, a.defers = marks Ds ∧ I a.tmps Ds w) (fun a w => μ a.tmps w) ⟨Ds, rfl, h₀⟩ ?_
  rintro ⟨T', ds'⟩ w' ⟨Ds', rfl, hI⟩
  refine wp_mono (round T' Ds' w' hI) fun e a'' w'' hq => ?_
  cases e with
  | normal => obtain ⟨Ds'', h1, h2, h3⟩ := hq; exact ⟨⟨Ds'', h1, h2⟩, h3⟩
  | exit id => exact hq
  | goto l => exact hq
  | ret => exact hq
  | panic ch => exact hq
  | outgrown => exact hq
end
end Go.Proofs.Ytdphpjlhkamadaa
