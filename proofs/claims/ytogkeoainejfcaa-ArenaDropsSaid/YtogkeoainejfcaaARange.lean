/- The law of a loop over an iterator of two variables, of which the second is kept. -/
import Derived.RangeFuncOwn
import Derived.Test.YtogkeoainejfcaaAWalkMath
namespace Go.Proofs.Ytogkeoainejfcaa
open Go.RowKit Go.Shelf
set_option linter.unusedSimpArgs false
set_option linter.unusedVariables false
section
variable {P : Program}
theorem range_two {α : Type} {p p2 q : Tmp} {g : Operand} {assign body : Code} {Q : Exit → Act → World → Prop} {T : Array Value} {ds : List Deferred} {w : World} {m : Nat} (h1 : 1 ≤ m) (gf : Nat) (lb : Array Value) (hg : ({ tmps := T, defers := ds } : Act).eval g = .func (.func gf) #[] lb)
    (eg : ∀ args w, (callFunc gf args).run P w = .ok (.enter gf args) w) {e1 e2 : α → Value} {Kp : World → World → Prop} {S Sp : List α → Prop} {N : Nat} (hseq : SeqStopsK Fence.wide (m - 1) P gf lb (fun x => #[e1 x, e2 x]) Kp S Sp N w)
    (hKt : ∀ {A B C : World}, Kp A B → Kp B C → Kp A C) (hKb : ∀ (W : World) (l : Nat) (o' : Obj), w.heap.size ≤ l → Kp W (W.putObj l o'))
    (I : List α → World → Prop) (hI : OwnFrom w.heap.size I) (h0 : I [] w)
    (hassign : ∀ (l : Nat) (x : α) (W : World) (K : Act → World → Prop), K { tmps := ((T.setIfInBounds p (e1 x)).setIfInBounds p2 (e2 x)).setIfInBounds q (e2 x), defers := [] } W →
      assign.wpIn (Fence.wide.inRound l) (m - 1 - 1) P (Exit.then K (fun _ _ _ => False)) { tmps := (T.setIfInBounds p (e1 x)).setIfInBounds p2 (e2 x), defers := [] } W)
    (hbody : ∀ (l : Nat) (pre : List α) (x : α) (W : World), I pre W → pre.length < N → body.wpIn (Fence.wide.inRound l) (m - 1 - 1) P (ownPostG w.heap.size Kp I (fun _ _ _ => False) (pre ++ [x]) W) { tmps := ((T.setIfInBounds p (e1 x)).setIfInBounds p2 (e2 x)).setIfInBounds q (e2 x), defers := [] } W)
    (hdone : ∀ (D : Nat) (xs : List α) (W : World), w.heap.size ≤ D → S xs → I xs W → W.heap[D]? = some (.deferred (some [])) → Q .normal { tmps := T, defers := { target := .collected D, args := #[] } :: ds } W) :
    (Code.rangeFunc g #[p, p2] assign body).wpIn Fence.wide m P Q { tmps := T, defers := ds } w :=
  wpIn_rangeFunc_ownG (F := Fence.wide) rfl h1 hg trivial eg hseq (fun h k => hKt h k) (fun W l _ o' hl _ _ _ => hKb W l o' hl) (Below.refl _ _) (fun _ => rfl) I (fun _ _ _ => False) hI (fun _ _ _ _ _ hs _ _ => hs) h0 (fun x => { tmps := ((T.setIfInBounds p (e1 x)).setIfInBounds p2 (e2 x)).setIfInBounds q (e2 x), defers := [] }) (fun l x W K hK => by simpa using hassign l x W K hK) hbody hdone (fun _ _ _ _ _ _ h _ => h.elim)
end
end Go.Proofs.Ytogkeoainejfcaa
