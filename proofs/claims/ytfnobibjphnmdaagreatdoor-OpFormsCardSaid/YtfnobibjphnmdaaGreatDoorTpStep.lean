/- Words that this seat's contracts share: what is hidden from the walk; what a call has changed. -/
import Derived.Test.YtfnobibjphnmdaaGreatDoorKStep
import Derived.Test.YtfnobibjphnmdaaGreatDoorRows
import Derived.Test.YtfnobibjphnmdaaGreatDoorTpTMath
import Derived.Test.YtfnobibjphnmdaaGreatDoorWords
import Derived.WalkKit
import Derived.Below
import Derived.OneCell
import Derived.Laws.BitsAllLaws
import Derived.Laws.Bits64
import Derived.Lib.Hide
namespace Go.Proofs.YtfnobibjphnmdaaGreatDoor
open Go.RowKit

theorem Bytes.along {w w' : World} {v : Value} {l : List Nat} (h : Bytes w w.heap.size v l) (hb : Below w.heap.size w w') : Bytes w' w'.heap.size v l := (h.below hb).up hb.size
/-- w' is w but for block g, the block r, and new ones. -/
structure Chg (w w' : World) (g : Nat) (r : Option Nat) : Prop where
  os : w'.os = w.os
  tape : w'.tape = w.tape
  output : w'.output = w.output
  size : w.heap.size ≤ w'.heap.size
  block : ∀ k, k < w.heap.size → k ≠ g → some k ≠ r → w'.heap[k]? = w.heap[k]?
/-- Where a row has gone: it is where it was, or in a new block. -/
def Goes (w : World) (r r' : Option Nat) : Prop := r' = r ∨ ∃ k, r' = some k ∧ w.heap.size ≤ k
section
variable {w w' w'' : World} {g : Nat} {r r' : Option Nat}
theorem Goes.refl (w : World) (r : Option Nat) : Goes w r r := .inl rfl
theorem Goes.trans {r'' : Option Nat} (h : Goes w r r') (hs : w.heap.size ≤ w'.heap.size) (k : Goes w' r' r'') : Goes w r r'' := by
  rcases k with rfl | ⟨j, rfl, hj⟩
  · exact h
  · exact .inr ⟨j, rfl, Nat.le_trans hs hj⟩
theorem Chg.refl (w : World) (g : Nat) (r : Option Nat) : Chg w w g r := ⟨rfl, rfl, rfl, Nat.le_refl _, fun _ _ _ _ => rfl⟩
theorem Chg.trans (h : Chg w w' g r) (hr : Goes w r r') (k : Chg w' w'' g r') : Chg w w'' g r :=
  ⟨k.os.trans h.os, k.tape.trans h.tape, k.output.trans h.output, Nat.le_trans h.size k.size, fun i hi h1 h2 => (k.block i (Nat.lt_of_lt_of_le hi h.size) h1 (by
    rcases hr with rfl | ⟨j, rfl, hj⟩
    · exact h2
    · intro e; injection e with e; omega)).trans (h.block i hi h1 h2)⟩
theorem Chg.of_below (h : Below w.heap.size w w') (g : Nat) (r : Option Nat) : Chg w w' g r := ⟨h.os, h.tape, h.output, h.size, fun i hi _ _ => h.block i hi⟩
theorem Chg.of_grown (h : w.grownBy w' r) (g : Nat) : Chg w w' g r := ⟨h.os, h.tape, h.output, h.size, fun i hi _ h2 => h.block i hi h2⟩
theorem Chg.set (w : World) (g i : Nat) (u : Value) (r : Option Nat) : Chg w (w.setCell ⟨g, i, none⟩ u) g r :=
  ⟨rfl, rfl, rfl, by simp [World.setCell], fun k _ h _ => Below.heap_setCell _ _ _ _ h⟩
theorem Chg.none_ (h : Chg w w' g none) (r : Option Nat) : Chg w w' g r := ⟨h.os, h.tape, h.output, h.size, fun i hi h1 _ => h.block i hi h1 (by simp)⟩
/-- What has changed lies from B on: below, all is as it was. -/
theorem Chg.below (h : Chg w w' g r) {B : Nat} {a : World} (ha : Below B a w) (hB : B ≤ w.heap.size) (hg : B ≤ g) (hr : ∀ k, r = some k → B ≤ k) : Below B a w' :=
  ha.trans ⟨h.os, h.tape, h.output, h.size, fun k hk => h.block k (by omega) (by omega) (fun e => by have := hr k e.symm; omega)⟩
theorem Chg.heap (h : Chg w w' g r) {k : Nat} {o : Obj} (hk : w.heap[k]? = some o) (h1 : k ≠ g) (h2 : some k ≠ r) : w'.heap[k]? = some o := (h.block k (lt_of_heap hk) h1 h2).trans hk
end
end Go.Proofs.YtfnobibjphnmdaaGreatDoor
