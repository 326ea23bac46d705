/- Contracts: the lists of the keywords and of the signs; what stands in such a list. -/
import Derived.Test.YtfnobibjphnmdaaGreatDoorKSh
import Derived.Deep.Draws
namespace Go.Proofs.YtfnobibjphnmdaaGreatDoor
open Go.RowKit
set_option linter.unusedSimpArgs false
set_option linter.unusedVariables false
def wordsB : List ByteArray := [⟨#[98, 111, 111, 108]⟩, ⟨#[100, 111]⟩, ⟨#[101, 108, 115, 101]⟩, ⟨#[102, 97, 108, 115, 101]⟩, ⟨#[102, 117, 110, 99]⟩, ⟨#[105, 102]⟩, ⟨#[105, 110, 116]⟩, ⟨#[108, 101, 116]⟩, ⟨#[109, 111, 100, 117, 108, 101]⟩, ⟨#[112, 114, 105, 110, 116]⟩, ⟨#[114, 101, 97, 100]⟩, ⟨#[114, 101, 116, 117, 114, 110]⟩, ⟨#[116, 114, 117, 101]⟩, ⟨#[119, 104, 105, 108, 101]⟩]
def signsB : List ByteArray := [⟨#[40]⟩, ⟨#[41]⟩, ⟨#[123]⟩, ⟨#[125]⟩, ⟨#[46]⟩, ⟨#[44]⟩, ⟨#[59]⟩, ⟨#[61]⟩, ⟨#[33]⟩, ⟨#[43]⟩, ⟨#[45]⟩, ⟨#[42]⟩, ⟨#[47]⟩, ⟨#[37]⟩, ⟨#[60]⟩, ⟨#[60, 61]⟩, ⟨#[62]⟩, ⟨#[62, 61]⟩, ⟨#[61, 61]⟩, ⟨#[33, 61]⟩, ⟨#[38, 38]⟩, ⟨#[124, 124]⟩]
theorem wordsB_str : wordsB.map str = wordsL := by decide
theorem signsB_str : signsB.map str = signsL := by decide
/-- v is a row of these strings, in a block of its own. -/
def SRow (w0 w : World) (v : Value) (zs : List ByteArray) : Prop :=
  ∃ b, v = .slice (some ⟨b, 0, none⟩) zs.length zs.length ∧ w0.heap.size ≤ b ∧ b < w.heap.size ∧ (∀ j x, zs[j]? = some x → w.cell? ⟨b, j, none⟩ = some (.string x)) ∧ Below w0.heap.size w0 w
theorem srow_new (w : World) (t : TypeId) (zs : List ByteArray) : SRow w (w.alloc (.cells (zs.map Value.string).toArray t)) (.slice (some ⟨w.heap.size, 0, none⟩) zs.length zs.length) zs := by
  refine ⟨_, rfl, Nat.le_refl _, by simp, fun j x h => ?_, (Below.refl _ w).alloc (Nat.le_refl _) _⟩
  rw [World.cell?_alloc_at _ _ _ _ rfl]
  simp [h]
set_option maxRecDepth 100000 in
set_option maxHeartbeats 1000000 in
theorem words_any (w : World) : Calls Tryz.prog 65 #[] w fun e w' => ∃ v, e = .returned v ∧ SRow w w' v wordsB := by
  go_enter Tryz.func65, Tryz.ntmps65
  go_wp2
  go_ret
  exact ⟨_, rfl, srow_new w _ wordsB⟩
set_option maxRecDepth 100000 in
set_option maxHeartbeats 1000000 in
theorem rwords_any (w : World) : Calls Tryz.prog 46 #[] w fun e w' => ∃ v, e = .returned v ∧ SRow w w' v wordsB := by
  go_enter Tryz.func46, Tryz.ntmps46
  go_wp2
  go_ret
  exact ⟨_, rfl, srow_new w _ wordsB⟩
end Go.Proofs.YtfnobibjphnmdaaGreatDoor
