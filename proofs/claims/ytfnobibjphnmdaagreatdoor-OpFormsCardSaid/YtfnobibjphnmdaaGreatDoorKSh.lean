/- Contracts of the library's functions that are called here, as the shelf has them, in this seat's numbers. -/
import Derived.Test.YtfnobibjphnmdaaGreatDoorKStep
import Derived.Test.YtfnobibjphnmdaaGreatDoorKLaid
import Derived.Lib.SmallJoins
import Derived.Lib.AtoiErrMem
import Derived.Lib.AppendIntMem
import Derived.Lib.IndexLaws
import Derived.Lib.ParseIntB
import Derived.Lib.ItoaNum
import Derived.Lib.Strings
import Derived.Lib.LaidTab
import Derived.Lib.Join
import Derived.Lib.SlicesS
namespace Go.Proofs.YtfnobibjphnmdaaGreatDoor
open Go.RowKit
set_option linter.unusedVariables false

/-- What the library's variables hold. -/
structure Vr (w : World) : Prop where
  syn : ∃ tp p, w.var? Tryz.prog "strconv.ErrSyntax" = some #[.iface tp p]
  rng : ∃ tp p, w.var? Tryz.prog "strconv.ErrRange" = some #[.iface tp p]
  tab : Lib.TabIs Tryz.prog w "internal/strconv.uint64pow10" .u64 Lib.pow10Tab
theorem var_on {w w' : World} {n : String} {cs : Array Value} (h : w.var? Tryz.prog n = some cs) (hb : Below w.heap.size w w') : w'.var? Tryz.prog n = some cs := by
  cases hg : (Tryz.prog).globalNamed n with
  | none => unfold World.var? at h; rw [hg] at h; cases h
  | some g => exact Joins.var_stays hg h hb (Nat.le_refl _)
theorem Vr.below {w w' : World} (h : Vr w) (hb : Below w.heap.size w w') : Vr w' := by
  obtain ⟨⟨t1, p1, h1⟩, ⟨t2, p2, h2⟩, h3⟩ := h
  exact ⟨⟨t1, p1, var_on h1 hb⟩, ⟨t2, p2, var_on h2 hb⟩, var_on h3 hb⟩
theorem contains_any (w : World) (b n c : Nat) (zs : List ByteArray) (x : ByteArray) (hz : zs.length = n) (hn : n ≤ 100) (hc : ∀ j y, zs[j]? = some y → w.cell? ⟨b, j, none⟩ = some (.string y)) :
    Calls Tryz.prog 64 #[.slice (some ⟨b, 0, none⟩) n c, .string x] w fun e w' => e = .returned (.bool (Lib.containsS zs x)) ∧ w = w' := by
  have H := Tryz.slices_Contains_string b 0 n c zs x w (by omega) (by omega) fun j hj => by
    rw [Nat.zero_add]
    exact hc j _ (by rw [List.getD_eq_getElem?_getD, List.getElem?_eq_getElem hj]; rfl)
  rw [List.take_of_length_le (by omega)] at H
  exact H.mono fun e w' ⟨h, h2⟩ => ⟨h, h2.symm⟩
theorem clone_any (w : World) (s : ByteArray) (hs : s.size ≤ 281474976710656) :
    Calls Tryz.prog 41 #[.string s] w fun e w' => e = .returned (.string s) ∧ Below w.heap.size w w' := by
  have H := fun (x : World) => hide (Tryz.stringslite_Clone s x hs)
  go_enter Tryz.func41, Tryz.ntmps41
  go_wp2_with (go_at_call 60; (with_reducible refine (unhide (H _)).mono ?_); rintro e w1 ⟨rfl, hb⟩; have HB := Lib.hid hb; clear hb)
  go_ret
  exact ⟨rfl, HB.out⟩
theorem joins_any (w : World) (b n c : Nat) (xs : List ByteArray) (hn : xs.length = n) (hc : ∀ j x, xs[j]? = some x → w.cell? ⟨b, j, none⟩ = some (.string x)) (hb : b < w.heap.size) (hcap : n ≤ c) (hN : n ≤ 140737488355328) (hlen : (Lib.join (xs.map (·.data.toList)) [32]).length ≤ 140737488355328) :
    Calls Tryz.prog 31 #[.slice (some ⟨b, 0, none⟩) n c, .string ⟨#[32]⟩] w fun e w' => e = .returned (.string ⟨(Lib.join (xs.map (·.data.toList)) [32]).toArray⟩) ∧ Below w.heap.size w w' := by
  subst hn
  exact Tryz.strings_Join b 0 c xs ⟨#[32]⟩ w (fun j x h => by rw [Nat.zero_add]; exact hc j x h) hb hN hcap hlen
end Go.Proofs.YtfnobibjphnmdaaGreatDoor
