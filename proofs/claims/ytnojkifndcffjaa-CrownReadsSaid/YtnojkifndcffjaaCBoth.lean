/- Both sectors of the crowns after so many writes. -/
import Derived.Test.YtnojkifndcffjaaCBad
import Derived.Test.YtnojkifndcffjaaCAwake
import Derived.Laws.StructEq
import Derived.OpenShut
namespace Go.Proofs.Ytnojkifndcffjaa
open Go.RowKit
set_option linter.unusedSimpArgs false
set_option linter.unusedVariables false

/-- The crowns that stand in both sectors after so many writes. -/
def exoN (n : Nat) : Nat → Option (Nat × Nat × Nat) := fun i => if i = (n + 1) % 2 then some (n + 1, n % 2, n) else if n = 0 then none else some (n, (n - 1) % 2, n - 1)
theorem exoN_best {n : Nat} (h : n ≤ 5) : bestOf (exoN n) 2 = some (n + 1, n % 2, n) := by
  rcases (show n = 0 ∨ n = 1 ∨ n = 2 ∨ n = 3 ∨ n = 4 ∨ n = 5 by omega) with rfl | rfl | rfl | rfl | rfl | rfl <;> rfl
def Both (n : Nat) (dur : List (List Nat)) : Prop := ∀ i, i < 2 → ∃ s, dur[i]? = some s ∧ Holds s i (exoN n i)
theorem both_next {n : Nat} {dur : List (List Nat)} (h : Both n dur) (hn : n ≤ 5) (hl : dur.length = 10) : Both (n + 1) (dur.set ((n + 2) % 2) (crownSec (n + 2) ((n + 1) % 2) (n + 1))) := by
  intro i hi
  by_cases hin : i = (n + 2) % 2
  · refine ⟨crownSec (n + 2) ((n + 1) % 2) (n + 1), by rw [hin, List.getElem?_set_self (by omega)], ?_⟩
    unfold exoN
    rw [if_pos hin]
    exact ⟨rfl, by show n + 2 < _; omega, by show (n + 1) % 2 ≤ 1; omega, by show n + 1 < _; omega, by show (n + 2) % 2 = i; omega⟩
  · obtain ⟨s, hs, hh⟩ := h i hi
    refine ⟨s, by rw [List.getElem?_set_ne (by omega)]; exact hs, ?_⟩
    have h1 : i = (n + 1) % 2 := by omega
    unfold exoN at hh ⊢
    rw [if_pos h1] at hh
    rw [if_neg hin, if_neg (by omega)]
    exact hh
theorem broken_of {n i a mask : Nat} {s : List Nat} (h : Holds s i (exoN n i)) (ha : a ≤ 4064) (hm : mask < 4294967296) (h0 : mask ≠ 0) : Broken (flip a mask s 32) := by
  cases ho : exoN n i with
  | none =>
    rw [ho] at h
    have h' : s = noughts := h
    rw [h']
    exact noughts_broken ha hm h0
  | some c =>
    rw [ho] at h
    obtain ⟨h1, _, h3, _, _⟩ := h
    rw [h1]
    exact crown_broken (by omega) ha hm h0
theorem half_next (n : Nat) : nextHalf (n % 2) = (n + 1) % 2 := by
  rcases (show n % 2 = 0 ∨ n % 2 = 1 by omega) with h | h
  · rw [h, show (n + 1) % 2 = 1 by omega]; rfl
  · rw [h, show (n + 1) % 2 = 0 by omega]; rfl
theorem disk_crown {w : World} {gs gc : Nat} {b : DB} {dur : List (List Nat)} {nw bud : Int} (h : Disk w gs b dur [] nw bud) (h1 : gs < gc) (h2 : b.gd < gc) (h3 : b.gl < gc) (h4 : b.pv = .slice none 0 0) (v0 v1 v2 : Value) :
    Disk (((w.setCell ⟨gc, 0, none⟩ v0).setCell ⟨gc, 1, none⟩ v1).setCell ⟨gc, 2, none⟩ v2) gs b dur [] nw bud :=
  h.only (((OnlyAt.setCell w gc 0 v0).trans (OnlyAt.setCell _ gc 1 v1)).trans (OnlyAt.setCell _ gc 2 v2)) (by omega) (by omega) (by omega) (fun g hg => by rw [h4] at hg; cases hg)
def RotsR (W : World) (n gs GD GL gc : Nat) (i : Value) (wr : World) : Prop :=
  ∃ (j cd cl : Nat) (nw : Int) (dur : List (List Nat)), j ≤ n ∧ i = .int .u8 (j : Int) ∧ Disk wr gs ⟨GD, cd, GL, cl, .slice none 0 0⟩ dur [] nw (-1) ∧ dur.length = 10 ∧ Both j dur ∧ 0 ≤ nw ∧ nw ≤ 100 + j ∧
    wr.heap[gc]? = some (.cells #[.int .u32 ((j + 1 : Nat) : Int), .int .u8 ((j % 2 : Nat) : Int), .int .u32 (j : Int)] 24 (0, 0)) ∧ Below W.heap.size W wr
theorem both_first {D : List (List Nat)} (hl : D.length = 10) : Both 0 ((wiped (applied [] D) 2).set 1 (crownSec 1 0 0)) := by
  intro i hi
  rcases (show i = 0 ∨ i = 1 by omega) with rfl | rfl
  · refine ⟨noughts, ?_, rfl⟩
    rw [List.getElem?_set_ne (by decide)]
    show ((wiped (applied [] D) 1).set 1 noughts)[0]? = some noughts
    rw [List.getElem?_set_ne (by decide)]
    show (((wiped (applied [] D) 0)).set 0 noughts)[0]? = some noughts
    rw [List.getElem?_set_self (by rw [wiped_length, applied_length]; omega)]
  · exact ⟨crownSec 1 0 0, by rw [List.getElem?_set_self (by rw [wiped_length, applied_length]; omega)], rfl, by decide, by decide, by decide, by decide⟩
end Go.Proofs.Ytnojkifndcffjaa
