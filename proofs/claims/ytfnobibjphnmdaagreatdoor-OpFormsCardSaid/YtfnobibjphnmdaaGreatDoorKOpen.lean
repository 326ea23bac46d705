/- A slice of bytes that came in. -/
import Derived.Test.YtfnobibjphnmdaaGreatDoorKStep
import Derived.ProofKit
import Derived.OpenShut
namespace Go.Proofs.YtfnobibjphnmdaaGreatDoor
open Go.RowKit
set_option linter.unusedSimpArgs false
set_option linter.unusedVariables false
/-- A slice of bytes that came in reads as bytes. -/
theorem bytes_of_row {w : World} {a : Option Addr} {len cap : Nat} {zs : List Int}
    (h : (a = none ∧ len = 0 ∧ cap = 0 ∧ zs = []) ∨ ∃ x, a = some x ∧ len ≤ cap ∧ cap ≤ maxLen ∧ zs.length = cap ∧ (∀ i, i < zs.length → w.cell? (x.add i) = some (.int .u8 (zs.getD i 0))) ∧ ∀ n ∈ zs, (Lit.int .u8 n).wf = true) :
    ∃ l, Bytes w w.heap.size (.slice a len cap) l ∧ len = l.length := by
  rcases h with ⟨rfl, rfl, rfl, rfl⟩ | ⟨x, rfl, hl, hm, hz, hc, hw⟩
  · exact ⟨[], Bytes.none_ _ _, rfl⟩
  · have hlen : ((zs.take len).map Int.toNat).length = len := by rw [List.length_map, List.length_take]; omega
    refine ⟨(zs.take len).map Int.toNat, ⟨⟨some x, cap, by rw [hlen], ?_, by rw [hlen]; exact hl, fun e => by cases e⟩, ?_, by rw [hlen]; omega⟩, hlen.symm⟩
    · intro j v hj
      have hjl : j < len := by
        rcases Nat.lt_or_ge j len with h1 | h1
        · exact h1
        · rw [List.getElem?_eq_none (by rw [byt_length, hlen]; exact h1)] at hj; cases hj
      have hcell := hc j (by omega)
      have hb := World.block_lt_of_cell? w _ hcell
      rw [addr_add_block] at hb
      refine ⟨x, rfl, hb, ?_⟩
      rw [hcell]
      rw [byt_at, List.getElem?_map, List.getElem?_take, if_pos hjl, List.getElem?_eq_getElem (by omega)] at hj
      simp only [Option.map_some, Option.some.injEq] at hj
      rw [← hj]
      have hz0 : (zs.getD j 0) = zs[j]'(by omega) := by rw [List.getD_eq_getElem?_getD, List.getElem?_eq_getElem (by omega)]; rfl
      have hwf := bounds_u8 (hw _ (List.getElem_mem (by omega : j < zs.length)))
      rw [hz0]
      congr 2
      omega
    · intro b hb
      obtain ⟨n, hn, rfl⟩ := List.mem_map.1 hb
      have hwf := bounds_u8 (hw n (List.mem_of_mem_take hn))
      omega

theorem bytes_of_cells {W : World} {A : Option Addr} {L C : Nat} {zs : List Int} (hl : L ≤ C) (hm : C ≤ maxLen) (hz : zs.length = C) (hw : ∀ n ∈ zs, (Lit.int .u8 n).wf = true) (x : Addr) (hA : A = some x)
    (hc : ∀ i, i < zs.length → W.cell? (x.add i) = some (.int .u8 (zs.getD i 0))) : ∃ l, Bytes W W.heap.size (.slice A L C) l := by
  subst hA
  obtain ⟨l, hb, _⟩ := bytes_of_row (w := W) (a := some x) (len := L) (cap := C) (zs := zs) (.inr ⟨x, rfl, hl, hm, hz, hc, hw⟩)
  exact ⟨l, hb⟩
end Go.Proofs.YtfnobibjphnmdaaGreatDoor
