/- An argument that is a slice of 16-bit numbers. -/
import Derived.Test.YtpmgihfdiahfdaaZ4
import Derived.ProofKit
import Derived.WalkKit
import Derived.OpenShut
namespace Go.Proofs.Ytpmgihfdiahfdaa
open Go.RowKit Go.ChangeShapes Go.WideShapes Go.ChangeAt
set_option linter.unusedSimpArgs false
set_option linter.unusedVariables false
def w16 (l : List Nat) : List Value := l.map fun (n : Nat) => Value.int .u16 (n : Int)
def U16s (w : World) (B : Nat) (v : Value) (l : List Nat) : Prop := ∃ A c, v = .slice A l.length c ∧ Lies w B A (w16 l) ∧ l.length ≤ maxLen ∧ ∀ n ∈ l, n < 65536
theorem U16s.none_ (w : World) (B : Nat) : U16s w B (.slice none 0 0) [] := ⟨none, 0, rfl, Lies.nil _ _ _, by unfold maxLen; simp, fun n h => by cases h⟩
theorem wf_u16 {n : Int} (h : (Lit.int .u16 n).wf = true) : 0 ≤ n ∧ n < 65536 := by
  have := bounds_u16 h
  omega
theorem u16s_of_cells {w : World} {L C : Nat} {zs : List Int} (hl : L ≤ C) (hm : C ≤ maxLen) (hz : zs.length = C) (hw : ∀ n ∈ zs, (Lit.int .u16 n).wf = true) (x : Addr)
    (hc : ∀ i, i < zs.length → w.cell? (x.add i) = some (.int .u16 (zs.getD i 0))) : ∃ l, U16s w w.heap.size (.slice (some x) L C) l := by
  have hlen : ((zs.take L).map Int.toNat).length = L := by rw [List.length_map, List.length_take]; omega
  refine ⟨(zs.take L).map Int.toNat, some x, C, by rw [hlen], ?_, by rw [hlen]; omega, ?_⟩
  · intro j v hj
    unfold w16 at hj
    have hjl : j < L := by
      rcases Nat.lt_or_ge j L with h1 | h1
      · exact h1
      · rw [List.getElem?_eq_none (by rw [List.length_map, hlen]; exact h1)] at hj; cases hj
    have hcell := hc j (by omega)
    have hb := World.block_lt_of_cell? w _ hcell
    rw [addr_add_block] at hb
    refine ⟨x, rfl, hb, ?_⟩
    rw [hcell]
    rw [List.getElem?_map, List.getElem?_map, List.getElem?_take, if_pos hjl, List.getElem?_eq_getElem (by omega)] at hj
    simp only [Option.map_some, Option.some.injEq] at hj
    rw [← hj]
    have hz0 : (zs.getD j 0) = zs[j]'(by omega) := by rw [List.getD_eq_getElem?_getD, List.getElem?_eq_getElem (by omega)]; rfl
    have hwf := wf_u16 (hw _ (List.getElem_mem (by omega : j < zs.length)))
    rw [hz0, Int.toNat_of_nonneg hwf.1]
  · intro n hn
    obtain ⟨z, hz1, rfl⟩ := List.mem_map.1 hn
    have hwf := wf_u16 (hw z (List.mem_of_mem_take hz1))
    omega
end Go.Proofs.Ytpmgihfdiahfdaa
