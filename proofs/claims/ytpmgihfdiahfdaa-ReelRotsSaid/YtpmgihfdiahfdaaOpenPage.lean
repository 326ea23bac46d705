/- An argument that is a crown: its numbers. -/
import Derived.Test.YtpmgihfdiahfdaaZ4
import Derived.ProofKit
import Derived.WalkKit
namespace Go.Proofs.Ytpmgihfdiahfdaa
open Go.RowKit Go.ChangeShapes Go.WideShapes Go.ChangeAt
set_option linter.unusedSimpArgs false
set_option linter.unusedVariables false
set_option maxRecDepth 100000

theorem bytes_of_cells {W : World} {A : Option Addr} {L C : Nat} {zs : List Int} (hl : L ≤ C) (hm : C ≤ maxLen) (hz : zs.length = C) (hw : ∀ n ∈ zs, (Lit.int .u8 n).wf = true) (x : Addr) (hA : A = some x)
    (hc : ∀ i, i < zs.length → W.cell? (x.add i) = some (.int .u8 (zs.getD i 0))) : ∃ l, Bytes W W.heap.size (.slice A L C) l := by
  subst hA
  obtain ⟨l, hb, _⟩ := bytes_of_row (w := W) (a := some x) (len := L) (cap := C) (zs := zs) (.inr ⟨x, rfl, hl, hm, hz, hc, hw⟩)
  exact ⟨l, hb⟩
/-- A crown that came in. -/
theorem open_crown {H : Type} {enc : TypeId × Value → H} {W : World} {b0 : Nat} {r : Reach} {v : Value} {d : DataW H} {ps : List MemPlace} (hval : Value.okWide Try.prog W r b0 24 v) (h : DataW.Trod enc Try.prog W 0 (fun _ => true) true 24 v d ps) :
    ∃ (x0 x1 x2 : Nat), v = .agg #[.int .u32 (x0 : Int), .int .u8 (x1 : Int), .int .u32 (x2 : Int)] ∧ x0 < 4294967296 ∧ x1 < 256 ∧ x2 < 4294967296 := by
  obtain ⟨cs, rfl, hcs⟩ := okWide_struct Try.underlying24 hval
  obtain ⟨fuel, hf⟩ := h
  obtain ⟨xs, n, _, _, hl, hlen, hall⟩ := DataW.trod_struct Try.underlying24 hf
  have hc3 : Try.prog.cellsOf 24 = 3 := by kernel_rfl
  have c32 : Try.prog.cellsOf 22 = 1 := by kernel_rfl
  have c8 : Try.prog.cellsOf 5 = 1 := by kernel_rfl
  rw [hc3] at hcs
  obtain ⟨cl⟩ := cs
  match cl, hcs with
  | [c0, c1, c2], _ =>
    match xs, hlen with
    | [y0, y1, y2], _ =>
      have f0 := hall 0 _ rfl
      have f1 := hall 1 _ rfl
      have f2 := hall 2 _ rfl
      simp only [Value.cells, c32, c8, List.drop_zero, List.drop_succ_cons, List.take_succ_cons, List.take_zero, List.getElem?_cons_zero, List.getElem?_cons_succ] at f0 f1 f2
      obtain ⟨n0, e0, _, w0⟩ := DataW.trod_int Try.underlying22 f0
      obtain ⟨n1, e1, _, w1⟩ := DataW.trod_int Try.underlying5 f1
      obtain ⟨n2, e2, _, w2⟩ := DataW.trod_int Try.underlying22 f2
      have b0 := bounds_u32 w0
      have b1 := bounds_u8 w1
      have b2 := bounds_u32 w2
      obtain ⟨x0, rfl⟩ := Int.eq_ofNat_of_zero_le b0.1
      obtain ⟨x1, rfl⟩ := Int.eq_ofNat_of_zero_le b1.1
      obtain ⟨x2, rfl⟩ := Int.eq_ofNat_of_zero_le b2.1
      injection e0 with e0 _
      injection e1 with e1 _
      injection e2 with e2 _
      subst e0 e1 e2
      exact ⟨x0, x1, x2, rfl, by omega, by omega, by omega⟩
end Go.Proofs.Ytpmgihfdiahfdaa
