/- An argument that is a page: its numbers and its data, as memory has them. -/
import Derived.Test.YtkdbplfphhfeaaaLaw
import Derived.ProofKit
import Derived.WalkKit
namespace Go.Proofs.Ytkdbplfphhfeaaa
open Go.RowKit Go.ChangeShapes Go.WideShapes Go.ChangeAt
set_option linter.unusedSimpArgs false

theorem bytes_of_cells {W : World} {A : Option Addr} {L C : Nat} {zs : List Int} (hl : L ≤ C) (hm : C ≤ maxLen) (hz : zs.length = C) (hw : ∀ n ∈ zs, (Lit.int .u8 n).wf = true) (x : Addr) (hA : A = some x)
    (hc : ∀ i, i < zs.length → W.cell? (x.add i) = some (.int .u8 (zs.getD i 0))) : ∃ l, Bytes W W.heap.size (.slice A L C) l := by
  subst hA
  obtain ⟨l, hb, _⟩ := bytes_of_row (w := W) (a := some x) (len := L) (cap := C) (zs := zs) (.inr ⟨x, rfl, hl, hm, hz, hc, hw⟩)
  exact ⟨l, hb⟩
/-- A page that came in. -/
theorem open_page {H : Type} {enc : TypeId × Value → H} {W : World} {b0 : Nat} {r : Reach} {v : Value} {d : DataW H} {ps : List MemPlace} (hval : Value.okWide Try.prog W r b0 25 v) (h : DataW.Trod enc Try.prog W 0 (fun _ => true) true 25 v d ps) :
    ∃ (x0 x1 x2 x3 : Nat) (A : Option Addr) (n c : Nat) (l : List Nat), v = .agg #[.int .u32 (x0 : Int), .int .u32 (x1 : Int), .int .u32 (x2 : Int), .int .u8 (x3 : Int), .slice A n c] ∧ x0 < 4294967296 ∧ x1 < 4294967296 ∧ x2 < 4294967296 ∧ x3 < 256 ∧ Bytes W W.heap.size (.slice A n c) l := by
  obtain ⟨cs, rfl, hcs⟩ := okWide_struct Try.underlying25 hval
  obtain ⟨fuel, hf⟩ := h
  obtain ⟨xs, n, _, _, hl, hlen, hall⟩ := DataW.trod_struct Try.underlying25 hf
  have hc5 : Try.prog.cellsOf 25 = 5 := by kernel_rfl
  have c32 : Try.prog.cellsOf 22 = 1 := by kernel_rfl
  have c8 : Try.prog.cellsOf 5 = 1 := by kernel_rfl
  have csl : Try.prog.cellsOf 23 = 1 := by kernel_rfl
  rw [hc5] at hcs
  obtain ⟨cl⟩ := cs
  match cl, hcs with
  | [c0, c1, c2, c3, c4], _ =>
    match xs, hlen with
    | [y0, y1, y2, y3, y4], _ =>
      have f0 := hall 0 _ rfl
      have f1 := hall 1 _ rfl
      have f2 := hall 2 _ rfl
      have f3 := hall 3 _ rfl
      have f4 := hall 4 _ rfl
      simp only [Value.cells, c32, c8, csl, List.drop_zero, List.drop_succ_cons, List.take_succ_cons, List.take_zero, List.getElem?_cons_zero, List.getElem?_cons_succ] at f0 f1 f2 f3 f4
      obtain ⟨n0, e0, _, w0⟩ := DataW.trod_int Try.underlying22 f0
      obtain ⟨n1, e1, _, w1⟩ := DataW.trod_int Try.underlying22 f1
      obtain ⟨n2, e2, _, w2⟩ := DataW.trod_int Try.underlying22 f2
      obtain ⟨n3, e3, _, w3⟩ := DataW.trod_int Try.underlying5 f3
      have b0 := bounds_u32 w0
      have b1 := bounds_u32 w1
      have b2 := bounds_u32 w2
      have b3 := bounds_u8 w3
      obtain ⟨x0, rfl⟩ := Int.eq_ofNat_of_zero_le b0.1
      obtain ⟨x1, rfl⟩ := Int.eq_ofNat_of_zero_le b1.1
      obtain ⟨x2, rfl⟩ := Int.eq_ofNat_of_zero_le b2.1
      obtain ⟨x3, rfl⟩ := Int.eq_ofNat_of_zero_le b3.1
      injection e0 with e0 _
      injection e1 with e1 _
      injection e2 with e2 _
      injection e3 with e3 _
      subst e0 e1 e2 e3
      rcases open_ints Try.underlying23 Try.underlying5 (by kernel_rfl) f4 with ⟨e4, _⟩ | ⟨x, l, c, zs, e4, _, hl2, hm, hz, _, hcell, hwz⟩
      · injection e4 with e4 _
        subst e4
        exact ⟨x0, x1, x2, x3, none, 0, 0, [], rfl, by omega, by omega, by omega, by omega, Bytes.none_ _ _⟩
      · injection e4 with e4 _
        subst e4
        obtain ⟨l', hb⟩ := bytes_of_cells (W := W) (A := some x) (L := l) hl2 hm (by simpa using hz) hwz x rfl hcell
        exact ⟨x0, x1, x2, x3, some x, l, c, l', rfl, by omega, by omega, by omega, by omega, hb⟩
end Go.Proofs.Ytkdbplfphhfeaaa
