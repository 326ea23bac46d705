/- An argument that is an operation: its kind, its two numbers, its name, as memory has them. -/
import Derived.Test.YtblchmcnbcfaaaaDoorORight
import Derived.OpenShut
import Derived.ShutString
import Derived.ProofKit
import Derived.WalkKit
namespace Go.Proofs.YtblchmcnbcfaaaaDoor
open Go.RowKit Go.ChangeShapes Go.WideShapes Go.ChangeAt
set_option linter.unusedSimpArgs false
set_option linter.unusedVariables false
set_option maxRecDepth 100000 in
theorem open_op {H : Type} {enc : TypeId × Value → H} {W : World} {b0 : Nat} {r : Reach} {v : Value} {d : DataW H} {ps : List MemPlace} (hval : Value.okWide Tryd.prog W r b0 33 v) (h : DataW.Trod enc Tryd.prog W 0 (fun _ => true) true 33 v d ps) :
    ∃ (k a b : Nat) (s : ByteArray), v = opV k a b s ∧ k < 256 ∧ a < 18446744073709551616 ∧ b < 18446744073709551616 ∧ s.size ≤ 9223372036854775807 := by
  obtain ⟨cs, rfl, hcs⟩ := okWide_struct Tryd.underlying33 hval
  obtain ⟨fuel, hf⟩ := h
  obtain ⟨xs, n, _, _, hl, hlen, hall⟩ := DataW.trod_struct Tryd.underlying33 hf
  have hc4 : Tryd.prog.cellsOf 33 = 4 := by kernel_rfl
  have c8 : Tryd.prog.cellsOf 5 = 1 := by kernel_rfl
  have c64 : Tryd.prog.cellsOf 31 = 1 := by kernel_rfl
  have cst : Tryd.prog.cellsOf 9 = 1 := by kernel_rfl
  rw [hc4] at hcs
  obtain ⟨cl⟩ := cs
  match cl, hcs with
  | [c0, c1, c2, c3], _ =>
    match xs, hlen with
    | [y0, y1, y2, y3], _ =>
      have f0 := hall 0 _ rfl
      have f1 := hall 1 _ rfl
      have f2 := hall 2 _ rfl
      have f3 := hall 3 _ rfl
      simp only [Value.cells, c8, c64, cst, List.drop_zero, List.drop_succ_cons, List.take_succ_cons, List.take_zero, List.getElem?_cons_zero, List.getElem?_cons_succ] at f0 f1 f2 f3
      obtain ⟨n0, e0, _, w0⟩ := DataW.trod_int Tryd.underlying5 f0
      obtain ⟨n1, e1, _, w1⟩ := DataW.trod_int Tryd.underlying31 f1
      obtain ⟨n2, e2, _, w2⟩ := DataW.trod_int Tryd.underlying31 f2
      obtain ⟨s3, e3, _, w3⟩ := DataW.trod_string Tryd.underlying9 f3
      have b0 := bounds_u8 w0
      have b1 := bounds_u64 w1
      have b2 := bounds_u64 w2
      obtain ⟨x0, rfl⟩ := Int.eq_ofNat_of_zero_le b0.1
      obtain ⟨x1, rfl⟩ := Int.eq_ofNat_of_zero_le b1.1
      obtain ⟨x2, rfl⟩ := Int.eq_ofNat_of_zero_le b2.1
      injection e0 with e0 _
      injection e1 with e1 _
      injection e2 with e2 _
      injection e3 with e3 _
      subst e0 e1 e2 e3
      exact ⟨x0, x1, x2, s3, rfl, by omega, by omega, by omega, by unfold maxLen at w3; omega⟩
end Go.Proofs.YtblchmcnbcfaaaaDoor
