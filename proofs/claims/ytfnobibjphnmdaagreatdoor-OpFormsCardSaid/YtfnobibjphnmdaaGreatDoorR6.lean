/- OFrame, OFrameB, OOpen: joined by program (tools/merge.py). -/
import Derived.Test.YtfnobibjphnmdaaGreatDoorRows
import Derived.Test.YtfnobibjphnmdaaGreatDoorOVar
import Derived.Stop.LaidErr
import Derived.Stop.Joined
import Derived.Test.YtfnobibjphnmdaaGreatDoorR2
import Derived.Lay
import Derived.Test.YtfnobibjphnmdaaGreatDoorORight
import Derived.OpenShut
import Derived.ShutString
import Derived.ProofKit
import Derived.WalkKit
namespace Go.Proofs.YtfnobibjphnmdaaGreatDoor
open Go.RowKit
set_option linter.unusedVariables false
/-- What the rows of this seat list. -/
def laid4 : List (String × DataW Unit) := [("math/bits.deBruijn32tab", Rows.laid_math_bits_deBruijn32tab), ("math/bits.deBruijn64tab", Rows.laid_math_bits_deBruijn64tab), ("internal/strconv.uint64pow10", Rows.laid_internal_strconv_uint64pow10), ("hourglass/op.words", Rows.laid_hourglass_op_words)]
theorem of_laid4 {W : World} (h : laidMetH Tryz.prog laid4 W) : Vo W := by
  rw [MakeChecks.laidMetH_plain _ _ _ (by kernel_rfl)] at h
  have h3 := laidMet.tail (laidMet.tail h)
  have h4 := laidMet.tail h3
  exact ⟨Lib.tabIs_of_head gPow tPow Tryz.underlying123 Tryz.underlying22 (by kernel_rfl) (by kernel_rfl) h3, wds_of_head h4⟩
set_option maxRecDepth 100000 in
/-- The door's own heap meets the condition. -/
theorem door_met4 (os : Os) (args : Array Value) : laidMetH Tryz.prog laid4 ((World.doorLaid Tryz.prog 77 os).forCall (fun _ _ => 0) ⟨#[], args, []⟩).memory :=
  laidMetH_of_parts3 (fuel := 8) (laidMet_of_run' 8 (by kernel_rfl) (by kernel_rfl)) (by kernel_rfl) (by kernel_rfl)
end Go.Proofs.YtfnobibjphnmdaaGreatDoor
namespace Go.Proofs.YtfnobibjphnmdaaGreatDoor
open Go.RowKit
set_option linter.unusedVariables false
theorem gSyn : Tryz.prog.globalNamed "strconv.ErrSyntax" = some 3 := by kernel_rfl
theorem tSyn : (Tryz.prog.globals[3]?).map (·.type) = some 87 := by kernel_rfl
theorem gRng : Tryz.prog.globalNamed "strconv.ErrRange" = some 4 := by kernel_rfl
theorem tRng : (Tryz.prog.globals[4]?).map (·.type) = some 87 := by kernel_rfl
theorem starE : "*" ++ "errors.errorString" = "*errors.errorString" := by decide
theorem rowErr (u : TypeId) (h : Tryz.prog.typeName? 3 u = some "*errors.errorString") : u = 138 :=
  typeName_ptr_named (nm := "errors.errorString") (by rw [starE]; kernel_rfl) (by kernel_rfl) (by decide) u (by rw [starE]; exact h)
theorem cellsErr : Tryz.prog.cellsOf 140 = 1 := by kernel_rfl
theorem cellsStr : Tryz.prog.cellsOf 9 = 1 := by kernel_rfl
def laid8 : List (String × DataW Unit) := [("math/bits.deBruijn32tab", Rows.laid_math_bits_deBruijn32tab), ("math/bits.deBruijn64tab", Rows.laid_math_bits_deBruijn64tab), ("internal/strconv.uint64pow10", Rows.laid_internal_strconv_uint64pow10), ("unicode/utf8.acceptRanges", Rows.laid_unicode_utf8_acceptRanges), ("strconv.ErrRange", Rows.laid_strconv_ErrRange), ("strconv.ErrSyntax", Rows.laid_strconv_ErrSyntax), ("hourglass/op.words", Rows.laid_hourglass_op_words), ("unicode/utf8.first", Rows.laid_unicode_utf8_first)]
theorem of_laid8 {W : World} (h : laidMetH Tryz.prog laid8 W) : Vo W ∧ Ve W := by
  rw [MakeChecks.laidMetH_plain _ _ _ (by kernel_rfl)] at h
  have h3 := laidMet.tail (laidMet.tail h)
  have h5 := laidMet.tail (laidMet.tail h3)
  have h6 := laidMet.tail h5
  have h7 := laidMet.tail h6
  obtain ⟨a0, s0, hv0, -, -, -⟩ := laid_sentinel h6 gSyn tSyn Tryz.underlying87 rowErr Tryz.underlying138 Tryz.underlying140 rfl rfl Tryz.underlying9 cellsErr cellsStr
  obtain ⟨a1, s1, hv1, -, -, -⟩ := laid_sentinel h5 gRng tRng Tryz.underlying87 rowErr Tryz.underlying138 Tryz.underlying140 rfl rfl Tryz.underlying9 cellsErr cellsStr
  exact ⟨⟨Lib.tabIs_of_head gPow tPow Tryz.underlying123 Tryz.underlying22 (by kernel_rfl) (by kernel_rfl) h3, wds_of_head h7⟩, ⟨⟨_, _, hv0⟩, ⟨_, _, hv1⟩⟩⟩
set_option maxRecDepth 100000 in
theorem door_met8 (os : Os) (args : Array Value) : laidMetH Tryz.prog laid8 ((World.laidAll Tryz.prog os laid8).forCall (fun _ _ => 0) ⟨#[], args, []⟩).memory := by
  rw [MakeChecks.laidMetH_plain _ _ _ (by kernel_rfl)]
  exact laidMet_laidAll _ (by kernel_rfl) (by kernel_rfl)
end Go.Proofs.YtfnobibjphnmdaaGreatDoor
namespace Go.Proofs.YtfnobibjphnmdaaGreatDoor
open Go.RowKit Go.ChangeShapes Go.WideShapes Go.ChangeAt
set_option linter.unusedSimpArgs false
set_option linter.unusedVariables false
set_option maxRecDepth 100000 in
theorem open_op {H : Type} {enc : TypeId × Value → H} {W : World} {b0 : Nat} {r : Reach} {v : Value} {d : DataW H} {ps : List MemPlace} (hval : Value.okWide Tryz.prog W r b0 25 v) (h : DataW.Trod enc Tryz.prog W 0 (fun _ => true) true 25 v d ps) :
    ∃ (k a b : Nat) (s : ByteArray), v = opV k a b s ∧ k < 256 ∧ a < 18446744073709551616 ∧ b < 18446744073709551616 ∧ s.size ≤ 9223372036854775807 := by
  obtain ⟨cs, rfl, hcs⟩ := okWide_struct Tryz.underlying25 hval
  obtain ⟨fuel, hf⟩ := h
  obtain ⟨xs, n, _, _, hl, hlen, hall⟩ := DataW.trod_struct Tryz.underlying25 hf
  have hc4 : Tryz.prog.cellsOf 25 = 4 := by kernel_rfl
  have c8 : Tryz.prog.cellsOf 5 = 1 := by kernel_rfl
  have c64 : Tryz.prog.cellsOf 23 = 1 := by kernel_rfl
  have cst : Tryz.prog.cellsOf 9 = 1 := by kernel_rfl
  rw [hc4] at hcs
  obtain ⟨cl⟩ := cs
  match cl, hcs with
  | [c0, c1, c2, c3], _ =>
    match xs, hlen with
    | [y0, y1, y2, y3], _ =>
      have f0 := hall 0 _ rfl
      have f1 := hall 1 _ rfl
      have f2 := hall 2 _ rfl
      have f3 := hall 3 _ rfl
      simp only [Value.cells, c8, c64, cst, List.drop_zero, List.drop_succ_cons, List.take_succ_cons, List.take_zero, List.getElem?_cons_zero, List.getElem?_cons_succ] at f0 f1 f2 f3
      obtain ⟨n0, e0, _, w0⟩ := DataW.trod_int Tryz.underlying5 f0
      obtain ⟨n1, e1, _, w1⟩ := DataW.trod_int Tryz.underlying23 f1
      obtain ⟨n2, e2, _, w2⟩ := DataW.trod_int Tryz.underlying23 f2
      obtain ⟨s3, e3, _, w3⟩ := DataW.trod_string Tryz.underlying9 f3
      have b0 := bounds_u8 w0
      have b1 := bounds_u64 w1
      have b2 := bounds_u64 w2
      obtain ⟨x0, rfl⟩ := Int.eq_ofNat_of_zero_le b0.1
      obtain ⟨x1, rfl⟩ := Int.eq_ofNat_of_zero_le b1.1
      obtain ⟨x2, rfl⟩ := Int.eq_ofNat_of_zero_le b2.1
      injection e0 with e0 _
      injection e1 with e1 _
      injection e2 with e2 _
      injection e3 with e3 _
      subst e0 e1 e2 e3
      exact ⟨x0, x1, x2, s3, rfl, by omega, by omega, by omega, by unfold maxLen at w3; omega⟩
end Go.Proofs.YtfnobibjphnmdaaGreatDoor
