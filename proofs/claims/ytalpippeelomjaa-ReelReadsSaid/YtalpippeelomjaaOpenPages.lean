/- An argument that is a row of the reference's pages, as memory has it. -/
import Derived.Test.YtalpippeelomjaaReelReadsWalk
import Derived.Test.YtalpippeelomjaaZ46
import Derived.ProofKit
import Derived.WalkKit
import Derived.Deep.Slices
namespace Go.Proofs.Ytalpippeelomjaa
open Go.RowKit Go.ChangeShapes Go.WideShapes Go.ChangeAt
set_option linter.unusedSimpArgs false
set_option linter.unusedVariables false
set_option maxRecDepth 100000

/-- One page's cells. -/
theorem open_rpage {H : Type} {enc : TypeId × Value → H} {W : World} {fuel : Nat} {cs : List Value} {x : DataW H × List MemPlace} (h : DataW.trod enc Try.prog W 0 (fun _ => true) true fuel 56 cs = some x) :
    ∃ (g s u k : Nat) (Ad : Option Addr) (nd cd : Nat) (d : List Nat), cs = [.int .u32 (g : Int), .int .u32 (s : Int), .int .u32 (u : Int), .int .u8 (k : Int), .slice Ad nd cd] ∧ g < 4294967296 ∧ s < 4294967296 ∧ u < 4294967296 ∧ k < 256 ∧ Bytes W W.heap.size (.slice Ad nd cd) d := by
  obtain ⟨xs, n, _, _, hl, hlen, hall⟩ := DataW.trod_struct Try.underlying56 h
  have hc5 : Try.prog.cellsOf 56 = 5 := by kernel_rfl
  have c32 : Try.prog.cellsOf 22 = 1 := by kernel_rfl
  have c8 : Try.prog.cellsOf 5 = 1 := by kernel_rfl
  have csl : Try.prog.cellsOf 43 = 1 := by kernel_rfl
  rw [hc5] at hl
  match cs, hl with
  | [c0, c1, c2, c3, c4], _ =>
    match xs, hlen with
    | [y0, y1, y2, y3, y4], _ =>
      have f0 := hall 0 _ rfl
      have f1 := hall 1 _ rfl
      have f2 := hall 2 _ rfl
      have f3 := hall 3 _ rfl
      have f4 := hall 4 _ rfl
      simp only [c32, c8, csl, List.drop_zero, List.drop_succ_cons, List.take_succ_cons, List.take_zero, List.getElem?_cons_zero, List.getElem?_cons_succ] at f0 f1 f2 f3 f4
      obtain ⟨n0, e0, _, w0⟩ := DataW.trod_int Try.underlying22 f0
      obtain ⟨n1, e1, _, w1⟩ := DataW.trod_int Try.underlying22 f1
      obtain ⟨n2, e2, _, w2⟩ := DataW.trod_int Try.underlying22 f2
      obtain ⟨n3, e3, _, w3⟩ := DataW.trod_int Try.underlying5 f3
      have b0 := bounds_u32 w0
      have b1 := bounds_u32 w1
      have b2 := bounds_u32 w2
      have b3 := bounds_u8 w3
      obtain ⟨x0, rfl⟩ := Int.eq_ofNat_of_zero_le b0.1
      obtain ⟨x1, rfl⟩ := Int.eq_ofNat_of_zero_le b1.1
      obtain ⟨x2, rfl⟩ := Int.eq_ofNat_of_zero_le b2.1
      obtain ⟨x3, rfl⟩ := Int.eq_ofNat_of_zero_le b3.1
      injection e0 with e0 _
      injection e1 with e1 _
      injection e2 with e2 _
      injection e3 with e3 _
      subst e0 e1 e2 e3
      rcases open_ints Try.underlying43 Try.underlying5 (by kernel_rfl) f4 with ⟨e4, _⟩ | ⟨x, l, c, zs, e4, _, hl2, hm, hz, _, hcell, hwz⟩
      · injection e4 with e4 _
        subst e4
        exact ⟨x0, x1, x2, x3, none, 0, 0, [], rfl, by omega, by omega, by omega, by omega, Bytes.none_ _ _⟩
      · injection e4 with e4 _
        subst e4
        obtain ⟨l', hb⟩ := bytes_of_cells (W := W) (A := some x) (L := l) hl2 hm (by simpa using hz) hwz x rfl hcell
        exact ⟨x0, x1, x2, x3, some x, l, c, l', rfl, by omega, by omega, by omega, by omega, hb⟩
/-- A row of pages that came in. -/
theorem open_pages {H : Type} {enc : TypeId × Value → H} {W : World} {A : Option Addr} {n c : Nat} {d : DataW H} {ps : List MemPlace} (h : DataW.Trod enc Try.prog W 0 (fun _ => true) true 52 (.slice A n c) d ps) : Pages6 W (.slice A n c) n := by
  obtain ⟨fuel, hf⟩ := h
  have hc5 : Try.prog.cellsOf 56 = 5 := by kernel_rfl
  rcases Go.Deep.open_slice Try.underlying52 hf with ⟨hcs, _⟩ | ⟨a, len, cap, m, n', D, Pl, hcs, hb, hl, hm, hmm, _, hi⟩
  · simp [Value.cells] at hcs
    obtain ⟨rfl, rfl, rfl⟩ := hcs
    exact ⟨none, 0, rfl, by unfold maxLen; omega, fun j hj => by omega⟩
  · simp [Value.cells] at hcs
    obtain ⟨rfl, rfl, rfl⟩ := hcs
    simp at hmm
    subst hmm
    refine ⟨some a, m, rfl, by omega, fun j hj => ?_⟩
    obtain ⟨cs', hc, ht⟩ := hi j (by omega)
    obtain ⟨g, s, u, k, Ad, nd, cd, l, rfl, hg, hs, hu, hk, hB⟩ := open_rpage ht
    rw [hc5] at hc
    obtain ⟨_, _, hat⟩ := World.cells?_some hc
    have a0 := hat 0 (by decide)
    have a1 := hat 1 (by decide)
    have a2 := hat 2 (by decide)
    have a3 := hat 3 (by decide)
    have a4 := hat 4 (by decide)
    simp only [List.getElem?_cons_zero, List.getElem?_cons_succ] at a0 a1 a2 a3 a4
    have e0 : (a.add (j * 5)).add 0 = a.add (j * 5) := by rw [addr_add_add]; rfl
    rw [e0] at a0
    have hblk := World.block_lt_of_cell? W _ a0
    exact ⟨a, a.add (j * 5), g, s, u, k, Ad, nd, cd, l, rfl, rfl, hblk, a0, a1, a2, a3, a4, hg, hs, hu, hk, hB⟩
end Go.Proofs.Ytalpippeelomjaa
