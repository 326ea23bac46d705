/- Arguments that are slices of bytes or of fields, as memory has them. -/
import Derived.Test.YteboemoebnlgaaaFields
import Derived.ProofKit
import Derived.WalkKit
import Derived.Deep.Slices
namespace Go.Proofs.Yteboemoebnlgaaa
open Go.RowKit Go.ChangeShapes Go.WideShapes Go.ChangeAt
set_option linter.unusedSimpArgs false

theorem bytes_of_cells {W : World} {A : Option Addr} {L C : Nat} {zs : List Int} (hl : L ≤ C) (hm : C ≤ maxLen) (hz : zs.length = C) (hw : ∀ n ∈ zs, (Lit.int .u8 n).wf = true) (x : Addr) (hA : A = some x)
    (hc : ∀ i, i < zs.length → W.cell? (x.add i) = some (.int .u8 (zs.getD i 0))) : ∃ l, Bytes W W.heap.size (.slice A L C) l := by
  subst hA
  obtain ⟨l, hb, _⟩ := bytes_of_row (w := W) (a := some x) (len := L) (cap := C) (zs := zs) (.inr ⟨x, rfl, hl, hm, hz, hc, hw⟩)
  exact ⟨l, hb⟩
/-- A list of so many, each as it is told to be. -/
theorem list_of {α : Type} (P : Nat → α → Prop) : ∀ n, (∀ i, i < n → ∃ a, P i a) → ∃ l : List α, l.length = n ∧ ∀ i a, l[i]? = some a → P i a := by
  intro n
  induction n with
  | zero => intro _; exact ⟨[], rfl, fun i a h => by simp at h⟩
  | succ n ih =>
    intro h
    obtain ⟨l, hl, hall⟩ := ih (fun i hi => h i (by omega))
    obtain ⟨a, ha⟩ := h n (by omega)
    refine ⟨l ++ [a], by simp [hl], fun i b hb => ?_⟩
    rcases Nat.lt_or_ge i n with h1 | h1
    · rw [List.getElem?_append_left (by omega)] at hb
      exact hall i b hb
    · rw [List.getElem?_append_right (by omega)] at hb
      have h2 : i - l.length = 0 := by
        rcases Nat.eq_zero_or_pos (i - l.length) with h3 | h3
        · exact h3
        · rw [List.getElem?_eq_none (by simp; omega)] at hb; cases hb
      rw [h2] at hb
      simp at hb
      subst hb
      obtain rfl : i = n := by omega
      exact ha
/-- One field's cells. -/
theorem open_field {H : Type} {enc : TypeId × Value → H} {W : World} {fuel : Nat} {cs : List Value} {x : DataW H × List MemPlace} (h : DataW.trod enc Try.prog W 0 (fun _ => true) true fuel 30 cs = some x) : ∃ f : Fd, f.ok ∧ cs = fcell f := by
  obtain ⟨xs, n, _, _, hl, hlen, hall⟩ := DataW.trod_struct Try.underlying30 h
  have hc4 : Try.prog.cellsOf 30 = 4 := by kernel_rfl
  have c8 : Try.prog.cellsOf 5 = 1 := by kernel_rfl
  have c64 : Try.prog.cellsOf 28 = 1 := by kernel_rfl
  have cst : Try.prog.cellsOf 9 = 1 := by kernel_rfl
  rw [hc4] at hl
  match cs, hl with
  | [c0, c1, c2, c3], _ =>
    match xs, hlen with
    | [y0, y1, y2, y3], _ =>
      have f0 := hall 0 _ rfl
      have f1 := hall 1 _ rfl
      have f2 := hall 2 _ rfl
      have f3 := hall 3 _ rfl
      simp only [c8, c64, cst, List.drop_zero, List.drop_succ_cons, List.take_succ_cons, List.take_zero, List.getElem?_cons_zero, List.getElem?_cons_succ] at f0 f1 f2 f3
      obtain ⟨n0, e0, _, w0⟩ := DataW.trod_int Try.underlying5 f0
      obtain ⟨n1, e1, _, w1⟩ := DataW.trod_int Try.underlying28 f1
      obtain ⟨s2, e2, _, w2⟩ := DataW.trod_string Try.underlying9 f2
      obtain ⟨n3, e3, _, w3⟩ := DataW.trod_int Try.underlying28 f3
      have b0 := bounds_u8 w0
      have b1 := bounds_u64 w1
      have b3 := bounds_u64 w3
      obtain ⟨x0, rfl⟩ := Int.eq_ofNat_of_zero_le b0.1
      obtain ⟨x1, rfl⟩ := Int.eq_ofNat_of_zero_le b1.1
      obtain ⟨x3, rfl⟩ := Int.eq_ofNat_of_zero_le b3.1
      injection e0 with e0 _
      injection e1 with e1 _
      injection e2 with e2 _
      injection e3 with e3 _
      subst e0 e1 e2 e3
      exact ⟨⟨x0, x1, s2, x3⟩, ⟨by show x0 < 256; omega, by show x1 < _; omega, by show x3 < _; omega, w2⟩, rfl⟩
/-- A slice of fields that came in. -/
theorem open_fields {H : Type} {enc : TypeId × Value → H} {W : World} {A : Option Addr} {n c : Nat} {d : DataW H} {ps : List MemPlace} (h : DataW.Trod enc Try.prog W 0 (fun _ => true) true 22 (.slice A n c) d ps) : ∃ l, Fields W W.heap.size (.slice A n c) l := by
  obtain ⟨fuel, hf⟩ := h
  have hc4 : Try.prog.cellsOf 30 = 4 := by kernel_rfl
  rcases Go.Deep.open_slice Try.underlying22 hf with ⟨hcs, _⟩ | ⟨a, len, cap, m, n', D, Pl, hcs, hb, hl, hm, hmm, _, hi⟩
  · simp [Value.cells] at hcs
    obtain ⟨rfl, rfl, rfl⟩ := hcs
    exact ⟨[], ⟨⟨none, 0, rfl, Lies.nil _ _ _, by simp⟩, by simp, by simp⟩⟩
  · simp [Value.cells] at hcs
    obtain ⟨rfl, rfl, rfl⟩ := hcs
    simp at hmm
    subst hmm
    obtain ⟨l, hll, hall⟩ := list_of (fun i (f : Fd) => f.ok ∧ ∀ j, j < 4 → W.cell? (a.add (i * 4 + j)) = (fcell f)[j]?) n (fun i hin => by
      obtain ⟨cs', hc, ht⟩ := hi i (by omega)
      obtain ⟨f, hok, rfl⟩ := open_field ht
      rw [hc4] at hc
      obtain ⟨_, _, hat⟩ := World.cells?_some hc
      refine ⟨f, hok, fun j hj => ?_⟩
      rw [← addr_add_add]
      exact hat j hj)
    refine ⟨l, ⟨⟨some a, m, by rw [hll], ?_, by omega⟩, fun f hf => ?_, by unfold maxLen at hm ⊢; omega⟩⟩
    · intro j v hj
      have hjl : j < l.length * 4 := by
        rw [← fcs_length]
        rcases Nat.lt_or_ge j (fcs l).length with h1 | h1
        · exact h1
        · rw [List.getElem?_eq_none h1] at hj; cases hj
      have hjd : j / 4 * 4 + j % 4 = j := by omega
      obtain ⟨f, hf⟩ : ∃ f, l[j / 4]? = some f := ⟨_, List.getElem?_eq_getElem (by omega)⟩
      have h1 := (hall (j / 4) f hf).2 (j % 4) (Nat.mod_lt _ (by decide))
      have h2 := fcs_at l (j / 4) (j % 4) f hf (Nat.mod_lt _ (by decide))
      rw [hjd] at h1 h2
      rw [← h2, hj] at h1
      have hblk := World.block_lt_of_cell? W _ h1
      rw [addr_add_block] at hblk
      exact ⟨a, rfl, hblk, h1⟩
    · obtain ⟨i, hi2⟩ := List.getElem?_of_mem hf
      exact (hall i f hi2).1
end Go.Proofs.Yteboemoebnlgaaa
