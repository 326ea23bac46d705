/- A script of calls that came in, as memory has it. -/
import Derived.Test.YtmhhcblgeellnaaPlD
import Derived.ProofKit
import Derived.WalkKit
import Derived.Deep.Slices
import Derived.Deep.Grids
namespace Go.Proofs.Ytmhhcblgeellnaa
open Go.RowKit Go.ChangeShapes Go.WideShapes Go.ChangeAt
open Go.Deep
set_option linter.unusedSimpArgs false

theorem bytes_of_cells {W : World} {A : Option Addr} {L C : Nat} {zs : List Int} (hl : L ≤ C) (hm : C ≤ maxLen) (hz : zs.length = C) (hw : ∀ n ∈ zs, (Lit.int .u8 n).wf = true) (x : Addr) (hA : A = some x)
    (hc : ∀ i, i < zs.length → W.cell? (x.add i) = some (.int .u8 (zs.getD i 0))) : ∃ l, Bytes W W.heap.size (.slice A L C) l := by
  subst hA
  obtain ⟨l, hb, _⟩ := bytes_of_row (w := W) (a := some x) (len := L) (cap := C) (zs := zs) (.inr ⟨x, rfl, hl, hm, hz, hc, hw⟩)
  exact ⟨l, hb⟩
theorem open_bytes {H : Type} {enc : TypeId × Value → H} {W : World} {fuel : Nat} {cs : List Value} {x : DataW H × List MemPlace} (h : DataW.trod enc Try.prog W 0 (fun _ => true) true fuel 30 cs = some x) :
    ∃ A n c l, cs = [.slice A n c] ∧ Bytes W W.heap.size (.slice A n c) l := by
  rcases open_ints Try.underlying30 Try.underlying5 (by kernel_rfl) h with ⟨hcs, _⟩ | ⟨x, l, c, zs, hcs, _, hl, hm, hz, _, hcell, hwz⟩
  · exact ⟨none, 0, 0, [], hcs, Bytes.none_ _ _⟩
  · obtain ⟨l2, hl2⟩ := bytes_of_cells hl hm (by simpa using hz) hwz x rfl hcell
    exact ⟨some x, l, c, l2, hcs, hl2⟩
theorem open_flags {H : Type} {enc : TypeId × Value → H} {W : World} {fuel : Nat} {cs : List Value} {x : DataW H × List MemPlace} (h : DataW.trod enc Try.prog W 0 (fun _ => true) true fuel 32 cs = some x) :
    ∃ A n c ks, cs = [.slice A n c] ∧ Flags W (.slice A n c) ks ∧ ks.length ≤ 9223372036854775807 := by
  rcases open_bools Try.underlying32 Try.underlying4 (by kernel_rfl) h with ⟨hcs, _⟩ | ⟨x, len, cap, B, hcs, _, hl, hm, _, hrow⟩
  · exact ⟨none, 0, 0, [], hcs, flags_none _, by simp⟩
  · refine ⟨some x, len, cap, (List.range len).map B, hcs, ⟨some x, cap, by simp, fun j v hj => ?_⟩, by unfold maxLen at hm; simp; omega⟩
    have hjl : j < len := by
      rcases Nat.lt_or_ge j len with h | h
      · exact h
      · rw [List.getElem?_eq_none (by simp; exact h)] at hj; cases hj
    rw [List.map_map, List.getElem?_map, List.getElem?_range hjl] at hj
    simp only [Option.map_some, Option.some.injEq] at hj
    have hc := hrow j (by omega)
    have hb := World.block_lt_of_cell? W _ hc
    rw [addr_add_block] at hb
    exact ⟨x, rfl, hb, by rw [hc, ← hj]; rfl⟩
/-- A list of so many, each as it is told to be. -/
theorem list_of {α : Type} (P : Nat → α → Prop) : ∀ n, (∀ i, i < n → ∃ a, P i a) → ∃ l : List α, l.length = n ∧ ∀ i a, l[i]? = some a → P i a := by
  intro n
  induction n with
  | zero => intro _; exact ⟨[], rfl, fun i a h => by simp at h⟩
  | succ n ih =>
    intro h
    obtain ⟨l, hl, hall⟩ := ih (fun i hi => h i (by omega))
    obtain ⟨a, ha⟩ := h n (by omega)
    refine ⟨l ++ [a], by simp [hl], fun i b hb => ?_⟩
    rcases Nat.lt_or_ge i n with h1 | h1
    · rw [List.getElem?_append_left (by omega)] at hb
      exact hall i b hb
    · rw [List.getElem?_append_right (by omega)] at hb
      have h2 : i - l.length = 0 := by
        rcases Nat.eq_zero_or_pos (i - l.length) with h3 | h3
        · exact h3
        · rw [List.getElem?_eq_none (by simp; omega)] at hb; cases hb
      rw [h2] at hb
      simp at hb
      subst hb
      obtain rfl : i = n := by omega
      exact ha
/-- One call's cells. -/
theorem open_act {H : Type} {enc : TypeId × Value → H} {W : World} {fuel : Nat} {cs : List Value} {x : DataW H × List MemPlace} (h : DataW.trod enc Try.prog W 0 (fun _ => true) true fuel 34 cs = some x) : ∃ a : Ac, AcOk W a ∧ cs = acell a := by
  obtain ⟨xs, n, _, _, hl, hlen, hall⟩ := DataW.trod_struct Try.underlying34 h
  have hc8 : Try.prog.cellsOf 34 = 8 := by kernel_rfl
  have k8 : Try.prog.cellsOf 5 = 1 := by kernel_rfl
  have ki : Try.prog.cellsOf 3 = 1 := by kernel_rfl
  have kb : Try.prog.cellsOf 4 = 1 := by kernel_rfl
  have ku : Try.prog.cellsOf 31 = 1 := by kernel_rfl
  have kp : Try.prog.cellsOf 30 = 1 := by kernel_rfl
  have kk : Try.prog.cellsOf 32 = 1 := by kernel_rfl
  rw [hc8] at hl
  match cs, hl with
  | [c0, c1, c2, c3, c4, c5, c6, c7], _ =>
    match xs, hlen with
    | [y0, y1, y2, y3, y4, y5, y6, y7], _ =>
      have f0 := hall 0 _ rfl
      have f1 := hall 1 _ rfl
      have f2 := hall 2 _ rfl
      have f3 := hall 3 _ rfl
      have f4 := hall 4 _ rfl
      have f5 := hall 5 _ rfl
      have f6 := hall 6 _ rfl
      have f7 := hall 7 _ rfl
      simp only [k8, ki, kb, ku, kp, kk, List.drop_zero, List.drop_succ_cons, List.take_succ_cons, List.take_zero, List.getElem?_cons_zero, List.getElem?_cons_succ] at f0 f1 f2 f3 f4 f5 f6 f7
      obtain ⟨n0, e0, _, w0⟩ := DataW.trod_int Try.underlying5 f0
      obtain ⟨n1, e1, _, w1⟩ := DataW.trod_int Try.underlying3 f1
      obtain ⟨PA, pn, pc, p, e2, hp⟩ := open_bytes f2
      obtain ⟨odd, e3, _⟩ := DataW.trod_bool Try.underlying4 f3
      obtain ⟨n4, e4, _, w4⟩ := DataW.trod_int Try.underlying3 f4
      obtain ⟨n5, e5, _, w5⟩ := DataW.trod_int Try.underlying3 f5
      obtain ⟨n6, e6, _, w6⟩ := DataW.trod_int Try.underlying31 f6
      obtain ⟨KA, kn, kc, ks, e7, hk, hkl⟩ := open_flags f7
      have b0 := bounds_u8 w0
      have b1 := bounds_i64 w1
      have b4 := bounds_i64 w4
      have b5 := bounds_i64 w5
      have b6 := bounds_u32 w6
      obtain ⟨x0, rfl⟩ := Int.eq_ofNat_of_zero_le b0.1
      obtain ⟨x6, rfl⟩ := Int.eq_ofNat_of_zero_le b6.1
      injection e0 with e0 _
      injection e1 with e1 _
      injection e2 with e2 _
      injection e3 with e3 _
      injection e4 with e4 _
      injection e5 with e5 _
      injection e6 with e6 _
      injection e7 with e7 _
      subst e0 e1 e2 e3 e4 e5 e6 e7
      exact ⟨⟨x0, n1, PA, pn, pc, p, odd, n4, n5, x6, KA, kn, kc, ks⟩, ⟨by show x0 < 256; omega, by show _ ≤ n1 ∧ n1 ≤ _; omega, by show _ ≤ n4 ∧ n4 ≤ _; omega, by show _ ≤ n5 ∧ n5 ≤ _; omega, by show x6 < _; omega, hp, hk, hkl⟩, rfl⟩
/-- A slice of calls that came in. -/
theorem open_acts {H : Type} {enc : TypeId × Value → H} {W : World} {A : Option Addr} {n c : Nat} {d : DataW H} {ps : List MemPlace} (h : DataW.Trod enc Try.prog W 0 (fun _ => true) true 22 (.slice A n c) d ps) : ∃ l, Acts W (.slice A n c) l := by
  obtain ⟨fuel, hf⟩ := h
  have hc8 : Try.prog.cellsOf 34 = 8 := by kernel_rfl
  rcases Go.Deep.open_slice Try.underlying22 hf with ⟨hcs, _⟩ | ⟨a, len, cap, m, n', D, Pl, hcs, hb, hl, hm, hmm, _, hi⟩
  · simp [Value.cells] at hcs
    obtain ⟨rfl, rfl, rfl⟩ := hcs
    exact ⟨[], ⟨⟨none, 0, rfl, by simp⟩, by simp, by simp⟩⟩
  · simp [Value.cells] at hcs
    obtain ⟨rfl, rfl, rfl⟩ := hcs
    simp at hmm
    subst hmm
    obtain ⟨l, hll, hall⟩ := list_of (fun i (f : Ac) => AcOk W f ∧ ∀ j, j < 8 → W.cell? (a.add (i * 8 + j)) = (acell f)[j]?) n (fun i hin => by
      obtain ⟨cs', hc, ht⟩ := hi i (by omega)
      obtain ⟨f, hok, rfl⟩ := open_act ht
      rw [hc8] at hc
      obtain ⟨_, _, hat⟩ := World.cells?_some hc
      refine ⟨f, hok, fun j hj => ?_⟩
      rw [← addr_add_add]
      exact hat j hj)
    refine ⟨l, ⟨⟨some a, m, by rw [hll], fun i f hf => ?_⟩, fun f hf => ?_, by unfold maxLen at hm ⊢; omega⟩⟩
    · have h1 := (hall i f hf).2
      have h0 := h1 0 (by decide)
      have hblk := World.block_lt_of_cell? W _ (show W.cell? _ = some (Value.int .u8 (f.d : Int)) from h0)
      rw [addr_add_block] at hblk
      exact ⟨a, rfl, hblk, h1⟩
    · obtain ⟨i, hi2⟩ := List.getElem?_of_mem hf
      exact (hall i f hi2).1
end Go.Proofs.Ytmhhcblgeellnaa
