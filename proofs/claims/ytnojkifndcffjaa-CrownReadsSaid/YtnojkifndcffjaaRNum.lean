/- The reference's Num: a number's lowest bytes, the highest first, in a row of its own. -/
import Derived.Test.YtnojkifndcffjaaWord
import Derived.Test.YtnojkifndcffjaaMB
namespace Go.Proofs.Ytnojkifndcffjaa
open Go.RowKit
set_option linter.unusedSimpArgs false
set_option linter.unusedVariables false

/-- The lowest k bytes of a number, the highest first. -/
def beN : Nat → Nat → List Nat
  | 0, _ => []
  | k + 1, n => (n / 256 ^ k % 256) :: beN k n
theorem beN_length (n : Nat) : ∀ k, (beN k n).length = k
  | 0 => rfl
  | k + 1 => by rw [beN, List.length_cons, beN_length n k]
theorem beN_small (n : Nat) : ∀ k, ∀ b ∈ beN k n, b < 256
  | 0, b, hb => by cases hb
  | k + 1, b, hb => by
    rw [beN, List.mem_cons] at hb
    rcases hb with rfl | hb
    · exact Nat.mod_lt _ (by decide)
    · exact beN_small n k b hb
theorem beN_four (v : Nat) : beN 4 v = be4 v := by
  simp [beN, be4]
def NumR (W : World) (g k n : Nat) (s t : Value) (x : World) : Prop :=
  ∃ j m : Nat, j ≤ k ∧ m = n / 256 ^ j ∧ s = .int .u64 (m : Int) ∧ t = .int .i64 ((k : Int) - 1 - (j : Int)) ∧ x.heap[g]? = some (.cells (byt (List.replicate (k - j) 0 ++ beN j n)).toArray 5 (0, 0)) ∧ Below g W x
theorem num_next {j k n : Nat} (h : j < k) : (List.replicate (k - j) 0 ++ beN j n).set (k - 1 - j) (n / 256 ^ j % 256) = List.replicate (k - (j + 1)) 0 ++ beN (j + 1) n := by
  obtain ⟨m, hm⟩ : ∃ m, k - j = m + 1 := ⟨k - j - 1, by omega⟩
  rw [hm, show k - (j + 1) = m by omega, show k - 1 - j = m by omega, List.replicate_succ', List.append_assoc, List.set_append_right _ _ (by simp), List.length_replicate, Nat.sub_self]
  rfl
theorem run_make_i (w : World) (k : Nat) (hk : k < 600) : (Instr.makeSlice 25 (.int .i64 (k : Int)) (.int .i64 (k : Int))).run Try.prog w = .ok (.slice (some ⟨w.heap.size, 0, none⟩) k k) (w.alloc (.cells (byt (List.replicate k 0)).toArray 5)) := by
  obtain ⟨i0, hi0, hz0, hz1, hz2⟩ := info_parts infoByte
  have h := run_make (P := Try.prog) w 25 5 i0 (.int .u8 0) Try.underlying25 hi0 hz0 .i64 .i64 (k : Int) (k : Int) (by omega) (by omega) (by rw [hz2]; omega) (by omega)
  rw [hz1] at h
  have e : madeCells (Value.cells (.int .u8 0)) ((k : Int).toNat * 1) = (byt (List.replicate k 0)).toArray := by
    have e2 := toList_madeCells_one (.int .u8 0) k
    have e3 : (byt (List.replicate k 0)).toArray = (madeCells #[Value.int .u8 0] k).toList.toArray := by
      rw [e2]
      unfold byt
      rw [List.map_replicate]
      rfl
    rw [e3, Array.toArray_toList]
    simp
    rfl
  rw [e] at h
  simpa using h
set_option maxRecDepth 100000 in
set_option maxHeartbeats 4000000 in
theorem num_any (w : World) (n k : Nat) (hn : n < 18446744073709551616) (hk : k ≤ 8) :
    Calls Try.prog 30 #[.int .u64 (n : Int), .int .i64 (k : Int)] w fun e w' => e = .returned (.slice (some ⟨w.heap.size, 0, none⟩) k k) ∧ w'.heap[w.heap.size]? = some (.cells (byt (beN k n)).toArray 5 (0, 0)) ∧ Below w.heap.size w w' := by
  have hmk := fun x => run_make_i x k (by omega)
  have hG := Go.heap_alloc_new w (.cells (byt (List.replicate k 0)).toArray 5)
  have HG := Lib.hid hG
  clear hG
  go_enter Try.func30, Try.ntmps30
  go_wp2
  go_loopw [0, 6] (fun s t x => NumR (w.alloc (.cells (byt (List.replicate k 0)).toArray 5)) w.heap.size k n s t x) (fun s t _ => (intOf t + 1).toNat)
  case atStart => exact ⟨0, n, by omega, by simp, rfl, by go_num, by simpa [beN] using HG.out, Below.refl _ _⟩
  case round =>
    obtain ⟨j, m, hj, hm, rfl, rfl, hX, hB⟩ := hrel
    have hm64 : m < 18446744073709551616 := by rw [hm]; exact Nat.lt_of_le_of_lt (Nat.div_le_self _ _) hn
    have HX := Lib.hid hX
    have HB := Lib.hid hB
    have HM := Lib.hid hm
    by_cases hlt : j < k
    · obtain ⟨q, hq⟩ : ∃ q : Nat, q = k - 1 - j := ⟨_, rfl⟩
      have hqi : (k : Int) - 1 - (j : Int) = (q : Int) := by omega
      obtain ⟨y, hy⟩ : ∃ y, (List.replicate (k - j) 0 ++ beN j n)[q]? = some y := ⟨_, List.getElem?_eq_getElem (by rw [List.length_append, List.length_replicate, beN_length]; omega)⟩
      have hc := buf_cell hX hy
      have hf := buf_fz (i := q) hX
      have hqk : q < k := by omega
      rw [hqi]
      have HQ := Lib.hid hq
      have HQI := Lib.hid hqi
      clear hX hB hy hm hq hqi
      go_wp2
      go_roundw
      case rel =>
        refine ⟨j + 1, m / 256, by omega, by rw [HM.out, Nat.div_div_eq_div_mul, Nat.pow_succ], rfl, by have := HQ.out; congr 1; omega, ?_, HB.out.setCell (Nat.le_refl _) _⟩
        have h := buf_set (i := q) (b := m % 256) HX.out
        rw [HM.out, show q = k - 1 - j from HQ.out, num_next hlt, ← HM.out, ← HQ.out] at h
        exact h
      case measure => simp [intOf]
    · obtain rfl : j = k := by omega
      rw [Nat.sub_self, List.replicate_zero, List.nil_append] at hX
      have HX := Lib.hid hX
      clear hX hB hm
      go_wp2
      exact bodyPost_ret_by (results_tmp rfl _ _ _) rfl ⟨rfl, HX.out, ((Below.refl _ _).alloc (Nat.le_refl _) _).trans HB.out⟩
end Go.Proofs.Ytnojkifndcffjaa
