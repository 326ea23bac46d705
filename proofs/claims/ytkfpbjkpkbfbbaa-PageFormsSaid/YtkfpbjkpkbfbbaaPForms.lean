/- What PageForms asks besides. -/
import Derived.Test.YtkfpbjkpkbfbbaaRParseC
import Derived.Test.YtkfpbjkpkbfbbaaPFull
import Derived.Test.YtkfpbjkpkbfbbaaFew
import Derived.Test.YtkfpbjkpkbfbbaaPageSameWalk
namespace Go.Proofs.Ytkfpbjkpkbfbbaa
open Go.RowKit
set_option linter.unusedSimpArgs false
set_option linter.unusedVariables false
theorem run_make_n (w : World) (k : Nat) (hk : k < 2000) : (Instr.makeSlice 23 (.int .i64 (k : Int)) (.int .i64 (k : Int))).run Try.prog w = .ok (.slice (some ⟨w.heap.size, 0, none⟩) k k) (w.alloc (.cells (byt (List.replicate k 0)).toArray 5)) := by
  obtain ⟨i0, hi0, hz0, hz1, hz2⟩ := info_parts infoByte
  have h := run_make (P := Try.prog) w 23 5 i0 (.int .u8 0) Try.underlying23 hi0 hz0 .i64 .i64 (k : Int) (k : Int) (by omega) (by omega) (by rw [hz2]; omega) (by omega)
  rw [hz1] at h
  have e : madeCells (Value.cells (.int .u8 0)) ((k : Int).toNat * 1) = (byt (List.replicate k 0)).toArray := by
    have e2 := toList_madeCells_one (.int .u8 0) k
    have e3 : (byt (List.replicate k 0)).toArray = (madeCells #[Value.int .u8 0] k).toList.toArray := by
      rw [e2]
      unfold byt
      rw [List.map_replicate]
      rfl
    rw [e3]
    simp [Value.cells]
  rw [e] at h
  simpa using h
theorem zeros_of (w : World) (n g : Nat) (hn : n < 2000) (hg : g = w.heap.size) : Bytes (w.alloc (.cells (byt (List.replicate n 0)).toArray 5)) (w.alloc (.cells (byt (List.replicate n 0)).toArray 5)).heap.size (.slice (some ⟨g, 0, none⟩) n n) (List.replicate n 0) := by
  subst hg
  exact bytes_block (Go.heap_alloc_new w _) (by simp) List.length_replicate.symm (Nat.le_refl _) (fun b hb => by rw [List.eq_of_mem_replicate hb]; omega) (by unfold maxLen; rw [List.length_replicate]; omega)
theorem zeros_all (l : List Nat) : (l = List.replicate l.length 0) ↔ ∀ b ∈ l, b = 0 := by
  rw [List.eq_replicate_iff]
  exact ⟨fun h => h.2, fun h => ⟨rfl, h⟩⟩
theorem row_lt {x : World} {g : Nat} {cs : Array Value} {t : TypeId} {z : Nat × Nat} (h : x.heap[g]? = some (.cells cs t z)) : g < x.heap.size := (Array.getElem?_eq_some_iff.1 h).1
/-- What Bytes answers of a page: the error, and the bytes. -/
def OutB (x3 n2 : Nat) (Q : List Nat) (n6 : Nat) (lb : List Nat) (er : Nat) : Prop := (er = 1 ∧ x3 = 0 ∧ n6 = 0) ∨ (er = 4 ∧ x3 ≠ 0 ∧ ¬ n2 ≤ 491 ∧ n6 = 0) ∨ (er = 0 ∧ x3 ≠ 0 ∧ n2 ≤ 491 ∧ n6 = 512 ∧ lb = Q)
/-- The page's own bytes, and its box. -/
def FormA (w : World) (x0 x1 x2 x3 : Nat) (A2 : Option Addr) (n2 c2 : Nat) (D : List Nat) (v11 v12 : Value) (x : World) : Prop :=
  ∃ (A6 : Option Addr) (n6 c6 : Nat) (lb : List Nat) (er : Nat), v11 = .slice A6 n6 c6 ∧ v12 = .int .i64 (er : Int) ∧ Bytes x x.heap.size (.slice A6 n6 c6) lb ∧ OutB x3 n2 (page x0 x1 x2 x3 D) n6 lb er ∧
    x.heap[w.heap.size]? = some (.cells #[.int .u32 (x0 : Int), .int .u32 (x1 : Int), .int .u32 (x2 : Int), .int .u8 (x3 : Int), .slice A2 n2 c2] 25 (0, 0)) ∧ Bytes x x.heap.size (.slice A2 n2 c2) D ∧ Below w.heap.size w x
theorem pparts_one {y : World} {v : Value} {l : List Nat} {B gx : Nat} (hy : y.heap[gx]? = some (.cells #[v] 23 (0, 0))) (h : Bytes y B v l) (hB : B ≤ y.heap.size) : Parts y y.heap.size (.slice (some ⟨gx, 0, none⟩) 1 1) [l] := by
  refine parts_block hy ?_ rfl rfl ?_ (by unfold maxLen; simp)
  · rcases Nat.lt_or_ge gx y.heap.size with h1 | h1
    · exact h1
    · rw [Array.getElem?_eq_none h1] at hy; cases hy
  intro j u l h1 h2
  match j, h1, h2 with
  | 0, h1, h2 =>
    simp at h1 h2
    subst h1 h2
    exact h.up hB
  | j + 1, h1, h2 => simp at h1
theorem u8_xor (a b : Nat) (ha : a < 256) (hb : b < 256) : bits .xor .u8 (a : Int) (b : Int) = ((a ^^^ b : Nat) : Int) := u8_xor_nat a b ha hb
theorem xor_small {a b : Nat} (ha : a < 256) (hb : b < 256) : a ^^^ b < 256 := Nat.xor_lt_two_pow (n := 8) (by omega) (by omega)
theorem mine_set {w : World} {base n c g i b : Nat} {l : List Nat} (h : Mine w base (some ⟨g, 0, none⟩) n c l) (hb : b < 256) : Mine (w.setCell ⟨g, i, none⟩ (.int .u8 (b : Int))) base (some ⟨g, 0, none⟩) n c (l.set i b) := by
  refine ⟨?_, by rw [List.length_set]; exact h.len, ?_⟩
  · have h1 := (h.own.stored i (.int .u8 (b : Int))).1
    have e : byt (l.set i b) = (byt l).set i (.int .u8 (b : Int)) := by unfold byt; rw [List.map_set]
    rw [e]
    exact h1
  · intro d hd
    rcases List.mem_or_eq_of_mem_set hd with h2 | h2
    · exact h.small d h2
    · rw [h2]; exact hb
/-- What is bent: at most a sector's bytes. -/
def BentR (W : World) (v : Value) (x : World) : Prop := ∃ A n c l, v = .slice A n c ∧ Bytes x x.heap.size (.slice A n c) l ∧ l.length ≤ 512 ∧ Below W.heap.size W x
/-- The five that are parsed. -/
def FiveR (W : World) (v90 v91 v92 : Value) (x : World) : Prop := ∃ g s0 s1 s2 s3 s4, v90 = .slice (some ⟨g, 0, none⟩) 5 5 ∧ v91 = .int .i64 5 ∧ v92 = .int .i64 0 ∧ x.heap[g]? = some (.cells #[s0, s1, s2, s3, s4] 23 (0, 0)) ∧
  (∀ s ∈ [s0, s1, s2, s3, s4], ∃ A n c l, s = .slice A n c ∧ Bytes x x.heap.size s l ∧ l.length ≤ 600) ∧ Below W.heap.size W x
def LoopF (W : World) (i : Value) (x : World) : Prop := ∃ k : Nat, k ≤ 5 ∧ i = .int .i64 (k : Int) ∧ Below W.heap.size W x
theorem five_at {we wr : World} {g kk : Nat} {s0 s1 s2 s3 s4 : Value} (hrow : we.heap[g]? = some (.cells #[s0, s1, s2, s3, s4] 23 (0, 0))) (hall : ∀ s ∈ [s0, s1, s2, s3, s4], ∃ A n c l, s = .slice A n c ∧ Bytes we we.heap.size s l ∧ l.length ≤ 600) (hb : Below we.heap.size we wr) (hk : kk < 5) :
    ∃ A n c l, wr.cell? ⟨g, kk, none⟩ = some (.slice A n c) ∧ Bytes wr wr.heap.size (.slice A n c) l ∧ n = l.length ∧ n ≤ 600 := by
  have hr := (hb.block _ (row_lt hrow)).trans hrow
  obtain ⟨s, hs⟩ : ∃ s, [s0, s1, s2, s3, s4][kk]? = some s := ⟨_, List.getElem?_eq_getElem (by simpa using hk)⟩
  obtain ⟨A, n, c, l, rfl, hB, hl⟩ := hall s (List.mem_of_getElem? hs)
  have hn : n = l.length := by
    obtain ⟨⟨A1, c1, hv, _⟩, _, _⟩ := id hB
    injection hv
  refine ⟨A, n, c, l, ?_, hB.along hb, hn, by omega⟩
  rw [cell_of_row wr g kk _ _ _ hr]
  simpa using hs
theorem like_true (x : World) (x0 x1 x2 x3 : Nat) (A B : Option Addr) (n m c k : Nat) (d : List Nat) (hp : Bytes x x.heap.size (.slice A n c) d) (hq : Bytes x x.heap.size (.slice B m k) d) :
    Calls Try.prog 17 #[.agg #[.int .u32 (x0 : Int), .int .u32 (x1 : Int), .int .u32 (x2 : Int), .int .u8 (x3 : Int), .slice A n c], .agg #[.int .u32 (x0 : Int), .int .u32 (x1 : Int), .int .u32 (x2 : Int), .int .u8 (x3 : Int), .slice B m k]] x fun e w' =>
      e = .returned (.bool true) ∧ Below x.heap.size x w' := by
  have h := like_any x x0 x1 x2 x3 x0 x1 x2 x3 A B n m c k d d hp hq
  rw [decide_eq_true ⟨rfl, rfl, rfl, rfl, rfl⟩] at h
  exact h
end Go.Proofs.Ytkfpbjkpkbfbbaa
