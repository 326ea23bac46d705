/- Contracts: what the reference's Zig, Zag and Lay answer. -/
import Derived.Test.YtdphpjlhkamadaaZ40
namespace Go.Proofs.Ytdphpjlhkamadaa
open Go.RowKit
set_option linter.unusedSimpArgs false
set_option linter.unusedVariables false

set_option maxHeartbeats 1000000 in
theorem refZig_any (w : World) (n : Int) (h1 : -9223372036854775808 ≤ n) (h2 : n < 9223372036854775808) :
    Calls Try.prog 74 #[.int .i64 n] w fun e w' => e = .returned (.int .u64 (zig n : Int)) ∧ w = w' := by
  by_cases h0 : n < 0
  · have HZ : Hid (2 * -(n + 1) + 1 = ((zig n : Nat) : Int)) := by
      show 2 * -(n + 1) + 1 = ((zig n : Nat) : Int)
      unfold zig
      rw [if_pos h0]
      omega
    go_enter Try.func74, Try.ntmps74
    go_wp2
    go_ret
    exact ⟨congrArg (fun z => Ending.returned (Value.int .u64 z)) HZ.out, rfl⟩
  · have HZ : Hid (2 * n = ((zig n : Nat) : Int)) := by
      show 2 * n = ((zig n : Nat) : Int)
      unfold zig
      rw [if_neg h0]
      omega
    go_enter Try.func74, Try.ntmps74
    go_wp2
    go_ret
    exact ⟨congrArg (fun z => Ending.returned (Value.int .u64 z)) HZ.out, rfl⟩
/-- The document's bytes of a field. -/
def tp_layF (k N : Nat) (s : List Nat) : List Nat :=
  if k % 5 = 1 then num (zig (wrap64 (N : Int))) else if k % 5 = 2 then num s.length ++ s else if k % 5 = 3 then [N % 256] else if k % 5 = 4 then [N % 2] else num N
/-- A field as it is handed over. -/
def fld (k N : Nat) (s : ByteArray) (M : Nat) : Value := .agg #[.int .u8 (k : Int), .int .u64 (N : Int), .string s, .int .u64 (M : Int)]
def fcells (k N : Nat) (s : ByteArray) (M : Nat) : Array Value := #[.int .u8 (k : Int), .int .u64 (N : Int), .string s, .int .u64 (M : Int)]
theorem field_facts {w : World} {g : Nat} {v0 v1 v2 v3 : Value} (h : w.heap[g]? = some (.cells #[v0, v1, v2, v3] 96 (0, 0))) :
    w.cell? ⟨g, 0, none⟩ = some v0 ∧ w.cell? ⟨g, 1, none⟩ = some v1 ∧ w.cell? ⟨g, 2, none⟩ = some v2 ∧ w.cell? ⟨g, 3, none⟩ = some v3 ∧
    w.frozen? ⟨g, 0, none⟩ = false ∧ w.frozen? ⟨g, 1, none⟩ = false ∧ w.frozen? ⟨g, 2, none⟩ = false ∧ w.frozen? ⟨g, 3, none⟩ = false :=
  ⟨cell_of_row w g 0 _ _ _ h, cell_of_row w g 1 _ _ _ h, cell_of_row w g 2 _ _ _ h, cell_of_row w g 3 _ _ _ h, frozen_of_row w g 0 _ _ h, frozen_of_row w g 1 _ _ h, frozen_of_row w g 2 _ _ h, frozen_of_row w g 3 _ _ h⟩
theorem mine_one (w : World) (b : Nat) (hb : b < 256) : Mine (w.alloc (.cells #[.int .u8 (b : Int)] 5)) w.heap.size (some ⟨w.heap.size, 0, none⟩) 1 1 [b] :=
  ⟨⟨by simp [byt], .inr ⟨_, _, _, rfl, Nat.le_refl _, Go.heap_alloc_new w _, Nat.le_refl _, by unfold maxLen; omega, rfl, rfl⟩⟩, rfl, by simpa using hb⟩
def TpLayR (w : World) (l : List Nat) (e : Ending) (w' : World) : Prop := ∃ A m c, e = .returned (.slice A m c) ∧ Mine w' w.heap.size A m c l ∧ Below w.heap.size w w'
set_option maxRecDepth 100000 in
set_option maxHeartbeats 2000000 in
theorem refLay_plain (w : World) (k N M : Nat) (s : ByteArray) (hk : k < 256) (hN : N < 18446744073709551616) (h2 : k % 5 ≠ 2) :
    Calls Try.prog 52 #[.agg #[.int .u8 (k : Int), .int .u64 (N : Int), .string s, .int .u64 (M : Int)]] w (TpLayR w (tp_layF k N (str s))) := by
  have hb := (Below.refl w.heap.size w).alloc (Nat.le_refl _) (.cells #[.int .u8 (k : Int), .int .u64 (N : Int), .string s, .int .u64 (M : Int)] 96)
  have HB := Lib.hid hb
  rcases (show k % 5 = 1 ∨ k % 5 = 3 ∨ k % 5 = 4 ∨ k % 5 = 0 by omega) with h | h | h | h
  · have hk5 : (k : Int) % 5 = 1 := by omega
    have hl : tp_layF k N (str s) = num (zig (wrap64 (N : Int))) := by unfold tp_layF; rw [if_pos h]
    rw [hl]
    have hw : -9223372036854775808 ≤ wrap64 (N : Int) ∧ wrap64 (N : Int) < 9223372036854775808 := by unfold wrap64; omega
    have HZ := hide (refZig_any (w.alloc (.cells #[.int .u8 (k : Int), .int .u64 (N : Int), .string s, .int .u64 (M : Int)] 96)) (wrap64 (N : Int)) hw.1 hw.2)
    have HC := hide (refNum_any (zig (wrap64 (N : Int))) (w.alloc (.cells #[.int .u8 (k : Int), .int .u64 (N : Int), .string s, .int .u64 (M : Int)] 96)) (zig_lt hw.1 hw.2))
    clear hb hl hw h h2
    go_enter Try.func52, Try.ntmps52
    go_wp2_with (first
      | (go_at_call 74; (with_reducible refine (unhide HZ).mono ?_); rintro e w1 ⟨rfl, rfl⟩)
      | (go_at_call 51; (with_reducible refine (unhide HC).mono ?_); rintro e w1 ⟨A1, m1, c1, rfl, hM1, hb1⟩))
    go_ret
    exact ⟨A1, m1, c1, rfl, hM1.lower (by simp), HB.out.trans (hb1.mono (by simp))⟩
  · have hk5 : (k : Int) % 5 = 3 := by omega
    have hl : tp_layF k N (str s) = [N % 256] := by unfold tp_layF; rw [if_neg (by omega), if_neg (by omega), if_pos h]
    rw [hl]
    have HM := Lib.hid (mine_one (w.alloc (.cells #[.int .u8 (k : Int), .int .u64 (N : Int), .string s, .int .u64 (M : Int)] 96)) (N % 256) (Nat.mod_lt _ (by decide)))
    have HE := Lib.hid (show ((N % 256 : Nat) : Int) = (N : Int) % 256 by omega)
    clear hb hl h h2
    go_enter Try.func52, Try.ntmps52
    go_wp2
    go_ret
    have h1 := HM.out
    rw [HE.out] at h1
    exact ⟨_, _, _, rfl, by simpa using h1.lower (by simp : w.heap.size ≤ _), HB.out.alloc (by simp) _⟩
  · have hk5 : (k : Int) % 5 = 4 := by omega
    have hl : tp_layF k N (str s) = [N % 2] := by unfold tp_layF; rw [if_neg (by omega), if_neg (by omega), if_neg (by omega), if_pos h]
    rw [hl]
    have HM := Lib.hid (mine_one (w.alloc (.cells #[.int .u8 (k : Int), .int .u64 (N : Int), .string s, .int .u64 (M : Int)] 96)) (N % 2) (by omega))
    have HE := Lib.hid (show ((N % 2 : Nat) : Int) = (N : Int) % 2 by omega)
    clear hb hl h h2
    go_enter Try.func52, Try.ntmps52
    go_wp2
    go_ret
    have h1 := HM.out
    rw [HE.out] at h1
    exact ⟨_, _, _, rfl, by simpa using h1.lower (by simp : w.heap.size ≤ _), HB.out.alloc (by simp) _⟩
  · have hk5 : (k : Int) % 5 = 0 := by omega
    have hl : tp_layF k N (str s) = num N := by unfold tp_layF; rw [if_neg (by omega), if_neg (by omega), if_neg (by omega), if_neg (by omega)]
    rw [hl]
    have HC := hide (refNum_any N (w.alloc (.cells #[.int .u8 (k : Int), .int .u64 (N : Int), .string s, .int .u64 (M : Int)] 96)) hN)
    clear hb hl h h2
    go_enter Try.func52, Try.ntmps52
    go_wp2_with (go_at_call 51; (with_reducible refine (unhide HC).mono ?_); rintro e w1 ⟨A1, m1, c1, rfl, hM1, hb1⟩)
    go_ret
    exact ⟨A1, m1, c1, rfl, hM1.lower (by simp), HB.out.trans (hb1.mono (by simp))⟩
/-- What []byte(s) leaves, read as bytes. -/
theorem bytes_of_string (w : World) (s : ByteArray) (hs : s.size ≤ 1048576) : (convert 9 42 (.string s)).run Try.prog w = .ok (.slice (some ⟨w.heap.size, 0, none⟩) s.size (grownCap w s.size 0 5)) (w.drew.alloc (.cells (bytesRow s (grownCap w s.size 0 5)) 5 ((bytesRow s (grownCap w s.size 0 5)).size, (bytesRow s (grownCap w s.size 0 5)).size + 1))) :=
  run_bytes_of_string w 9 42 5 s Try.underlying9 Try.underlying42 Try.underlying5
/-- A block that holds a string's bytes, read as bytes. -/
theorem str_block {x : World} {g c : Nat} {s : ByteArray} {z : Nat × Nat} (h : x.heap[g]? = some (.cells (bytesRow s c) 5 z)) (hc : s.size ≤ c) (hs : s.size ≤ 1048576) : Bytes x (g + 1) (.slice (some ⟨g, 0, none⟩) s.size c) (str s) := by
  refine ⟨⟨_, _, by rw [str_length], fun j v hj => ⟨_, rfl, by simp, ?_⟩, by rw [str_length]; exact hc, fun h => by cases h⟩, str_small s, by rw [str_length]; unfold maxLen; omega⟩
  have hplain : (⟨g, 0, none⟩ : Addr).add j = ⟨g, j, none⟩ := by unfold Addr.add; split <;> simp_all
  rw [hplain]
  have hjl : j < s.data.size := by
    have := (List.getElem?_eq_some_iff.1 hj).1
    rw [byt_length, str_length] at this
    exact this
  have h2 := bytesRow_at s c j hjl
  unfold World.cell?
  rw [h]
  rw [byt_at] at hj
  unfold str at hj
  rw [List.getElem?_map, List.getElem?_eq_getElem (by simpa using hjl)] at hj
  simp only [Option.map_some, Option.some.injEq] at hj
  rw [← hj]
  simpa using h2
/-- Join of two slices, behind a draw. -/
theorem join_drew (w : World) (g : Nat) (hg : g = w.heap.size) (v u : Value) (l1 l2 : List Nat) (h1 : Bytes w w.heap.size v l1) (h2 : Bytes w w.heap.size u l2) (hl : l1.length + l2.length ≤ 1048576) :
    Calls Try.prog 24 #[.slice (some ⟨g, 0, none⟩) 2 2] (w.alloc (.cells #[v, u] 42)).drew fun e w' => ∃ A n c, e = .returned (.slice A n c) ∧ Mine w' w.heap.size A n c (l1 ++ l2) ∧ Below w.heap.size w w' := by
  subst hg
  exact join_two w.drew v u l1 l2 (h1.of_cells fun _ _ => rfl) (h2.of_cells fun _ _ => rfl) hl |>.mono fun e w' ⟨A, n, c, he, hM, hB⟩ => ⟨A, n, c, he, hM, (Below.refl _ _).drew.trans hB⟩
def strRow (w : World) (s : ByteArray) : Obj := .cells (bytesRow s (grownCap w s.size 0 5)) 5 ((bytesRow s (grownCap w s.size 0 5)).size, (bytesRow s (grownCap w s.size 0 5)).size + 1)
set_option maxRecDepth 100000 in
set_option maxHeartbeats 4000000 in
theorem refLay_text (w : World) (k N M : Nat) (s : ByteArray) (hs : s.size ≤ 1000000) (h2 : k % 5 = 2) :
    Calls Try.prog 52 #[.agg #[.int .u8 (k : Int), .int .u64 (N : Int), .string s, .int .u64 (M : Int)]] w (TpLayR w (tp_layF k N (str s))) := by
  have hk5 : (k : Int) % 5 = 2 := by omega
  have hl : tp_layF k N (str s) = num s.size ++ str s := by unfold tp_layF; rw [if_neg (by omega), if_pos h2, str_length]
  rw [hl]
  have hconv := fun W => bytes_of_string W s (by omega)
  have HC := fun W => hide (refNum_any s.size W (by omega))
  have HLN := Lib.hid (num_length64 (n := s.size) (by omega))
  have hcv : IntKind.u64.wrap (s.size : Int) = (s.size : Int) := by rw [IntKind.wrap_u64]; omega
  clear hl h2
  go_enter Try.func52, Try.ntmps52
  go_wp2
  obtain ⟨W0, hW0⟩ : ∃ W0, W0 = (w.alloc (.cells #[.int .u8 (k : Int), .int .u64 (N : Int), .string s, .int .u64 (M : Int)] 96)) := ⟨_, rfl⟩
  have hb0 : Below w.heap.size w W0 := by rw [hW0]; exact (Below.refl w.heap.size w).alloc (Nat.le_refl _) _
  have hg0 : W0.heap[w.heap.size]? = some (.cells #[.int .u8 (k : Int), .int .u64 (N : Int), .string s, .int .u64 (M : Int)] 96 (0, 0)) := by rw [hW0]; exact Go.heap_alloc_new w _
  rw [← hW0]
  obtain ⟨q0, q1, q2, q3, -⟩ := field_facts hg0
  have HB0 := Lib.hid hb0
  have HG0 := Lib.hid hg0
  have HL := Lib.hid (lt_of_heap hg0)
  have hqO : ∀ O : Obj, (W0.alloc O).cell? ⟨w.heap.size, 2, none⟩ = some (.string s) := fun O => (World.cell?_alloc_lt W0 O _ (lt_of_heap hg0)).trans q2
  clear hW0 hb0 hg0
  go_region_law (first
    | (go_simp; go_at_call 51; (with_reducible refine (unhide (HC _)).mono ?_); rintro e w1 ⟨A1, m1, c1, rfl, hM1, hb1⟩; go_loud (
       have hgx : w1.heap[w.heap.size]? = some (.cells #[.int .u8 (k : Int), .int .u64 (N : Int), .string s, .int .u64 (M : Int)] 96 (0, 0)) := (hb1.block _ (by have := HL.out; simp; omega)).trans (by first | exact HG0.out | exact (Go.heap_alloc_old W0 _ HL.out).trans HG0.out);
       obtain ⟨p0, p1, p2, p3, -⟩ := field_facts hgx;
       have HGX := Lib.hid hgx;
       have hbw : Below w.heap.size w w1 := (by
         first
           | exact HB0.out.trans (((Below.refl W0.heap.size W0).drew.trans hb1).mono HB0.out.size)
           | exact HB0.out.trans ((((Below.refl W0.heap.size W0).alloc (Nat.le_refl _) _).drew.drew.trans (hb1.mono (by simp))).mono HB0.out.size));
       have HBW := Lib.hid hbw;
       clear hbw;
       try (
         have hs2 : Bytes w1 w1.heap.size (.slice (some ⟨W0.heap.size, 0, none⟩) s.size (grownCap W0.drew s.size 0 5)) (str s) := by
           refine Bytes.along ?_ hb1
           refine Bytes.up (B := W0.heap.size + 1) ?_ (by simp)
           exact (str_block (Go.heap_alloc_new W0 _) (grownCap_ge _ _ _ _) (by omega)).of_cells fun _ _ => rfl
         have HS2 := Lib.hid hs2
         clear hs2);
       have HM1 := Lib.hid hM1;
       have HB1 := Lib.hid hb1;
       clear hgx hM1 hb1))
    | (go_simp; go_at_call 24; (with_reducible refine (join_drew _ _ (by simp) _ _ (num s.size) (str s) (HM1.out.bytes.along ((Below.refl _ _).alloc (Nat.le_refl _) _)) ((str_block (Go.heap_alloc_new w1 _) (grownCap_ge _ _ _ _) (by omega)).up (by simp)) (by have := HLN.out; rw [str_length]; omega)).mono ?_); rintro e w2 ⟨A2, m2, c2, rfl, hM2, hb2⟩)
    | (go_simp; go_at_call 24; (with_reducible refine (join_two _ _ _ (num s.size) (str s) HM1.out.bytes HS2.out (by have := HLN.out; rw [str_length]; omega)).mono ?_); rintro e w2 ⟨A2, m2, c2, rfl, hM2, hb2⟩))
  all_goals
    have hs1 := HBW.out.size
    have hb3 : Below w.heap.size w w2 := by
      first
        | exact HBW.out.trans (hb2.mono hs1)
        | exact (HBW.out.alloc hs1 _).trans (hb2.mono (by simp; omega))
    have hM3 : Mine w2 w.heap.size A2 m2 c2 (num s.size ++ str s) := hM2.lower (by first | exact hs1 | (simp; omega))
    have HB3 := Lib.hid hb3
    have HM3 := Lib.hid hM3
    clear hb3 hM3 hM2 hb2 hs1
    go_wp2
    go_ret
    exact ⟨A2, m2, c2, rfl, HM3.out, HB3.out⟩
theorem refLay_any (w : World) (k N M : Nat) (s : ByteArray) (hk : k < 256) (hN : N < 18446744073709551616) (hs : s.size ≤ 1000000) :
    Calls Try.prog 52 #[.agg #[.int .u8 (k : Int), .int .u64 (N : Int), .string s, .int .u64 (M : Int)]] w (TpLayR w (tp_layF k N (str s))) := by
  by_cases h : k % 5 = 2
  · exact refLay_text w k N M s hs h
  · exact refLay_plain w k N M s hk hN h
end Go.Proofs.Ytdphpjlhkamadaa
