/- Contracts: the document's example of a page holds: awake answers true. -/
import Derived.Test.YtkdbplfphhfeaaaLike
import Derived.Test.YtkdbplfphhfeaaaBurst
namespace Go.Proofs.Ytkdbplfphhfeaaa
open Go.RowKit
set_option linter.unusedSimpArgs false
set_option linter.unusedVariables false

def exPage : List Nat := page 0 0 0 1 [7, 8]
set_option maxRecDepth 100000 in
theorem ex_zero : exPage[100]? = some 0 := by
  unfold exPage page
  rw [List.getElem?_append_left (by rw [pg_length (by decide)]; decide), pg_head]
  simp [be4]
theorem ex_first : exPage[0]? = some 104 := by
  unfold exPage page
  rw [List.getElem?_append_left (by rw [pg_length (by decide)]; decide), pg_head]
  rfl
theorem page_small {gen ser num kind : Nat} {d : List Nat} (hk : kind < 256) (hd : ∀ b ∈ d, b < 256) : ∀ b ∈ page gen ser num kind d, b < 256 := fun b hb => by
  rcases List.mem_append.1 hb with h | h
  · exact pg_small hk hd b h
  · exact le4_small _ b h
theorem ex_length : exPage.length = 512 := page_length (by decide)
theorem ex_blank : ¬ ∀ b ∈ exPage.set 100 1, b = 0 := fun h => by
  have h1 := h 104 (List.mem_of_getElem? (i := 0) (by rw [List.getElem?_set_ne (by decide)]; exact ex_first))
  cases h1
theorem ex_small0 : ∀ b ∈ exPage, b < 256 := page_small (by decide) (by decide)
theorem ex_small : ∀ b ∈ exPage.set 100 1, b < 256 := fun b hb => by
  rcases List.mem_or_eq_of_mem_set hb with h | h
  · exact ex_small0 b h
  · omega
theorem ex_turned : ¬ val ((exPage.set 100 1).drop 508) = crc ((exPage.set 100 1).take 508) := by
  have h1 := page_sealed (gen := 0) (ser := 0) (num := 0) (kind := 1) (d := [7, 8]) (by decide)
  have h2 := crc_turn (exPage.take 508) 100 1 0 (by rw [List.getElem?_take, if_pos (by decide)]; exact ex_zero) (by decide) (by decide) (fun c hc => ex_small0 c (List.mem_of_mem_take hc)) (by decide)
  rw [List.drop_set_of_lt (by decide), List.take_set]
  intro h
  rw [show page 0 0 0 1 [7, 8] = exPage from rfl] at h1
  rw [h1] at h
  exact h2 h

theorem ex_after {w w2 w3 : World} {B g g3 c2 c3 : Nat} (hM : Mine w3 B (some ⟨g, 0, none⟩) 512 c2 exPage) (hg : g < w2.heap.size) (hB : w.heap.size ≤ B) (hBg : B ≤ g) (h23 : w2.heap.size ≤ g3) (hg3 : g3 < w3.heap.size) (hs : w2.heap.size ≤ w3.heap.size) (k3 : w3.cell? ⟨g3, 1, none⟩ = some (.int .u8 8))
    (X : World) (hX : X = (w3.setCell ⟨g, 100, none⟩ (.int .u8 1)).alloc (.cells #[.int .u32 0, .int .u32 0, .int .u32 0, .int .u8 1, .slice (some ⟨g3, 0, none⟩) 2 c3] 25)) :
    Bytes X X.heap.size (.slice (some ⟨g, 0, none⟩) 512 c2) (exPage.set 100 1) ∧ (∀ w6, Below w.heap.size w w3 → Below X.heap.size X w6 → Below w.heap.size w w6) ∧
      (∀ w6, Below X.heap.size X w6 → w6.cell? ⟨w3.heap.size, 4, none⟩ = some (.slice (some ⟨g3, 0, none⟩) 2 c3)) ∧ (∀ w6, Below X.heap.size X w6 → w6.cell? ⟨g3, 1, none⟩ = some (.int .u8 8)) := by
  have hs0 : (w3.setCell ⟨g, 100, none⟩ (.int .u8 1)).heap.size = w3.heap.size := by simp [World.setCell]
  have hXs : X.heap.size = w3.heap.size + 1 := by rw [hX]; simp [World.setCell]
  have hown := (hM.own.stored 100 (.int .u8 ((1 : Nat) : Int))).1
  have e : (byt exPage).set 100 (.int .u8 ((1 : Nat) : Int)) = byt (exPage.set 100 1) := by unfold byt; rw [List.map_set]
  rw [e, show ((1 : Nat) : Int) = 1 from rfl] at hown
  have hM0 : Mine (w3.setCell ⟨g, 100, none⟩ (.int .u8 1)) B (some ⟨g, 0, none⟩) 512 c2 (exPage.set 100 1) := ⟨hown, by rw [List.length_set, ex_length], ex_small⟩
  have hb1 := (Below.refl (w3.setCell ⟨g, 100, none⟩ (.int .u8 1)).heap.size (w3.setCell ⟨g, 100, none⟩ (.int .u8 1))).alloc (Nat.le_refl _) (.cells #[.int .u32 0, .int .u32 0, .int .u32 0, .int .u8 1, .slice (some ⟨g3, 0, none⟩) 2 c3] 25)
  have hMX := hM0.below hb1
  rw [← hX] at hMX hb1
  refine ⟨hMX.bytes, fun w6 h1 h2 => ?_, fun w6 h2 => ?_, fun w6 h2 => ?_⟩
  · have h3 : Below w.heap.size w X := by
      rw [hX]
      exact (h1.setCell (p := ⟨g, 100, none⟩) (by show w.heap.size ≤ g; omega) _).alloc (by rw [hs0]; exact h1.size) _
    exact h3.trans (h2.mono h3.size)
  · rw [h2.cell (p := ⟨w3.heap.size, 4, none⟩) (by show w3.heap.size < X.heap.size; omega), hX, ← hs0]
    rw [cell_of_row _ (w3.setCell ⟨g, 100, none⟩ (.int .u8 1)).heap.size 4 _ _ _ (Go.heap_alloc_new _ _)]
    rfl
  · rw [h2.cell (p := ⟨g3, 1, none⟩) (by show g3 < X.heap.size; omega), hb1.cell (p := ⟨g3, 1, none⟩) (by rw [hs0]; exact hg3), World.cell?_setCell_other _ _ _ _ (by intro h; injection h with h; omega)]
    exact k3
set_option maxRecDepth 100000 in
set_option maxHeartbeats 4000000 in
theorem awake_any (w : World) : Calls Try.prog 6 #[] w fun e w' => e = .returned (.bool true) ∧ Below w.heap.size w w' := by
  obtain ⟨P, hP⟩ : ∃ P, P = exPage := ⟨_, rfl⟩
  have HP := Lib.hid hP
  have h7 := (Below.refl w.heap.size w).alloc (Nat.le_refl _) (.cells #[.int .u8 7, .int .u8 8] 5)
  have hb78 : Bytes (w.alloc (.cells #[.int .u8 7, .int .u8 8] 5)) (w.alloc (.cells #[.int .u8 7, .int .u8 8] 5)).heap.size (.slice (some ⟨w.heap.size, 0, none⟩) 2 2) [7, 8] :=
    bytes_block (l := [7, 8]) (Go.heap_alloc_new w _) (by simp) rfl (Nat.le_refl _) (by decide) (by unfold maxLen; simp)
  have HC1 := hide (bytes_good (w.alloc (.cells #[.int .u8 7, .int .u8 8] 5)) 0 0 0 1 (some ⟨w.heap.size, 0, none⟩) 2 2 [7, 8] (by decide) (by decide) (by decide) (by decide) hb78 (by decide))
  rw [show pg 0 0 0 1 [7, 8] ++ le4 (crc (pg 0 0 0 1 [7, 8])) = exPage from rfl, ← hP] at HC1
  rw [show ((0 : Nat) : Int) = 0 from rfl, show ((1 : Nat) : Int) = 1 from rfl] at HC1
  have H7 := Lib.hid h7
  have hx01 : bits .xor .u8 0 1 = 1 := by decide
  clear hP h7 hb78
  go_enter Try.func6, Try.ntmps6
  go_wp2_with (first
    | (go_at_call 9; (with_reducible refine (unhide HC1).mono ?_); rintro e w2 ⟨A2, n2, c2, rfl, hM2, hb2⟩; go_loud (
       obtain rfl : n2 = 512 := by rw [hM2.len, HP.out, ex_length];
       obtain ⟨g, y, rfl, hg2, hy, hys, ky, fy⟩ := hM2.at_ (k := 100) (by decide);
       have hb2' := H7.out.trans (hb2.mono H7.out.size);
       have HC2 := hide (parse_page w2 (some ⟨g, 0, none⟩) 512 c2 0 0 0 1 [7, 8] (by decide) (by decide) (by decide) (by decide) (by decide) (by have h := hM2.bytes; rw [HP.out] at h; exact h));
       rw [show ((0 : Nat) : Int) = 0 from rfl, show ((1 : Nat) : Int) = 1 from rfl] at HC2))
    | (go_at_call 10; (with_reducible refine (unhide HC2).mono ?_); rintro e w3 ⟨A3, n3, c3, rfl, hM3, hb3⟩; go_loud (
       obtain rfl : n3 = 2 := hM3.len;
       obtain ⟨g3, y3, rfl, hg3, hy3, hys3, k3, -⟩ := hM3.at_ (k := 1) (by decide);
       obtain rfl : y3 = 8 := by simpa using hy3.symm;
       have hM23 := hM2.below hb3;
       obtain rfl : y = 0 := by rw [HP.out, ex_zero] at hy; exact (Option.some.inj hy).symm;
       have hgl3 := World.block_lt_of_cell? w3 _ k3;
       have hgl2 := World.block_lt_of_cell? w2 _ ky;
       have hgw3 : g < w3.heap.size := Nat.lt_of_lt_of_le hgl2 hb3.size;
       have hgn : ¬ g = w3.heap.size := by omega;
       have kx3 := (hb3.cell (p := ⟨g, 100, none⟩) hgl2).trans ky;
       have fx3 := (hb3.frozen (p := ⟨g, 100, none⟩) hgl2).trans fy;
       obtain ⟨hx1, hx2, hx3, hx4⟩ := ex_after (w := w) (c3 := c3) (by have h := hM23; rw [HP.out] at h; exact h) hgl2 H7.out.size hg2 hg3 hgl3 hb3.size k3 _ rfl;
       have HC3 := hide (parse_corrupt _ _ _ _ hx1 ex_blank ex_turned);
       have HX2 := Lib.hid hx2;
       have HX3 := Lib.hid hx3;
       have HX4 := Lib.hid hx4;
       have Hb3 := Lib.hid (hb2'.trans (hb3.mono hb2'.size));
       clear hx1 hx2 hx3 hx4 hb2 hb3 hM23 hM2 hM3 ky fy hb2'))
    | (go_at_call 10; (with_reducible refine (unhide HC3).mono ?_); rintro e w6 ⟨rfl, hb6⟩; go_loud (
       have k6 := HX3.out w6 hb6;
       have k7 := HX4.out w6 hb6;
       have l6 := World.block_lt_of_cell? w6 _ k6;
       have l7 := World.block_lt_of_cell? w6 _ k7;
       dsimp only at l6 l7;
       have n6 : ¬ w3.heap.size = w6.heap.size := by omega;
       have n7 : ¬ g3 = w6.heap.size := by omega;
       have hend := HX2.out w6 Hb3.out hb6)))
  go_ret
  exact ⟨rfl, hend.alloc hend.size _⟩
end Go.Proofs.Ytkdbplfphhfeaaa
