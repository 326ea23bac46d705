/- Contract: the law's awake: the document's examples. -/
import Derived.Test.YteboemoebnlgaaaText
namespace Go.Proofs.Yteboemoebnlgaaa
open Go.RowKit
set_option linter.unusedSimpArgs false
set_option linter.unusedVariables false

theorem wtr_new (w : World) (base : Nat) : Wtr (w.alloc (.cells #[.slice none 0 0] 27)) base w.heap.size (.slice none 0 0) [] :=
  ⟨Go.heap_alloc_new w _, World.ownsRow_nil _ _ _ _, by simp⟩
theorem Wtr.chg_below {a w w' : World} {B base g : Nat} {v : Value} {l : List Nat} (h : Wtr w base g v l) (hC : Chg w w' g v.ownBlock) (ha : Below B a w) (hB : B ≤ base) (hg : B ≤ g) : Below B a w' :=
  hC.below ha (Nat.le_trans hg (Nat.le_of_lt (lt_of_heap h.st))) hg fun k hk => Nat.le_trans hB (own_block_lt h.own hk).1
theorem Rdr.chg_below {a w w' : World} {B g : Nat} (hg : g < w.heap.size) (hC : Chg w w' g none) (ha : Below B a w) (hB : B ≤ g) : Below B a w' :=
  hC.below ha (by omega) hB fun k hk => by cases hk
/-- A slice that has just been built of bytes. -/
theorem bytes_new (w : World) (l : List Nat) (n : Nat) (hn : n = l.length) (hs : ∀ b ∈ l, b < 256) (hl : l.length ≤ maxLen) : Bytes (w.alloc (.cells (byt l).toArray 5)) (w.heap.size + 1) (.slice (some ⟨w.heap.size, 0, none⟩) n n) l := by
  subst hn
  refine ⟨⟨_, _, rfl, fun j v hj => ⟨_, rfl, by simp, ?_⟩, Nat.le_refl _, fun h => by cases h⟩, hs, hl⟩
  have hplain : (⟨w.heap.size, 0, none⟩ : Addr).add j = ⟨w.heap.size, j, none⟩ := by unfold Addr.add; split <;> simp_all
  rw [hplain, World.cell?_alloc_at _ _ _ _ rfl]
  simpa using hj
theorem num_300 : num 300 = [172, 2] := by rw [num_ge (by decide), num_lt (by decide)]
theorem num_zig1 : num (zig (-1)) = [1] := by
  have : zig (-1) = 1 := rfl
  rw [this, num_lt (by decide)]
theorem goes_none {w : World} {r : Option Nat} {k : Nat} (h : Goes w none r) (hk : r = some k) : w.heap.size ≤ k := by
  rcases h with h | ⟨j, h, hj⟩
  · rw [h] at hk; cases hk
  · rw [h] at hk
    injection hk with hk
    omega
set_option maxRecDepth 100000 in
set_option maxHeartbeats 4000000 in
theorem awake_any (w : World) : Calls Try.prog 8 #[] w fun e w' => e = .returned (.bool true) ∧ Below w.heap.size w w' := by
  have hb0 := (Below.refl w.heap.size w).alloc (Nat.le_refl _) (.cells #[.slice none 0 0] 27)
  have hW0 := wtr_new w w.heap.size
  have HC1 := hide (wnum_any _ w.heap.size w.heap.size 300 _ [] (by decide) hW0 (by simp) (by simp))
  rw [show ((300 : Nat) : Int) = 300 from rfl, List.nil_append, num_300] at HC1
  have HB0 := Lib.hid hb0
  have HW0 := Lib.hid hW0
  clear hb0 hW0
  have h299 : takeNum [172, 2, 1] 299 = (0, [], false) := by decide
  have h300 : takeNum [172, 2, 1] 300 = (300, [1], true) := by decide
  have H299 := Lib.hid h299
  have H300 := Lib.hid h300
  clear h299 h300
  go_enter Try.func8, Try.ntmps8
  go_wp2_with (first
    | (go_at_call 22; (with_reducible refine (unhide HC1).mono ?_); rintro e w1 ⟨rfl, v1, hW1, hC1, hG1⟩; go_loud (
       have hb1 := HW0.out.chg_below hC1 HB0.out (Nat.le_refl _) (Nat.le_refl _);
       have HC2 := hide (wint_any w1 w.heap.size w.heap.size (-1) v1 _ (by decide) (by decide) hW1 (by simp) hb1.size);
       rw [num_zig1, show ([172, 2] ++ [1] : List Nat) = [172, 2, 1] from rfl] at HC2;
       have HB1 := Lib.hid hb1;
       have HW1 := Lib.hid hW1;
       clear hb1 hW1 hC1 hG1))
    | (go_at_call 23; (with_reducible refine (unhide HC2).mono ?_); rintro e w2 ⟨rfl, v2, hW2, hC2, hG2⟩; go_loud (
       have hb2 := HW1.out.chg_below hC2 HB1.out (Nat.le_refl _) (Nat.le_refl _);
       have HC3 := hide (wbytes_any w2 _ _ v2 _ hW2 (by simp));
       have HB2 := Lib.hid hb2;
       clear hb2 hW2 hC2 hG2))
    | (go_at_call 13; (with_reducible refine (unhide HC3).mono ?_); rintro e w3 ⟨A, n, c, rfl, hM3, hb23⟩; go_loud (
       have hb3 := HB2.out.trans (hb23.mono HB2.out.size);
       have hB3 := hM3.bytes;
       have HS := hide (same_any (w3.alloc (.cells (byt [172, 2, 1]).toArray 5)) (.slice A n c) (.slice (some ⟨w3.heap.size, 0, none⟩) 3 3) [172, 2, 1] [172, 2, 1] (hB3.along ((Below.refl _ _).alloc (Nat.le_refl _) _)) ((bytes_new w3 [172, 2, 1] 3 rfl (by simp) (by simp [maxLen])).up (by simp)));
       rw [decide_eq_true (rfl : [172, 2, 1] = [172, 2, 1]), show (byt [172, 2, 1]).toArray = #[Value.int .u8 172, Value.int .u8 2, Value.int .u8 1] from rfl] at HS;
       have HB3 := Lib.hid hb3;
       have HM3 := Lib.hid hB3;
       clear hb3 hM3 hB3 hb23))
    | (go_at_call 14; (with_reducible refine (unhide HS).mono ?_); rintro e w4 ⟨rfl, nq, rfl⟩; go_loud (
       have hbq := below_drewN ((Below.refl w3.heap.size w3).alloc (Nat.le_refl _) (.cells #[Value.int .u8 172, Value.int .u8 2, Value.int .u8 1] 5)) nq;
       have hb4 := HB3.out.trans (hbq.mono HB3.out.size);
       have hM4 := HM3.out.along hbq;
       have HR1 := hide (read_any _ _ _ hM4 (by simp));
       have HB4 := Lib.hid hb4;
       have HM4 := Lib.hid hM4;
       clear hbq hb4 hM4))
    | (go_at_call 15; (with_reducible refine (unhide HR1).mono ?_); rintro e w5 ⟨g5, u5, rfl, hR5, hg5, hb45⟩; go_loud (
       have hb5 := HB4.out.trans (hb45.mono HB4.out.size);
       have HN1 := hide (rnum_any w5 _ g5 299 u5 false _ hR5 (by decide));
       rw [H299.out, show ((299 : Nat) : Int) = 299 from rfl] at HN1;
       have HB5 := Lib.hid hb5;
       have HB45 := Lib.hid hb45;
       have HG5 := Lib.hid hg5;
       have HR5 := Lib.hid hR5;
       clear hb5 hb45 hR5 hg5))
    | (go_at_call 27; (with_reducible refine (unhide HN1).mono ?_); rintro e w6 ⟨rfl, v6, hR6, hC6⟩; go_loud (
       have hb46 := Rdr.chg_below (lt_of_heap HR5.out.st) hC6 HB45.out HG5.out;
       have hb6 := HB4.out.trans (hb46.mono HB4.out.size);
       have HR2 := hide (read_any _ _ _ (HM4.out.along hb46) (by simp));
       have HB6 := Lib.hid hb6;
       clear hR6 hC6 hb46 hb6))
    | (go_at_call 15; (with_reducible refine (unhide HR2).mono ?_); rintro e w7 ⟨g7, u7, rfl, hR7, hg7, hb67⟩; go_loud (
       have hb7 := HB6.out.trans (hb67.mono HB6.out.size);
       have HN2 := hide (rnum_any w7 _ g7 300 u7 false _ hR7 (by decide));
       rw [H300.out, show ((300 : Nat) : Int) = 300 from rfl] at HN2;
       have HB7 := Lib.hid hb7;
       have HG7 := Lib.hid (Nat.le_trans HB6.out.size hg7);
       have HR7 := Lib.hid hR7;
       clear hb7 hb67 hR7 hg7))
    | (go_at_call 27; (with_reducible refine (unhide HN2).mono ?_); rintro e w8 ⟨rfl, v8, hR8, hC8⟩; go_loud (
       have hb8 := Rdr.chg_below (lt_of_heap HR7.out.st) hC8 HB7.out HG7.out;
       have HB8 := Lib.hid hb8;
       clear hR8 hC8 hb8)))
  go_ret
  exact ⟨rfl, HB8.out⟩
end Go.Proofs.Yteboemoebnlgaaa
