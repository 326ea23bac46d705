/- The walk of the law TapeSizes: it answers true for every two numbers and every int, and writes nothing that was there. -/
import Derived.Test.YteboemoebnlgaaaAwake
namespace Go.Proofs.Yteboemoebnlgaaa
open Go.RowKit
set_option linter.unusedSimpArgs false
set_option linter.unusedVariables false

theorem wtr_nil {w : World} {base g : Nat} (h : w.heap[g]? = some (.cells #[.slice none 0 0] 27 (0, 0))) : Wtr w base g (.slice none 0 0) [] := ⟨h, World.ownsRow_nil _ _ _ _, by simp⟩
theorem Mine.chg {w w' : World} {base m c g : Nat} {A : Option Addr} {l : List Nat} {cs : Array Value} (h : Mine w base A m c l) (hC : Chg w w' g none) (hg : w.heap[g]? = some (.cells cs 27 (0, 0))) : Mine w' base A m c l :=
  h.keep fun k hk => hC.block k (own_block_lt h.own hk).2 (fun e => own_ne h.own hg (by decide) (by rw [hk, e])) (by simp)
/-- How many bytes are left to count. -/
def rest (j : Nat) : Nat := if j = 0 then 0 else (num j).length
theorem rest_num (n : Nat) : (num n).length = 1 + rest (n / 128) := by
  unfold rest
  by_cases h : n < 128
  · rw [num_lt h, if_pos (by omega)]; rfl
  · rw [num_ge h, if_neg (by omega)]; simp; omega
def SizeR (L : Nat) (s t : Value) : Prop := ∃ k j : Nat, s = .int .i64 (k : Int) ∧ t = .int .u64 (j : Int) ∧ j < 18446744073709551616 ∧ L = k + rest j
theorem takeNum_num {m most : Nat} (h : m < 18446744073709551616) (hm : m ≤ most) : takeNum (num m) most = (m, [], true) := by
  have h1 := numOf_num h []
  rw [List.append_nil] at h1
  have := num_pos m
  unfold takeNum
  rw [h1, if_neg (by show ¬ ((num m).length = 0 ∨ most < m); omega)]
  simp
theorem takeNum_less {m most : Nat} (h : m < 18446744073709551616) (hm : most < m) : takeNum (num m) most = (0, [], false) := by
  have h1 := numOf_num h []
  rw [List.append_nil] at h1
  unfold takeNum
  rw [h1, if_pos (by show (num m).length = 0 ∨ most < m; omega)]
theorem three_writers (w : World) : (((w.alloc (.cells #[.slice none 0 0] 27)).alloc (.cells #[.slice none 0 0] 27)).alloc (.cells #[.slice none 0 0] 27)).heap[w.heap.size]? = some (.cells #[.slice none 0 0] 27 (0, 0)) ∧
    (((w.alloc (.cells #[.slice none 0 0] 27)).alloc (.cells #[.slice none 0 0] 27)).alloc (.cells #[.slice none 0 0] 27)).heap[w.heap.size + 1]? = some (.cells #[.slice none 0 0] 27 (0, 0)) ∧
    (((w.alloc (.cells #[.slice none 0 0] 27)).alloc (.cells #[.slice none 0 0] 27)).alloc (.cells #[.slice none 0 0] 27)).heap[w.heap.size + 1 + 1]? = some (.cells #[.slice none 0 0] 27 (0, 0)) ∧
    Below w.heap.size w (((w.alloc (.cells #[.slice none 0 0] 27)).alloc (.cells #[.slice none 0 0] 27)).alloc (.cells #[.slice none 0 0] 27)) := by
  refine ⟨?_, ?_, ?_, (((Below.refl _ _).alloc (Nat.le_refl _) _).alloc (by simp) _).alloc (by simp; omega) _⟩
  · rw [Go.heap_alloc_old _ _ (by simp; omega), Go.heap_alloc_old _ _ (by simp), Go.heap_alloc_new]
  · rw [Go.heap_alloc_old _ _ (by simp)]
    have h := Go.heap_alloc_new (w.alloc (.cells #[.slice none 0 0] 27)) (.cells #[.slice none 0 0] 27)
    simpa using h
  · have h := Go.heap_alloc_new ((w.alloc (.cells #[.slice none 0 0] 27)).alloc (.cells #[.slice none 0 0] 27)) (.cells #[.slice none 0 0] 27)
    simpa using h
set_option maxRecDepth 100000 in
set_option maxHeartbeats 4000000 in
theorem sizes_core (w : World) (n m : Nat) (i : Int) (hn : n < 18446744073709551616) (hm : m < 18446744073709551616) (h1 : -9223372036854775808 ≤ i) (h2 : i < 9223372036854775808) :
    Calls Try.prog 7 #[.int .u64 (n : Int), .int .u64 (m : Int), .int .i64 i] w fun e w' => e = .returned (.bool true) ∧ Below w.heap.size w w' := by
  have HA := hide (awake_any w)
  have hz := zig_lt h1 h2
  have HZ := Lib.hid (takeNum_num hz (by omega : zig i ≤ 18446744073709551615))
  have HX1 := Lib.hid (takeNum_num hn (Nat.le_refl n))
  have HM := Lib.hid hm
  have HN := Lib.hid hn
  clear hz
  go_enter Try.func7, Try.ntmps7
  go_wp2_with (first
    | (go_at_call 8; (with_reducible refine (unhide HA).mono ?_); rintro e w1 ⟨rfl, hw1⟩; go_loud (
       obtain ⟨f0, f1, f2, hb0⟩ := three_writers w1;
       have HC1 := hide (wnum_any _ w1.heap.size w1.heap.size n _ [] HN.out (wtr_nil f0) (by simp) (by simp; omega));
       rw [List.nil_append] at HC1;
       have HW1 := Lib.hid hw1;
       have HB0 := Lib.hid hb0;
       have F0 := Lib.hid f0;
       have F1 := Lib.hid f1;
       have F2 := Lib.hid f2;
       clear f0 f1 f2 hb0 hw1))
    | (go_at_call 22; (with_reducible refine (unhide HC1).mono ?_); rintro e w2 ⟨rfl, v2, hV2, hC2, hG2⟩; go_loud (
       have hb2 := (wtr_nil (base := w1.heap.size) F0.out).chg_below hC2 HB0.out (Nat.le_refl _) (Nat.le_refl _);
       have f1 := hC2.heap F1.out (by omega) (by simp [Value.ownBlock]);
       have f2 := hC2.heap F2.out (by omega) (by simp [Value.ownBlock]);
       have HY1 := hide (wbytes_any w2 _ _ v2 _ hV2 (by have := num_length64 HN.out; omega));
       have HB2 := Lib.hid hb2;
       have G1 := Lib.hid f1;
       have G2 := Lib.hid f2;
       clear hb2 hV2 hC2 hG2 f1 f2))
    | (go_at_call 13; (with_reducible refine (unhide HY1).mono ?_); rintro e w3 ⟨Ax, nx, cx, rfl, hX3, hb23⟩; go_loud (
       have hb3 := HB2.out.trans (hb23.mono HB2.out.size);
       have f1 := (hb23.block _ (lt_of_heap G1.out)).trans G1.out;
       have f2 := (hb23.block _ (lt_of_heap G2.out)).trans G2.out;
       have HC2 := hide (wnum_any w3 w1.heap.size (w1.heap.size + 1) m _ [] HM.out (wtr_nil f1) (by simp) hb3.size);
       rw [List.nil_append] at HC2;
       have HX3 := Lib.hid hX3;
       have HB3 := Lib.hid hb3;
       have I1 := Lib.hid f1;
       have I2 := Lib.hid f2;
       clear hb23 hb3 hX3 f1 f2))
    | (go_at_call 22; (with_reducible refine (unhide HC2).mono ?_); rintro e w4 ⟨rfl, v4, hV4, hC4, hG4⟩; go_loud (
       have hb4 := (wtr_nil (base := w1.heap.size) I1.out).chg_below hC4 HB3.out (Nat.le_refl _) (Nat.le_succ _);
       have f2 := hC4.heap I2.out (by omega) (by simp [Value.ownBlock]);
       have hX4 := HX3.out.chg hC4 I1.out;
       have HY2 := hide (wbytes_any w4 _ _ v4 _ hV4 (by have := num_length64 HM.out; omega));
       have HB4 := Lib.hid hb4;
       have HX4 := Lib.hid hX4;
       have J2 := Lib.hid f2;
       clear hb4 hV4 hC4 hG4 f2 hX4))
    | (go_at_call 13; (with_reducible refine (unhide HY2).mono ?_); rintro e w5 ⟨Ay, ny, cy, rfl, hY5, hb45⟩; go_loud (
       have hb5 := HB4.out.trans (hb45.mono HB4.out.size);
       have f2 := (hb45.block _ (lt_of_heap J2.out)).trans J2.out;
       have hX5 := HX4.out.below hb45;
       have HC3 := hide (wint_any w5 w1.heap.size (w1.heap.size + 1 + 1) i _ [] h1 h2 (wtr_nil f2) (by simp) hb5.size);
       rw [List.nil_append] at HC3;
       have HX5 := Lib.hid hX5;
       have HY5 := Lib.hid hY5;
       have HB5 := Lib.hid hb5;
       have K2 := Lib.hid f2;
       clear hb45 hb5 hX5 hY5 f2))
    | (go_at_call 23; (with_reducible refine (unhide HC3).mono ?_); rintro e w6 ⟨rfl, v6, hV6, hC6, hG6⟩; go_loud (
       have hb6 := (wtr_nil (base := w1.heap.size) K2.out).chg_below hC6 HB5.out (Nat.le_refl _) (by omega);
       have hX6 := HX5.out.chg hC6 K2.out;
       have hY6 := HY5.out.chg hC6 K2.out;
       have HY3 := hide (wbytes_any w6 _ _ v6 _ hV6 (by have := num_length64 (zig_lt h1 h2); omega));
       have HB6 := Lib.hid hb6;
       have HX6 := Lib.hid hX6;
       have HY6 := Lib.hid hY6;
       clear hb6 hV6 hC6 hG6 hX6 hY6))
    | (go_at_call 13; (with_reducible refine (unhide HY3).mono ?_); rintro e w7 ⟨Az, nz, cz, rfl, hZ7, hb67⟩; go_loud (
       have hb7 := HB6.out.trans (hb67.mono HB6.out.size);
       have hX7 := HX6.out.below hb67;
       have hY7 := HY6.out.below hb67;
       have HX7 := Lib.hid hX7;
       have HY7 := Lib.hid hY7;
       have HZ7 := Lib.hid hZ7;
       have HB7 := Lib.hid (HW1.out.trans (hb7.mono HW1.out.size));
       clear hb67 hb7 hX7 hY7 hZ7)))
  have hl := num_length64 hn
  go_loop [13, 14] (fun s t => SizeR (num n).length s t) (fun _ t => (intOf t).toNat)
  case atStart => exact ⟨1, n / 128, rfl, by go_num, by omega, rest_num n⟩
  case round =>
    obtain ⟨k, j, rfl, rfl, hj, hL⟩ := hrel
    have HL := Lib.hid hL
    clear hL
    by_cases hj0 : 0 < j
    · have hk : k ≤ 10 := by have := HL.out; omega
      go_wp2
      go_round
      case rel =>
        refine ⟨k + 1, j / 128, by go_num, by go_num, by omega, ?_⟩
        rw [HL.out]
        have := rest_num j
        unfold rest at this ⊢
        rw [if_neg (by omega)]
        omega
      case measure => simp [intOf]; omega
    · have hk : k = nx := by
        have h := HL.out
        obtain rfl : j = 0 := by omega
        rw [HX7.out.len, h]
        rfl
      subst hk
      have hj' : ¬ (j : Int) > 0 := by omega
      have hj'' : decide (0 < (j : Int)) = false := decide_eq_false (by omega)
      have hj3 : decide (0 < j) = false := decide_eq_false hj0
      have hnz : nz ≤ 10 := by rw [HZ7.out.len]; exact num_length64 (zig_lt h1 h2)
      have hnz' : (nz : Int) ≤ 10 := by omega
      have hxl := HX7.out.len
      have hyl := HY7.out.len
      have hmono : ¬ m < n → k ≤ ny := fun h => by rw [hxl, hyl]; exact num_mono n m (by omega)
      have HMO := Lib.hid hmono
      have hzl : (num (zig i)).length ≤ 10 := num_length64 (zig_lt h1 h2)
      have HR1 := hide (read_any _ _ _ HZ7.out.bytes (by omega))
      have HLX := Lib.hid hl
      have HLZ := Lib.hid hzl
      have HZZ := Lib.hid (zag_zig i)
      clear hxl hyl hmono hzl hl HL
      by_cases hn0 : n = 0
      · have hn0' : ((n : Int) == 0) = true := by rw [beq_iff_eq]; omega
        have hgt : decide ((m : Int) < (n : Int)) = false := decide_eq_false (by omega)
        have hgt' : decide (m < n) = false := decide_eq_false (by omega)
        have hle : decide ((k : Int) ≤ (ny : Int)) = true := decide_eq_true (by have := HMO.out (by omega); omega)
        have hle' : decide (k ≤ ny) = true := decide_eq_true (HMO.out (by omega))
        have H0 := Lib.hid hn0
        clear hn0
        go_wp2_with (first
              | (go_at_call 15; (with_reducible refine (unhide HR1).mono ?_); rintro e w8 ⟨g8, u8, rfl, hR8, hg8, hb8⟩; go_loud (
               have HI1 := hide (rint_any w8 _ g8 u8 false _ hR8);
               rw [HZ.out, HZZ.out] at HI1;
               have HB8 := Lib.hid hb8;
               have HG8 := Lib.hid hg8;
               have HL8 := Lib.hid (lt_of_heap hR8.st);
               clear hR8 hb8 hg8))
              | (go_at_call 28; (with_reducible refine (unhide HI1).mono ?_); rintro e w9 ⟨rfl, v9, hR9, hC9⟩; go_loud (
               have hb9 := Rdr.chg_below HL8.out hC9 HB8.out HG8.out;
               have HR2 := hide (read_any _ _ _ (HX7.out.bytes.along hb9) (by have := HLX.out; omega));
               have HB9 := Lib.hid hb9;
               clear hR9 hC9 hb9))
              | (go_at_call 15; (with_reducible refine (unhide HR2).mono ?_); rintro e w10 ⟨g10, u10, rfl, hR10, hg10, hb10⟩; go_loud (
               have HI2 := hide (rnum_any w10 _ g10 n u10 false _ hR10 HN.out);
               rw [HX1.out] at HI2;
               have HB10 := Lib.hid (HB9.out.trans (hb10.mono HB9.out.size));
               have HG10 := Lib.hid (Nat.le_trans HB9.out.size hg10);
               have HL10 := Lib.hid (lt_of_heap hR10.st);
               clear hR10 hb10 hg10))
              | (go_at_call 27; (with_reducible refine (unhide HI2).mono ?_); rintro e w11 ⟨rfl, v11, hR11, hC11⟩; go_loud (
               have hb11 := Rdr.chg_below HL10.out hC11 HB10.out HG10.out;
               have HB11 := Lib.hid (HB7.out.trans (hb11.mono HB7.out.size));
               have HBB11 := Lib.hid hb11;
               have HR3 := hide (read_any _ _ _ (HX7.out.bytes.along hb11) (by have := HLX.out; omega));
               clear hR11 hC11 hb11)))
        go_ret
        exact ⟨rfl, HB11.out⟩
      · have hn0' : ((n : Int) == 0) = false := by rw [beq_eq_false_iff_ne]; omega
        have HX2 := Lib.hid (takeNum_less hn (by omega : n - 1 < n))
        by_cases hg : m < n
        · have hgt : decide ((m : Int) < (n : Int)) = true := decide_eq_true (by omega)
          have hgt' : decide (m < n) = true := decide_eq_true hg
          go_wp2_with (first
              | (go_at_call 15; (with_reducible refine (unhide HR1).mono ?_); rintro e w8 ⟨g8, u8, rfl, hR8, hg8, hb8⟩; go_loud (
               have HI1 := hide (rint_any w8 _ g8 u8 false _ hR8);
               rw [HZ.out, HZZ.out] at HI1;
               have HB8 := Lib.hid hb8;
               have HG8 := Lib.hid hg8;
               have HL8 := Lib.hid (lt_of_heap hR8.st);
               clear hR8 hb8 hg8))
              | (go_at_call 28; (with_reducible refine (unhide HI1).mono ?_); rintro e w9 ⟨rfl, v9, hR9, hC9⟩; go_loud (
               have hb9 := Rdr.chg_below HL8.out hC9 HB8.out HG8.out;
               have HR2 := hide (read_any _ _ _ (HX7.out.bytes.along hb9) (by have := HLX.out; omega));
               have HB9 := Lib.hid hb9;
               clear hR9 hC9 hb9))
              | (go_at_call 15; (with_reducible refine (unhide HR2).mono ?_); rintro e w10 ⟨g10, u10, rfl, hR10, hg10, hb10⟩; go_loud (
               have HI2 := hide (rnum_any w10 _ g10 n u10 false _ hR10 HN.out);
               rw [HX1.out] at HI2;
               have HB10 := Lib.hid (HB9.out.trans (hb10.mono HB9.out.size));
               have HG10 := Lib.hid (Nat.le_trans HB9.out.size hg10);
               have HL10 := Lib.hid (lt_of_heap hR10.st);
               clear hR10 hb10 hg10))
              | (go_at_call 27; (with_reducible refine (unhide HI2).mono ?_); rintro e w11 ⟨rfl, v11, hR11, hC11⟩; go_loud (
               have hb11 := Rdr.chg_below HL10.out hC11 HB10.out HG10.out;
               have HB11 := Lib.hid (HB7.out.trans (hb11.mono HB7.out.size));
               have HBB11 := Lib.hid hb11;
               have HR3 := hide (read_any _ _ _ (HX7.out.bytes.along hb11) (by have := HLX.out; omega));
               clear hR11 hC11 hb11))
              | (go_at_call 15; (with_reducible refine (unhide HR3).mono ?_); rintro e w12 ⟨g12, u12, rfl, hR12, hg12, hb12⟩; go_loud (
               have HI3 := hide (rnum_any w12 _ g12 (n - 1) u12 false _ hR12 (by have := HN.out; omega));
               rw [HX2.out, show ((n - 1 : Nat) : Int) = (n : Int) - 1 by omega] at HI3;
               have HB12 := Lib.hid (HBB11.out.trans (hb12.mono HBB11.out.size));
               have HG12 := Lib.hid (Nat.le_trans HBB11.out.size hg12);
               have HL12 := Lib.hid (lt_of_heap hR12.st);
               clear hR12 hb12 hg12))
              | (go_at_call 27; (with_reducible refine (unhide HI3).mono ?_); rintro e w13 ⟨rfl, v13, hR13, hC13⟩; go_loud (
               have hb13 := Rdr.chg_below HL12.out hC13 HB12.out HG12.out;
               have HB13 := Lib.hid (HB7.out.trans (hb13.mono HB7.out.size));
               clear hR13 hC13 hb13)))
          go_ret
          exact ⟨rfl, HB13.out⟩
        · have hgt : decide ((m : Int) < (n : Int)) = false := decide_eq_false (by omega)
          have hgt' : decide (m < n) = false := decide_eq_false hg
          have hle : decide ((k : Int) ≤ (ny : Int)) = true := decide_eq_true (by have := HMO.out hg; omega)
          have hle' : decide (k ≤ ny) = true := decide_eq_true (HMO.out hg)
          go_wp2_with (first
              | (go_at_call 15; (with_reducible refine (unhide HR1).mono ?_); rintro e w8 ⟨g8, u8, rfl, hR8, hg8, hb8⟩; go_loud (
               have HI1 := hide (rint_any w8 _ g8 u8 false _ hR8);
               rw [HZ.out, HZZ.out] at HI1;
               have HB8 := Lib.hid hb8;
               have HG8 := Lib.hid hg8;
               have HL8 := Lib.hid (lt_of_heap hR8.st);
               clear hR8 hb8 hg8))
              | (go_at_call 28; (with_reducible refine (unhide HI1).mono ?_); rintro e w9 ⟨rfl, v9, hR9, hC9⟩; go_loud (
               have hb9 := Rdr.chg_below HL8.out hC9 HB8.out HG8.out;
               have HR2 := hide (read_any _ _ _ (HX7.out.bytes.along hb9) (by have := HLX.out; omega));
               have HB9 := Lib.hid hb9;
               clear hR9 hC9 hb9))
              | (go_at_call 15; (with_reducible refine (unhide HR2).mono ?_); rintro e w10 ⟨g10, u10, rfl, hR10, hg10, hb10⟩; go_loud (
               have HI2 := hide (rnum_any w10 _ g10 n u10 false _ hR10 HN.out);
               rw [HX1.out] at HI2;
               have HB10 := Lib.hid (HB9.out.trans (hb10.mono HB9.out.size));
               have HG10 := Lib.hid (Nat.le_trans HB9.out.size hg10);
               have HL10 := Lib.hid (lt_of_heap hR10.st);
               clear hR10 hb10 hg10))
              | (go_at_call 27; (with_reducible refine (unhide HI2).mono ?_); rintro e w11 ⟨rfl, v11, hR11, hC11⟩; go_loud (
               have hb11 := Rdr.chg_below HL10.out hC11 HB10.out HG10.out;
               have HB11 := Lib.hid (HB7.out.trans (hb11.mono HB7.out.size));
               have HBB11 := Lib.hid hb11;
               have HR3 := hide (read_any _ _ _ (HX7.out.bytes.along hb11) (by have := HLX.out; omega));
               clear hR11 hC11 hb11))
              | (go_at_call 15; (with_reducible refine (unhide HR3).mono ?_); rintro e w12 ⟨g12, u12, rfl, hR12, hg12, hb12⟩; go_loud (
               have HI3 := hide (rnum_any w12 _ g12 (n - 1) u12 false _ hR12 (by have := HN.out; omega));
               rw [HX2.out, show ((n - 1 : Nat) : Int) = (n : Int) - 1 by omega] at HI3;
               have HB12 := Lib.hid (HBB11.out.trans (hb12.mono HBB11.out.size));
               have HG12 := Lib.hid (Nat.le_trans HBB11.out.size hg12);
               have HL12 := Lib.hid (lt_of_heap hR12.st);
               clear hR12 hb12 hg12))
              | (go_at_call 27; (with_reducible refine (unhide HI3).mono ?_); rintro e w13 ⟨rfl, v13, hR13, hC13⟩; go_loud (
               have hb13 := Rdr.chg_below HL12.out hC13 HB12.out HG12.out;
               have HB13 := Lib.hid (HB7.out.trans (hb13.mono HB7.out.size));
               clear hR13 hC13 hb13)))
          go_ret
          exact ⟨rfl, HB13.out⟩
theorem tapeSizes_walk (a0 a1 a2 : Int) (w0 : (Lit.int .u64 a0).wf = true) (w1 : (Lit.int .u64 a1).wf = true) (w2 : (Lit.int .i64 a2).wf = true) (w : World) :
    Calls Try.prog 7 #[.int .u64 a0, .int .u64 a1, .int .i64 a2] w fun e w' => e = .returned (.bool true) ∧ Below w.heap.size w w' := by
  have b0 := bounds_u64 w0
  have b1 := bounds_u64 w1
  have b2 := bounds_i64 w2
  obtain ⟨n, rfl⟩ := Int.eq_ofNat_of_zero_le b0.1
  obtain ⟨m, rfl⟩ := Int.eq_ofNat_of_zero_le b1.1
  exact sizes_core w n m a2 (by omega) (by omega) (by omega) (by omega)
end Go.Proofs.Yteboemoebnlgaaa
