/- The walk of the law CrownHalves, for crowns of an odd half. -/
import Derived.Test.YtggiafnchocgcaaCHalf
namespace Go.Proofs.Ytggiafnchocgcaa
open Go.RowKit
set_option linter.unusedSimpArgs false
set_option linter.unusedVariables false

set_option maxRecDepth 100000 in
set_option maxHeartbeats 4000000 in
theorem halves_1 (w : World) (gen half ser n : Nat) (hh : half < 256) (hg : gen < 4294967296) (hs : ser < 4294967296) (hn2 : n < 65536) (hhm : half % 2 = 1) :
    Calls Try.prog 5 #[.agg #[.int .u32 (gen : Int), .int .u8 (half : Int), .int .u32 (ser : Int)], .int .u16 (n : Int)] w fun e w' => e = .returned (.bool true) ∧ Below w.heap.size w w' := by
  have HA := fun o => hide (awake_true (w.alloc o))
  have hm : (half : Int).tmod 2 = 1 := by rw [Int.tmod_eq_emod_of_nonneg (by omega)]; omega
  by_cases hn : 4 ≤ n
  · obtain ⟨k, hk⟩ : ∃ k, k = (n - 2) / 2 := ⟨_, rfl⟩
    obtain ⟨q, hq⟩ : ∃ q, q = 2 + k := ⟨_, rfl⟩
    have hn1 : ¬ (n : Int) < 4 := by omega
    have hd : ((n : Int) - 2).tdiv 2 = (k : Int) := by rw [Int.tdiv_eq_ediv_of_nonneg (by omega)]; omega
    have hd2 : ((n : Int) - 2) / 2 = (k : Int) := by omega
    have HFc := fun x : World => hide (from_one x (gen : Int) (ser : Int) n k q hn hn2 hk hq)
    have HFn := fun x : World => hide (from_zero x (((gen : Int) + 1) % 4294967296) (((ser : Int) + 1) % 4294967296) n k hn hn2 hk)
    have HN2 := fun x : World => hide (next_zero x (((gen : Int) + 1) % 4294967296) (((ser : Int) + 1) % 4294967296))
    have hmin : ∀ x : World, (Builtin.min_ #[3, 3] 3 #[.int .i64 (q : Int), .int .i64 2]).run Try.prog x = .ok (.int .i64 2) x := fun x => by
      have h1 : ¬ (q : Int) < 2 := by omega
      have h2 : (2 : Int) < (q : Int) := by omega
      clear hk hq
      go_simp <;> (intros; omega)
    have hmax : ∀ x : World, (Builtin.max_ #[3, 3] 3 #[.int .i64 (q : Int), .int .i64 2]).run Try.prog x = .ok (.int .i64 (q : Int)) x := fun x => by
      have h1 : ¬ (q : Int) < 2 := by omega
      have h2 : (2 : Int) < (q : Int) := by omega
      clear hk hq
      go_simp <;> (intros; omega)
    have hqk : ((q : Int) == 2 + (k : Int)) = true := by rw [beq_iff_eq]; omega
    have hqn : (q : Int) + (k : Int) ≤ (n : Int) := by omega
    have hqq : (2 : Int) + (k : Int) = (q : Int) := by omega
    have hk9 : k < 65536 := by omega
    have hq9 : q < 65540 := by omega
    have hw1 : IntKind.i64.wrap ((n : Int) - 2) = (n : Int) - 2 := by rw [show (n : Int) - 2 = ((n - 2 : Nat) : Int) by omega]; exact Lib.wrap_i64_small _ (by omega)
    have hwk : IntKind.i64.wrap (k : Int) = (k : Int) := Lib.wrap_i64_small _ (by omega)
    have hwq : IntKind.i64.wrap (q : Int) = (q : Int) := Lib.wrap_i64_small _ (by omega)
    have hw3 : IntKind.i64.wrap (2 + (k : Int)) = (q : Int) := by rw [show (2 : Int) + (k : Int) = (q : Int) by omega]; exact Lib.wrap_i64_small _ (by omega)
    have hw4 : IntKind.i64.wrap ((q : Int) + (k : Int)) = (q : Int) + (k : Int) := by rw [show (q : Int) + (k : Int) = ((q + k : Nat) : Int) by omega]; exact Lib.wrap_i64_small _ (by omega)
    have hu1 : IntKind.u32.wrap ((gen : Int) + 1) = ((gen : Int) + 1) % 4294967296 := IntKind.wrap_u32' _
    have hu2 : IntKind.u32.wrap ((ser : Int) + 1) = ((ser : Int) + 1) % 4294967296 := IntKind.wrap_u32' _
    have hgd1 : ((k : Int) == IntKind.i64.wrap ((IntKind.i64.wrap ((n : Int) - 2)).tdiv 2)) = true := by rw [hw1, hd, hwk]; simp
    have hgd4 : ((q : Int) == IntKind.i64.wrap (2 + (k : Int))) = true := by rw [hw3]; simp
    have hgd5 : decide (IntKind.i64.wrap ((q : Int) + (k : Int)) ≤ (n : Int)) = true := by rw [hw4]; exact decide_eq_true hqn
    have hgd6 : ((((gen : Int) + 1) % 4294967296) == IntKind.u32.wrap ((gen : Int) + 1)) = true := by rw [hu1]; simp
    have hgd7 : ((((ser : Int) + 1) % 4294967296) == IntKind.u32.wrap ((ser : Int) + 1)) = true := by rw [hu2]; simp
    have hgn : ((((gen : Int) + 1) % 4294967296) == ((gen : Int) + 1) % 4294967296) = true := by simp
    have hfld := fun (x : World) (a b c : Int) => run_half x a b c
    have heq := fun (x : World) => run_eq_first x
    clear hk hq
    go_enter Try.func5, Try.ntmps5
    go_wp2_with (first
      | (go_at_call 8; (with_reducible refine (unhide (HA _)).mono ?_); rintro e w1 ⟨rfl, hw1⟩; go_loud (
         have b1 := ((Below.refl w.heap.size w).alloc (Nat.le_refl _) _).trans (hw1.mono (by simp));
         have g1 : w1.heap[w.heap.size]? = _ := (hw1.block _ (by simp)).trans (Go.heap_alloc_new w _);
         obtain ⟨a0, a1, a2, f0, f1, f2⟩ := crown_facts g1;
         have gX : (w1.setCell ⟨w.heap.size, 1, none⟩ (.int .u8 1)).heap[w.heap.size]? = some (.cells #[.int .u32 (gen : Int), .int .u8 1, .int .u32 (ser : Int)] 24 (0, 0)) := by rw [heap_setCell_same w1 w.heap.size 1 _ _ _ g1]; rfl;
         have bX := b1.setCell (p := ⟨w.heap.size, 1, none⟩) (Nat.le_refl _) (.int .u8 1);
         have lX := (Array.getElem?_eq_some_iff.1 gX).1;
         have HG := Lib.hid gX;
         have HBX := Lib.hid bX;
         clear gX bX b1 hw1 g1))
      | (go_at_call 26; (with_reducible refine (unhide (HFc _)).mono ?_); rintro e w2 ⟨rfl, hb2⟩; go_loud (
         have g2 := (hb2.block w.heap.size lX).trans HG.out;
         obtain ⟨c0, c1, c2, -, -, -⟩ := crown_facts g2;
         have HG2 := Lib.hid g2;
         have HB2 := Lib.hid (HBX.out.trans (hb2.mono HBX.out.size));
         have l2 := (Array.getElem?_eq_some_iff.1 g2).1;
         have HNa := hide (next_two w2 (gen : Int) (ser : Int));
         clear g2 hb2))
      | (go_at_call 18; (with_reducible refine (unhide HNa).mono ?_); rintro e w3 ⟨rfl, hb3⟩; go_loud (
         have g3 := (hb3.block w.heap.size l2).trans HG2.out;
         have HG3 := Lib.hid g3;
         have HB3 := Lib.hid (HB2.out.trans (hb3.mono HB2.out.size));
         have l3 := (Array.getElem?_eq_some_iff.1 g3).1;
         clear g3 hb3))
      | (go_at_call 26; (with_reducible refine (unhide (HFn _)).mono ?_); rintro e w4 ⟨rfl, hb4⟩; go_loud (
         have g4 := (hb4.block w.heap.size l3).trans HG3.out;
         obtain ⟨d0, d1, d2, -, -, -⟩ := crown_facts g4;
         have HG4 := Lib.hid g4;
         have HB4 := Lib.hid (HB3.out.trans (hb4.mono HB3.out.size));
         have l4 := (Array.getElem?_eq_some_iff.1 g4).1;
         have HNb := hide (next_two w4 (gen : Int) (ser : Int));
         clear g4 hb4))
      | (go_at_call 18; (with_reducible refine (unhide HNb).mono ?_); rintro e w5 ⟨rfl, hb5⟩; go_loud (
         have g5 := (hb5.block w.heap.size l4).trans HG4.out;
         have HG5 := Lib.hid g5;
         have HB5 := Lib.hid (HB4.out.trans (hb5.mono HB4.out.size));
         have l5 := (Array.getElem?_eq_some_iff.1 g5).1;
         clear g5 hb5)))
    obtain ⟨Y, hY⟩ : ∃ Y, Y = w5.alloc (.cells #[.int .u32 (((gen : Int) + 1) % 4294967296), .int .u8 0, .int .u32 (((ser : Int) + 1) % 4294967296)] 24) := ⟨_, rfl⟩
    rw [← hY]
    have gY : Y.heap[w5.heap.size]? = some (.cells #[.int .u32 (((gen : Int) + 1) % 4294967296), .int .u8 0, .int .u32 (((ser : Int) + 1) % 4294967296)] 24 (0, 0)) := by rw [hY]; exact Go.heap_alloc_new w5 (.cells #[.int .u32 (((gen : Int) + 1) % 4294967296), .int .u8 0, .int .u32 (((ser : Int) + 1) % 4294967296)] 24)
    have bY : Below w5.heap.size w5 Y := by rw [hY]; exact (Below.refl _ _).alloc (Nat.le_refl _) _
    have gY2 := (bY.block w.heap.size l5).trans HG5.out
    have hYs : Y.heap.size = w5.heap.size + 1 := by rw [hY]; simp
    have HSB : Hid (∀ x : World, Below Y.heap.size Y x → x.cell? ⟨w.heap.size, 0, none⟩ = some (.int .u32 (gen : Int)) ∧ x.cell? ⟨w.heap.size, 1, none⟩ = some (.int .u8 1) ∧ x.cell? ⟨w.heap.size, 2, none⟩ = some (.int .u32 (ser : Int)) ∧ x.cell? ⟨w5.heap.size, 0, none⟩ = some (.int .u32 (((gen : Int) + 1) % 4294967296)) ∧ x.cell? ⟨w5.heap.size, 1, none⟩ = some (.int .u8 0) ∧ x.cell? ⟨w5.heap.size, 2, none⟩ = some (.int .u32 (((ser : Int) + 1) % 4294967296)) ∧ Below Y.heap.size Y x) := fun x hx => by
      obtain ⟨k0, k1, k2, -, -, -⟩ := crown_facts ((hx.block w.heap.size (by omega)).trans gY2)
      obtain ⟨m0, m1, m2, -, -, -⟩ := crown_facts ((hx.block w5.heap.size (by omega)).trans gY)
      exact ⟨k0, k1, k2, m0, m1, m2, hx⟩
    have HBY := Lib.hid (HB5.out.trans (bY.mono HB5.out.size))
    clear gY gY2 bY hY hYs d0 d1 d2 c0 c1 c2 a0 a1 a2 f0 f1 f2 hmin hmax HFc HFn
    go_region_held3 (fun x => x.cell? ⟨w.heap.size, 0, none⟩ = some (.int .u32 (gen : Int)) ∧ x.cell? ⟨w.heap.size, 1, none⟩ = some (.int .u8 1) ∧ x.cell? ⟨w.heap.size, 2, none⟩ = some (.int .u32 (ser : Int)) ∧ x.cell? ⟨w5.heap.size, 0, none⟩ = some (.int .u32 (((gen : Int) + 1) % 4294967296)) ∧ x.cell? ⟨w5.heap.size, 1, none⟩ = some (.int .u8 0) ∧ x.cell? ⟨w5.heap.size, 2, none⟩ = some (.int .u32 (((ser : Int) + 1) % 4294967296)) ∧ Below Y.heap.size Y x)
      (first
        | exact HSB.out _ (Below.refl _ _).drew
        | exact HSB.out _ (below_on (held_six (by assumption)) (by assumption))
        | exact (by assumption))
      ((first
        | ((go_at_call 18)
           (with_reducible refine (unhide (HN2 _)).mono ?_)
           rintro e w' ⟨rfl, hb'⟩)
        | ((go_at_call 17)
           (with_reducible refine (first_any _).mono ?_)
           rintro e w' ⟨rfl, hb'⟩)))
    all_goals
      go_wp2
      go_ret
      exact ⟨rfl, HBY.out.trans (Below.mono (held_six (by assumption)) HBY.out.size)⟩
  · have hn1 : (n : Int) < 4 := by omega
    have HFc := fun x : World => hide (from_few x (gen : Int) (ser : Int) 1 n (by omega))
    have HFn := fun x : World => hide (from_few x (((gen : Int) + 1) % 4294967296) (((ser : Int) + 1) % 4294967296) 0 n (by omega))
    have HN1 := fun x : World => hide (next_two x (gen : Int) (ser : Int))
    clear hn
    go_enter Try.func5, Try.ntmps5
    go_wp2_with (first
      | (go_at_call 8; (with_reducible refine (unhide (HA _)).mono ?_); rintro e w1 ⟨rfl, hw1⟩; go_loud (
         have b1 := ((Below.refl w.heap.size w).alloc (Nat.le_refl _) _).trans (hw1.mono (by simp));
         have g1 : w1.heap[w.heap.size]? = _ := (hw1.block _ (by simp)).trans (Go.heap_alloc_new w _);
         obtain ⟨a0, a1, a2, f0, f1, f2⟩ := crown_facts g1;
         have gX : (w1.setCell ⟨w.heap.size, 1, none⟩ (.int .u8 1)).heap[w.heap.size]? = some (.cells #[.int .u32 (gen : Int), .int .u8 1, .int .u32 (ser : Int)] 24 (0, 0)) := by rw [heap_setCell_same w1 w.heap.size 1 _ _ _ g1]; rfl;
         have bX := b1.setCell (p := ⟨w.heap.size, 1, none⟩) (Nat.le_refl _) (.int .u8 1);
         have lX := (Array.getElem?_eq_some_iff.1 gX).1;
         have HG := Lib.hid gX;
         have HBX := Lib.hid bX;
         clear gX bX b1 hw1 g1))
      | (go_at_call 26; (with_reducible refine (unhide (HFc _)).mono ?_); rintro e w2 ⟨rfl, hb2⟩; go_loud (
         have g2 := (hb2.block w.heap.size lX).trans HG.out;
         obtain ⟨c0, c1, c2, -, -, -⟩ := crown_facts g2;
         have HB2 := Lib.hid (HBX.out.trans (hb2.mono HBX.out.size));
         clear g2 hb2))
      | (go_at_call 18; (with_reducible refine (unhide (HN1 _)).mono ?_); rintro e w3 ⟨rfl, hb3⟩; go_loud (
         have HB3 := Lib.hid (HB2.out.trans (hb3.mono HB2.out.size));
         clear hb3))
      | (go_at_call 26; (with_reducible refine (unhide (HFn _)).mono ?_); rintro e w4 ⟨rfl, hb4⟩))
    go_ret
    exact ⟨rfl, HB3.out.trans (hb4.mono HB3.out.size)⟩
end Go.Proofs.Ytggiafnchocgcaa
