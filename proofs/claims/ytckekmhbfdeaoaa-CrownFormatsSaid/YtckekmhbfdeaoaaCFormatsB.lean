/- The walk of the law CrownFormats where the disk has two or three sectors. -/
import Derived.Test.YtckekmhbfdeaoaaCFormatsA
import Derived.Test.YtckekmhbfdeaoaaCFormat
namespace Go.Proofs.Ytckekmhbfdeaoaa
open Go.RowKit
set_option linter.unusedSimpArgs false
set_option linter.unusedVariables false

set_option maxRecDepth 100000 in
set_option maxHeartbeats 4000000 in
theorem formats_few (w : World) (m : Nat) (hm : m < 256) (n : Nat) (hm9 : n = 1 + m % 9) (hn2 : 2 ≤ n) (hn3 : n < 4) (v v2 : Value) (l l2 : List Nat) (hp : Bytes w w.heap.size v l) (hq : Bytes w w.heap.size v2 l2) :
    Calls Try.prog 6 #[v, v2, .int .u8 (m : Int)] w fun e w' => e = .returned (.bool true) ∧ Below w.heap.size w w' := by
  obtain ⟨P, hP⟩ : ∃ P, P = full l := ⟨_, rfl⟩
  have hsP : IsSec P := by rw [hP]; exact full_sec hp.small
  have HP := Lib.hid hP
  have HSP := Lib.hid hsP
  have HB := Lib.hid hp
  obtain ⟨Q, hQ⟩ : ∃ Q, Q = full l2 := ⟨_, rfl⟩
  have hsQ : IsSec Q := by rw [hQ]; exact full_sec hq.small
  have HQ := Lib.hid hQ
  have HSQ := Lib.hid hsQ
  have HBQ := Lib.hid hq
  obtain ⟨D, hD⟩ : ∃ D, D = List.replicate n noughts := ⟨_, rfl⟩
  have hDl : D.length = n := by rw [hD, List.length_replicate]
  have HL := Lib.hid hDl
  have HA := hide (awake_true w)
  have HN0 := fun x : World => hide (new_good x n (by omega) (by omega))
  rw [← hD] at HN0
  obtain ⟨k, hk⟩ : ∃ k, k = m % 9 := ⟨_, rfl⟩
  have hk1 : (m : Int).tmod 9 = (k : Int) := by rw [Int.tmod_eq_emod_of_nonneg (by omega)]; omega
  have hkn : (1 : Int) + (k : Int) = (n : Int) := by omega
  have hg1 : (n : Int) > 1 := by omega
  have hg4 : (n : Int) < 4 := by omega
  clear hP hsP hp hm9 hQ hsQ hq hD hDl hk
  go_enter Try.func6, Try.ntmps6
  go_wp2_with (first
    | (go_at_call 8; (with_reducible refine (unhide HA).mono ?_); rintro e w1 ⟨rfl, hw1⟩; go_loud (
       have HN := HN0 w1))
    | (go_at_call 9; (with_reducible refine (unhide HN).mono ?_); rintro e w2 ⟨gs, b, rfl, hD2, hgs, hgd, hgl, hpv, hw2⟩; go_loud (
       have hb2 := hw1.trans (hw2.mono hw1.size);
       have HF1 := hide (full_any w2 v l (HB.out.along hb2)); rw [← HP.out] at HF1))
    | (go_at_call 11; (with_reducible refine (unhide HF1).mono ?_); rintro e w3 ⟨A3, n3, c3, rfl, hM3, hw3⟩; go_loud (
       obtain rfl : n3 = 512 := hM3.len.trans HSP.out.1;
       have hD3 := hD2.below hw3;
       have HW1 := hide (write_good hD3 (by decide) (by decide) (by decide) (by simp) 0 (by rw [HL.out]; omega) A3 c3 P hM3.bytes HSP.out);
       rw [show ((0 : Nat) : Int) = 0 from rfl] at HW1))
    | (go_at_call 13; (with_reducible refine (unhide HW1).mono ?_); rintro e w4 ⟨rfl, b4, hD4, i1, i2, i3, i4, i5, hO4⟩; go_loud (
       have hb3 := hb2.trans (hw3.mono hb2.size);
       have hb4 := hb3.trans (own_far hO4 (Nat.le_trans hw1.size hgs) (Nat.le_trans hw1.size hgl) (fun g hg => by rw [hpv] at hg; cases hg) hb3.size);
       have HF2 := hide (full_any w4 v2 l2 (HBQ.out.along hb4)); rw [← HQ.out] at HF2))
    | (go_at_call 11; (with_reducible refine (unhide HF2).mono ?_); rintro e w13 ⟨A13, n13, c13, rfl, hM13, hw13⟩; go_loud (
       obtain rfl : n13 = 512 := hM13.len.trans HSQ.out.1;
       have hD13 := hD4.below hw13;
       have HW2 := hide (write_good hD13 (by decide) (by decide) (by decide) (by simp) 1 (by rw [HL.out]; omega) A13 c13 Q hM13.bytes HSQ.out);
       rw [show ((1 : Nat) : Int) = 1 from rfl] at HW2))
    | (go_at_call 13; (with_reducible refine (unhide HW2).mono ?_); rintro e w14 ⟨rfl, b14, hD14, j1, j2, j3, j4, j5, hO14⟩; go_loud (
       have HF := hide (cformat_few hD14 (by rw [HL.out]; omega))))
    | (go_at_call 16; (with_reducible refine (unhide HF).mono ?_); rintro e w5 ⟨rfl, rfl⟩)
    | (go_at_call 14; (with_reducible refine (cread_nil _).mono ?_); rintro e w6 ⟨rfl, hb6⟩)
    | (go_at_call 16; (with_reducible refine (cformat_nil _).mono ?_); rintro e w7 ⟨rfl, rfl⟩)
    | (go_at_call 17; (with_reducible refine (first_any _).mono ?_); rintro e w8 ⟨rfl, hb8⟩; go_loud (
       have HWN := hide (cwrite_nil w8 1 0 0 (by decide) (by decide) (by decide));
       rw [show ((1 : Nat) : Int) = 1 from rfl, show ((0 : Nat) : Int) = 0 from rfl] at HWN))
    | (go_at_call 19; (with_reducible refine (unhide HWN).mono ?_); rintro e w9 ⟨rfl, hb9⟩; go_loud (
       have hba := (Below.refl w6.heap.size w6).alloc (Nat.le_refl _) (.cells #[.int .u32 0, .int .u8 0, .int .u32 0] 24);
       have hb69 := below_on (hba.trans (hb8.mono hba.size)) hb9;
       have hD9 := hD14.below (hb6.trans (hb69.mono hb6.size));
       have HR := hide (cread_few hD9 (by rw [HL.out]; omega))))
    | (go_at_call 14; (with_reducible refine (unhide HR).mono ?_); rintro e w10 ⟨rfl, hb10⟩))
  go_ret
  have s1 := hw1.size
  have s3 := hw3.size
  have s2 := hw2.size
  have z13 := hb4.trans (hw13.mono hb4.size)
  have z4 := z13.trans (own_far hO14 (by omega) (by omega) (fun g hg => by
    rcases i5 with h | ⟨g', h, hg'⟩
    · rw [h, hpv] at hg; cases hg
    · have := hb3.size
      rw [h] at hg
      injection hg with hg
      omega) z13.size)
  have z6 := z4.trans (hb6.mono z4.size)
  have z9 := z6.trans (hb69.mono z6.size)
  have z10 := z9.trans (hb10.mono z9.size)
  exact ⟨rfl, z10.alloc z10.size _⟩
end Go.Proofs.Ytckekmhbfdeaoaa
