/- The walk of the law CrownFormats where the disk has four sectors or more. -/
import Derived.Test.YtckekmhbfdeaoaaCFormatsB
import Derived.Test.YtckekmhbfdeaoaaCFormat
namespace Go.Proofs.Ytckekmhbfdeaoaa
open Go.RowKit
set_option linter.unusedSimpArgs false
set_option linter.unusedVariables false

theorem full_at (pend : List (Nat × List Nat)) (D : List (List Nat)) (hl : 4 ≤ D.length) : ∀ i, i < 2 → ∃ s, (applied [] ((wiped (applied pend D) 2).set 1 (crownSec 1 0 0)))[i]? = some s ∧ Holds s i (exo1 i) := fun i hi => by
  have e : applied [] ((wiped (applied pend D) 2).set 1 (crownSec 1 0 0)) = (wiped (applied pend D) 2).set 1 (crownSec 1 0 0) := rfl
  rw [e]
  rcases (show i = 0 ∨ i = 1 by omega) with rfl | rfl
  · refine ⟨noughts, ?_, rfl⟩
    rw [List.getElem?_set_ne (by decide)]
    show ((wiped (applied pend D) 1).set 1 noughts)[0]? = some noughts
    rw [List.getElem?_set_ne (by decide)]
    show (((wiped (applied pend D) 0)).set 0 noughts)[0]? = some noughts
    rw [List.getElem?_set_self (by rw [wiped_length, applied_length]; omega)]
  · exact ⟨crownSec 1 0 0, by rw [List.getElem?_set_self (by rw [wiped_length, applied_length]; omega)], rfl, by decide, by decide, by decide, by decide⟩
theorem full_zero (pend : List (Nat × List Nat)) (D : List (List Nat)) (hl : 4 ≤ D.length) : (applied [] ((wiped (applied pend D) 2).set 1 (crownSec 1 0 0)))[0]? = some noughts := by
  show ((wiped (applied pend D) 2).set 1 (crownSec 1 0 0))[0]? = some noughts
  rw [List.getElem?_set_ne (by decide)]
  show ((wiped (applied pend D) 1).set 1 noughts)[0]? = some noughts
  rw [List.getElem?_set_ne (by decide)]
  show (((wiped (applied pend D) 0)).set 0 noughts)[0]? = some noughts
  rw [List.getElem?_set_self (by rw [wiped_length, applied_length]; omega)]
set_option maxRecDepth 100000 in
set_option maxHeartbeats 4000000 in
theorem formats_full (w : World) (m : Nat) (hm : m < 256) (n : Nat) (hm9 : n = 1 + m % 9) (hn2 : 4 ≤ n) (v v2 : Value) (l l2 : List Nat) (hp : Bytes w w.heap.size v l) (hq : Bytes w w.heap.size v2 l2) :
    Calls Try.prog 6 #[v, v2, .int .u8 (m : Int)] w fun e w' => e = .returned (.bool true) ∧ Below w.heap.size w w' := by
  obtain ⟨P, hP⟩ : ∃ P, P = full l := ⟨_, rfl⟩
  have hsP : IsSec P := by rw [hP]; exact full_sec hp.small
  have HP := Lib.hid hP
  have HSP := Lib.hid hsP
  have HB := Lib.hid hp
  obtain ⟨Q, hQ⟩ : ∃ Q, Q = full l2 := ⟨_, rfl⟩
  have hsQ : IsSec Q := by rw [hQ]; exact full_sec hq.small
  have HQ := Lib.hid hQ
  have HSQ := Lib.hid hsQ
  have HBQ := Lib.hid hq
  obtain ⟨D, hD⟩ : ∃ D, D = List.replicate n noughts := ⟨_, rfl⟩
  have hDl : D.length = n := by rw [hD, List.length_replicate]
  have HL := Lib.hid hDl
  have HA := hide (awake_true w)
  have HN0 := fun x : World => hide (new_good x n (by omega) (by omega))
  rw [← hD] at HN0
  obtain ⟨k, hk⟩ : ∃ k, k = m % 9 := ⟨_, rfl⟩
  have hk1 : (m : Int).tmod 9 = (k : Int) := by rw [Int.tmod_eq_emod_of_nonneg (by omega)]; omega
  have hkn : (1 : Int) + (k : Int) = (n : Int) := by omega
  have hkb : k < 9 := by omega
  have hn9 : n < 10 := by omega
  have hg1 : (n : Int) > 1 := by omega
  have hg4 : ¬ (n : Int) < 4 := by omega
  clear hP hsP hp hm9 hQ hsQ hq hD hDl hk
  go_enter Try.func6, Try.ntmps6
  go_wp2_with (first
    | (go_at_call 8; (with_reducible refine (unhide HA).mono ?_); rintro e w1 ⟨rfl, hw1⟩; go_loud (
       have HN := HN0 w1))
    | (go_at_call 9; (with_reducible refine (unhide HN).mono ?_); rintro e w2 ⟨gs, b, rfl, hD2, hgs, hgd, hgl, hpv, hw2⟩; go_loud (
       have hb2 := hw1.trans (hw2.mono hw1.size);
       have HF1 := hide (full_any w2 v l (HB.out.along hb2)); rw [← HP.out] at HF1))
    | (go_at_call 11; (with_reducible refine (unhide HF1).mono ?_); rintro e w3 ⟨A3, n3, c3, rfl, hM3, hw3⟩; go_loud (
       obtain rfl : n3 = 512 := hM3.len.trans HSP.out.1;
       have hD3 := hD2.below hw3;
       have HW1 := hide (write_good hD3 (by decide) (by decide) (by decide) (by simp) 0 (by rw [HL.out]; omega) A3 c3 P hM3.bytes HSP.out);
       rw [show ((0 : Nat) : Int) = 0 from rfl] at HW1))
    | (go_at_call 13; (with_reducible refine (unhide HW1).mono ?_); rintro e w4 ⟨rfl, b4, hD4, i1, i2, i3, i4, i5, hO4⟩; go_loud (
       have hb3 := hb2.trans (hw3.mono hb2.size);
       have hb4 := hb3.trans (own_far hO4 (Nat.le_trans hw1.size hgs) (Nat.le_trans hw1.size hgl) (fun g hg => by rw [hpv] at hg; cases hg) hb3.size);
       have HF2 := hide (full_any w4 v2 l2 (HBQ.out.along hb4)); rw [← HQ.out] at HF2))
    | (go_at_call 11; (with_reducible refine (unhide HF2).mono ?_); rintro e w13 ⟨A13, n13, c13, rfl, hM13, hw13⟩; go_loud (
       obtain rfl : n13 = 512 := hM13.len.trans HSQ.out.1;
       have hD13 := hD4.below hw13;
       have HW2 := hide (write_good hD13 (by decide) (by decide) (by decide) (by simp) 1 (by rw [HL.out]; omega) A13 c13 Q hM13.bytes HSQ.out);
       rw [show ((1 : Nat) : Int) = 1 from rfl] at HW2))
    | (go_at_call 13; (with_reducible refine (unhide HW2).mono ?_); rintro e w14 ⟨rfl, b14, hD14, j1, j2, j3, j4, j5, hO14⟩; go_loud (
       have hD14' : Disk w14 gs b14 D [(0, P), (1, Q)] 2 (-1) := hD14;
       have HF := hide (cformat_good hD14' (by rw [HL.out]; exact hn2) (by decide) (by simp))))
    | (go_at_call 16; (with_reducible refine (unhide HF).mono ?_); rintro e w5 ⟨rfl, cd, cl, n2, hD5, -, -, hO5⟩)
    | (go_at_call 14; (with_reducible refine (cread_nil _).mono ?_); rintro e w6 ⟨rfl, hb6⟩)
    | (go_at_call 16; (with_reducible refine (cformat_nil _).mono ?_); rintro e w7 ⟨rfl, rfl⟩)
    | (go_at_call 17; (with_reducible refine (first_any _).mono ?_); rintro e w8 ⟨rfl, hb8⟩; go_loud (
       have HWN := hide (cwrite_nil w8 1 0 0 (by decide) (by decide) (by decide));
       rw [show ((1 : Nat) : Int) = 1 from rfl, show ((0 : Nat) : Int) = 0 from rfl] at HWN))
    | (go_at_call 19; (with_reducible refine (unhide HWN).mono ?_); rintro e w9 ⟨rfl, hb9⟩; go_loud (
       have hba := (Below.refl w6.heap.size w6).alloc (Nat.le_refl _) (.cells #[.int .u32 0, .int .u8 0, .int .u32 0] 24);
       have hb69 := below_on (hba.trans (hb8.mono hba.size)) hb9;
       have hD9 := hD5.below (hb6.trans (hb69.mono hb6.size));
       have HR := hide (cread_good hD9 (by rw [List.length_set, wiped_length, applied_length, HL.out]; exact hn2) exo1 (full_at [(0, P), (1, Q)] D (by rw [HL.out]; exact hn2)) (1, 0, 0) rfl)))
    | (go_at_call 14; (with_reducible refine (unhide HR).mono ?_); rintro e w10 ⟨rfl, hb10⟩))
  obtain ⟨O, hO⟩ : ∃ O, O = (w10.alloc (.cells #[.int .u32 1, .int .u8 0, .int .u32 0] 24)) := ⟨_, rfl⟩
  have gO : O.heap[w10.heap.size]? = some (.cells #[.int .u32 1, .int .u8 0, .int .u32 0] 24 (0, 0)) := by rw [hO]; exact Go.heap_alloc_new w10 _
  have bO : Below w9.heap.size w9 O := by rw [hO]; exact hb10.alloc hb10.size _
  have hDO := hD9.below bO
  have lO : w10.heap.size < O.heap.size := (Array.getElem?_eq_some_iff.1 gO).1
  obtain ⟨c0, c1, c2', -, -, -⟩ := crown_facts gO
  have HDO := Lib.hid hDO
  have HGO := Lib.hid gO
  try simp only [show ((1 : Nat) : Int) = 1 from rfl, show ((0 : Nat) : Int) = 0 from rfl]
  try rw [← hO]
  clear hO
  go_region_law (first
    | (go_simp; go_at_call 17; (with_reducible refine (first_any _).mono ?_); rintro e w11 ⟨rfl, hb11⟩; go_loud (
       obtain ⟨r0, r1, r2, -, -, -⟩ := crown_facts ((hb11.block _ lO).trans HGO.out);
       have hD11 := (HDO.out.below (Below.refl _ _).drew).below hb11;
       have HBL := hide (blank_any hD11 0 (by rw [List.length_set, wiped_length, applied_length, HL.out]; omega) noughts (full_zero _ D (by rw [HL.out]; exact hn2)));
       rw [show ((0 : Nat) : Int) = 0 from rfl, show decide (noughts = noughts) = true from decide_eq_true rfl] at HBL))
    | (go_simp; go_at_call 27; (with_reducible refine (unhide HBL).mono ?_); rintro e w12 ⟨rfl, rfl⟩; go_loud (
       have HWA := hide (waiting_any hD11)))
    | (go_simp; go_at_call 23; (with_reducible refine (unhide HWA).mono ?_); rintro e w16 ⟨gw, cw, rfl, -, hb16⟩)
    | (go_simp; go_at_call 19; (with_reducible refine (cwrite_half _ _ _ _).mono ?_); rintro e w15 ⟨rfl, hb15⟩))
  all_goals
    go_wp2
    go_ret
    have s1 := hw1.size
    have s3 := hw3.size
    have s2 := hw2.size
    have s4 := hb3.size
    have z13 := hb4.trans (hw13.mono hb4.size)
    have p4 : ∀ g, b4.pv.ownBlock = some g → w.heap.size ≤ g := fun g hg => by
      rcases i5 with h | ⟨g', h, hg'⟩
      · rw [h, hpv] at hg; cases hg
      · rw [h] at hg
        injection hg with hg
        omega
    have z4 := z13.trans (own_far hO14 (by omega) (by omega) p4 z13.size)
    have z5 := z4.trans (hO5.below (B := w.heap.size) (fun k hk => by
      rcases hk with (h | h | h | h) | h
      · omega
      · omega
      · omega
      · rcases j5 with h' | ⟨g', h', hg'⟩
        · rw [h'] at h; exact p4 k h.symm
        · rw [h'] at h
          injection h with h
          have := z13.size
          omega
      · have := z4.size; omega) z4.size)
    have z6 := z5.trans (hb6.mono z5.size)
    have z9 := z6.trans (hb69.mono z6.size)
    have zO := z9.trans (bO.mono z9.size)
    have zd := zO.trans (Below.refl _ _).drew
    have z11 := zd.trans (hb11.mono zd.size)
    have z16 := z11.trans (hb16.mono z11.size)
    have z15 := z16.trans (hb15.mono z16.size)
    exact ⟨rfl, z15⟩
end Go.Proofs.Ytckekmhbfdeaoaa
