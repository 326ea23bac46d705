/- Contracts: what a Reader's methods take off the front. -/
import Derived.Test.YtfnobibjphnmdaaGreatDoorTpClone
namespace Go.Proofs.YtfnobibjphnmdaaGreatDoor
open Go.RowKit
set_option linter.unusedSimpArgs false
set_option linter.unusedVariables false

def NumbR (w : World) (n : Nat) (l : List Nat) (t i : Value) : Prop :=
  ∃ k m : Nat, k ≤ n ∧ k ≤ 9 ∧ i = .int .i64 (k : Int) ∧ t = .int .u64 (m : Int) ∧ m < 128 ^ k ∧ tp_scan (l.drop k) k m = numOf l
theorem pow128_le {k : Nat} (h : k ≤ 9) : 128 ^ k ≤ 9223372036854775808 := by
  have := Nat.pow_le_pow_right (n := 128) (by omega) h
  omega
theorem andNot_more (b : Nat) (hb : b < 256) : bits .andNot .u8 (b : Int) 128 = ((b % 128 : Nat) : Int) := by
  have h := u8_andNot_nat b 128 hb (by decide)
  rw [show ((128 : Nat) : Int) = 128 from rfl] at h
  rw [h]
  congr 1
  exact nat_mask7 b
theorem scan_cons {l : List Nat} {k b : Nat} (h : l[k]? = some b) (n : Nat) : tp_scan (l.drop k) k n = if k = 9 ∧ 1 < b then (0, 0) else if 128 ≤ b then tp_scan (l.drop (k + 1)) (k + 1) (n + b % 128 * 128 ^ k) else if b = 0 ∧ 0 < k then (0, 0) else (n + b % 128 * 128 ^ k, k + 1) := by
  obtain ⟨hk, hb⟩ := List.getElem?_eq_some_iff.1 h
  rw [List.drop_eq_getElem_cons hk, hb, tp_scan]
theorem or_at {k m x : Nat} (hk : k ≤ 9) (hm : m < 128 ^ k) (hx : x * 128 ^ k < 18446744073709551616) : bits .or .u64 (m : Int) (IntKind.u64.wrap ((x : Int) * 2 ^ (7 * k))) = ((m + x * 128 ^ k : Nat) : Int) := by
  have e1 : (2 : Nat) ^ (7 * k) = 128 ^ k := by rw [Nat.pow_mul]
  have e2 : ((x : Int) * 2 ^ (7 * k)) = ((x * 128 ^ k : Nat) : Int) := by
    rw [← e1]
    simp
  have h9 := pow128_le hk
  rw [e2, IntKind.wrap_u64, Int.emod_eq_of_lt (by omega) (by omega), u64_or_nat _ _ (by omega) hx, Nat.or_comm]
  rw [nat_join (7 * k) (x * 128 ^ k) m (by rw [e1]; exact Nat.mul_mod_left _ _) (by rw [e1]; exact hm)]
  congr 1
  omega
theorem ret_num {a b : Int} {x y : Nat × Nat} (hx : x = y) (h1 : a = (y.1 : Int)) (h2 : b = (y.2 : Int)) : Ending.returned (.tuple #[.int .u64 a, .int .i64 b]) = .returned (.tuple #[.int .u64 (x.1 : Int), .int .i64 (x.2 : Int)]) := by rw [hx, h1, h2]
set_option maxRecDepth 100000 in
set_option maxHeartbeats 2000000 in
theorem tp_number_any (w : World) (v : Value) (l : List Nat) (hp : Bytes w w.heap.size v l) :
    Calls Tryz.prog 57 #[v] w fun e w' => e = .returned (.tuple #[.int .u64 ((numOf l).1 : Int), .int .i64 ((numOf l).2 : Int)]) ∧ w = w' := by
  obtain ⟨⟨A, c, rfl, hlies, _⟩, hsm, hlong⟩ := hp
  unfold maxLen at hlong
  have HL := Lib.hid hlies
  have HS := Lib.hid hsm
  clear hlies hsm
  obtain ⟨n, hn⟩ : ∃ n, n = l.length := ⟨_, rfl⟩
  rw [← hn] at hlong ⊢
  have HN := Lib.hid hn
  clear hn
  go_enter Tryz.func57, Tryz.ntmps57
  go_wp2
  go_loop [4, 9] (fun t i => NumbR w n l t i) (fun _ i => n - (intOf i).toNat)
  case atStart => exact ⟨0, 0, by omega, by omega, rfl, rfl, by simp, rfl⟩
  case round =>
    obtain ⟨k, m, hk, hk9, rfl, rfl, hm, hsc⟩ := hrel
    have HSC := Lib.hid hsc
    have HM := Lib.hid hm
    clear hsc hm
    by_cases hlt : k < n
    · obtain ⟨b, hb1⟩ : ∃ b, l[k]? = some b := ⟨_, List.getElem?_eq_getElem (by rw [← HN.out]; exact hlt)⟩
      have hb2 : b < 256 := HS.out b (List.mem_of_getElem? hb1)
      obtain ⟨ad, hA, hbb, hc⟩ := HL.out k (.int .u8 (b : Int)) (by rw [byt_at, hb1]; rfl)
      subst hA
      have hsc := HSC.out
      rw [scan_cons hb1] at hsc
      have HE := Lib.hid hsc
      have han := andNot_more b hb2
      rw [show ((b % 128 : Nat) : Int) = (b : Int) % 128 by omega] at han
      clear hb1 hbb hsc HSC
      by_cases h9 : k = 9
      · have hk9e : (k : Int) = 9 := by omega
        have hc9 := hc
        rw [h9] at hc9
        unfold Addr.add at hc9
        rw [if_neg (by decide)] at hc9
        by_cases hb : 1 < b
        · have hx : decide (1 < (b : Int)) = true := decide_eq_true (by omega)
          have HH := Lib.hid h9
          clear h9
          go_wp2
          go_ret2
          exact ⟨ret_num (y := (0, 0)) (HE.out.symm.trans (if_pos ⟨HH.out, hb⟩)) rfl rfl, rfl⟩
        · have hor := or_at (k := k) (m := m) (x := b) (by omega) HM.out (by rw [h9]; omega)
          have hw : IntKind.u64.wrap ((b : Int) * 2 ^ (7 * k)) = (b : Int) * 9223372036854775808 := by
            rw [h9, IntKind.wrap_u64]
            omega
          rw [hw] at hor
          have HR := Lib.hid hor
          have HH := Lib.hid h9
          clear hor hw h9
          by_cases hb0 : b = 0
          · have hbe : (b : Int) = 0 := by omega
            have HB := Lib.hid hb0
            clear hb0
            go_wp2
            go_ret2
            refine ⟨ret_num (y := (0, 0)) (HE.out.symm.trans ?_) rfl rfl, rfl⟩
            rw [if_neg (by omega), if_neg (by omega), if_pos ⟨HB.out, by omega⟩]
          · have hbe : (b : Int) = 1 := by omega
            go_wp2
            go_ret2
            refine ⟨ret_num (y := (m + b % 128 * 128 ^ k, k + 1)) (HE.out.symm.trans ?_) ?_ ?_, rfl⟩
            · rw [if_neg (by omega), if_neg (by omega), if_neg (by omega)]
            · have h := HR.out
              rw [hbe] at h
              rw [show b % 128 = b by omega]
              exact h
            · show (10 : Int) = ((k + 1 : Nat) : Int)
              have := HH.out
              omega
      · have h9' : ((k : Int) == 9) = false := by rw [beq_eq_false_iff_ne]; omega
        have hp9 : 128 ^ (k + 1) ≤ 9223372036854775808 := pow128_le (by omega)
        have hxs : b % 128 * 128 ^ k < 128 ^ (k + 1) := by
          rw [Nat.pow_succ, Nat.mul_comm]
          exact Nat.mul_lt_mul_of_pos_left (Nat.mod_lt _ (by omega)) (pow_pos128 k)
        have hor := or_at (k := k) (m := m) (x := b % 128) hk9 HM.out (by omega)
        rw [show ((b % 128 : Nat) : Int) = (b : Int) % 128 by omega] at hor
        have hnx : m + b % 128 * 128 ^ k < 128 ^ (k + 1) := by
          have h1 := HM.out
          have h2 : (b % 128 + 1) * 128 ^ k ≤ 128 * 128 ^ k := Nat.mul_le_mul_right _ (by omega)
          rw [Nat.add_mul] at h2
          rw [Nat.pow_succ, Nat.mul_comm (128 ^ k)]
          omega
        have HX := Lib.hid hnx
        clear hp9 hxs hnx
        by_cases hb : 128 ≤ b
        · go_wp2
          go_round
          case rel =>
            refine ⟨k + 1, m + b % 128 * 128 ^ k, by omega, by omega, by go_num, rfl, HX.out, ?_⟩
            rw [← HE.out, if_neg (by omega), if_pos hb]
          case measure => simp [intOf]; omega
        · by_cases hz : b = 0 ∧ 0 < k
          · obtain ⟨hb0, h0⟩ := hz
            have hbe : (b : Int) = 0 := by omega
            have HB := Lib.hid hb0
            clear hor hb0
            go_wp2
            go_ret2
            refine ⟨ret_num (y := (0, 0)) (HE.out.symm.trans ?_) rfl rfl, rfl⟩
            rw [if_neg (by omega), if_neg (by omega), if_pos ⟨HB.out, h0⟩]
          · have HR := Lib.hid hor
            have HZ := Lib.hid hz
            clear hz
            by_cases hb0 : b = 0
            · have hk0 : k = 0 := by have := HZ.out; omega
              have hm0 : m = 0 := by have := HM.out; rw [hk0] at this; simp at this; omega
              have hbe : (b : Int) = 0 := by omega
              have hke : (k : Int) = 0 := by omega
              have hme : (m : Int) = 0 := by omega
              have hz64 : bits .or .u64 0 0 = 0 := by decide
              have hc0 := hc
              rw [hk0, Addr.add_zero'] at hc0
              have HK := Lib.hid hk0
              have HB := Lib.hid hb0
              have HM0 := Lib.hid hm0
              clear hor hk0 hb0 hm0
              go_wp2
              go_ret2
              refine ⟨ret_num (y := (0, 1)) (HE.out.symm.trans ?_) rfl rfl, rfl⟩
              rw [HB.out, HK.out, HM0.out]
              rfl
            · have hb0' : ((b : Int) == 0) = false := by rw [beq_eq_false_iff_ne]; omega
              go_wp2
              go_ret2
              refine ⟨ret_num (y := (m + b % 128 * 128 ^ k, k + 1)) (HE.out.symm.trans ?_) rfl (by simp), rfl⟩
              rw [if_neg (by omega), if_neg (by omega), if_neg HZ.out]
    · go_wp2
      go_ret2
      refine ⟨ret_num (y := (0, 0)) (HSC.out.symm.trans ?_) rfl rfl, rfl⟩
      rw [List.drop_of_length_le (by rw [← HN.out]; omega), tp_scan]
end Go.Proofs.YtfnobibjphnmdaaGreatDoor
