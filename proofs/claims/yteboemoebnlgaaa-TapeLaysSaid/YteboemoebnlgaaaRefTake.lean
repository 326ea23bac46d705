/- Contracts: what the reference's number and Take answer. -/
import Derived.Test.YteboemoebnlgaaaRefLay
namespace Go.Proofs.Yteboemoebnlgaaa
open Go.RowKit
set_option linter.unusedSimpArgs false
set_option linter.unusedVariables false

def RefNR (w : World) (n : Nat) (l : List Nat) (t y i : Value) : Prop :=
  ∃ k m z : Nat, i = .int .i64 (k : Int) ∧ t = .int .u64 (m : Int) ∧ y = .int .u64 (z : Int) ∧ m < 18446744073709551616 ∧ z < 18446744073709551616 ∧ ((k ≤ n ∧ k ≤ 9 ∧ m < 128 ^ k ∧ z = 128 ^ k ∧ scan (l.drop k) k m = numOf l) ∨ (k = 10 ∧ numOf l = (0, 0)))
theorem acc_at {k m z x : Nat} (hk : k ≤ 9) (hm : m < 128 ^ k) (hz : z = 128 ^ k) (hx : m + x * 128 ^ k < 18446744073709551616) : IntKind.u64.wrap ((m : Int) + IntKind.u64.wrap ((z : Int) * (x : Int))) = ((m + x * 128 ^ k : Nat) : Int) := by
  have e : (z : Int) * (x : Int) = ((x * 128 ^ k : Nat) : Int) := by rw [hz, Nat.mul_comm x]; simp
  rw [e, IntKind.wrap_u64, IntKind.wrap_u64]
  omega
set_option maxRecDepth 100000 in
set_option maxHeartbeats 4000000 in
theorem refNumber_any (w : World) (v : Value) (l : List Nat) (hp : Bytes w w.heap.size v l) :
    Calls Try.prog 35 #[v] w fun e w' => e = .returned (.tuple #[.int .u64 ((numOf l).1 : Int), .int .i64 ((numOf l).2 : Int)]) ∧ w = w' := by
  obtain ⟨⟨A, c, rfl, hlies, _⟩, hsm, hlong⟩ := hp
  unfold maxLen at hlong
  have HL := Lib.hid hlies
  have HS := Lib.hid hsm
  clear hlies hsm
  obtain ⟨n, hn⟩ : ∃ n, n = l.length := ⟨_, rfl⟩
  rw [← hn] at hlong ⊢
  have HN := Lib.hid hn
  clear hn
  go_enter Try.func35, Try.ntmps35
  go_wp2
  go_loop [4, 5, 6] (fun t y i => RefNR w n l t y i) (fun _ _ i => 10 - (intOf i).toNat)
  case atStart => exact ⟨0, 0, 1, rfl, rfl, rfl, by omega, by omega, .inl ⟨by omega, by omega, by simp, rfl, rfl⟩⟩
  case round =>
    obtain ⟨k, m, z, rfl, rfl, rfl, hm, hz, h | h⟩ := hrel
    · obtain ⟨hk, hk9, hm2, hz2, hsc⟩ := h
      have HSC := Lib.hid hsc
      have HM := Lib.hid hm2
      have HZ := Lib.hid hz2
      clear hsc hm2 hz2
      by_cases hlt : k < n
      · obtain ⟨b, hb1⟩ : ∃ b, l[k]? = some b := ⟨_, List.getElem?_eq_getElem (by rw [← HN.out]; exact hlt)⟩
        have hb2 : b < 256 := HS.out b (List.mem_of_getElem? hb1)
        obtain ⟨ad, hA, hbb, hc⟩ := HL.out k (.int .u8 (b : Int)) (by rw [byt_at, hb1]; rfl)
        subst hA
        have hsc := HSC.out
        rw [scan_cons hb1] at hsc
        have HE := Lib.hid hsc
        clear hb1 hbb hsc HSC
        have hk10 : (k : Int) < 10 := by omega
        by_cases h9 : k = 9
        · have hk9e : (k : Int) = 9 := by omega
          have hc9 := hc
          rw [h9] at hc9
          unfold Addr.add at hc9
          rw [if_neg (by decide)] at hc9
          have HH := Lib.hid h9
          clear h9
          by_cases hb : 1 < b % 128
          · have hx : decide (1 < (b : Int) % 128) = true := decide_eq_true (by omega)
            go_wp2
            go_ret2
            exact ⟨ret_num (y := (0, 0)) (HE.out.symm.trans (if_pos ⟨HH.out, by omega⟩)) rfl rfl, rfl⟩
          · have hx : decide (1 < (b : Int) % 128) = false := decide_eq_false (by omega)
            have hp : 128 ^ k = 9223372036854775808 := by rw [HH.out]
            have hacc := acc_at (k := k) (m := m) (z := z) (x := b % 128) (by omega) HM.out HZ.out (by have := HM.out; rw [hp] at this ⊢; omega)
            rw [show ((b % 128 : Nat) : Int) = (b : Int) % 128 by omega] at hacc
            have hsum : m + b % 128 * 128 ^ k < 18446744073709551616 := by have := HM.out; rw [hp] at this ⊢; omega
            have HA := Lib.hid hacc
            have HSU := Lib.hid hsum
            have HP := Lib.hid hp
            clear hacc hsum hp
            by_cases hb1 : 128 ≤ b
            · have hlt128 : ¬ (b : Int) < 128 := by omega
              go_wp2
              go_round
              case rel =>
                refine ⟨10, m + b % 128 * 128 ^ k, 0, rfl, ?_, ?_, HSU.out, by omega, .inr ⟨rfl, ?_⟩⟩
                · rw [← HA.out]
                · have h := HZ.out
                  rw [HP.out] at h
                  rw [h]
                  rfl
                · rw [← HE.out, if_pos ⟨HH.out, by omega⟩]
              case measure => simp [intOf]; omega
            · by_cases hb0 : b = 0
              · have hbe : (b : Int) = 0 := by omega
                have HB := Lib.hid hb0
                clear hb0
                go_wp2
                go_ret2
                refine ⟨ret_num (y := (0, 0)) (HE.out.symm.trans ?_) rfl rfl, rfl⟩
                rw [if_neg (by omega), if_neg (by omega), if_pos ⟨HB.out, by omega⟩]
              · have hbe : (b : Int) = 1 := by omega
                go_wp2
                go_ret2
                refine ⟨ret_num (y := (m + b % 128 * 128 ^ k, k + 1)) (HE.out.symm.trans ?_) ?_ ?_, rfl⟩
                · rw [if_neg (by omega), if_neg (by omega), if_neg (by omega)]
                · have h := HA.out
                  rw [hbe, show ((1 : Int) % 128) = 1 from rfl, Int.mul_one, show IntKind.u64.wrap (z : Int) = (z : Int) by (rw [IntKind.wrap_u64]; omega)] at h
                  exact h
                · show (10 : Int) = ((k + 1 : Nat) : Int)
                  have := HH.out
                  omega
        · have h9' : ((k : Int) == 9) = false := by rw [beq_eq_false_iff_ne]; omega
          have hp9 : 128 ^ (k + 1) ≤ 9223372036854775808 := pow128_le (by omega)
          have hnx : m + b % 128 * 128 ^ k < 128 ^ (k + 1) := by
            have h1 := HM.out
            have h2 : (b % 128 + 1) * 128 ^ k ≤ 128 * 128 ^ k := Nat.mul_le_mul_right _ (by omega)
            rw [Nat.add_mul] at h2
            rw [Nat.pow_succ, Nat.mul_comm (128 ^ k)]
            omega
          have hacc := acc_at (k := k) (m := m) (z := z) (x := b % 128) hk9 HM.out HZ.out (by omega)
          rw [show ((b % 128 : Nat) : Int) = (b : Int) % 128 by omega] at hacc
          have hby : IntKind.u64.wrap ((z : Int) * 128) = ((128 ^ (k + 1) : Nat) : Int) := by
            have e : (z : Int) * 128 = ((128 ^ (k + 1) : Nat) : Int) := by rw [HZ.out, Nat.pow_succ]; simp
            rw [e, IntKind.wrap_u64]
            omega
          have HX := Lib.hid hnx
          have HA := Lib.hid hacc
          have HBY := Lib.hid hby
          have HP9 := Lib.hid hp9
          clear hp9 hnx hacc hby
          by_cases hb : 128 ≤ b
          · have hlt128 : ¬ (b : Int) < 128 := by omega
            go_wp2
            go_round
            case rel =>
              refine ⟨k + 1, m + b % 128 * 128 ^ k, 128 ^ (k + 1), by go_num, by rw [← HA.out], by rw [← HBY.out], by have := HX.out; have := HP9.out; omega, by have := HP9.out; omega, .inl ⟨by omega, by omega, HX.out, rfl, ?_⟩⟩
              rw [← HE.out, if_neg (by omega), if_pos hb]
            case measure => simp [intOf]; omega
          · by_cases hz0 : b = 0 ∧ 0 < k
            · obtain ⟨hb0, h0⟩ := hz0
              have hbe : (b : Int) = 0 := by omega
              have HB := Lib.hid hb0
              clear hb0
              go_wp2
              go_ret2
              refine ⟨ret_num (y := (0, 0)) (HE.out.symm.trans ?_) rfl rfl, rfl⟩
              rw [if_neg (by omega), if_neg (by omega), if_pos ⟨HB.out, h0⟩]
            · have HZ0 := Lib.hid hz0
              clear hz0
              by_cases hk0 : 0 < k
              · have hk0' : decide (0 < (k : Int)) = true := decide_eq_true (by omega)
                have hk0'' : decide (0 < k) = true := decide_eq_true hk0
                have hb0 : ¬ b = 0 := fun e => HZ0.out ⟨e, hk0⟩
                have hb0' : ((b : Int) % 128 == 0) = false := by rw [beq_eq_false_iff_ne]; omega
                go_wp2
                go_ret2
                refine ⟨ret_num (y := (m + b % 128 * 128 ^ k, k + 1)) (HE.out.symm.trans ?_) HA.out (by simp), rfl⟩
                rw [if_neg (by omega), if_neg (by omega), if_neg HZ0.out]
              · have hk0' : decide (0 < (k : Int)) = false := decide_eq_false (by omega)
                have hk0'' : decide (0 < k) = false := decide_eq_false hk0
                go_wp2
                go_ret2
                refine ⟨ret_num (y := (m + b % 128 * 128 ^ k, k + 1)) (HE.out.symm.trans ?_) HA.out (by simp), rfl⟩
                rw [if_neg (by omega), if_neg (by omega), if_neg HZ0.out]
      · go_wp2
        go_ret2
        refine ⟨ret_num (y := (0, 0)) (HSC.out.symm.trans ?_) rfl rfl, rfl⟩
        rw [List.drop_of_length_le (by rw [← HN.out]; omega), scan]
    · obtain ⟨hk, hnum⟩ := h
      have HX := Lib.hid hnum
      have hk10 : ¬ (k : Int) < 10 := by omega
      clear hnum hk
      go_wp2
      all_goals
        go_ret2
        exact ⟨ret_num (y := (0, 0)) HX.out rfl rfl, rfl⟩
end Go.Proofs.Yteboemoebnlgaaa
