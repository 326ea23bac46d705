/- Contracts: what sum.Step answers for each register and each byte. -/
import Derived.Test.YtkdbplfphhfeaaaRows
import Derived.Test.YtkdbplfphhfeaaaMath
import Derived.WalkKit
import Derived.Below
import Derived.Laws.BitsAllLaws
import Derived.Lib.Hide
namespace Go.Proofs.Ytkdbplfphhfeaaa
open Go.RowKit

theorem u32_and_one (n : Nat) (h : n < 4294967296) : bits .and .u32 (n : Int) 1 = ((n % 2 : Nat) : Int) := by
  have := u32_and_nat n 1 h (by omega)
  rw [show ((1 : Nat) : Int) = 1 from rfl] at this
  rw [this, Nat.and_one_is_mod]

theorem int_u32 {a b : Int} (h : a = b) : Value.int .u32 a = Value.int .u32 b := by rw [h]
theorem ret_u32 {a b : Int} (h : a = b) : Ending.returned (.int .u32 a) = .returned (.int .u32 b) := by rw [h]
theorem zk_yes {k x : Nat} (hz : zk k x < 4294967296) (h : (((zk k x : Nat) : Int) % 2 == 1) = true) :
    Value.int .u32 (bits .xor .u32 (((zk k x : Nat) : Int) / 2) 3988292384) = .int .u32 ((zk (k + 1) x : Nat) : Int) := by
  have h1 : zk k x % 2 = 1 := by
    have h2 : ((zk k x : Nat) : Int) % 2 = 1 := by simpa using h
    omega
  apply int_u32
  rw [show ((zk k x : Nat) : Int) / 2 = ((zk k x / 2 : Nat) : Int) by omega, show (3988292384 : Int) = ((3988292384 : Nat) : Int) from rfl, u32_xor_nat _ _ (by omega) (by omega)]
  rw [zk, z1, if_pos h1]
theorem zk_no {k x : Nat} (h : (((zk k x : Nat) : Int) % 2 == 1) = false) :
    Value.int .u32 (((zk k x : Nat) : Int) / 2) = .int .u32 ((zk (k + 1) x : Nat) : Int) := by
  have h1 : ¬ zk k x % 2 = 1 := by
    have h2 : ¬ ((zk k x : Nat) : Int) % 2 = 1 := by simpa using h
    omega
  apply int_u32
  rw [zk, z1, if_neg h1]
  omega

set_option maxHeartbeats 400000 in
theorem step_any (s b : Nat) (hs : s < 4294967296) (hb : b < 256) (w : World) :
    Calls Try.prog 24 #[.int .u32 (s : Int), .int .u8 (b : Int)] w fun e w' => e = .returned (.int .u32 (stp s b : Int)) ∧ w = w' := by
  have hx : bits .xor .u32 (s : Int) (b : Int) = ((s ^^^ b : Nat) : Int) := u32_xor_nat s b hs (by omega)
  go_enter Try.func24, Try.ntmps24
  go_wp2
  clear hx
  have hX : s ^^^ b < 4294967296 := Nat.xor_lt_two_pow (n := 32) (by omega) (by omega)
  have hst : stp s b = zk 8 (s ^^^ b) := rfl
  have Hst := Lib.hid hst
  clear hst
  obtain ⟨x, hxx⟩ : ∃ x, x = s ^^^ b := ⟨_, rfl⟩
  rw [← hxx] at hX Hst ⊢
  clear hxx
  go_loop [0, 10] (fun t i => ∃ k : Nat, k ≤ 8 ∧ i = .int .i64 k ∧ t = .int .u32 (zk k x : Int)) (fun _ i => 8 - (intOf i).toNat)
  case atStart => exact ⟨0, by omega, rfl, rfl⟩
  case round =>
    obtain ⟨k, hk, rfl, rfl⟩ := hrel
    have hz := zk_lt k hX
    by_cases hlt : k < 8
    · have hand := u32_and_one (zk k x) hz
      go_wp2
      all_goals
        go_round
        case rel => exact ⟨k + 1, by omega, by go_num, by first | exact zk_yes hz ‹_› | exact zk_no ‹_›⟩
        case measure => simp [intOf]; omega
    · go_wp2
      go_ret
      obtain rfl : k = 8 := by omega
      exact ⟨ret_u32 (by rw [Hst.out]), rfl⟩
end Go.Proofs.Ytkdbplfphhfeaaa
