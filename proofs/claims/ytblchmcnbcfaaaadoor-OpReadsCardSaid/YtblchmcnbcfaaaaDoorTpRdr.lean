/- Contracts: what a Reader's methods take off the front. -/
import Derived.Test.YtblchmcnbcfaaaaDoorTpClone
namespace Go.Proofs.YtblchmcnbcfaaaaDoor
open Go.RowKit
set_option linter.unusedSimpArgs false
set_option linter.unusedVariables false

def NumbR (w : World) (n : Nat) (l : List Nat) (t i : Value) : Prop :=
  ∃ k m : Nat, k ≤ n ∧ k ≤ 9 ∧ i = .int .i64 (k : Int) ∧ t = .int .u64 (m : Int) ∧ m < 128 ^ k ∧ tp_scan (l.drop k) k m = numOf l
theorem pow128_le {k : Nat} (h : k ≤ 9) : 128 ^ k ≤ 9223372036854775808 := by
  have := Nat.pow_le_pow_right (n := 128) (by omega) h
  omega
theorem andNot_more (b : Nat) (hb : b < 256) : bits .andNot .u8 (b : Int) 128 = ((b % 128 : Nat) : Int) := by
  have h := u8_andNot_nat b 128 hb (by decide)
  rw [show ((128 : Nat) : Int) = 128 from rfl] at h
  rw [h]
  congr 1
  exact nat_mask7 b
theorem scan_cons {l : List Nat} {k b : Nat} (h : l[k]? = some b) (n : Nat) : tp_scan (l.drop k) k n = if k = 9 ∧ 1 < b then (0, 0) else if 128 ≤ b then tp_scan (l.drop (k + 1)) (k + 1) (n + b % 128 * 128 ^ k) else if b = 0 ∧ 0 < k then (0, 0) else (n + b % 128 * 128 ^ k, k + 1) := by
  obtain ⟨hk, hb⟩ := List.getElem?_eq_some_iff.1 h
  rw [List.drop_eq_getElem_cons hk, hb, tp_scan]
theorem or_at {k m x : Nat} (hk : k ≤ 9) (hm : m < 128 ^ k) (hx : x * 128 ^ k < 18446744073709551616) : bits .or .u64 (m : Int) (IntKind.u64.wrap ((x : Int) * 2 ^ (7 * k))) = ((m + x * 128 ^ k : Nat) : Int) := by
  have e1 : (2 : Nat) ^ (7 * k) = 128 ^ k := by rw [Nat.pow_mul]
  have e2 : ((x : Int) * 2 ^ (7 * k)) = ((x * 128 ^ k : Nat) : Int) := by
    rw [← e1]
    simp
  have h9 := pow128_le hk
  rw [e2, IntKind.wrap_u64, Int.emod_eq_of_lt (by omega) (by omega), u64_or_nat _ _ (by omega) hx, Nat.or_comm]
  rw [nat_join (7 * k) (x * 128 ^ k) m (by rw [e1]; exact Nat.mul_mod_left _ _) (by rw [e1]; exact hm)]
  congr 1
  omega
theorem ret_num {a b : Int} {x y : Nat × Nat} (hx : x = y) (h1 : a = (y.1 : Int)) (h2 : b = (y.2 : Int)) : Ending.returned (.tuple #[.int .u64 a, .int .i64 b]) = .returned (.tuple #[.int .u64 (x.1 : Int), .int .i64 (x.2 : Int)]) := by rw [hx, h1, h2]
end Go.Proofs.YtblchmcnbcfaaaaDoor
