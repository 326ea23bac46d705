/- Contracts: what the reference's Sum answers: the same sum, bit by bit. -/
import Derived.Test.YtkdbplfphhfeaaaStep
import Derived.Test.YtkdbplfphhfeaaaWords
import Derived.Laws.Bits64
namespace Go.Proofs.Ytkdbplfphhfeaaa
open Go.RowKit

def RefOut (n : Nat) (l : List Nat) (st i : Value) : Prop :=
  ∃ k s : Nat, k ≤ n ∧ i = .int .i64 (k : Int) ∧ st = .int .u64 (s : Int) ∧ s < 4294967296 ∧ s = reg 4294967295 (l.take k)
def RefIn (s b : Nat) (st i : Value) : Prop :=
  ∃ j : Nat, j ≤ 8 ∧ i = .int .i64 (j : Int) ∧ st = .int .u64 ((mix s b j : Nat) : Int)

theorem bit_of {s b j : Nat} (hb : b < 256) (c : Bool) (h : ((IntKind.u64.wrap (((mix s b j : Nat) : Int) % 2 + (b : Int) / 2 ^ j)).tmod 2 == 1) = c) : decide ((mix s b j % 2 + b / 2 ^ j) % 2 = 1) = c := by
  have e : ((mix s b j : Nat) : Int) % 2 + (b : Int) / 2 ^ j = ((mix s b j % 2 + b / 2 ^ j : Nat) : Int) := by
    have h2 : (b : Int) / 2 ^ j = ((b / 2 ^ j : Nat) : Int) := by simp
    rw [h2]
    omega
  have hd := Nat.div_le_self b (2 ^ j)
  rw [e] at h
  clear e
  generalize b / 2 ^ j = q at h hd ⊢
  rw [IntKind.wrap_u64, Int.emod_eq_of_lt (by omega) (by omega), Int.tmod_eq_emod_of_nonneg (by omega)] at h
  rw [← h, Bool.eq_iff_iff]
  simp
  omega
theorem refIn_yes {s b j : Nat} (hj : j < 8) (hm : mix s b j < 4294967296) (hb : b < 256) (h : ((IntKind.u64.wrap (((mix s b j : Nat) : Int) % 2 + (b : Int) / 2 ^ j)).tmod 2 == 1) = true) :
    RefIn s b (.int .u64 (bits .xor .u64 (((mix s b j : Nat) : Int) / 2) 3988292384)) (.int .i64 ((j : Int) + 1)) := by
  refine ⟨j + 1, by omega, by go_num, ?_⟩
  rw [mix_one s b j (of_decide_eq_true (bit_of hb true h)), ← bits_xor_u64_nat _ _ (by omega) (by omega)]
  rw [show ((mix s b j : Nat) : Int) / 2 = ((mix s b j / 2 : Nat) : Int) by omega]
  rfl
theorem refIn_no {s b j : Nat} (hj : j < 8) (hb : b < 256) (h : ((IntKind.u64.wrap (((mix s b j : Nat) : Int) % 2 + (b : Int) / 2 ^ j)).tmod 2 == 1) = false) :
    RefIn s b (.int .u64 (((mix s b j : Nat) : Int) / 2)) (.int .i64 ((j : Int) + 1)) := by
  refine ⟨j + 1, by omega, by go_num, ?_⟩
  rw [mix_nought s b j (of_decide_eq_false (bit_of hb false h)), show ((mix s b j : Nat) : Int) / 2 = ((mix s b j / 2 : Nat) : Int) by omega]
theorem refOut_next {n k s b j : Nat} {l : List Nat} (hk : k < n) (hs : s < 4294967296) (hb : b < 256) (hl : l[k]? = some b) (hr : s = reg 4294967295 (l.take k)) (hj : j ≤ 8) (h8 : ¬ j < 8) :
    RefOut n l (.int .u64 ((mix s b j : Nat) : Int)) (.int .i64 ((k : Int) + 1)) := by
  obtain rfl : j = 8 := by omega
  rw [mix_eight s b hb]
  refine ⟨k + 1, stp s b, by omega, by go_num, rfl, stp_lt hs hb, ?_⟩
  rw [List.take_add_one, hl, reg_append, ← hr]
  rfl

end Go.Proofs.Ytkdbplfphhfeaaa
