/- Contracts: the sign at the front. -/
import Derived.Test.YtfnobibjphnmdaaGreatDoorKIn
namespace Go.Proofs.YtfnobibjphnmdaaGreatDoor
open Go.RowKit
set_option linter.unusedSimpArgs false
set_option linter.unusedVariables false
/-- Does l begin with p? -/
def pfxL (l p : List Nat) : Bool := decide (l.take p.length = p)
theorem pfx_str (s p : ByteArray) : Lib.hasPrefix s.data.toList p.data.toList = pfxL (str s) (str p) := by
  rw [← Lib.hasPrefix_raw, Bool.eq_iff_iff]
  unfold pfxL
  rw [Bool.and_eq_true, decide_eq_true_eq, decide_eq_true_eq, Lib.bytes_beq_iff, str_length]
  constructor
  · rintro ⟨_, h⟩
    have h2 := congrArg str h
    rw [str_extract, List.drop_zero, Nat.sub_zero] at h2
    exact h2
  · intro h
    have hl := congrArg List.length h
    rw [List.length_take, str_length, str_length] at hl
    refine ⟨by omega, str_inj ?_⟩
    rw [str_extract, List.drop_zero, Nat.sub_zero]
    exact h
theorem signsL_len : ∀ s ∈ signsL, s.length = 1 ∨ s.length = 2 := by decide
theorem signL_of {l : List Nat} {m : Nat} (h1 : ∀ s ∈ signsL, pfxL l s = true → s.length ≤ m) (h2 : m = 0 ∨ ∃ s ∈ signsL, pfxL l s = true ∧ s.length = m) : signL l = m := by
  unfold pfxL at h1 h2
  have hm : m ≤ 2 := by
    rcases h2 with h | ⟨s, hs, _, h⟩
    · omega
    · have := signsL_len s hs; omega
  unfold signL
  split
  · rename_i h
    have := h1 _ h.1 (decide_eq_true (by rw [List.length_take, Nat.min_eq_left h.2]))
    rw [List.length_take] at this
    omega
  · rename_i h
    split
    · rename_i h3
      have hl : 1 ≤ l.length := by
        rcases l with _ | ⟨b, l⟩
        · simp [signsL] at h3
        · simp
      have := h1 _ h3 (decide_eq_true (by rw [List.length_take, Nat.min_eq_left hl]))
      rw [List.length_take] at this
      rcases h2 with h4 | ⟨s, hs, hp, h4⟩
      · omega
      · rcases signsL_len s hs with h5 | h5
        · omega
        · have e := of_decide_eq_true hp
          rw [h5] at e
          have hl2 := congrArg List.length e
          rw [List.length_take] at hl2
          exact absurd ⟨e.symm ▸ hs, by omega⟩ h
    · rename_i h3
      rcases h2 with h4 | ⟨s, hs, hp, h4⟩
      · exact h4.symm
      · have e := of_decide_eq_true hp
        have hl2 := congrArg List.length e
        rw [List.length_take] at hl2
        rcases signsL_len s hs with h5 | h5
        · rw [h5] at e
          exact absurd (e.symm ▸ hs) h3
        · rw [h5] at e
          exact absurd ⟨e.symm ▸ hs, by omega⟩ h
/-- The kind of a sign this long. -/
def sgnK (n : Nat) : Int := if n = 0 then 0 else 4
def SignR (l : List Nat) (m i : Value) : Prop := ∃ k n : Nat, i = .int .i64 (k : Int) ∧ m = .int .i64 (n : Int) ∧ k ≤ 22 ∧ n ≤ 2 ∧ (∀ j s, j < k → signsL[j]? = some s → pfxL l s = true → s.length ≤ n) ∧ (n = 0 ∨ ∃ s ∈ signsL, pfxL l s = true ∧ s.length = n)
end Go.Proofs.YtfnobibjphnmdaaGreatDoor
