/- Plain facts on sectors of which some of 32 bits in a row are turned: what they read as; that they are neither blank nor a page. -/
import Derived.Test.YtnojkifndcffjaaDRot
import Derived.Test.YtnojkifndcffjaaBurst
import Derived.Test.YtnojkifndcffjaaPages
import Derived.Test.YtnojkifndcffjaaCRead
namespace Go.Proofs.Ytnojkifndcffjaa
open Go.RowKit
set_option linter.unusedSimpArgs false
set_option linter.unusedVariables false

theorem val_zero (l : List Nat) (h : ∀ b ∈ l, b = 0) : val l = 0 := by
  induction l with
  | nil => rfl
  | cons b r ih =>
    rw [val, h b (by simp), ih (fun c hc => h c (by simp [hc]))]
theorem val_ge (l : List Nat) : ∀ (i b : Nat), l[i]? = some b → 256 ^ i * b ≤ val l := by
  induction l with
  | nil => intro i b h; simp at h
  | cons x r ih =>
    intro i b h
    rw [val]
    rcases i with _ | i
    · simp at h
      subst h
      simp
    · simp at h
      have h1 := ih i b h
      rw [Nat.pow_succ, Nat.mul_comm (256 ^ i) 256, Nat.mul_assoc]
      omega
/-- A page of which some of 32 bits in a row are turned isn't all noughts. -/
theorem shown_not_blank {gen ser num kind a mask : Nat} {d f : List Nat} (hk : 0 < kind) (hf : val f = val (page gen ser num kind d) ^^^ turn a 4096 mask 32) : ¬ ∀ b ∈ f, b = 0 := by
  intro h
  rw [val_zero f h] at hf
  have h1 := xor_eq_zero hf.symm
  obtain ⟨M, hM, hM2, _⟩ := turn_form a 4096 mask 32
  rw [hM] at h1
  have h14 : 256 ^ 14 * kind ≤ val (page gen ser num kind d) := val_ge _ 14 kind (by
    unfold page
    rw [pg_head]
    simp [be4])
  have h0 : ∃ v, val (page gen ser num kind d) = 104 + 256 * v := ⟨_, by unfold page; rw [pg_head]; rfl⟩
  obtain ⟨v, hv⟩ := h0
  by_cases ha : 4 ≤ a
  · have h2 : 2 ^ a * M = 16 * (2 ^ (a - 4) * M) := by
      rw [show a = 4 + (a - 4) by omega, Nat.pow_add, show 4 + (a - 4) - 4 = a - 4 by omega, Nat.mul_assoc]
    generalize 2 ^ (a - 4) * M = z at h2
    omega
  · have h2 : 2 ^ a * M ≤ 8 * M := Nat.mul_le_mul_right _ (by
      have : 2 ^ a ≤ 2 ^ 3 := Nat.pow_le_pow_right (by omega) (by omega)
      omega)
    have h3 : 256 ^ 14 * 1 ≤ 256 ^ 14 * kind := Nat.mul_le_mul_left _ hk
    have h4 : (8 : Nat) * 2 ^ 32 < 256 ^ 14 := by decide
    omega
theorem turn_val (a N mask : Nat) : ∀ k, a + k ≤ N → turn a N mask k = 2 ^ a * (mask % 2 ^ k) := by
  intro k
  induction k with
  | zero => intro _; simp [turn, Nat.mod_one]
  | succ k ih =>
    intro h
    have h1 := ih (by omega)
    have hm : mask % 2 ^ (k + 1) = mask % 2 ^ k + 2 ^ k * (mask / 2 ^ k % 2) := by rw [Nat.pow_succ, Nat.mod_mul]
    have hlt := Nat.mod_lt mask (Nat.two_pow_pos k)
    unfold turn
    by_cases hb : mask / 2 ^ k % 2 = 1
    · rw [if_pos ⟨by omega, hb⟩, h1, hm, hb, Nat.mul_one]
      have e : 2 ^ a * (mask % 2 ^ k) ^^^ 2 ^ (a + k) = 2 ^ a * ((mask % 2 ^ k) ^^^ 2 ^ k) := by
        apply Nat.eq_of_testBit_eq
        intro i
        rw [Nat.testBit_xor, Nat.testBit_two_pow_mul, Nat.testBit_two_pow_mul, Nat.testBit_xor, Nat.testBit_two_pow, Nat.testBit_two_pow]
        by_cases hi : a ≤ i
        · have h3 : decide (a + k = i) = decide (k = i - a) := by
            apply decide_eq_decide.2
            omega
          simp [hi, h3]
        · have h3 : decide (a + k = i) = false := decide_eq_false (by omega)
          simp [hi, h3]
      rw [e]
      congr 1
      rw [Nat.xor_comm]
      have h2 := Nat.two_pow_add_eq_or_of_lt (i := k) (b := mask % 2 ^ k) hlt 1
      rw [Nat.mul_one] at h2
      rw [Nat.add_comm, h2]
      apply Nat.eq_of_testBit_eq
      intro i
      rw [Nat.testBit_xor, Nat.testBit_or, Nat.testBit_two_pow, Nat.testBit_mod_two_pow]
      by_cases hi : k = i
      · subst hi; simp
      · simp [hi]
    · have hb0 : mask / 2 ^ k % 2 = 0 := by omega
      rw [if_neg (fun h => hb h.2), h1, hm, hb0, Nat.mul_zero, Nat.add_zero]
theorem val_flip {bit mask : Nat} {s : List Nat} (hs : IsSec s) : ∀ k, bit + k ≤ 4096 → val (flip bit mask s k) = val s ^^^ turn bit 4096 mask k := by
  intro k
  induction k with
  | zero => intro _; simp [flip, turn]
  | succ k ih =>
    intro h
    have h1 := ih (by omega)
    have hf := flip_sec (bit := bit) (mask := mask) hs k
    unfold flip turn
    by_cases hb : mask / 2 ^ k % 2 = 1
    · rw [if_pos hb, if_pos ⟨by omega, hb⟩]
      have hi : (bit + k) / 8 < (flip bit mask s k).length := by rw [hf.1]; omega
      obtain ⟨y, hy⟩ : ∃ y, (flip bit mask s k)[(bit + k) / 8]? = some y := ⟨_, List.getElem?_eq_getElem hi⟩
      have hd : (flip bit mask s k).getD ((bit + k) / 8) 0 = y := by rw [List.getD_eq_getElem?_getD, hy]; rfl
      rw [hd, val_set _ _ _ y hy (hf.2 y (List.mem_of_getElem? hy)) (by omega) hf.2, h1, show 8 * ((bit + k) / 8) + (bit + k) % 8 = bit + k by omega, Nat.xor_assoc]
    · rw [if_neg hb, if_neg (fun h => hb h.2), h1]
theorem flip_none {bit : Nat} {s : List Nat} : ∀ k, flip bit 0 s k = s
  | 0 => rfl
  | k + 1 => by
    unfold flip
    rw [if_neg (by simp), flip_none k]
/-- The sector can't be read as a page, and isn't blank. -/
def Broken (s : List Nat) : Prop := IsSec s ∧ (¬ ∀ b ∈ s, b = 0) ∧ (val (s.drop 508) = crc (s.take 508) → ¬ Formed (s.take 508))
theorem turn_pos {a mask : Nat} (ha : a ≤ 4064) (hm : mask < 4294967296) (h0 : mask ≠ 0) : turn a 4096 mask 32 = 2 ^ a * mask ∧ 2 ^ a * mask ≠ 0 := by
  rw [turn_val a 4096 mask 32 (by omega), Nat.mod_eq_of_lt (by omega)]
  refine ⟨rfl, fun h => ?_⟩
  have := Nat.two_pow_pos a
  rcases Nat.mul_eq_zero.1 h with h1 | h1 <;> omega
theorem crown_broken {gen half ser a mask : Nat} (hh : half < 256) (ha : a ≤ 4064) (hm : mask < 4294967296) (h0 : mask ≠ 0) : Broken (flip a mask (crownSec gen half ser) 32) := by
  have hs := crownSec_sec (gen := gen) (ser := ser) hh
  have hf := flip_sec (bit := a) (mask := mask) hs 32
  have hv := val_flip (bit := a) (mask := mask) hs 32 (by omega)
  obtain ⟨ht, hne⟩ := turn_pos ha hm h0
  refine ⟨hf, shown_not_blank (kind := 9) (by decide) hv, fun hse => ?_⟩
  exfalso
  refine shown (crownSec gen half ser) (flip a mask (crownSec gen half ser) 32) 508 a mask hs.2 hf.2 hs.1 hf.1 ?_ hv ?_ hse
  · exact page_sealed (by simp)
  · intro e
    rw [e, ht] at hv
    have h1 := congrArg (val (crownSec gen half ser) ^^^ ·) hv
    simp only [Nat.xor_self, xor_cancel_left] at h1
    exact hne h1.symm
theorem noughts_broken {a mask : Nat} (ha : a ≤ 4064) (hm : mask < 4294967296) (h0 : mask ≠ 0) : Broken (flip a mask noughts 32) := by
  have hs : IsSec noughts := ⟨noughts_length, noughts_small⟩
  have hf := flip_sec (bit := a) (mask := mask) hs 32
  have hv := val_flip (bit := a) (mask := mask) hs 32 (by omega)
  obtain ⟨ht, hne⟩ := turn_pos ha hm h0
  have hz : val noughts = 0 := val_zero _ fun b hb => List.eq_of_mem_replicate hb
  rw [hz, Nat.zero_xor, ht] at hv
  refine ⟨hf, fun hall => hne (by rw [← hv]; exact val_zero _ hall), fun _ hfm => ?_⟩
  obtain ⟨f0, _, f14, _⟩ := hfm
  rw [List.getElem?_take_of_lt (by decide)] at f0 f14
  obtain ⟨y, hy⟩ : ∃ y, (flip a mask noughts 32)[14]? = some y := ⟨_, List.getElem?_eq_getElem (by rw [hf.1]; decide)⟩
  have hy0 : 0 < y := by
    rcases Nat.eq_zero_or_pos y with h | h
    · rw [hy, h] at f14; exact absurd rfl f14
    · exact h
  have h14 := val_ge _ 14 y hy
  rw [hv] at h14
  -- the lowest byte is 104: the burst begins in its first seven bits, and ends ahead of byte 14
  have h104 : ∃ v, val (flip a mask noughts 32) = 104 + 256 * v := by
    cases hl : flip a mask noughts 32 with
    | nil => rw [hl] at f0; simp at f0
    | cons b r =>
      rw [hl] at f0
      simp at f0
      subst f0
      exact ⟨val r, rfl⟩
  obtain ⟨v, hv4⟩ := h104
  rw [hv] at hv4
  have ha8 : a < 8 := by
    rcases Nat.lt_or_ge a 8 with h | h
    · exact h
    · exfalso
      have : 2 ^ a * mask = 256 * (2 ^ (a - 8) * mask) := by
        rw [show a = 8 + (a - 8) by omega, Nat.pow_add, show 8 + (a - 8) - 8 = a - 8 by omega, Nat.mul_assoc]
      generalize 2 ^ (a - 8) * mask = z at this
      omega
  have h2 : 2 ^ a * mask ≤ 128 * mask := Nat.mul_le_mul_right _ (by
    have : 2 ^ a ≤ 2 ^ 7 := Nat.pow_le_pow_right (by omega) (by omega)
    omega)
  have h3 : 256 ^ 14 * 1 ≤ 256 ^ 14 * y := Nat.mul_le_mul_left _ hy0
  have h4 : (128 : Nat) * 4294967296 < 256 ^ 14 := by decide
  omega
end Go.Proofs.Ytnojkifndcffjaa
