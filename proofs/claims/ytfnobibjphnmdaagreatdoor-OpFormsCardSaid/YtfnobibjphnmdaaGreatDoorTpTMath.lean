/- Plain facts on numbers as sevens of bits: a number's bytes, the number with which bytes begin, and that each undoes the other. -/
namespace Go.Proofs.YtfnobibjphnmdaaGreatDoor

/-- A number's bytes: sevens of bits, the lowest first. -/
def num (n : Nat) : List Nat := if n < 128 then [n] else (n % 128 + 128) :: num (n / 128)
termination_by n
decreasing_by omega
theorem num_lt {n : Nat} (h : n < 128) : num n = [n] := by rw [num, if_pos h]
theorem num_ge {n : Nat} (h : ¬ n < 128) : num n = (n % 128 + 128) :: num (n / 128) := by rw [num, if_neg h]
theorem num_small (n : Nat) : ∀ b ∈ num n, b < 256 := by
  induction n using Nat.strongRecOn with
  | _ n ih =>
    by_cases h : n < 128
    · rw [num_lt h]
      intro b hb
      simp at hb
      omega
    · rw [num_ge h]
      intro b hb
      rcases List.mem_cons.1 hb with rfl | hb
      · omega
      · exact ih (n / 128) (by omega) b hb
theorem num_pos (n : Nat) : 1 ≤ (num n).length := by
  rw [num]
  split <;> simp
theorem num_length_le : ∀ (k n : Nat), n < 128 ^ (k + 1) → (num n).length ≤ k + 1 := by
  intro k
  induction k with
  | zero => intro n h; rw [num_lt (by simpa using h)]; simp
  | succ k ih =>
    intro n h
    by_cases hn : n < 128
    · rw [num_lt hn]; simp
    · rw [num_ge hn]
      have := ih (n / 128) (by rw [Nat.div_lt_iff_lt_mul (by omega)]; rw [Nat.pow_succ] at h; exact h)
      simp
      omega
theorem num_length64 {n : Nat} (h : n < 18446744073709551616) : (num n).length ≤ 10 := num_length_le 9 n (by omega)
theorem num_mono : ∀ (n m : Nat), n ≤ m → (num n).length ≤ (num m).length := by
  intro n
  induction n using Nat.strongRecOn with
  | _ n ih =>
    intro m h
    by_cases hn : n < 128
    · rw [num_lt hn]; exact num_pos m
    · rw [num_ge hn, num_ge (n := m) (by omega)]
      have := ih (n / 128) (by omega) (m / 128) (by omega)
      simp
      omega
/-- What is told of bytes at place i, where n has come before: the number with which they begin, and how many bytes it has; (0, 0): there is none. -/
def tp_scan : List Nat → Nat → Nat → Nat × Nat
  | [], _, _ => (0, 0)
  | b :: r, i, n => if i = 9 ∧ 1 < b then (0, 0) else if 128 ≤ b then tp_scan r (i + 1) (n + b % 128 * 128 ^ i) else if b = 0 ∧ 0 < i then (0, 0) else (n + b % 128 * 128 ^ i, i + 1)
def numOf (l : List Nat) : Nat × Nat := tp_scan l 0 0
theorem pow_pos128 (i : Nat) : 1 ≤ 128 ^ i := Nat.one_le_pow _ _ (by omega)
theorem tp_scan_num : ∀ (m i n : Nat) (r : List Nat), (0 < i → 0 < m) → m * 128 ^ i < 18446744073709551616 → i ≤ 9 → tp_scan (num m ++ r) i n = (n + m * 128 ^ i, i + (num m).length) := by
  intro m
  induction m using Nat.strongRecOn with
  | _ m ih =>
    intro i n r hi hm h9
    have hp := pow_pos128 i
    by_cases h : m < 128
    · rw [num_lt h]
      show tp_scan (m :: r) i n = _
      have h1 : ¬ (i = 9 ∧ 1 < m) := by
        rintro ⟨rfl, h1⟩
        have h2 : 2 * 128 ^ 9 ≤ m * 128 ^ 9 := Nat.mul_le_mul_right _ h1
        omega
      have h2 : ¬ (m = 0 ∧ 0 < i) := fun ⟨a, b⟩ => by have := hi b; omega
      rw [tp_scan, if_neg h1, if_neg (by omega), if_neg h2, Nat.mod_eq_of_lt h]
      simp
    · rw [num_ge h]
      show tp_scan ((m % 128 + 128) :: (num (m / 128) ++ r)) i n = _
      have hi9 : i < 9 := by
        rcases Nat.lt_or_ge i 9 with h1 | h1
        · exact h1
        · obtain rfl : i = 9 := by omega
          have h2 : 128 * 128 ^ 9 ≤ m * 128 ^ 9 := Nat.mul_le_mul_right _ (by omega)
          omega
      have hs : (m / 128) * 128 ^ (i + 1) + m % 128 * 128 ^ i = m * 128 ^ i := by
        rw [Nat.pow_succ, Nat.mul_comm (128 ^ i) 128, ← Nat.mul_assoc, ← Nat.add_mul]
        congr 1
        omega
      rw [tp_scan, if_neg (by omega), if_pos (by omega), ih (m / 128) (by omega) (i + 1) _ r (fun _ => by omega) (by omega) (by omega)]
      rw [show (m % 128 + 128) % 128 = m % 128 by omega]
      refine Prod.ext ?_ ?_
      · show n + m % 128 * 128 ^ i + m / 128 * 128 ^ (i + 1) = n + m * 128 ^ i
        omega
      · simp
        omega
theorem numOf_num {m : Nat} (h : m < 18446744073709551616) (r : List Nat) : numOf (num m ++ r) = (m, (num m).length) := by
  have := tp_scan_num m 0 0 r (by omega) (by simpa using h) (by omega)
  simpa [numOf] using this
theorem pow_part {i : Nat} (h : i ≤ 9) : 128 ^ i * 128 ^ (9 - i) = 9223372036854775808 := by
  rw [← Nat.pow_add, show i + (9 - i) = 9 by omega]
theorem pow_fits {m i x : Nat} (h : i < 9) (hm : m * 128 ^ (i + 1) < 18446744073709551616) (hx : x < 128) : x * 128 ^ i + m * 128 ^ (i + 1) < 18446744073709551616 := by
  have hp := pow_part (i := i + 1) (by omega)
  have hi := pow_pos128 i
  have hx2 : x * 128 ^ i < 128 ^ (i + 1) := by
    rw [Nat.pow_succ, Nat.mul_comm]
    exact Nat.mul_lt_mul_of_pos_left hx (by omega)
  have hq : m < 2 * 128 ^ (9 - (i + 1)) := by
    rcases Nat.lt_or_ge m (2 * 128 ^ (9 - (i + 1))) with h1 | h1
    · exact h1
    · have h2 : 2 * 128 ^ (9 - (i + 1)) * 128 ^ (i + 1) ≤ m * 128 ^ (i + 1) := Nat.mul_le_mul_right _ h1
      rw [Nat.mul_assoc, Nat.mul_comm (128 ^ (9 - (i + 1)))] at h2
      omega
  have h3 : (m + 1) * 128 ^ (i + 1) ≤ 2 * 128 ^ (9 - (i + 1)) * 128 ^ (i + 1) := Nat.mul_le_mul_right _ hq
  rw [Nat.mul_assoc, Nat.mul_comm (128 ^ (9 - (i + 1))), hp, Nat.add_mul] at h3
  omega
theorem scan_back : ∀ (l : List Nat) (i n a k : Nat), (∀ b ∈ l, b < 256) → i ≤ 9 → tp_scan l i n = (a, k) → k ≠ 0 → ∃ m, a = n + m * 128 ^ i ∧ k = i + (num m).length ∧ l.take (num m).length = num m ∧ (0 < i → 0 < m) ∧ m * 128 ^ i < 18446744073709551616 := by
  intro l
  induction l with
  | nil => intro i n a k _ _ h hk; simp [tp_scan] at h; omega
  | cons b r ih =>
    intro i n a k hsm h9 h hk
    have hb := hsm b (by simp)
    rw [tp_scan] at h
    split at h
    · simp at h; omega
    · rename_i h1
      split at h
      · rename_i h2
        have hi9 : i < 9 := by
          rcases Nat.lt_or_ge i 9 with h3 | h3
          · exact h3
          · exact absurd ⟨by omega, by omega⟩ h1
        obtain ⟨m, ha, hk2, ht, hm, hs⟩ := ih (i + 1) _ a k (fun c hc => hsm c (by simp [hc])) (by omega) h hk
        have hm := hm (by omega)
        have e1 : (b % 128 + 128 * m) / 128 = m := by omega
        have e2 : (b % 128 + 128 * m) % 128 + 128 = b := by omega
        have hs2 : (b % 128 + 128 * m) * 128 ^ i = b % 128 * 128 ^ i + m * 128 ^ (i + 1) := by
          rw [Nat.add_mul, Nat.pow_succ, Nat.mul_comm 128 m, Nat.mul_assoc, Nat.mul_comm 128]
        have hf := pow_fits (x := b % 128) hi9 hs (Nat.mod_lt _ (by omega))
        refine ⟨b % 128 + 128 * m, by rw [hs2]; omega, ?_, ?_, fun _ => by omega, by rw [hs2]; exact hf⟩
        · rw [num_ge (by omega), e1]
          simp
          omega
        · rw [num_ge (by omega), e1, e2]
          simp [ht]
      · split at h
        · simp at h; omega
        · rename_i h2 h3
          injection h with h4 h5
          refine ⟨b, ?_, ?_, ?_, ?_, ?_⟩
          · rw [← h4, Nat.mod_eq_of_lt (by omega)]
          · rw [num_lt (by omega), ← h5]; rfl
          · rw [num_lt (by omega)]; simp
          · intro hi; omega
          · rcases Nat.lt_or_ge i 9 with h6 | h6
            · have := pow_fits (m := 0) (x := b) h6 (by simp) (by omega)
              simpa using this
            · obtain rfl : i = 9 := by omega
              have hb1 : b ≤ 1 := by omega
              have := Nat.mul_le_mul_right (128 ^ 9) hb1
              omega
theorem numOf_back {l : List Nat} {a k : Nat} (hs : ∀ b ∈ l, b < 256) (h : numOf l = (a, k)) (hk : k ≠ 0) : a < 18446744073709551616 ∧ k = (num a).length ∧ l.take k = num a := by
  obtain ⟨m, h1, h2, h3, _, h5⟩ := scan_back l 0 0 a k hs (by omega) h hk
  simp at h1 h2 h5
  subst h1
  exact ⟨h5, h2, by rw [h2]; exact h3⟩
theorem numOf_le {l : List Nat} {a k : Nat} (hs : ∀ b ∈ l, b < 256) (h : numOf l = (a, k)) : a < 18446744073709551616 ∧ k ≤ l.length ∧ k ≤ 10 := by
  by_cases hk : k = 0
  · subst hk
    have hz : ∀ (l : List Nat) (i n a : Nat), tp_scan l i n = (a, 0) → a = 0 := by
      intro l
      induction l with
      | nil => intro i n a h; simp [tp_scan] at h; omega
      | cons b r ih =>
        intro i n a h
        rw [tp_scan] at h
        split at h
        · simp at h; omega
        · split at h
          · exact ih _ _ _ h
          · split at h
            · simp at h; omega
            · simp at h
    have := hz l 0 0 a h
    omega
  · obtain ⟨h1, h2, h3⟩ := numOf_back hs h hk
    have h4 := congrArg List.length h3
    rw [List.length_take, ← h2] at h4
    exact ⟨h1, by omega, by rw [h2]; exact num_length64 h1⟩
/-- Small numbers of ints near nought. -/
def zig (n : Int) : Nat := if n < 0 then (-2 * n - 1).toNat else (2 * n).toNat
def zag (n : Nat) : Int := if n % 2 = 1 then -((n / 2 : Nat) : Int) - 1 else ((n / 2 : Nat) : Int)
theorem zag_zig (n : Int) : zag (zig n) = n := by
  unfold zag zig
  split <;> split <;> omega
theorem zig_zag (n : Nat) : zig (zag n) = n := by
  unfold zag zig
  split <;> split <;> omega
theorem zig_lt {n : Int} (h1 : -9223372036854775808 ≤ n) (h2 : n < 9223372036854775808) : zig n < 18446744073709551616 := by
  unfold zig
  split <;> omega
theorem zag_bd {n : Nat} (h : n < 18446744073709551616) : -9223372036854775808 ≤ zag n ∧ zag n < 9223372036854775808 := by
  unfold zag
  split <;> omega
theorem xor_ones64 (s : Nat) (h : s < 18446744073709551616) : 18446744073709551615 ^^^ s = 18446744073709551615 - s := by
  apply Nat.eq_of_testBit_eq
  intro i
  have e1 : 18446744073709551615 = 2 ^ 64 - 1 := rfl
  have e2 : 18446744073709551615 - s = 2 ^ 64 - (s + 1) := by omega
  rw [Nat.testBit_xor, e2, Nat.testBit_two_pow_sub_succ (by omega : s < 2 ^ 64), e1, Nat.testBit_two_pow_sub_one]
  by_cases hi : i < 64
  · simp [hi]
  · have hs : s.testBit i = false := Nat.testBit_lt_two_pow (Nat.lt_of_lt_of_le (by omega : s < 2 ^ 64) (Nat.pow_le_pow_right (by omega) (by omega)))
    simp [hi, hs]
end Go.Proofs.YtfnobibjphnmdaaGreatDoor
