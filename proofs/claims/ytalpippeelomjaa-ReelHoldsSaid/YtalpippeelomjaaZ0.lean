/- Math: joined by program (tools/merge.py). -/

namespace Go.Proofs.Ytalpippeelomjaa

/-- One step of the register on a bit that has been mixed in already. -/
def z1 (s : Nat) : Nat := if s % 2 = 1 then s / 2 ^^^ 3988292384 else s / 2
/-- So many steps. -/
def zk : Nat → Nat → Nat
  | 0, s => s
  | k + 1, s => z1 (zk k s)
/-- One byte more. -/
def stp (s b : Nat) : Nat := zk 8 (s ^^^ b)
/-- A text more. -/
def reg (s : Nat) (l : List Nat) : Nat := l.foldl stp s
/-- The sum of a text. -/
def crc (l : List Nat) : Nat := 4294967295 - reg 4294967295 l

theorem stp_zero (b : Nat) : stp 0 b = zk 8 b := by rw [stp, Nat.zero_xor]

theorem z1_lt {s : Nat} (h : s < 4294967296) : z1 s < 4294967296 := by
  unfold z1
  split
  · exact Nat.xor_lt_two_pow (n := 32) (by omega) (by omega)
  · omega
theorem zk_lt (k : Nat) {s : Nat} (h : s < 4294967296) : zk k s < 4294967296 := by
  induction k with
  | zero => exact h
  | succ k ih => exact z1_lt ih
theorem stp_lt {s b : Nat} (h : s < 4294967296) (hb : b < 256) : stp s b < 4294967296 :=
  zk_lt 8 (Nat.xor_lt_two_pow (n := 32) (by omega) (by omega))
theorem reg_lt (l : List Nat) : ∀ {s : Nat}, s < 4294967296 → (∀ b ∈ l, b < 256) → reg s l < 4294967296 := by
  induction l with
  | nil => intro s h _; exact h
  | cons b l ih => intro s h hb; exact ih (stp_lt h (hb b (by simp))) (fun c hc => hb c (by simp [hc]))
theorem reg_append (s : Nat) (l m : List Nat) : reg s (l ++ m) = reg (reg s l) m := by simp [reg]
theorem reg_snoc (s : Nat) (l : List Nat) (b : Nat) : reg s (l ++ [b]) = stp (reg s l) b := by simp [reg]

theorem xor_mod2 (a b : Nat) : (a ^^^ b) % 2 = (a + b) % 2 := by
  have h := @Nat.xor_mod_two_pow a b 1
  rw [Nat.pow_one] at h
  rw [h]
  rcases Nat.mod_two_eq_zero_or_one a with ha | ha <;> rcases Nat.mod_two_eq_zero_or_one b with hb | hb <;> rw [ha, hb] <;> simp <;> omega
theorem xor_div2 (a b : Nat) : (a ^^^ b) / 2 = a / 2 ^^^ b / 2 := by
  have := @Nat.xor_div_two_pow a b 1
  simpa using this
theorem xor4 (a b c d : Nat) : (a ^^^ b) ^^^ (c ^^^ d) = (a ^^^ c) ^^^ (b ^^^ d) := by
  rw [Nat.xor_assoc, ← Nat.xor_assoc b c d, Nat.xor_comm b c, Nat.xor_assoc c b d, ← Nat.xor_assoc]
theorem xor_cancel (a b : Nat) : (a ^^^ b) ^^^ b = a := by rw [Nat.xor_assoc, Nat.xor_self, Nat.xor_zero]
theorem xor_cancel_left (a b : Nat) : a ^^^ (a ^^^ b) = b := by rw [← Nat.xor_assoc, Nat.xor_self, Nat.zero_xor]

theorem z1_xor (a b : Nat) : z1 (a ^^^ b) = z1 a ^^^ z1 b := by
  unfold z1
  rw [xor_mod2, xor_div2]
  rcases Nat.mod_two_eq_zero_or_one a with ha | ha <;> rcases Nat.mod_two_eq_zero_or_one b with hb | hb
  · rw [if_neg (by omega), if_neg (by omega), if_neg (by omega)]
  · rw [if_pos (by omega), if_neg (by omega), if_pos (by omega), Nat.xor_assoc]
  · rw [if_pos (by omega), if_pos (by omega), if_neg (by omega), Nat.xor_assoc, Nat.xor_assoc, Nat.xor_comm (b / 2)]
  · rw [if_neg (by omega), if_pos (by omega), if_pos (by omega), xor4, Nat.xor_self, Nat.xor_zero]
theorem zk_xor (k a b : Nat) : zk k (a ^^^ b) = zk k a ^^^ zk k b := by
  induction k with
  | zero => rfl
  | succ k ih => rw [zk, zk, zk, ih, z1_xor]
theorem zk_zero (k : Nat) : zk k 0 = 0 := by
  induction k with
  | zero => rfl
  | succ k ih => rw [zk, ih]; rfl
theorem zk_add (j k s : Nat) : zk (j + k) s = zk j (zk k s) := by
  induction j with
  | zero => rw [Nat.zero_add]; rfl
  | succ j ih => rw [Nat.succ_add, zk, ih, zk]
/-- What bears noughts alone in its lowest places is shifted. -/
theorem zk_shift (k : Nat) : ∀ s, s % 2 ^ k = 0 → zk k s = s / 2 ^ k := by
  induction k with
  | zero => intro s _; simp [zk]
  | succ k ih =>
    intro s h
    have hp : 2 ^ (k + 1) = 2 ^ k * 2 := Nat.pow_succ 2 k
    have hd : 2 ^ (k + 1) ∣ s := Nat.dvd_of_mod_eq_zero h
    obtain ⟨q, rfl⟩ := hd
    have h1 : 2 ^ (k + 1) * q = 2 ^ k * (2 * q) := by rw [hp, Nat.mul_assoc]
    rw [zk, ih _ (by rw [h1]; exact Nat.mul_mod_right _ _), h1, Nat.mul_div_cancel_left _ (Nat.two_pow_pos k), ← h1, Nat.mul_div_cancel_left _ (Nat.two_pow_pos (k + 1))]
    unfold z1
    rw [if_neg (by omega)]
    omega
theorem low_xor_high (s : Nat) : (s % 256) ^^^ (256 * (s / 256)) = s := by
  have h := Nat.two_pow_add_eq_or_of_lt (i := 8) (b := s % 256) (by omega) (s / 256)
  have h2 : (s % 256) ^^^ (256 * (s / 256)) = 256 * (s / 256) ||| s % 256 := by
    apply Nat.eq_of_testBit_eq
    intro i
    have e : 256 = 2 ^ 8 := rfl
    rw [Nat.testBit_xor, Nat.testBit_or, e, Nat.testBit_mod_two_pow, Nat.testBit_two_pow_mul]
    by_cases hi : i < 8
    · have h8 : ¬ 8 ≤ i := by omega
      simp [hi, h8]
    · simp [hi]
  rw [h2]
  have e : (2 : Nat) ^ 8 = 256 := rfl
  rw [e] at h
  rw [← h]
  omega
/-- One byte more, by the table. -/
theorem stp_table (s b : Nat) : zk 8 ((s % 256) ^^^ b) ^^^ s / 256 = stp s b := by
  have h : s ^^^ b = ((s % 256) ^^^ b) ^^^ (256 * (s / 256)) := by
    rw [Nat.xor_assoc, Nat.xor_comm b, ← Nat.xor_assoc, low_xor_high]
  rw [stp, h, zk_xor 8 _ (256 * (s / 256)), zk_shift 8 (256 * (s / 256)) (by omega)]
  rw [show (2 : Nat) ^ 8 = 256 from rfl, Nat.mul_div_cancel_left _ (by omega : 0 < 256)]
/-- One byte more, a bit at a time, each bit of the byte mixed in as it comes. -/
def mix (s b i : Nat) : Nat := zk i (s ^^^ b) ^^^ b / 2 ^ i
theorem mix_zero (s b : Nat) : mix s b 0 = s := by
  show (s ^^^ b) ^^^ b / 1 = s
  rw [Nat.div_one, xor_cancel]
theorem mix_eight (s b : Nat) (hb : b < 256) : mix s b 8 = stp s b := by
  unfold mix stp
  rw [Nat.div_eq_of_lt (by omega), Nat.xor_zero]
theorem mix_lt {s b : Nat} (i : Nat) (hs : s < 4294967296) (hb : b < 256) : mix s b i < 4294967296 :=
  Nat.xor_lt_two_pow (n := 32) (zk_lt i (Nat.xor_lt_two_pow (n := 32) (by omega) (by omega))) (by have := Nat.div_le_self b (2 ^ i); omega)
theorem mix_bit (s b i : Nat) : (mix s b i % 2 + b / 2 ^ i) % 2 = zk i (s ^^^ b) % 2 := by
  unfold mix
  rw [xor_mod2]
  omega
theorem mix_one (s b i : Nat) (h : (mix s b i % 2 + b / 2 ^ i) % 2 = 1) : mix s b (i + 1) = mix s b i / 2 ^^^ 3988292384 := by
  rw [mix_bit] at h
  unfold mix
  rw [zk, z1, if_pos h, xor_div2, Nat.pow_succ, ← Nat.div_div_eq_div_mul, Nat.xor_assoc, Nat.xor_assoc, Nat.xor_comm (b / 2 ^ i / 2)]
theorem mix_nought (s b i : Nat) (h : (mix s b i % 2 + b / 2 ^ i) % 2 ≠ 1) : mix s b (i + 1) = mix s b i / 2 := by
  rw [mix_bit] at h
  unfold mix
  rw [zk, z1, if_neg h, xor_div2, Nat.pow_succ, ← Nat.div_div_eq_div_mul]
theorem xor_ones (s : Nat) (h : s < 4294967296) : 4294967295 ^^^ s = 4294967295 - s := by
  apply Nat.eq_of_testBit_eq
  intro i
  have e1 : 4294967295 = 2 ^ 32 - 1 := rfl
  have e2 : 4294967295 - s = 2 ^ 32 - (s + 1) := by omega
  rw [Nat.testBit_xor, e2, Nat.testBit_two_pow_sub_succ (by omega : s < 2 ^ 32), e1, Nat.testBit_two_pow_sub_one]
  by_cases hi : i < 32
  · simp [hi]
  · have hs : s.testBit i = false := Nat.testBit_lt_two_pow (Nat.lt_of_lt_of_le (by omega : s < 2 ^ 32) (Nat.pow_le_pow_right (by omega) (by omega)))
    simp [hi, hs]
end Go.Proofs.Ytalpippeelomjaa
