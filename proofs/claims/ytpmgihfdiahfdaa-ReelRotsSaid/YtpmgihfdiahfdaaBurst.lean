/- Plain facts: the register over a text is the number that the text is, stepped once a bit; so a text whose last four bytes are the sum of those before is none any more when some of 32 bits in a row are turned. -/
import Derived.Test.YtpmgihfdiahfdaaZ5
namespace Go.Proofs.Ytpmgihfdiahfdaa

theorem add_xor (b v : Nat) (hb : b < 256) : b + 256 * v = b ^^^ 256 * v := by
  have h := low_xor_high (b + 256 * v)
  have h1 : (b + 256 * v) % 256 = b := by omega
  have h2 : (b + 256 * v) / 256 = v := by omega
  rw [h1, h2] at h
  exact h.symm
theorem mul_xor (a b : Nat) : 256 * (a ^^^ b) = 256 * a ^^^ 256 * b := by
  have h := Nat.shiftLeft_xor_distrib (a := a) (b := b) (i := 8)
  simp only [Nat.shiftLeft_eq] at h
  rw [Nat.mul_comm 256, Nat.mul_comm 256 a, Nat.mul_comm 256 b]
  exact h
theorem zk_mul (v : Nat) : zk 8 (256 * v) = v := by
  rw [zk_shift 8 (256 * v) (by omega)]
  omega
theorem reg_zk (l : List Nat) : ∀ s, (∀ b ∈ l, b < 256) → reg s l = zk (8 * l.length) (s ^^^ val l) := by
  induction l with
  | nil => intro s _; simp [reg, val, zk]
  | cons b r ih =>
    intro s h
    have h1 : reg s (b :: r) = reg (stp s b) r := rfl
    rw [h1, ih _ (fun c hc => h c (by simp [hc])), val, add_xor b _ (h b (by simp)), List.length_cons, ← Nat.xor_assoc]
    have e : 8 * (r.length + 1) = 8 * r.length + 8 := by omega
    rw [e, zk_add, zk_xor 8, zk_mul]
    rfl

theorem z1_inj {s : Nat} (h : s < 4294967296) (h0 : z1 s = 0) : s = 0 := by
  unfold z1 at h0
  split at h0
  · have e : s / 2 = 3988292384 := by
      have := congrArg (· ^^^ 3988292384) h0
      simp only [xor_cancel, Nat.zero_xor] at this
      exact this
    omega
  · omega
theorem zk_inj (k : Nat) : ∀ {s : Nat}, s < 4294967296 → zk k s = 0 → s = 0 := by
  induction k with
  | zero => intro s _ h; exact h
  | succ k ih => intro s h h0; exact ih h (z1_inj (zk_lt k h) h0)
theorem xor_eq_zero {a b : Nat} (h : a ^^^ b = 0) : a = b := by
  have h1 := xor_cancel a b
  rw [h, Nat.zero_xor] at h1
  exact h1.symm
theorem zk_inj2 (k : Nat) {a b : Nat} (ha : a < 4294967296) (hb : b < 4294967296) (h : zk k a = zk k b) : a = b := by
  apply xor_eq_zero
  apply zk_inj k (Nat.xor_lt_two_pow (n := 32) (by omega) (by omega))
  rw [zk_xor, h, Nat.xor_self]

/-- That the last four bytes are the sum of those before, said of the whole number. -/
theorem sealed_iff (x : List Nat) (m : Nat) (hx : ∀ b ∈ x, b < 256) (hl : x.length = m + 4) :
    val (x.drop m) = crc (x.take m) ↔ zk (8 * x.length) (4294967295 ^^^ val x) = zk 32 4294967295 := by
  have hs : reg 4294967295 (x.take m) < 4294967296 := reg_lt _ (by omega) (fun b hb => hx b (List.mem_of_mem_take hb))
  have hd : (x.drop m).length = 4 := by rw [List.length_drop]; omega
  have hv : val (x.drop m) < 4294967296 := by
    have h := val_lt (x.drop m) (fun b hb => hx b (List.mem_of_mem_drop hb))
    rw [hd] at h
    exact h
  have h1 : zk (8 * x.length) (4294967295 ^^^ val x) = zk 32 (reg 4294967295 (x.take m) ^^^ val (x.drop m)) := by
    rw [← reg_zk x _ hx]
    have h2 : reg 4294967295 x = reg (reg 4294967295 (x.take m)) (x.drop m) := by rw [← reg_append, List.take_append_drop]
    rw [h2, reg_zk _ _ (fun b hb => hx b (List.mem_of_mem_drop hb)), hd]
  rw [h1]
  unfold crc
  generalize reg 4294967295 (x.take m) = s at hs ⊢
  generalize val (x.drop m) = v at hv ⊢
  constructor
  · intro h
    rw [h, ← xor_ones s hs, Nat.xor_comm 4294967295, xor_cancel_left]
  · intro h
    have h2 := zk_inj2 32 (Nat.xor_lt_two_pow (n := 32) (by omega) (by omega)) (by omega) h
    rw [← xor_ones s hs, ← h2, Nat.xor_comm s v, xor_cancel]

/-- Bits turned in a row of 32. -/
theorem burst (n a M : Nat) (hM : M < 4294967296) (h0 : M ≠ 0) (hb : 2 ^ a * M < 2 ^ n) : zk n (2 ^ a * M) ≠ 0 := by
  intro h
  have ha : a ≤ n := by
    rcases Nat.lt_or_ge n a with h1 | h1
    · have h2 : 2 ^ n ≤ 2 ^ a := Nat.pow_le_pow_right (by omega) (by omega)
      have h3 : 2 ^ a * 1 ≤ 2 ^ a * M := Nat.mul_le_mul_left _ (by omega)
      omega
    · exact h1
  have e : n = (n - a) + a := by omega
  rw [e, zk_add, zk_shift a _ (Nat.mul_mod_right _ _), Nat.mul_div_cancel_left _ (Nat.two_pow_pos a)] at h
  exact h0 (zk_inj _ hM h)

/-- The bits that are turned after so many rounds. -/
def turn (a N mask : Nat) : Nat → Nat
  | 0 => 0
  | k + 1 => if a + k < N ∧ mask / 2 ^ k % 2 = 1 then turn a N mask k ^^^ 2 ^ (a + k) else turn a N mask k
theorem turn_form (a N mask : Nat) : ∀ k, ∃ M, turn a N mask k = 2 ^ a * M ∧ M < 2 ^ k ∧ (M ≠ 0 → 2 ^ a * M < 2 ^ N) := by
  intro k
  induction k with
  | zero => exact ⟨0, by simp [turn], by simp, fun h => absurd rfl h⟩
  | succ k ih =>
    obtain ⟨M, hM, hk, hN⟩ := ih
    unfold turn
    have hp : 2 ^ (k + 1) = 2 ^ k * 2 := Nat.pow_succ 2 k
    by_cases h : a + k < N ∧ mask / 2 ^ k % 2 = 1
    · rw [if_pos h]
      have hx : M ^^^ 2 ^ k = 2 ^ k * 1 + M := by
        have h1 := Nat.two_pow_add_eq_or_of_lt hk 1
        rw [h1]
        apply Nat.eq_of_testBit_eq
        intro i
        rw [Nat.testBit_xor, Nat.testBit_or, Nat.mul_one, Nat.testBit_two_pow]
        by_cases hi : k = i
        · subst hi
          rw [Nat.testBit_lt_two_pow hk]
          simp
        · simp [hi]
      have hf : 2 ^ a * M ^^^ 2 ^ (a + k) = 2 ^ a * (M ^^^ 2 ^ k) := by
        have h1 := Nat.shiftLeft_xor_distrib (a := M) (b := 2 ^ k) (i := a)
        simp only [Nat.shiftLeft_eq] at h1
        rw [Nat.mul_comm _ (M ^^^ 2 ^ k), h1, Nat.pow_add, Nat.mul_comm M, Nat.mul_comm (2 ^ k)]
      have hl : M ^^^ 2 ^ k < 2 ^ (k + 1) := by rw [hx, hp]; omega
      refine ⟨M ^^^ 2 ^ k, by rw [hM, hf], hl, fun _ => ?_⟩
      have h2 : 2 ^ a * (M ^^^ 2 ^ k) < 2 ^ a * 2 ^ (k + 1) := Nat.mul_lt_mul_of_pos_left hl (Nat.two_pow_pos a)
      rw [← Nat.pow_add] at h2
      exact Nat.lt_of_lt_of_le h2 (Nat.pow_le_pow_right (by omega) (by omega))
    · rw [if_neg h]
      exact ⟨M, hM, by rw [hp]; omega, hN⟩
theorem val_set (x : List Nat) : ∀ (i j b : Nat), x[i]? = some b → b < 256 → j < 8 → (∀ c ∈ x, c < 256) → val (x.set i (b ^^^ 2 ^ j)) = val x ^^^ 2 ^ (8 * i + j) := by
  induction x with
  | nil => intro i j b h; simp at h
  | cons c r ih =>
    intro i j b h hb hj hx
    have hp : 2 ^ j < 256 := by
      have := Nat.pow_lt_pow_right (a := 2) (by omega) hj
      omega
    match i, h with
    | 0, h =>
      obtain rfl : c = b := by simpa using h
      have hl : c ^^^ 2 ^ j < 256 := Nat.xor_lt_two_pow (n := 8) (by omega) (by omega)
      rw [List.set_cons_zero, val, val, add_xor _ _ hl, add_xor _ _ hb]
      rw [Nat.mul_zero, Nat.zero_add, Nat.xor_assoc, Nat.xor_comm (2 ^ j), ← Nat.xor_assoc]
    | i + 1, h =>
      have h1 : r[i]? = some b := by simpa using h
      have hc := hx c (by simp)
      rw [List.set_cons_succ, val, val, ih i j b h1 hb hj (fun d hd => hx d (by simp [hd])), add_xor _ _ hc, add_xor _ _ hc, mul_xor, ← Nat.xor_assoc]
      congr 1
      rw [show (256 : Nat) = 2 ^ 8 from rfl, ← Nat.pow_add]
      congr 1
      omega
theorem val_inj (x : List Nat) : ∀ (y : List Nat), x.length = y.length → (∀ c ∈ x, c < 256) → (∀ c ∈ y, c < 256) → val x = val y → x = y := by
  induction x with
  | nil => intro y hl _ _ _; exact (List.eq_nil_of_length_eq_zero hl.symm).symm
  | cons c r ih =>
    intro y hl hx hy h
    match y, hl with
    | d :: s, hl =>
      have h1 := hx c (by simp)
      have h2 := hy d (by simp)
      rw [val, val] at h
      have e1 : c = d := by omega
      have e2 : val r = val s := by omega
      rw [e1, ih s (by simpa using hl) (fun b hb => hx b (by simp [hb])) (fun b hb => hy b (by simp [hb])) e2]
/-- WHAT HAS ROTTED IS SHOWN: of a sealed text in which bits of a row of 32 are turned. -/
theorem shown (x f : List Nat) (m a mask : Nat) (hx : ∀ b ∈ x, b < 256) (hf : ∀ b ∈ f, b < 256) (hl : x.length = m + 4) (hlf : f.length = m + 4) (hsealed : val (x.drop m) = crc (x.take m))
    (hv : val f = val x ^^^ turn a (8 * (m + 4)) mask 32) (hne : f ≠ x) : ¬ val (f.drop m) = crc (f.take m) := by
  intro hbad
  have h1 := (sealed_iff x m hx hl).1 hsealed
  have h2 := (sealed_iff f m hf hlf).1 hbad
  obtain ⟨M, hM, hM32, hMN⟩ := turn_form a (8 * (m + 4)) mask 32
  rw [hM] at hv
  rw [hlf, hv, ← Nat.xor_assoc, zk_xor] at h2
  rw [hl] at h1
  rw [h1] at h2
  have h3 : zk (8 * (m + 4)) (2 ^ a * M) = 0 := by
    have h4 := congrArg (zk 32 4294967295 ^^^ ·) h2
    simp only [xor_cancel_left, Nat.xor_self] at h4
    exact h4
  by_cases h0 : M = 0
  · rw [h0, Nat.mul_zero, Nat.xor_zero] at hv
    exact hne (val_inj f x (by rw [hlf, hl]) hf hx hv)
  · exact burst _ a M hM32 h0 (hMN h0) h3
theorem val_turn (x : List Nat) : ∀ (i t b : Nat), x[i]? = some b → b < 256 → t < 256 → (∀ c ∈ x, c < 256) → val (x.set i (b ^^^ t)) = val x ^^^ 2 ^ (8 * i) * t := by
  induction x with
  | nil => intro i t b h; simp at h
  | cons c r ih =>
    intro i t b h hb ht hx
    match i, h with
    | 0, h =>
      obtain rfl : c = b := by simpa using h
      have hl : c ^^^ t < 256 := Nat.xor_lt_two_pow (n := 8) (by omega) (by omega)
      rw [List.set_cons_zero, val, val, add_xor _ _ hl, add_xor _ _ hb, Nat.mul_zero, Nat.pow_zero, Nat.one_mul, Nat.xor_assoc, Nat.xor_comm t, ← Nat.xor_assoc]
    | i + 1, h =>
      have h1 : r[i]? = some b := by simpa using h
      have hc := hx c (by simp)
      rw [List.set_cons_succ, val, val, ih i t b h1 hb ht (fun d hd => hx d (by simp [hd])), add_xor _ _ hc, add_xor _ _ hc, mul_xor, ← Nat.xor_assoc]
      congr 1
      rw [← Nat.mul_assoc]
      congr 1
      rw [show (256 : Nat) = 2 ^ 8 from rfl, ← Nat.pow_add]
      congr 1
      omega
/-- Texts that differ in one byte have unlike sums. -/
theorem crc_turn (x : List Nat) (i t b : Nat) (hi : x[i]? = some b) (hb : b < 256) (ht : t < 256) (hx : ∀ c ∈ x, c < 256) (h0 : t ≠ 0) : crc x ≠ crc (x.set i (b ^^^ t)) := by
  have hil : i < x.length := by
    rcases Nat.lt_or_ge i x.length with h | h
    · exact h
    · rw [List.getElem?_eq_none h] at hi; cases hi
  have hlt : b ^^^ t < 256 := Nat.xor_lt_two_pow (n := 8) (by omega) (by omega)
  have hy : ∀ c ∈ x.set i (b ^^^ t), c < 256 := fun c hc => by
    rcases List.mem_or_eq_of_mem_set hc with h | h
    · exact hx c h
    · rw [h]; exact hlt
  intro h
  unfold crc at h
  have h1 := reg_lt x (s := 4294967295) (by omega) hx
  have h2 := reg_lt (x.set i (b ^^^ t)) (s := 4294967295) (by omega) hy
  have h3 : reg 4294967295 x = reg 4294967295 (x.set i (b ^^^ t)) := by omega
  rw [reg_zk _ _ hx, reg_zk _ _ hy, List.length_set, val_turn x i t b hi hb ht hx, ← Nat.xor_assoc, zk_xor _ (4294967295 ^^^ val x)] at h3
  have h4 : zk (8 * x.length) (2 ^ (8 * i) * t) = 0 := by
    have h5 := congrArg (zk (8 * x.length) (4294967295 ^^^ val x) ^^^ ·) h3
    simp only [xor_cancel_left, Nat.xor_self] at h5
    exact h5.symm
  refine burst (8 * x.length) (8 * i) t (by omega) h0 ?_ h4
  have h6 : 2 ^ (8 * i) * t < 2 ^ (8 * i) * 2 ^ 8 := Nat.mul_lt_mul_of_pos_left (by omega) (Nat.two_pow_pos _)
  rw [← Nat.pow_add] at h6
  exact Nat.lt_of_lt_of_le h6 (Nat.pow_le_pow_right (by omega) (by omega))
theorem set_same (x : List Nat) (i b : Nat) (hi : x[i]? = some b) : x.set i (b ^^^ 0) = x := by
  rw [Nat.xor_zero]
  apply List.ext_getElem?
  intro j
  rw [List.getElem?_set]
  by_cases h : i = j
  · subst h
    rw [if_pos rfl, hi]
    have hil : i < x.length := by
      rcases Nat.lt_or_ge i x.length with h | h
      · exact h
      · rw [List.getElem?_eq_none h] at hi; cases hi
    rw [if_pos hil]
  · rw [if_neg h]
end Go.Proofs.Ytpmgihfdiahfdaa
