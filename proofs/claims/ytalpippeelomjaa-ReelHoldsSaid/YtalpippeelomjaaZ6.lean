/- RefSeal, TpTMath: joined by program (tools/merge.py). -/
import Derived.Test.YtalpippeelomjaaZ5
namespace Go.Proofs.Ytalpippeelomjaa
open Go.RowKit

theorem low_any (w : World) (s : Nat) (h : s < 4294967296) :
    Calls Try.prog 82 #[.int .u32 (s : Int)] w fun e w' => e = .returned (.slice (some ⟨w.heap.size, 0, none⟩) 4 4) ∧ w' = w.alloc (.cells (byt (le4 s)).toArray 5) := by
  go_enter Try.func82, Try.ntmps82
  go_wp2
  go_ret
  refine ⟨rfl, ?_⟩
  have e : (s : Int) / 16777216 = (s : Int) / 16777216 % 256 := by omega
  rw [e]
  simp [byt, le4]
/-- Two slices behind one another, joined. -/
theorem parts_two {y : World} {v u : Value} {l1 l2 : List Nat} {B gx : Nat} (hy : y.heap[gx]? = some (.cells #[v, u] 43 (0, 0))) (h : Bytes y B v l1) (h2 : Bytes y B u l2) (hB : B ≤ y.heap.size) :
    Parts y y.heap.size (.slice (some ⟨gx, 0, none⟩) 2 2) [l1, l2] := by
  refine parts_block hy ?_ rfl rfl ?_ (by unfold maxLen; simp)
  · rcases Nat.lt_or_ge gx y.heap.size with h1 | h1
    · exact h1
    · rw [Array.getElem?_eq_none h1] at hy; cases hy
  intro j u l h1 h3
  match j, h1, h3 with
  | 0, h1, h3 =>
    simp at h1 h3
    subst h1 h3
    exact h.up hB
  | 1, h1, h3 =>
    simp at h1 h3
    subst h1 h3
    exact h2.up hB
  | j + 2, h1, h3 => simp at h1
theorem unhide {p : Prop} (h : Hid p) : p := h
theorem hide {p : Prop} (h : p) : Hid p := h
theorem Mine.lower {w : World} {base base' n c : Nat} {A : Option Addr} {l : List Nat} (h : Mine w base A n c l) (hb : base' ≤ base) : Mine w base' A n c l := by
  have h1 := h.own
  have hl := h.len
  subst hl
  exact ⟨own_lower (l := l) h1 hb, rfl, h.small⟩
theorem seal_small {l : List Nat} (h : ∀ b ∈ l, b < 256) : ∀ b ∈ l ++ le4 (crc l), b < 256 := fun b hb => by
  rcases List.mem_append.1 hb with h1 | h1
  · exact h b h1
  · exact le4_small _ b h1
theorem le4_length (s : Nat) : (le4 s).length = 4 := rfl
/-- What low leaves, read as bytes. -/
theorem low_bytes (w : World) (s : Nat) : Bytes (w.alloc (.cells (byt (le4 s)).toArray 5)) (w.heap.size + 1) (.slice (some ⟨w.heap.size, 0, none⟩) 4 4) (le4 s) :=
  bytes_block (Go.heap_alloc_new w _) (by omega) rfl (by omega) (le4_small s) (by rw [le4_length]; unfold maxLen; omega)

set_option maxRecDepth 100000 in
set_option maxHeartbeats 1000000 in
theorem refSeal_any (w : World) (A : Option Addr) (n c : Nat) (l : List Nat) (hp : Bytes w w.heap.size (.slice A n c) l) (hlong : l.length ≤ 1048000) :
    Calls Try.prog 59 #[.slice A n c] w fun e w' => ∃ A2 n2 c2, e = .returned (.slice A2 n2 c2) ∧ Mine w' w.heap.size A2 n2 c2 (l ++ le4 (crc l)) ∧ Below w.heap.size w w' := by
  have hcr := crc_lt l
  have HP := Lib.hid hp
  clear hp
  obtain ⟨L, hL⟩ : ∃ L, L = w.alloc (.cells (byt (le4 (crc l))).toArray 5) := ⟨_, rfl⟩
  have hLs : L.heap.size = w.heap.size + 1 := by rw [hL]; simp
  have hbL : Below w.heap.size w L := by rw [hL]; exact (Below.refl _ _).alloc (Nat.le_refl _) _
  have hLB : Bytes L (w.heap.size + 1) (.slice (some ⟨w.heap.size, 0, none⟩) 4 4) (le4 (crc l)) := by rw [hL]; exact low_bytes w (crc l)
  have h1 := (Below.refl (w.heap.size + 1) L).alloc (by omega) (.cells #[.slice A n c, .slice (some ⟨w.heap.size, 0, none⟩) 4 4] 43)
  have hPP : Parts (L.alloc (.cells #[.slice A n c, .slice (some ⟨w.heap.size, 0, none⟩) 4 4] 43)) (L.alloc (.cells #[.slice A n c, .slice (some ⟨w.heap.size, 0, none⟩) 4 4] 43)).heap.size (.slice (some ⟨L.heap.size, 0, none⟩) 2 2) [l, le4 (crc l)] :=
    parts_two (B := w.heap.size + 1) (Go.heap_alloc_new L _) (((HP.out.below hbL).up (by omega)).below h1) (hLB.below h1) (by simp; omega)
  have e : [l, le4 (crc l)].flatten = l ++ le4 (crc l) := by simp
  have hJ := join_mine _ _ _ hPP (by rw [e]; exact seal_small HP.out.small) (by rw [e, List.length_append, le4_length]; omega)
  rw [e] at hJ
  have HJ := hide hJ
  have HbL := Lib.hid hbL
  have HLs := Lib.hid (Nat.le_of_eq hLs.symm)
  have HL := Lib.hid hL
  clear hLs hbL hLB h1 hPP e hJ hL
  go_enter Try.func59, Try.ntmps59
  go_wp2_with (first
    | (go_at_call 83; (with_reducible refine (refSum_any w _ l HP.out).mono ?_); rintro e w' ⟨rfl, rfl⟩)
    | (go_at_call 82; (with_reducible refine (low_any _ _ hcr).mono ?_); rintro e w' ⟨rfl, hw'⟩; obtain rfl := hw'.trans HL.out.symm; clear hw')
    | (go_at_call 57; (with_reducible refine (unhide HJ).mono ?_); rintro e w2 ⟨A2, n2, c2, rfl, hM, hb⟩))
  go_ret
  have hs : w.heap.size ≤ (w'.alloc (.cells #[.slice A n c, .slice (some ⟨w.heap.size, 0, none⟩) 4 4] 43)).heap.size := by have := HbL.out.size; simp; omega
  exact ⟨A2, n2, c2, rfl, hM.lower hs, (HbL.out.alloc HbL.out.size _).trans (hb.mono hs)⟩

theorem refOpen_short (w : World) (A : Option Addr) (n c : Nat) (hn : n < 4) :
    Calls Try.prog 81 #[.slice A n c] w fun e w' => e = .returned (.bool false) ∧ Below w.heap.size w w' := by
  have hd : decide ((n : Int) - 4 ≥ 0) = false := by simp; omega
  have hd2 : decide ((0 : Int) ≤ (n : Int) - 4) = false := by simp; omega
  have hd3 : decide ((4 : Int) ≤ (n : Int)) = false := by simp; omega
  have hd4 : ¬ (4 : Int) ≤ (n : Int) := by omega
  go_enter Try.func81, Try.ntmps81
  go_wp2
  go_quiet (fail)
  go_wp2
  go_ret
  exact ⟨rfl, below_drewN (Below.refl _ _) _⟩

def OpenSays (w : World) (b : Bool) (e : Ending) (w' : World) : Prop := e = .returned (.bool b) ∧ Below w.heap.size w w'

set_option maxRecDepth 100000 in
set_option maxHeartbeats 1000000 in
theorem refOpen_core (w : World) (A : Option Addr) (n m c : Nat) (l : List Nat) (hp : Bytes w w.heap.size (.slice A n c) l) (hm : n = m + 4) (hlong : n ≤ 1048576) :
    Calls Try.prog 81 #[.slice A n c] w (OpenSays w (decide (l.drop m = le4 (crc (l.take m))))) := by
  have hmc : m + 4 ≤ c := by have := hp.cap; omega
  have h1 := hp.first (k := m) (by omega)
  have h2 := hp.rest (k := m) (by omega)
  have hnm : n - m = 4 := by omega
  have hcm : ¬ c = m := by omega
  rw [if_neg hcm, hnm] at h2
  have hn4 : (n : Int) - 4 = (m : Int) := by omega
  have h0m : (0 : Int) ≤ (m : Int) := by omega
  have hmc2 : (m : Int) ≤ (c : Int) := by omega
  have hmn2 : (m : Int) ≤ (n : Int) := by omega
  obtain ⟨bd, hbd⟩ : ∃ bd, bd = l.take m := ⟨_, rfl⟩
  obtain ⟨d, hd⟩ : ∃ d, d = l.drop m := ⟨_, rfl⟩
  rw [← hbd] at h1 ⊢
  rw [← hd] at h2 ⊢
  have H1 := Lib.hid h1
  have H2 := Lib.hid h2
  have hcr := crc_lt bd
  have hbA : Below w.heap.size w (w.alloc (.cells (byt (le4 (crc bd))).toArray 5)) := (Below.refl _ _).alloc (Nat.le_refl _) _
  have HY1 : Hid (Bytes (w.alloc (.cells (byt (le4 (crc bd))).toArray 5)).drew (w.alloc (.cells (byt (le4 (crc bd))).toArray 5)).drew.heap.size (.slice (Option.map (fun a => a.add m) A) 4 (c - m)) d) :=
    ((h2.below hbA).up hbA.size).of_cells fun _ _ => rfl
  have HY2 : Hid (Bytes (w.alloc (.cells (byt (le4 (crc bd))).toArray 5)).drew (w.alloc (.cells (byt (le4 (crc bd))).toArray 5)).drew.heap.size (.slice (some ⟨w.heap.size, 0, none⟩) 4 4) (le4 (crc bd))) :=
    ((low_bytes w (crc bd)).up (by simp [World.drew])).of_cells fun _ _ => rfl
  clear hbd hd h1 h2 hp hm hbA
  go_enter Try.func81, Try.ntmps81
  go_wp2
  go_region_held3 (fun w' => Below w.heap.size w w')
    (first
      | exact (Below.refl _ _).drew
      | exact (by assumption : Below _ _ _)
      | exact Below.alloc (by assumption) (Below.size (by assumption)) _
      | exact below_drewN ((Below.refl _ _).alloc (Nat.le_refl _) _) _
      | exact below_drewN (by assumption) _)
    ((first
      | ((go_at_call 83)
         (with_reducible refine (refSum_any _ _ bd ((H1.out.below (by assumption)).up (Below.size (by assumption)))).mono ?_)
         rintro e w' ⟨rfl, rfl⟩)
      | ((go_at_call 82)
         (with_reducible refine (low_any _ _ hcr).mono ?_)
         rintro e w' ⟨rfl, rfl⟩)
      | ((go_at_call 39)
         (with_reducible refine (same_any _ _ _ d (le4 (crc bd)) HY1.out HY2.out).mono ?_)
         rintro e w' ⟨rfl, nq, rfl⟩)))
  go_wp2
  go_ret
  exact ⟨rfl, below_drewN ((Below.refl _ _).alloc (Nat.le_refl _) _) _⟩
theorem same_yes (w : World) (v u : Value) (l : List Nat) (hp : Bytes w w.heap.size v l) (hq : Bytes w w.heap.size u l) : Calls Try.prog 39 #[v, u] w (Quietly w (.bool true)) := by
  have h := same_any w v u l l hp hq
  have e : decide (l = l) = true := decide_eq_true rfl
  rw [e] at h
  exact h
theorem Bytes.along {w w' : World} {v : Value} {l : List Nat} (h : Bytes w w.heap.size v l) (hb : Below w.heap.size w w') : Bytes w' w'.heap.size v l := (h.below hb).up hb.size
theorem Bytes.quiet {w : World} {v : Value} {l : List Nat} (h : Bytes w w.heap.size v l) (k : Nat) : Bytes (w.drewN k) (w.drewN k).heap.size v l := h.of_cells fun _ _ => rfl
theorem below_on {a w w' : World} (h : Below a.heap.size a w) (k : Below w.heap.size w w') : Below a.heap.size a w' := h.trans (k.mono h.size)
end Go.Proofs.Ytalpippeelomjaa
namespace Go.Proofs.Ytalpippeelomjaa

/-- A number's bytes: sevens of bits, the lowest first. -/
def num (n : Nat) : List Nat := if n < 128 then [n] else (n % 128 + 128) :: num (n / 128)
termination_by n
decreasing_by omega
theorem num_lt {n : Nat} (h : n < 128) : num n = [n] := by rw [num, if_pos h]
theorem num_ge {n : Nat} (h : ¬ n < 128) : num n = (n % 128 + 128) :: num (n / 128) := by rw [num, if_neg h]
theorem num_small (n : Nat) : ∀ b ∈ num n, b < 256 := by
  induction n using Nat.strongRecOn with
  | _ n ih =>
    by_cases h : n < 128
    · rw [num_lt h]
      intro b hb
      simp at hb
      omega
    · rw [num_ge h]
      intro b hb
      rcases List.mem_cons.1 hb with rfl | hb
      · omega
      · exact ih (n / 128) (by omega) b hb
theorem num_pos (n : Nat) : 1 ≤ (num n).length := by
  rw [num]
  split <;> simp
theorem num_length_le : ∀ (k n : Nat), n < 128 ^ (k + 1) → (num n).length ≤ k + 1 := by
  intro k
  induction k with
  | zero => intro n h; rw [num_lt (by simpa using h)]; simp
  | succ k ih =>
    intro n h
    by_cases hn : n < 128
    · rw [num_lt hn]; simp
    · rw [num_ge hn]
      have := ih (n / 128) (by rw [Nat.div_lt_iff_lt_mul (by omega)]; rw [Nat.pow_succ] at h; exact h)
      simp
      omega
theorem num_length64 {n : Nat} (h : n < 18446744073709551616) : (num n).length ≤ 10 := num_length_le 9 n (by omega)
theorem num_mono : ∀ (n m : Nat), n ≤ m → (num n).length ≤ (num m).length := by
  intro n
  induction n using Nat.strongRecOn with
  | _ n ih =>
    intro m h
    by_cases hn : n < 128
    · rw [num_lt hn]; exact num_pos m
    · rw [num_ge hn, num_ge (n := m) (by omega)]
      have := ih (n / 128) (by omega) (m / 128) (by omega)
      simp
      omega
/-- What is told of bytes at place i, where n has come before: the number with which they begin, and how many bytes it has; (0, 0): there is none. -/
def scan : List Nat → Nat → Nat → Nat × Nat
  | [], _, _ => (0, 0)
  | b :: r, i, n => if i = 9 ∧ 1 < b then (0, 0) else if 128 ≤ b then scan r (i + 1) (n + b % 128 * 128 ^ i) else if b = 0 ∧ 0 < i then (0, 0) else (n + b % 128 * 128 ^ i, i + 1)
def numOf (l : List Nat) : Nat × Nat := scan l 0 0
theorem pow_pos128 (i : Nat) : 1 ≤ 128 ^ i := Nat.one_le_pow _ _ (by omega)
theorem scan_num : ∀ (m i n : Nat) (r : List Nat), (0 < i → 0 < m) → m * 128 ^ i < 18446744073709551616 → i ≤ 9 → scan (num m ++ r) i n = (n + m * 128 ^ i, i + (num m).length) := by
  intro m
  induction m using Nat.strongRecOn with
  | _ m ih =>
    intro i n r hi hm h9
    have hp := pow_pos128 i
    by_cases h : m < 128
    · rw [num_lt h]
      show scan (m :: r) i n = _
      have h1 : ¬ (i = 9 ∧ 1 < m) := by
        rintro ⟨rfl, h1⟩
        have h2 : 2 * 128 ^ 9 ≤ m * 128 ^ 9 := Nat.mul_le_mul_right _ h1
        omega
      have h2 : ¬ (m = 0 ∧ 0 < i) := fun ⟨a, b⟩ => by have := hi b; omega
      rw [scan, if_neg h1, if_neg (by omega), if_neg h2, Nat.mod_eq_of_lt h]
      simp
    · rw [num_ge h]
      show scan ((m % 128 + 128) :: (num (m / 128) ++ r)) i n = _
      have hi9 : i < 9 := by
        rcases Nat.lt_or_ge i 9 with h1 | h1
        · exact h1
        · obtain rfl : i = 9 := by omega
          have h2 : 128 * 128 ^ 9 ≤ m * 128 ^ 9 := Nat.mul_le_mul_right _ (by omega)
          omega
      have hs : (m / 128) * 128 ^ (i + 1) + m % 128 * 128 ^ i = m * 128 ^ i := by
        rw [Nat.pow_succ, Nat.mul_comm (128 ^ i) 128, ← Nat.mul_assoc, ← Nat.add_mul]
        congr 1
        omega
      rw [scan, if_neg (by omega), if_pos (by omega), ih (m / 128) (by omega) (i + 1) _ r (fun _ => by omega) (by omega) (by omega)]
      rw [show (m % 128 + 128) % 128 = m % 128 by omega]
      refine Prod.ext ?_ ?_
      · show n + m % 128 * 128 ^ i + m / 128 * 128 ^ (i + 1) = n + m * 128 ^ i
        omega
      · simp
        omega
theorem numOf_num {m : Nat} (h : m < 18446744073709551616) (r : List Nat) : numOf (num m ++ r) = (m, (num m).length) := by
  have := scan_num m 0 0 r (by omega) (by simpa using h) (by omega)
  simpa [numOf] using this
theorem pow_part {i : Nat} (h : i ≤ 9) : 128 ^ i * 128 ^ (9 - i) = 9223372036854775808 := by
  rw [← Nat.pow_add, show i + (9 - i) = 9 by omega]
theorem pow_fits {m i x : Nat} (h : i < 9) (hm : m * 128 ^ (i + 1) < 18446744073709551616) (hx : x < 128) : x * 128 ^ i + m * 128 ^ (i + 1) < 18446744073709551616 := by
  have hp := pow_part (i := i + 1) (by omega)
  have hi := pow_pos128 i
  have hx2 : x * 128 ^ i < 128 ^ (i + 1) := by
    rw [Nat.pow_succ, Nat.mul_comm]
    exact Nat.mul_lt_mul_of_pos_left hx (by omega)
  have hq : m < 2 * 128 ^ (9 - (i + 1)) := by
    rcases Nat.lt_or_ge m (2 * 128 ^ (9 - (i + 1))) with h1 | h1
    · exact h1
    · have h2 : 2 * 128 ^ (9 - (i + 1)) * 128 ^ (i + 1) ≤ m * 128 ^ (i + 1) := Nat.mul_le_mul_right _ h1
      rw [Nat.mul_assoc, Nat.mul_comm (128 ^ (9 - (i + 1)))] at h2
      omega
  have h3 : (m + 1) * 128 ^ (i + 1) ≤ 2 * 128 ^ (9 - (i + 1)) * 128 ^ (i + 1) := Nat.mul_le_mul_right _ hq
  rw [Nat.mul_assoc, Nat.mul_comm (128 ^ (9 - (i + 1))), hp, Nat.add_mul] at h3
  omega
theorem scan_back : ∀ (l : List Nat) (i n a k : Nat), (∀ b ∈ l, b < 256) → i ≤ 9 → scan l i n = (a, k) → k ≠ 0 → ∃ m, a = n + m * 128 ^ i ∧ k = i + (num m).length ∧ l.take (num m).length = num m ∧ (0 < i → 0 < m) ∧ m * 128 ^ i < 18446744073709551616 := by
  intro l
  induction l with
  | nil => intro i n a k _ _ h hk; simp [scan] at h; omega
  | cons b r ih =>
    intro i n a k hsm h9 h hk
    have hb := hsm b (by simp)
    rw [scan] at h
    split at h
    · simp at h; omega
    · rename_i h1
      split at h
      · rename_i h2
        have hi9 : i < 9 := by
          rcases Nat.lt_or_ge i 9 with h3 | h3
          · exact h3
          · exact absurd ⟨by omega, by omega⟩ h1
        obtain ⟨m, ha, hk2, ht, hm, hs⟩ := ih (i + 1) _ a k (fun c hc => hsm c (by simp [hc])) (by omega) h hk
        have hm := hm (by omega)
        have e1 : (b % 128 + 128 * m) / 128 = m := by omega
        have e2 : (b % 128 + 128 * m) % 128 + 128 = b := by omega
        have hs2 : (b % 128 + 128 * m) * 128 ^ i = b % 128 * 128 ^ i + m * 128 ^ (i + 1) := by
          rw [Nat.add_mul, Nat.pow_succ, Nat.mul_comm 128 m, Nat.mul_assoc, Nat.mul_comm 128]
        have hf := pow_fits (x := b % 128) hi9 hs (Nat.mod_lt _ (by omega))
        refine ⟨b % 128 + 128 * m, by rw [hs2]; omega, ?_, ?_, fun _ => by omega, by rw [hs2]; exact hf⟩
        · rw [num_ge (by omega), e1]
          simp
          omega
        · rw [num_ge (by omega), e1, e2]
          simp [ht]
      · split at h
        · simp at h; omega
        · rename_i h2 h3
          injection h with h4 h5
          refine ⟨b, ?_, ?_, ?_, ?_, ?_⟩
          · rw [← h4, Nat.mod_eq_of_lt (by omega)]
          · rw [num_lt (by omega), ← h5]; rfl
          · rw [num_lt (by omega)]; simp
          · intro hi; omega
          · rcases Nat.lt_or_ge i 9 with h6 | h6
            · have := pow_fits (m := 0) (x := b) h6 (by simp) (by omega)
              simpa using this
            · obtain rfl : i = 9 := by omega
              have hb1 : b ≤ 1 := by omega
              have := Nat.mul_le_mul_right (128 ^ 9) hb1
              omega
theorem numOf_back {l : List Nat} {a k : Nat} (hs : ∀ b ∈ l, b < 256) (h : numOf l = (a, k)) (hk : k ≠ 0) : a < 18446744073709551616 ∧ k = (num a).length ∧ l.take k = num a := by
  obtain ⟨m, h1, h2, h3, _, h5⟩ := scan_back l 0 0 a k hs (by omega) h hk
  simp at h1 h2 h5
  subst h1
  exact ⟨h5, h2, by rw [h2]; exact h3⟩
theorem numOf_le {l : List Nat} {a k : Nat} (hs : ∀ b ∈ l, b < 256) (h : numOf l = (a, k)) : a < 18446744073709551616 ∧ k ≤ l.length ∧ k ≤ 10 := by
  by_cases hk : k = 0
  · subst hk
    have hz : ∀ (l : List Nat) (i n a : Nat), scan l i n = (a, 0) → a = 0 := by
      intro l
      induction l with
      | nil => intro i n a h; simp [scan] at h; omega
      | cons b r ih =>
        intro i n a h
        rw [scan] at h
        split at h
        · simp at h; omega
        · split at h
          · exact ih _ _ _ h
          · split at h
            · simp at h; omega
            · simp at h
    have := hz l 0 0 a h
    omega
  · obtain ⟨h1, h2, h3⟩ := numOf_back hs h hk
    have h4 := congrArg List.length h3
    rw [List.length_take, ← h2] at h4
    exact ⟨h1, by omega, by rw [h2]; exact num_length64 h1⟩
/-- Small numbers of ints near nought. -/
def zig (n : Int) : Nat := if n < 0 then (-2 * n - 1).toNat else (2 * n).toNat
def zag (n : Nat) : Int := if n % 2 = 1 then -((n / 2 : Nat) : Int) - 1 else ((n / 2 : Nat) : Int)
theorem zag_zig (n : Int) : zag (zig n) = n := by
  unfold zag zig
  split <;> split <;> omega
theorem zig_zag (n : Nat) : zig (zag n) = n := by
  unfold zag zig
  split <;> split <;> omega
theorem zig_lt {n : Int} (h1 : -9223372036854775808 ≤ n) (h2 : n < 9223372036854775808) : zig n < 18446744073709551616 := by
  unfold zig
  split <;> omega
theorem zag_bd {n : Nat} (h : n < 18446744073709551616) : -9223372036854775808 ≤ zag n ∧ zag n < 9223372036854775808 := by
  unfold zag
  split <;> omega
theorem xor_ones64 (s : Nat) (h : s < 18446744073709551616) : 18446744073709551615 ^^^ s = 18446744073709551615 - s := by
  apply Nat.eq_of_testBit_eq
  intro i
  have e1 : 18446744073709551615 = 2 ^ 64 - 1 := rfl
  have e2 : 18446744073709551615 - s = 2 ^ 64 - (s + 1) := by omega
  rw [Nat.testBit_xor, e2, Nat.testBit_two_pow_sub_succ (by omega : s < 2 ^ 64), e1, Nat.testBit_two_pow_sub_one]
  by_cases hi : i < 64
  · simp [hi]
  · have hs : s.testBit i = false := Nat.testBit_lt_two_pow (Nat.lt_of_lt_of_le (by omega : s < 2 ^ 64) (Nat.pow_le_pow_right (by omega) (by omega)))
    simp [hi, hs]
end Go.Proofs.Ytalpippeelomjaa
