/- TpTMath, TpStep, TpCut: joined by program (tools/merge.py). -/
import Derived.Test.YtdphpjlhkamadaaRows
import Derived.Test.YtdphpjlhkamadaaZ1
import Derived.WalkKit
import Derived.Below
import Derived.OneCell
import Derived.Laws.BitsAllLaws
import Derived.Laws.Bits64
import Derived.Lib.Hide
import Derived.OwnWalk
namespace Go.Proofs.Ytdphpjlhkamadaa

/-- A number's bytes: sevens of bits, the lowest first. -/
def num (n : Nat) : List Nat := if n < 128 then [n] else (n % 128 + 128) :: num (n / 128)
termination_by n
decreasing_by omega
theorem num_lt {n : Nat} (h : n < 128) : num n = [n] := by rw [num, if_pos h]
theorem num_ge {n : Nat} (h : ¬ n < 128) : num n = (n % 128 + 128) :: num (n / 128) := by rw [num, if_neg h]
theorem num_small (n : Nat) : ∀ b ∈ num n, b < 256 := by
  induction n using Nat.strongRecOn with
  | _ n ih =>
    by_cases h : n < 128
    · rw [num_lt h]
      intro b hb
      simp at hb
      omega
    · rw [num_ge h]
      intro b hb
      rcases List.mem_cons.1 hb with rfl | hb
      · omega
      · exact ih (n / 128) (by omega) b hb
theorem num_pos (n : Nat) : 1 ≤ (num n).length := by
  rw [num]
  split <;> simp
theorem num_length_le : ∀ (k n : Nat), n < 128 ^ (k + 1) → (num n).length ≤ k + 1 := by
  intro k
  induction k with
  | zero => intro n h; rw [num_lt (by simpa using h)]; simp
  | succ k ih =>
    intro n h
    by_cases hn : n < 128
    · rw [num_lt hn]; simp
    · rw [num_ge hn]
      have := ih (n / 128) (by rw [Nat.div_lt_iff_lt_mul (by omega)]; rw [Nat.pow_succ] at h; exact h)
      simp
      omega
theorem num_length64 {n : Nat} (h : n < 18446744073709551616) : (num n).length ≤ 10 := num_length_le 9 n (by omega)
theorem num_mono : ∀ (n m : Nat), n ≤ m → (num n).length ≤ (num m).length := by
  intro n
  induction n using Nat.strongRecOn with
  | _ n ih =>
    intro m h
    by_cases hn : n < 128
    · rw [num_lt hn]; exact num_pos m
    · rw [num_ge hn, num_ge (n := m) (by omega)]
      have := ih (n / 128) (by omega) (m / 128) (by omega)
      simp
      omega
/-- What is told of bytes at place i, where n has come before: the number with which they begin, and how many bytes it has; (0, 0): there is none. -/
def scan : List Nat → Nat → Nat → Nat × Nat
  | [], _, _ => (0, 0)
  | b :: r, i, n => if i = 9 ∧ 1 < b then (0, 0) else if 128 ≤ b then scan r (i + 1) (n + b % 128 * 128 ^ i) else if b = 0 ∧ 0 < i then (0, 0) else (n + b % 128 * 128 ^ i, i + 1)
def numOf (l : List Nat) : Nat × Nat := scan l 0 0
theorem pow_pos128 (i : Nat) : 1 ≤ 128 ^ i := Nat.one_le_pow _ _ (by omega)
theorem scan_num : ∀ (m i n : Nat) (r : List Nat), (0 < i → 0 < m) → m * 128 ^ i < 18446744073709551616 → i ≤ 9 → scan (num m ++ r) i n = (n + m * 128 ^ i, i + (num m).length) := by
  intro m
  induction m using Nat.strongRecOn with
  | _ m ih =>
    intro i n r hi hm h9
    have hp := pow_pos128 i
    by_cases h : m < 128
    · rw [num_lt h]
      show scan (m :: r) i n = _
      have h1 : ¬ (i = 9 ∧ 1 < m) := by
        rintro ⟨rfl, h1⟩
        have h2 : 2 * 128 ^ 9 ≤ m * 128 ^ 9 := Nat.mul_le_mul_right _ h1
        omega
      have h2 : ¬ (m = 0 ∧ 0 < i) := fun ⟨a, b⟩ => by have := hi b; omega
      rw [scan, if_neg h1, if_neg (by omega), if_neg h2, Nat.mod_eq_of_lt h]
      simp
    · rw [num_ge h]
      show scan ((m % 128 + 128) :: (num (m / 128) ++ r)) i n = _
      have hi9 : i < 9 := by
        rcases Nat.lt_or_ge i 9 with h1 | h1
        · exact h1
        · obtain rfl : i = 9 := by omega
          have h2 : 128 * 128 ^ 9 ≤ m * 128 ^ 9 := Nat.mul_le_mul_right _ (by omega)
          omega
      have hs : (m / 128) * 128 ^ (i + 1) + m % 128 * 128 ^ i = m * 128 ^ i := by
        rw [Nat.pow_succ, Nat.mul_comm (128 ^ i) 128, ← Nat.mul_assoc, ← Nat.add_mul]
        congr 1
        omega
      rw [scan, if_neg (by omega), if_pos (by omega), ih (m / 128) (by omega) (i + 1) _ r (fun _ => by omega) (by omega) (by omega)]
      rw [show (m % 128 + 128) % 128 = m % 128 by omega]
      refine Prod.ext ?_ ?_
      · show n + m % 128 * 128 ^ i + m / 128 * 128 ^ (i + 1) = n + m * 128 ^ i
        omega
      · simp
        omega
theorem numOf_num {m : Nat} (h : m < 18446744073709551616) (r : List Nat) : numOf (num m ++ r) = (m, (num m).length) := by
  have := scan_num m 0 0 r (by omega) (by simpa using h) (by omega)
  simpa [numOf] using this
theorem pow_part {i : Nat} (h : i ≤ 9) : 128 ^ i * 128 ^ (9 - i) = 9223372036854775808 := by
  rw [← Nat.pow_add, show i + (9 - i) = 9 by omega]
theorem pow_fits {m i x : Nat} (h : i < 9) (hm : m * 128 ^ (i + 1) < 18446744073709551616) (hx : x < 128) : x * 128 ^ i + m * 128 ^ (i + 1) < 18446744073709551616 := by
  have hp := pow_part (i := i + 1) (by omega)
  have hi := pow_pos128 i
  have hx2 : x * 128 ^ i < 128 ^ (i + 1) := by
    rw [Nat.pow_succ, Nat.mul_comm]
    exact Nat.mul_lt_mul_of_pos_left hx (by omega)
  have hq : m < 2 * 128 ^ (9 - (i + 1)) := by
    rcases Nat.lt_or_ge m (2 * 128 ^ (9 - (i + 1))) with h1 | h1
    · exact h1
    · have h2 : 2 * 128 ^ (9 - (i + 1)) * 128 ^ (i + 1) ≤ m * 128 ^ (i + 1) := Nat.mul_le_mul_right _ h1
      rw [Nat.mul_assoc, Nat.mul_comm (128 ^ (9 - (i + 1)))] at h2
      omega
  have h3 : (m + 1) * 128 ^ (i + 1) ≤ 2 * 128 ^ (9 - (i + 1)) * 128 ^ (i + 1) := Nat.mul_le_mul_right _ hq
  rw [Nat.mul_assoc, Nat.mul_comm (128 ^ (9 - (i + 1))), hp, Nat.add_mul] at h3
  omega
theorem scan_back : ∀ (l : List Nat) (i n a k : Nat), (∀ b ∈ l, b < 256) → i ≤ 9 → scan l i n = (a, k) → k ≠ 0 → ∃ m, a = n + m * 128 ^ i ∧ k = i + (num m).length ∧ l.take (num m).length = num m ∧ (0 < i → 0 < m) ∧ m * 128 ^ i < 18446744073709551616 := by
  intro l
  induction l with
  | nil => intro i n a k _ _ h hk; simp [scan] at h; omega
  | cons b r ih =>
    intro i n a k hsm h9 h hk
    have hb := hsm b (by simp)
    rw [scan] at h
    split at h
    · simp at h; omega
    · rename_i h1
      split at h
      · rename_i h2
        have hi9 : i < 9 := by
          rcases Nat.lt_or_ge i 9 with h3 | h3
          · exact h3
          · exact absurd ⟨by omega, by omega⟩ h1
        obtain ⟨m, ha, hk2, ht, hm, hs⟩ := ih (i + 1) _ a k (fun c hc => hsm c (by simp [hc])) (by omega) h hk
        have hm := hm (by omega)
        have e1 : (b % 128 + 128 * m) / 128 = m := by omega
        have e2 : (b % 128 + 128 * m) % 128 + 128 = b := by omega
        have hs2 : (b % 128 + 128 * m) * 128 ^ i = b % 128 * 128 ^ i + m * 128 ^ (i + 1) := by
          rw [Nat.add_mul, Nat.pow_succ, Nat.mul_comm 128 m, Nat.mul_assoc, Nat.mul_comm 128]
        have hf := pow_fits (x := b % 128) hi9 hs (Nat.mod_lt _ (by omega))
        refine ⟨b % 128 + 128 * m, by rw [hs2]; omega, ?_, ?_, fun _ => by omega, by rw [hs2]; exact hf⟩
        · rw [num_ge (by omega), e1]
          simp
          omega
        · rw [num_ge (by omega), e1, e2]
          simp [ht]
      · split at h
        · simp at h; omega
        · rename_i h2 h3
          injection h with h4 h5
          refine ⟨b, ?_, ?_, ?_, ?_, ?_⟩
          · rw [← h4, Nat.mod_eq_of_lt (by omega)]
          · rw [num_lt (by omega), ← h5]; rfl
          · rw [num_lt (by omega)]; simp
          · intro hi; omega
          · rcases Nat.lt_or_ge i 9 with h6 | h6
            · have := pow_fits (m := 0) (x := b) h6 (by simp) (by omega)
              simpa using this
            · obtain rfl : i = 9 := by omega
              have hb1 : b ≤ 1 := by omega
              have := Nat.mul_le_mul_right (128 ^ 9) hb1
              omega
theorem numOf_back {l : List Nat} {a k : Nat} (hs : ∀ b ∈ l, b < 256) (h : numOf l = (a, k)) (hk : k ≠ 0) : a < 18446744073709551616 ∧ k = (num a).length ∧ l.take k = num a := by
  obtain ⟨m, h1, h2, h3, _, h5⟩ := scan_back l 0 0 a k hs (by omega) h hk
  simp at h1 h2 h5
  subst h1
  exact ⟨h5, h2, by rw [h2]; exact h3⟩
theorem numOf_le {l : List Nat} {a k : Nat} (hs : ∀ b ∈ l, b < 256) (h : numOf l = (a, k)) : a < 18446744073709551616 ∧ k ≤ l.length ∧ k ≤ 10 := by
  by_cases hk : k = 0
  · subst hk
    have hz : ∀ (l : List Nat) (i n a : Nat), scan l i n = (a, 0) → a = 0 := by
      intro l
      induction l with
      | nil => intro i n a h; simp [scan] at h; omega
      | cons b r ih =>
        intro i n a h
        rw [scan] at h
        split at h
        · simp at h; omega
        · split at h
          · exact ih _ _ _ h
          · split at h
            · simp at h; omega
            · simp at h
    have := hz l 0 0 a h
    omega
  · obtain ⟨h1, h2, h3⟩ := numOf_back hs h hk
    have h4 := congrArg List.length h3
    rw [List.length_take, ← h2] at h4
    exact ⟨h1, by omega, by rw [h2]; exact num_length64 h1⟩
/-- Small numbers of ints near nought. -/
def zig (n : Int) : Nat := if n < 0 then (-2 * n - 1).toNat else (2 * n).toNat
def zag (n : Nat) : Int := if n % 2 = 1 then -((n / 2 : Nat) : Int) - 1 else ((n / 2 : Nat) : Int)
theorem zag_zig (n : Int) : zag (zig n) = n := by
  unfold zag zig
  split <;> split <;> omega
theorem zig_zag (n : Nat) : zig (zag n) = n := by
  unfold zag zig
  split <;> split <;> omega
theorem zig_lt {n : Int} (h1 : -9223372036854775808 ≤ n) (h2 : n < 9223372036854775808) : zig n < 18446744073709551616 := by
  unfold zig
  split <;> omega
theorem zag_bd {n : Nat} (h : n < 18446744073709551616) : -9223372036854775808 ≤ zag n ∧ zag n < 9223372036854775808 := by
  unfold zag
  split <;> omega
theorem xor_ones64 (s : Nat) (h : s < 18446744073709551616) : 18446744073709551615 ^^^ s = 18446744073709551615 - s := by
  apply Nat.eq_of_testBit_eq
  intro i
  have e1 : 18446744073709551615 = 2 ^ 64 - 1 := rfl
  have e2 : 18446744073709551615 - s = 2 ^ 64 - (s + 1) := by omega
  rw [Nat.testBit_xor, e2, Nat.testBit_two_pow_sub_succ (by omega : s < 2 ^ 64), e1, Nat.testBit_two_pow_sub_one]
  by_cases hi : i < 64
  · simp [hi]
  · have hs : s.testBit i = false := Nat.testBit_lt_two_pow (Nat.lt_of_lt_of_le (by omega : s < 2 ^ 64) (Nat.pow_le_pow_right (by omega) (by omega)))
    simp [hi, hs]
end Go.Proofs.Ytdphpjlhkamadaa
namespace Go.Proofs.Ytdphpjlhkamadaa
open Go.RowKit

theorem unhide {p : Prop} (h : Hid p) : p := h
theorem hide {p : Prop} (h : p) : Hid p := h
theorem Bytes.along {w w' : World} {v : Value} {l : List Nat} (h : Bytes w w.heap.size v l) (hb : Below w.heap.size w w') : Bytes w' w'.heap.size v l := (h.below hb).up hb.size
theorem below_on {a w w' : World} (h : Below a.heap.size a w) (k : Below w.heap.size w w') : Below a.heap.size a w' := h.trans (k.mono h.size)
/-- w' is w but for block g, the block r, and new ones. -/
structure Chg (w w' : World) (g : Nat) (r : Option Nat) : Prop where
  os : w'.os = w.os
  tape : w'.tape = w.tape
  output : w'.output = w.output
  size : w.heap.size ≤ w'.heap.size
  block : ∀ k, k < w.heap.size → k ≠ g → some k ≠ r → w'.heap[k]? = w.heap[k]?
/-- Where a row has gone: it is where it was, or in a new block. -/
def Goes (w : World) (r r' : Option Nat) : Prop := r' = r ∨ ∃ k, r' = some k ∧ w.heap.size ≤ k
section
variable {w w' w'' : World} {g : Nat} {r r' : Option Nat}
theorem Goes.refl (w : World) (r : Option Nat) : Goes w r r := .inl rfl
theorem Goes.trans {r'' : Option Nat} (h : Goes w r r') (hs : w.heap.size ≤ w'.heap.size) (k : Goes w' r' r'') : Goes w r r'' := by
  rcases k with rfl | ⟨j, rfl, hj⟩
  · exact h
  · exact .inr ⟨j, rfl, Nat.le_trans hs hj⟩
theorem Chg.refl (w : World) (g : Nat) (r : Option Nat) : Chg w w g r := ⟨rfl, rfl, rfl, Nat.le_refl _, fun _ _ _ _ => rfl⟩
theorem Chg.trans (h : Chg w w' g r) (hr : Goes w r r') (k : Chg w' w'' g r') : Chg w w'' g r :=
  ⟨k.os.trans h.os, k.tape.trans h.tape, k.output.trans h.output, Nat.le_trans h.size k.size, fun i hi h1 h2 => (k.block i (Nat.lt_of_lt_of_le hi h.size) h1 (by
    rcases hr with rfl | ⟨j, rfl, hj⟩
    · exact h2
    · intro e; injection e with e; omega)).trans (h.block i hi h1 h2)⟩
theorem Chg.of_below (h : Below w.heap.size w w') (g : Nat) (r : Option Nat) : Chg w w' g r := ⟨h.os, h.tape, h.output, h.size, fun i hi _ _ => h.block i hi⟩
theorem Chg.of_grown (h : w.grownBy w' r) (g : Nat) : Chg w w' g r := ⟨h.os, h.tape, h.output, h.size, fun i hi _ h2 => h.block i hi h2⟩
theorem Chg.set (w : World) (g i : Nat) (u : Value) (r : Option Nat) : Chg w (w.setCell ⟨g, i, none⟩ u) g r :=
  ⟨rfl, rfl, rfl, by simp [World.setCell], fun k _ h _ => Below.heap_setCell _ _ _ _ h⟩
theorem Chg.none_ (h : Chg w w' g none) (r : Option Nat) : Chg w w' g r := ⟨h.os, h.tape, h.output, h.size, fun i hi h1 _ => h.block i hi h1 (by simp)⟩
/-- What has changed lies from B on: below, all is as it was. -/
theorem Chg.below (h : Chg w w' g r) {B : Nat} {a : World} (ha : Below B a w) (hB : B ≤ w.heap.size) (hg : B ≤ g) (hr : ∀ k, r = some k → B ≤ k) : Below B a w' :=
  ha.trans ⟨h.os, h.tape, h.output, h.size, fun k hk => h.block k (by omega) (by omega) (fun e => by have := hr k e.symm; omega)⟩
theorem lt_of_heap {w : World} {k : Nat} {o : Obj} (h : w.heap[k]? = some o) : k < w.heap.size := by
  rcases Nat.lt_or_ge k w.heap.size with h1 | h1
  · exact h1
  · rw [Array.getElem?_eq_none h1] at h; cases h
theorem Chg.heap (h : Chg w w' g r) {k : Nat} {o : Obj} (hk : w.heap[k]? = some o) (h1 : k ≠ g) (h2 : some k ≠ r) : w'.heap[k]? = some o := (h.block k (lt_of_heap hk) h1 h2).trans hk
end
end Go.Proofs.Ytdphpjlhkamadaa
namespace Go.Proofs.Ytdphpjlhkamadaa
open Go.RowKit

theorem infoByte : (Try.prog.info? 5).map (fun i => (i.zero, i.size, i.bytes)) = some (some (.int .u8 0), 1, 1) := by kernel_rfl

/-- The slice value v owns, in blocks from base on, just the bytes l. -/
def Own (w : World) (base : Nat) (v : Value) (l : List Nat) : Prop := w.ownsRow base 5 1 v l.length (byt l)
theorem Own.form {w : World} {base : Nat} {v : Value} {l : List Nat} (h : Own w base v l) : ∃ A c, v = .slice A l.length c ∧ l.length ≤ c ∧ (A = none → c = 0) ∧ l.length ≤ maxLen ∧ w.ownsRow base 5 1 (.slice A l.length c) l.length (byt l) := by
  obtain ⟨hl, ⟨rfl, h0⟩ | ⟨g, cap, cur, rfl, h1, h2, h3, h4, h5⟩⟩ := id h
  · rw [h0]
    refine ⟨none, 0, rfl, by omega, fun _ => rfl, by simp, ?_⟩
    unfold Own at h
    rw [h0] at h
    exact h
  · exact ⟨_, _, rfl, h3, fun h => (by cases h), by omega, h⟩
theorem Own.bytes {w : World} {base : Nat} {v : Value} {l : List Nat} (h : Own w base v l) (hs : ∀ b ∈ l, b < 256) : Bytes w w.heap.size v l := by
  obtain ⟨A, c, rfl, hc, hn, hm, ho⟩ := h.form
  exact ⟨⟨A, c, rfl, Lies.of_own ho, hc, hn⟩, hs, hm⟩

theorem own_nil (w : World) (base : Nat) : Own w base (.slice none 0 0) [] := World.ownsRow_nil _ _ _ _

def CutR (W : World) (n most : Nat) (l : List Nat) (out i : Value) (wr : World) : Prop :=
  ∃ k : Nat, k ≤ n ∧ i = .int .i64 (k : Int) ∧ Own wr W.heap.size out (l.take (min k most)) ∧ Below W.heap.size W wr

theorem own_snoc {w : World} {base k most b : Nat} {v : Value} {l : List Nat} (hk : k < l.length) (hm : k < most) (hb : l[k]? = some b)
    (h : w.ownsRow base 5 1 v (min k (min most l.length) + 1) (byt (l.take (min k most)) ++ [.int .u8 (b : Int)])) : Own w base v (l.take (min (k + 1) most)) := by
  have e1 : min k (min most l.length) = k := by omega
  have e2 : min k most = k := by omega
  have e3 : min (k + 1) most = k + 1 := by omega
  rw [e1, e2] at h
  rw [e3]
  unfold Own
  have e4 : l.take (k + 1) = l.take k ++ [b] := by rw [List.take_add_one, hb]; rfl
  rw [show (l.take (k + 1)).length = k + 1 by rw [List.length_take]; omega, e4, byt_append]
  exact h
theorem cell_one_new {w : World} (x : Value) (t : TypeId) (j : Nat) (u : Value) (h : [x][j]? = some u) : (w.alloc (.cells #[x] t)).cell? ((⟨w.heap.size, 0, none⟩ : Addr).add j) = some u := by
  rcases j with _ | j
  · rw [show (⟨w.heap.size, 0, none⟩ : Addr).add 0 = ⟨w.heap.size, 0, none⟩ from rfl, World.cell?_alloc_at _ _ _ _ rfl]
    simpa using h
  · simp at h

set_option maxRecDepth 100000 in
set_option maxHeartbeats 1000000 in
theorem cut_any (w : World) (v : Value) (l : List Nat) (most : Nat) (hp : Bytes w w.heap.size v l) (hmost : most ≤ 1048576) :
    Calls Try.prog 18 #[v, .int .i64 (most : Int)] w fun e w' => ∃ u, e = .returned u ∧ Own w' w.heap.size u (l.take most) ∧ Below w.heap.size w w' := by
  obtain ⟨⟨A, c, rfl, hlies, _⟩, hsm, hlong⟩ := hp
  unfold maxLen at hlong
  obtain ⟨i0, hi0, hz0, hz1, hz2⟩ := info_parts infoByte
  have HL := Lib.hid hlies
  have HS := Lib.hid hsm
  clear hlies hsm
  obtain ⟨n, hn⟩ : ∃ n, n = l.length := ⟨_, rfl⟩
  rw [← hn] at hlong ⊢
  have HN := Lib.hid hn
  have HI := Lib.hid hi0
  have H0 := Lib.hid hz0
  have H1 := Lib.hid hz1
  have H2 := Lib.hid hz2
  clear hn hi0 hz0 hz1 hz2
  go_enter Try.func18, Try.ntmps18
  go_wp2
  go_loopw [5, 10] (fun out i wr => CutR w n most l out i wr) (fun _ i _ => n - (intOf i).toNat)
  case atStart => exact ⟨0, by omega, rfl, own_nil _ _, Below.refl _ _⟩
  case round =>
    obtain ⟨k, hk, rfl, hown, hb⟩ := hrel
    by_cases hlt : k < n
    · obtain ⟨b, hb1⟩ : ∃ b, l[k]? = some b := ⟨_, List.getElem?_eq_getElem (by rw [← HN.out]; exact hlt)⟩
      obtain ⟨ad, hA, hbb, hc0⟩ := HL.out k (.int .u8 (b : Int)) (by rw [byt_at, hb1]; rfl)
      subst hA
      have hc := (hb.cell (p := ad.add k) (by rw [addr_add_block]; exact hbb)).trans hc0
      have Hb1 := Lib.hid hb1
      clear hb1 hbb hc0
      by_cases hm : k < most
      · go_wp2_with (at_builtin; refine wpList_append_own _ rfl _ _ 42 rfl w.heap.size 5 i0 (.int .u8 0) 1 1 Try.underlying42 HI.out H0.out H1.out H2.out rfl (by decide) _ _ _ rfl (World.ownsRow.alloc hown _) ⟨_, 0, none⟩ 1 1 [.int .u8 (b : Int)] rfl rfl ?c1 ?c2 ?c3 ?c4 ?c5 ?_)
        case c1 => exact cell_one_new _ _
        case c2 => simp [Value.oneCell']
        case c3 => rw [List.length_take]; unfold maxLen; omega
        case c4 => rw [List.length_take]; omega
        case c5 => exact ((hb.alloc hb.size _).size)
        intro v' w1 hown1 hg1 _
        have hbel := (hb.alloc hb.size _).grown hg1 (by have := hb.size; simp; omega) (fun g hg => (World.ownsRow.lt hown g hg).1)
        have hown2 := own_snoc (by rw [← HN.out]; exact hlt) hm Hb1.out hown1
        have HO := Lib.hid hown2
        have HB := Lib.hid hbel
        clear hown1 hown2 hbel hg1 hown hb
        go_wp2
        go_roundw
        case rel => exact ⟨k + 1, by omega, by go_num, HO.out, HB.out⟩
        case measure => simp [intOf]; omega
      · go_wp2
        go_roundw
        case rel => exact ⟨k + 1, by omega, by go_num, by rw [show min (k + 1) most = min k most by omega]; exact hown, hb⟩
        case measure => simp [intOf]; omega
    · go_wp2
      go_ret
      refine ⟨_, rfl, ?_, hb⟩
      obtain rfl : k = n := by omega
      rw [HN.out, Nat.min_comm, ← List.take_take, List.take_length] at hown
      exact hown
theorem cut_at (w : World) (v : Value) (l : List Nat) (most : Nat) (m : Int) (hm : m = (most : Int)) (hp : Bytes w w.heap.size v l) (hmost : most ≤ 1048576) :
    Calls Try.prog 18 #[v, .int .i64 m] w fun e w' => ∃ u, e = .returned u ∧ Own w' w.heap.size u (l.take most) ∧ Below w.heap.size w w' := by
  rw [hm]
  exact cut_any w v l most hp hmost
end Go.Proofs.Ytdphpjlhkamadaa
