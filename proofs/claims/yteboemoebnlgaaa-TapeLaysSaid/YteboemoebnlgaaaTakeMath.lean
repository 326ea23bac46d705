/- Plain facts on fields that are laid and taken: what is taken of what was laid; what was taken is laid as it stood. -/
import Derived.Test.YteboemoebnlgaaaFew
namespace Go.Proofs.Yteboemoebnlgaaa
open Go.RowKit
set_option linter.unusedSimpArgs false
set_option linter.unusedVariables false

theorem takeNum_nil (M : Nat) : takeNum [] M = (0, [], false) := rfl
theorem takeText_nil (M : Nat) : takeText [] M = ([], [], false) := takeText_none (a := 0) (j := 0) rfl (.inl rfl)
theorem takeF_nil (k M : Nat) : takeF k M [] = (0, [], [], false) := by
  unfold takeF
  rw [takeNum_nil, takeNum_nil, takeText_nil]
  split
  · rfl
  · split
    · rfl
    · split
      · rfl
      · split
        · rfl
        · rfl
theorem takeNum_cases (l : List Nat) (M : Nat) : takeNum l M = (0, [], false) ∨ ∃ a j, numOf l = (a, j) ∧ j ≠ 0 ∧ a ≤ M ∧ takeNum l M = (a, l.drop j, true) := by
  by_cases h : (numOf l).2 = 0 ∨ M < (numOf l).1
  · left
    unfold takeNum
    exact if_pos h
  · right
    refine ⟨(numOf l).1, (numOf l).2, rfl, fun e => h (.inl e), by omega, ?_⟩
    unfold takeNum
    exact if_neg h
theorem takeText_cases (l : List Nat) (M : Nat) : takeText l M = ([], [], false) ∨ ∃ a j, numOf l = (a, j) ∧ j ≠ 0 ∧ a ≤ (l.drop j).length ∧ takeText l M = ((l.drop j).take a, (l.drop j).drop a, true) := by
  obtain ⟨a, j, he⟩ : ∃ a j, numOf l = (a, j) := ⟨_, _, rfl⟩
  by_cases h : j = 0 ∨ M < a
  · exact .inl (takeText_none he h)
  · have e := takeText_some he h
    by_cases h2 : (l.drop j).length < a
    · rw [if_pos h2] at e
      exact .inl e
    · rw [if_neg h2] at e
      exact .inr ⟨a, j, he, fun e => h (.inl e), by omega, e⟩
/-- What isn't right says nothing. -/
theorem takeF_bad {k M : Nat} {l : List Nat} (h : (takeF k M l).2.2.2 = false) : takeF k M l = (0, [], [], false) := by
  unfold takeF at h ⊢
  split at h
  · rename_i hk
    rw [if_pos hk]
    rcases takeNum_cases l 18446744073709551615 with e | ⟨a, j, _, _, _, e⟩
    · rw [e]; rfl
    · rw [e] at h; cases h
  · rename_i hk
    rw [if_neg hk]
    split at h
    · rename_i hk2
      rw [if_pos hk2]
      rcases takeText_cases l M with e | ⟨a, j, _, _, _, e⟩
      · rw [e]
      · rw [e] at h; cases h
    · rename_i hk2
      rw [if_neg hk2]
      split at h
      · rename_i hk3
        rw [if_pos hk3]
        rcases l with _ | ⟨b, r⟩
        · rfl
        · cases h
      · rename_i hk3
        rw [if_neg hk3]
        split at h
        · rename_i hk4
          rw [if_pos hk4]
          rcases l with _ | ⟨b, r⟩
          · rfl
          · unfold takeBool at h ⊢
            by_cases hb : 1 < (takeByte (b :: r)).1
            · rw [if_pos hb]; rfl
            · rw [if_neg hb] at h; cases h
        · rename_i hk4
          rw [if_neg hk4]
          rcases takeNum_cases l M with e | ⟨a, j, _, _, _, e⟩
          · rw [e]
          · rw [e] at h; cases h
theorem wrap_uz_zag {a : Nat} (h : a < 18446744073709551616) : zig (wrap64 ((uz (zag a) : Nat) : Int)) = a := by
  have hz := zag_bd h
  have e : wrap64 ((uz (zag a) : Nat) : Int) = zag a := by
    unfold wrap64 uz
    omega
  rw [e, zig_zag]
/-- What was taken is laid as it stood. -/
theorem take_lay {k M : Nat} {l : List Nat} (hs : ∀ b ∈ l, b < 256) (h : (takeF k M l).2.2.2 = true) : layF k (takeF k M l).1 (takeF k M l).2.1 ++ (takeF k M l).2.2.1 = l := by
  unfold takeF at h ⊢
  unfold layF
  rcases (show k % 5 = 0 ∨ k % 5 = 1 ∨ k % 5 = 2 ∨ k % 5 = 3 ∨ k % 5 = 4 by omega) with hk | hk | hk | hk | hk
  · have n1 : ¬ k % 5 = 1 := by omega
    have n2 : ¬ k % 5 = 2 := by omega
    have n3 : ¬ k % 5 = 3 := by omega
    have n4 : ¬ k % 5 = 4 := by omega
    simp only [if_neg n1, if_neg n2, if_neg n3, if_neg n4] at h ⊢
    rcases takeNum_cases l M with e | ⟨a, j, he, hj, _, e⟩
    · rw [e] at h; cases h
    · rw [e]
      show num a ++ l.drop j = l
      rw [← (numOf_back hs he hj).2.2, List.take_append_drop]
  · simp only [if_pos hk] at h ⊢
    rcases takeNum_cases l 18446744073709551615 with e | ⟨a, j, he, hj, _, e⟩
    · rw [e] at h; cases h
    · rw [e]
      show num (zig (wrap64 ((uz (zag a) : Nat) : Int))) ++ l.drop j = l
      rw [wrap_uz_zag (numOf_back hs he hj).1, ← (numOf_back hs he hj).2.2, List.take_append_drop]
  · have n1 : ¬ k % 5 = 1 := by omega
    simp only [if_neg n1, if_pos hk] at h ⊢
    rcases takeText_cases l M with e | ⟨a, j, he, hj, hl, e⟩
    · rw [e] at h; cases h
    · rw [e]
      show (num ((l.drop j).take a).length ++ (l.drop j).take a) ++ (l.drop j).drop a = l
      rw [List.length_take, Nat.min_eq_left hl, List.append_assoc, List.take_append_drop, ← (numOf_back hs he hj).2.2, List.take_append_drop]
  · have n1 : ¬ k % 5 = 1 := by omega
    have n2 : ¬ k % 5 = 2 := by omega
    simp only [if_neg n1, if_neg n2, if_pos hk] at h ⊢
    rcases l with _ | ⟨b, r⟩
    · cases h
    · show [b % 256] ++ r = b :: r
      rw [Nat.mod_eq_of_lt (hs b (by simp))]
      rfl
  · have n1 : ¬ k % 5 = 1 := by omega
    have n2 : ¬ k % 5 = 2 := by omega
    have n3 : ¬ k % 5 = 3 := by omega
    simp only [if_neg n1, if_neg n2, if_neg n3, if_pos hk] at h ⊢
    rcases l with _ | ⟨b, r⟩
    · cases h
    · unfold takeBool at h ⊢
      by_cases hb : 1 < (takeByte (b :: r)).1
      · rw [if_pos hb] at h; cases h
      · rw [if_neg hb]
        have hb' : ¬ 1 < b := hb
        show [bit (b == 1) % 2] ++ r = b :: r
        rcases (show b = 0 ∨ b = 1 by omega) with rfl | rfl <;> rfl
theorem takeNum_ok (m M : Nat) (r : List Nat) (h1 : m < 18446744073709551616) (h2 : m ≤ M) : takeNum (num m ++ r) M = (m, r, true) := by
  have h3 := numOf_num h1 r
  have h4 := num_pos m
  unfold takeNum
  rw [h3, if_neg (by show ¬ ((num m).length = 0 ∨ M < m); omega)]
  simp
/-- What was laid is taken again. -/
def Again (k M : Nat) (l r : List Nat) : Prop := (takeF k M l).2.2.2 = true ∧ (takeF k M l).2.2.1 = r
theorem again_0 {k N M : Nat} {s r : List Nat} (hk : k % 5 = 0) (hN : N < 18446744073709551616) (hM : N ≤ M) : Again k M (layF k N s ++ r) r := by
  have n1 : ¬ k % 5 = 1 := by omega
  have n2 : ¬ k % 5 = 2 := by omega
  have n3 : ¬ k % 5 = 3 := by omega
  have n4 : ¬ k % 5 = 4 := by omega
  unfold Again takeF layF
  simp only [if_neg n1, if_neg n2, if_neg n3, if_neg n4]
  rw [takeNum_ok N M r hN hM]
  exact ⟨rfl, rfl⟩
theorem takeF_one {k M : Nat} {l : List Nat} (hk : k % 5 = 1) : takeF k M l = (uz (zag (takeNum l 18446744073709551615).1), [], (takeNum l 18446744073709551615).2.1, (takeNum l 18446744073709551615).2.2) := if_pos hk
theorem again_of {k M : Nat} {l r : List Nat} {X a : Nat} {t : Nat × List Nat × Bool} (h : takeF k M l = (X, [], t.2.1, t.2.2)) (e : t = (a, r, true)) : Again k M l r := by
  unfold Again
  rw [h, e]
  exact ⟨rfl, rfl⟩
theorem layF_one {k N : Nat} {s : List Nat} (hk : k % 5 = 1) : layF k N s = num (zig (wrap64 (N : Int))) := if_pos hk
theorem zig_wrap_lt (N : Nat) : zig (wrap64 (N : Int)) ≤ 18446744073709551615 := by
  have hw : -9223372036854775808 ≤ wrap64 (N : Int) ∧ wrap64 (N : Int) < 9223372036854775808 := by unfold wrap64; omega
  have hz := zig_lt hw.1 hw.2
  omega
theorem again_1 {k N M : Nat} {s r : List Nat} (hk : k % 5 = 1) : Again k M (layF k N s ++ r) r := by
  rw [layF_one hk]
  exact again_of (takeF_one hk) (takeNum_ok _ _ r (Nat.lt_succ_of_le (zig_wrap_lt N)) (zig_wrap_lt N))
theorem again_2 {k N M : Nat} {s r : List Nat} (hk : k % 5 = 2) (hM : s.length ≤ M) (hM2 : M < 18446744073709551616) : Again k M (layF k N s ++ r) r := by
  have n1 : ¬ k % 5 = 1 := by omega
  unfold Again takeF layF
  simp only [if_neg n1, if_pos hk]
  have hs : s.length < 18446744073709551616 := by omega
  have h3 := numOf_num hs (s ++ r)
  have h4 := num_pos s.length
  have e : (num s.length ++ (s ++ r)).drop (num s.length).length = s ++ r := List.drop_left
  have e2 := takeText_some (M := M) h3 (by omega)
  rw [e, if_neg (by rw [List.length_append]; omega)] at e2
  rw [List.append_assoc, e2]
  exact ⟨rfl, List.drop_left⟩
theorem again_3 {k N M : Nat} {s r : List Nat} (hk : k % 5 = 3) : Again k M (layF k N s ++ r) r := by
  have n1 : ¬ k % 5 = 1 := by omega
  have n2 : ¬ k % 5 = 2 := by omega
  unfold Again takeF layF
  simp only [if_neg n1, if_neg n2, if_pos hk]
  exact ⟨rfl, rfl⟩
theorem again_4 {k N M : Nat} {s r : List Nat} (hk : k % 5 = 4) : Again k M (layF k N s ++ r) r := by
  have n1 : ¬ k % 5 = 1 := by omega
  have n2 : ¬ k % 5 = 2 := by omega
  have n3 : ¬ k % 5 = 3 := by omega
  have e : takeBool ([N % 2] ++ r) = ((N % 2) == 1, r, true) := if_neg (show ¬ 1 < N % 2 by omega)
  unfold Again takeF layF
  simp only [if_neg n1, if_neg n2, if_neg n3, if_pos hk]
  rw [e]
  exact ⟨rfl, rfl⟩
theorem lay_take {k N M : Nat} {s r : List Nat} (hN : N < 18446744073709551616) (hM : if k % 5 = 2 then s.length ≤ M else N ≤ M) (hM2 : M < 18446744073709551616) : Again k M (layF k N s ++ r) r := by
  rcases (show k % 5 = 0 ∨ k % 5 = 1 ∨ k % 5 = 2 ∨ k % 5 = 3 ∨ k % 5 = 4 by omega) with hk | hk | hk | hk | hk
  · rw [if_neg (by omega)] at hM
    exact again_0 hk hN hM
  · exact again_1 hk
  · rw [if_pos hk] at hM
    exact again_2 hk hM hM2
  · exact again_3 hk
  · exact again_4 hk
/-- How great what is taken may be. -/
theorem takeF_bd {k M : Nat} {l : List Nat} (hs : ∀ b ∈ l, b < 256) : (takeF k M l).1 < 18446744073709551616 ∧ (takeF k M l).2.1.length ≤ l.length ∧ (takeF k M l).2.2.1.length ≤ l.length ∧ (∀ b ∈ (takeF k M l).2.1, b < 256) ∧ (∀ b ∈ (takeF k M l).2.2.1, b < 256) := by
  unfold takeF
  rcases (show k % 5 = 0 ∨ k % 5 = 1 ∨ k % 5 = 2 ∨ k % 5 = 3 ∨ k % 5 = 4 by omega) with hk | hk | hk | hk | hk
  · have n1 : ¬ k % 5 = 1 := by omega
    have n2 : ¬ k % 5 = 2 := by omega
    have n3 : ¬ k % 5 = 3 := by omega
    have n4 : ¬ k % 5 = 4 := by omega
    simp only [if_neg n1, if_neg n2, if_neg n3, if_neg n4]
    rcases takeNum_cases l M with e | ⟨a, j, he, hj, _, e⟩
    · rw [e]; simp
    · rw [e]
      exact ⟨(numOf_back hs he hj).1, by simp, by simp, by simp, small_drop hs j⟩
  · simp only [if_pos hk]
    rcases takeNum_cases l 18446744073709551615 with e | ⟨a, j, he, hj, _, e⟩
    · rw [e]; exact ⟨uz_lt _, by simp, by simp, by simp, by simp⟩
    · rw [e]
      exact ⟨uz_lt _, by simp, by simp, by simp, small_drop hs j⟩
  · have n1 : ¬ k % 5 = 1 := by omega
    simp only [if_neg n1, if_pos hk]
    rcases takeText_cases l M with e | ⟨a, j, he, hj, hl, e⟩
    · rw [e]; simp
    · rw [e]
      exact ⟨by decide, by simp; omega, by simp, small_take (small_drop hs j) a, small_drop (small_drop hs j) a⟩
  · have n1 : ¬ k % 5 = 1 := by omega
    have n2 : ¬ k % 5 = 2 := by omega
    simp only [if_neg n1, if_neg n2, if_pos hk]
    rcases l with _ | ⟨b, r⟩
    · exact ⟨by decide, by simp, by simp [takeByte], by simp, by simp [takeByte]⟩
    · have hb := hs b (by simp)
      exact ⟨by show b < _; omega, by simp, by simp [takeByte], by simp, fun c hc => hs c (by simp; exact .inr hc)⟩
  · have n1 : ¬ k % 5 = 1 := by omega
    have n2 : ¬ k % 5 = 2 := by omega
    have n3 : ¬ k % 5 = 3 := by omega
    simp only [if_neg n1, if_neg n2, if_neg n3, if_pos hk]
    have hbit : ∀ b, bit b < 18446744073709551616 := by intro b; cases b <;> decide
    refine ⟨hbit _, by simp, ?_, by simp, ?_⟩
    · unfold takeBool
      split
      · simp
      · rcases l with _ | ⟨b, r⟩ <;> simp [takeByte]
    · unfold takeBool
      split
      · simp
      · rcases l with _ | ⟨b, r⟩
        · simp [takeByte]
        · exact fun c hc => hs c (by simp; exact .inr hc)
theorem layF_length {k N : Nat} {s : List Nat} (hN : N < 18446744073709551616) (hs : s.length < 18446744073709551616) : (layF k N s).length ≤ 10 + s.length := by
  unfold layF
  split
  · have hw : -9223372036854775808 ≤ wrap64 (N : Int) ∧ wrap64 (N : Int) < 9223372036854775808 := by unfold wrap64; omega
    have := num_length64 (zig_lt hw.1 hw.2)
    omega
  · split
    · have := num_length64 hs
      rw [List.length_append]
      omega
    · split
      · simp; omega
      · split
        · simp; omega
        · have := num_length64 hN
          omega
end Go.Proofs.Yteboemoebnlgaaa
