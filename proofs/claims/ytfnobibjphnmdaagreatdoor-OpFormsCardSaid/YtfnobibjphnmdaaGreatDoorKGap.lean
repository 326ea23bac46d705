/- Contracts: how many bytes stand ahead of the first token. -/
import Derived.Test.YtfnobibjphnmdaaGreatDoorKRun
import Derived.Test.YtfnobibjphnmdaaGreatDoorKSh
namespace Go.Proofs.YtfnobibjphnmdaaGreatDoor
open Go.RowKit
set_option linter.unusedSimpArgs false
set_option linter.unusedVariables false
theorem drop_cons {l : List Nat} {k b : Nat} (h : l[k]? = some b) : l.drop k = b :: l.drop (k + 1) := by
  have hk : k < l.length := by
    rcases Nat.lt_or_ge k l.length with h1 | h1
    · exact h1
    · rw [List.getElem?_eq_none h1] at h; cases h
  rw [List.getElem?_eq_getElem hk] at h
  injection h with h
  rw [List.drop_eq_getElem_cons hk, h]
theorem gap_blank {l : List Nat} {k b : Nat} (h : l[k]? = some b) (hb : b = 32 ∨ b = 9 ∨ b = 10) : gapC false (l.drop k) = gapC false (l.drop (k + 1)) + 1 := by
  rw [drop_cons h]; simp only [gapC]; rw [if_pos hb]
theorem gap_stop {l : List Nat} {k b : Nat} (h : l[k]? = some b) (hb : ¬ (b = 32 ∨ b = 9 ∨ b = 10)) (h2 : b ≠ 35) : gapC false (l.drop k) = 0 := by
  rw [drop_cons h]; simp only [gapC]; rw [if_neg hb, if_neg h2]
theorem gap_hash {l : List Nat} {k : Nat} (h : l[k]? = some 35) : gapC false (l.drop k) = gapC true (l.drop (k + 1)) + 1 := by
  rw [drop_cons h]; simp only [gapC]; rw [if_neg (by decide), if_pos trivial]
theorem gapC_all : ∀ l : List Nat, (∀ b ∈ l, b ≠ 10) → gapC true l = l.length
  | [], _ => rfl
  | b :: l, h => by
    simp only [gapC, List.length_cons]
    rw [show decide (b ≠ 10) = true from decide_eq_true (h b (by simp)), gapC_all l fun c hc => h c (by simp [hc])]
theorem gapC_line {l : List Nat} {o : Nat} (h : l[o]? = some 10) (hn : ∀ j, j < o → l[j]? ≠ some 10) : gapC true l = o + 1 + gapC false (l.drop (o + 1)) := by
  have hlt : o < l.length := by
    rcases Nat.lt_or_ge o l.length with h1 | h1
    · exact h1
    · rw [List.getElem?_eq_none h1] at h; cases h
  rw [gapC_true (k := o) fun j hj => ⟨l[j]'(by omega), List.getElem?_eq_getElem (by omega), fun e => hn j hj (by rw [List.getElem?_eq_getElem (by omega), e])⟩, drop_cons h]
  simp only [gapC]
  rw [show decide (¬ (10 : Nat) = 10) = false from rfl]
  omega
theorem str_at_iff (s : ByteArray) (k c : Nat) (hc : c < 256) : (str s)[k]? = some c ↔ s.data.toList[k]? = some (UInt8.ofNat c) := by
  unfold str
  rw [List.getElem?_map]
  constructor
  · intro h
    obtain ⟨u, hu, he⟩ := Option.map_eq_some_iff.1 h
    rw [hu]
    congr 1
    apply UInt8.toNat_inj.1
    rw [he, UInt8.toNat_ofNat_of_lt' (by simpa using hc)]
  · intro h
    rw [h]
    simp
    omega
/-- What IndexByte says of a comment. -/
theorem gap_none {s : ByteArray} {k : Nat} (hk : k ≤ s.size) (h35 : (str s)[k]? = some 35) (h : Lib.indexByte (s.extract k s.size).data.toList 10 = -1) : gapC false ((str s).drop k) = s.size - k := by
  have h2 := Lib.indexByte_none h
  have he : str (s.extract k s.size) = (str s).drop k := by rw [str_extract, List.take_of_length_le]; rw [List.length_drop, str_length]; exact Nat.le_refl _
  have hlt : k < s.size := by
    rcases Nat.lt_or_ge k s.size with h1 | h1
    · exact h1
    · rw [List.getElem?_eq_none (by rw [str_length]; exact h1)] at h35; cases h35
  rw [gap_hash h35, gapC_all]
  · rw [List.length_drop, str_length]
    omega
  · intro b hb e
    subst e
    obtain ⟨j, hj⟩ := List.mem_iff_getElem?.1 hb
    rw [List.getElem?_drop] at hj
    refine h2 (j + 1) ?_
    have := (str_at_iff (s.extract k s.size) (j + 1) 10 (by decide)).1 (by rw [he, List.getElem?_drop, ← hj]; congr 1; omega)
    exact this
theorem gap_some {s : ByteArray} {k o : Nat} (hk : k ≤ s.size) (h35 : (str s)[k]? = some 35) (h : Lib.indexByte (s.extract k s.size).data.toList 10 = (o : Int)) : gapC false ((str s).drop k) = o + 1 + gapC false ((str s).drop (k + o + 1)) ∧ k + o + 1 ≤ s.size := by
  obtain ⟨h1, h2⟩ := Lib.indexByte_some h
  have he : str (s.extract k s.size) = (str s).drop k := by rw [str_extract, List.take_of_length_le]; rw [List.length_drop, str_length]; exact Nat.le_refl _
  have h3 := (str_at_iff (s.extract k s.size) o 10 (by decide)).2 h1
  rw [he, List.getElem?_drop] at h3
  have hlt : k + o < s.size := by
    rcases Nat.lt_or_ge (k + o) s.size with h1 | h1
    · exact h1
    · rw [List.getElem?_eq_none (by rw [str_length]; exact h1)] at h3; cases h3
  rcases o with _ | o
  · rw [Nat.add_zero, h35] at h3
    cases h3
  · refine ⟨?_, by omega⟩
    rw [gap_hash h35, gapC_line (o := o) (by rw [List.getElem?_drop, ← h3]; congr 1; omega) ?_, List.drop_drop]
    · rw [show k + 1 + (o + 1) = k + (o + 1) + 1 by omega]
      omega
    · intro j hj e
      rw [List.getElem?_drop] at e
      refine h2 (j + 1) (by omega) ?_
      exact (str_at_iff (s.extract k s.size) (j + 1) 10 (by decide)).1 (by rw [he, List.getElem?_drop, ← e]; congr 1; omega)
def GapR (s : ByteArray) (i : Value) : Prop := ∃ k : Nat, i = .int .i64 (k : Int) ∧ k ≤ s.size ∧ gapL (str s) = k + gapC false ((str s).drop k)
end Go.Proofs.YtfnobibjphnmdaaGreatDoor
