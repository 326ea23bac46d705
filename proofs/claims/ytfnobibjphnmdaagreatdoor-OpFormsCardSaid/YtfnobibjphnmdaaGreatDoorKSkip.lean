/- What the reference's All goes by: skipping what stands between, byte by byte. -/
import Derived.Test.YtfnobibjphnmdaaGreatDoorKAll
import Derived.Deep.RegionLaw
import Derived.Deep.RegionHeld3
import Derived.Deep.QuietTactic
import Derived.BigQuiet
namespace Go.Proofs.YtfnobibjphnmdaaGreatDoor
open Go.RowKit
set_option linter.unusedSimpArgs false
set_option linter.unusedVariables false
theorem scan_skip {l : List Nat} {k j : Nat} (hk : k ≤ j) (hj : j ≤ l.length) (h : gapL (l.drop k) = j - k + gapL (l.drop j)) : scan (l.drop k) k = scan (l.drop j) j := by
  have e : (l.drop k).drop (gapL (l.drop k)) = (l.drop j).drop (gapL (l.drop j)) := by
    rw [List.drop_drop, List.drop_drop, h]
    congr 1
    omega
  by_cases hend : (l.drop j).length ≤ gapL (l.drop j)
  · rw [scan_end hend, scan_end]
    rw [List.length_drop] at hend ⊢
    omega
  · have hlt : gapL (l.drop k) < (l.drop k).length := by
      rw [List.length_drop] at hend ⊢
      omega
    by_cases hf : (firstL ((l.drop j).drop (gapL (l.drop j)))).1 = 0
    · rw [scan_bad (by omega) hf, scan_bad hlt (by rw [e]; exact hf)]
    · rw [scan_next (by omega) hf, scan_next hlt (by rw [e]; exact hf), ← List.drop_drop, ← List.drop_drop, e, h, show k + (j - k + gapL (l.drop j)) = j + gapL (l.drop j) by omega]
theorem skip_blank {l : List Nat} {k b : Nat} (h : l[k]? = some b) (hb : clsL b = 3) : scan (l.drop k) k = scan (l.drop (k + 1)) (k + 1) := by
  have hlt : k < l.length := by
    rcases Nat.lt_or_ge k l.length with h1 | h1
    · exact h1
    · rw [List.getElem?_eq_none h1] at h; cases h
  have hb2 : b = 32 ∨ b = 9 ∨ b = 10 := by
    unfold clsL at hb
    split at hb
    · cases hb
    · split at hb
      · cases hb
      · split at hb
        · assumption
        · cases hb
  refine scan_skip (by omega) (by omega) ?_
  unfold gapL
  rw [gap_blank h hb2]
  omega
/-- A comment from k on ends at j: a line feed, or the text's end. -/
theorem skip_hash {l : List Nat} {k j : Nat} (h : l[k]? = some 35) (hk : k < j) (hj : j ≤ l.length) (hn : ∀ i, k ≤ i → i < j → l[i]? ≠ some 10) (hend : j = l.length ∨ l[j]? = some 10) : scan (l.drop k) k = scan (l.drop j) j := by
  refine scan_skip (by omega) hj ?_
  unfold gapL
  rw [gap_hash h]
  rcases hend with rfl | h10
  · rw [gapC_all, List.length_drop, List.drop_eq_nil_of_le (Nat.le_refl _)]
    · simp [gapC]; omega
    · intro b hb e
      subst e
      obtain ⟨i, hi⟩ := List.mem_iff_getElem?.1 hb
      have hi2 : i < (l.drop (k + 1)).length := by
        rcases Nat.lt_or_ge i (l.drop (k + 1)).length with h1 | h1
        · exact h1
        · rw [List.getElem?_eq_none h1] at hi; cases hi
      rw [List.length_drop] at hi2
      rw [List.getElem?_drop] at hi
      exact hn (k + 1 + i) (by omega) (by omega) hi
  · rw [gapC_line (o := j - k - 1) (by rw [List.getElem?_drop, ← h10]; congr 1; omega) ?_, List.drop_drop, gap_blank h10 (by omega), show k + 1 + (j - k - 1 + 1) = j + 1 by omega]
    · omega
    · intro i hi e
      rw [List.getElem?_drop] at e
      exact hn (k + 1 + i) (by omega) (by omega) e
/-- No gap. -/
theorem gap_none_at {l : List Nat} {k b : Nat} (h : l[k]? = some b) (hb : clsL b ≠ 3) (h2 : b ≠ 35) : gapL (l.drop k) = 0 := by
  unfold gapL
  refine gap_stop h ?_ h2
  intro h3
  apply hb
  unfold clsL
  rw [if_neg, if_neg, if_pos h3]
  · simp [isDig]; omega
  · simp [isLet]; omega
/-- One token at k. -/
theorem tok_next {l : List Nat} {k : Nat} {acc : List Tok} (hlt : k < l.length) (hg : gapL (l.drop k) = 0) (h : scan l 0 = (scan (l.drop k) k).map (acc ++ ·)) (hk : (firstL (l.drop k)).1 ≠ 0) :
    scan l 0 = (scan (l.drop (k + (firstL (l.drop k)).2)) (k + (firstL (l.drop k)).2)).map ((acc ++ [⟨(firstL (l.drop k)).1, (l.drop k).take (firstL (l.drop k)).2, k⟩]) ++ ·) := by
  have h2 := all_next (by omega) h (by rw [hg]; omega) (by rw [hg]; exact hk)
  rw [hg] at h2
  exact h2
theorem tok_bad {l : List Nat} {k : Nat} {acc : List Tok} (hlt : k < l.length) (hg : gapL (l.drop k) = 0) (h : scan l 0 = (scan (l.drop k) k).map (acc ++ ·)) (hk : (firstL (l.drop k)).1 = 0) : scan l 0 = none := by
  rw [h, scan_bad]
  · rfl
  · rw [hg, List.length_drop]; omega
  · rw [hg]; exact hk
def HashR (l : List Nat) (k : Nat) (i : Value) : Prop := ∃ j : Nat, i = .int .i64 (j : Int) ∧ k ≤ j ∧ j ≤ l.length ∧ ∀ i : Nat, k ≤ i → i < j → l[i]? ≠ some 10
def LdR (l : List Nat) (k : Nat) (i : Value) : Prop := ∃ j : Nat, i = .int .i64 (j : Int) ∧ k ≤ j ∧ j ≤ l.length ∧ runL (l.drop k) = j - k + runL (l.drop j)
theorem srow_below {w wr wd w2 : World} {v : Value} {zs : List ByteArray} (hb : Below w.heap.size w wr) (hd : Below wr.heap.size wr wd) (h : SRow wd w2 v zs) : Below w.heap.size w w2 ∧ Below wr.heap.size wr w2 := by
  obtain ⟨_, _, _, _, _, h⟩ := h
  have h2 := below_on hd h
  exact ⟨below_on hb h2, h2⟩
theorem ride_alloc {a x : World} (h : Below a.heap.size a x) (o : Obj) : Below a.heap.size a (x.alloc o) := h.alloc h.size o
theorem ride_drew {a x : World} (h : Below a.heap.size a x) : Below a.heap.size a x.drew := h.trans ⟨rfl, rfl, rfl, Nat.le_refl _, fun _ _ => rfl⟩
theorem ride_call {a x y : World} (hb : Below x.heap.size x y) (h : Below a.heap.size a x) : Below a.heap.size a y := below_on h hb
theorem first_two {l : List Nat} (hr : runL l = 0) (h2 : 2 ≤ l.length) (h : inL (l.take 2) signsL = true) : firstL l = (4, 2) := by
  have e : signL l = 2 := if_pos ⟨of_decide_eq_true h, h2⟩
  unfold firstL
  rw [if_pos hr, e]
  rfl
theorem first_one {l : List Nat} (hr : runL l = 0) (h2 : inL (l.take 2) signsL = false ∨ l.length < 2) (h : inL (l.take 1) signsL = true) : firstL l = (4, 1) := by
  have e : signL l = 1 := by
    unfold signL
    rw [if_neg, if_pos (of_decide_eq_true h)]
    rintro ⟨h3, h4⟩
    rcases h2 with h2 | h2
    · exact of_decide_eq_false h2 h3
    · omega
  unfold firstL
  rw [if_pos hr, e]
  rfl
theorem first_none {l : List Nat} (hr : runL l = 0) (h2 : inL (l.take 2) signsL = false ∨ l.length < 2) (h : inL (l.take 1) signsL = false) : firstL l = (0, 0) := by
  have e : signL l = 0 := by
    unfold signL
    rw [if_neg, if_neg (of_decide_eq_false h)]
    rintro ⟨h3, h4⟩
    rcases h2 with h2 | h2
    · exact of_decide_eq_false h2 h3
    · omega
  unfold firstL
  rw [if_pos hr, e]
  rfl
/-- A run of letters and digits, from k to j. -/
theorem ld_piece {s : ByteArray} {k j b : Nat} (hkj : k ≤ j) (hj : j ≤ s.size) (hr : runL ((str s).drop k) = j - k + runL ((str s).drop j)) (hz : runL ((str s).drop j) = 0) (hb : (str s)[k]? = some b) (hld : isLD b = true) :
    str (s.extract k j) = ((str s).drop k).take (runL ((str s).drop k)) ∧ (s.extract k j).size = j - k ∧ runL ((str s).drop k) ≠ 0 := by
  have e : str (s.extract k j) = ((str s).drop k).take (j - k) := str_extract s k j
  refine ⟨by rw [e, hr, hz, Nat.add_zero], ?_, ?_⟩
  · rw [← str_length, e, List.length_take, List.length_drop, str_length]
    omega
  · rw [runL_at hb, if_pos hld]
    omega
end Go.Proofs.YtfnobibjphnmdaaGreatDoor
