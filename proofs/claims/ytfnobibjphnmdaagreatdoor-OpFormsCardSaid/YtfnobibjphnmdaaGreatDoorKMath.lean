/- The tokens of a text, as a plain function: letters, digits, names, numbers, signs, what stands between. -/
namespace Go.Proofs.YtfnobibjphnmdaaGreatDoor

def isLet (c : Nat) : Bool := decide (97 ≤ c ∧ c ≤ 122) || decide (65 ≤ c ∧ c ≤ 90) || decide (c = 95)
def isDig (c : Nat) : Bool := decide (48 ≤ c ∧ c ≤ 57)
def isLD (c : Nat) : Bool := isLet c || isDig c
/-- How many bytes at the front may stand in a name. -/
def runL : List Nat → Nat
  | [] => 0
  | b :: l => if isLD b then runL l + 1 else 0
/-- How many bytes stand ahead of the first token; in a comment first, or not. -/
def gapC : Bool → List Nat → Nat
  | _, [] => 0
  | true, b :: l => gapC (decide (b ≠ 10)) l + 1
  | false, b :: l => if b = 32 ∨ b = 9 ∨ b = 10 then gapC false l + 1 else if b = 35 then gapC true l + 1 else 0
def gapL (l : List Nat) : Nat := gapC false l
def wordsL : List (List Nat) := [[98, 111, 111, 108], [100, 111], [101, 108, 115, 101], [102, 97, 108, 115, 101], [102, 117, 110, 99], [105, 102], [105, 110, 116], [108, 101, 116], [109, 111, 100, 117, 108, 101], [112, 114, 105, 110, 116], [114, 101, 97, 100], [114, 101, 116, 117, 114, 110], [116, 114, 117, 101], [119, 104, 105, 108, 101]]
def signsL : List (List Nat) := [[40], [41], [123], [125], [46], [44], [59], [61], [33], [43], [45], [42], [47], [37], [60], [60, 61], [62], [62, 61], [61, 61], [33, 61], [38, 38], [124, 124]]
/-- How long the sign at the front is; 0: there is none. -/
def signL (l : List Nat) : Nat := if l.take 2 ∈ signsL ∧ 2 ≤ l.length then 2 else if l.take 1 ∈ signsL then 1 else 0
def nameL (s : List Nat) : Bool := decide (1 ≤ s.length) && decide (s.length ≤ 64) && isLet (s.headD 0) && decide (runL s = s.length)
/-- A number's value, digit by digit. -/
def valL (s : List Nat) : Nat := s.foldl (fun n b => 10 * n + (b - 48)) 0
def digL (s : List Nat) : Bool := s.all isDig
def numL (s : List Nat) : Bool := decide (1 ≤ s.length) && decide (s.length ≤ 19) && !(decide (s.headD 0 = 48) && decide (1 < s.length)) && digL s && decide (valL s ≤ 9223372036854775807)
/-- What the token at the front is, and how long: 0: there is none. -/
def firstL (l : List Nat) : Nat × Nat :=
  if runL l = 0 then (if signL l = 0 then (0, 0) else (4, signL l))
  else if l.take (runL l) ∈ wordsL then (3, runL l)
  else if nameL (l.take (runL l)) then (1, runL l)
  else if numL (l.take (runL l)) then (2, runL l)
  else (0, 0)
structure Tok where
  kind : Nat
  text : List Nat
  at_ : Nat
deriving DecidableEq
def scanF : Nat → List Nat → Nat → Option (List Tok)
  | 0, _, _ => some []
  | f + 1, l, at_ =>
    if l.length ≤ gapL l then some []
    else if (firstL (l.drop (gapL l))).1 = 0 then none
    else (scanF f (l.drop (gapL l + (firstL (l.drop (gapL l))).2)) (at_ + gapL l + (firstL (l.drop (gapL l))).2)).map (⟨(firstL (l.drop (gapL l))).1, (l.drop (gapL l)).take (firstL (l.drop (gapL l))).2, at_ + gapL l⟩ :: ·)
/-- The tokens of a text that begins at a place; none: it is refused. -/
def scan (l : List Nat) (at_ : Nat) : Option (List Tok) := scanF l.length l at_

theorem gapC_le : ∀ (c : Bool) (l : List Nat), gapC c l ≤ l.length
  | c, [] => by simp [gapC]
  | true, b :: l => by have := gapC_le (decide (b ≠ 10)) l; simp only [gapC, List.length_cons]; omega
  | false, b :: l => by
    have h1 := gapC_le false l
    have h2 := gapC_le true l
    simp only [gapC, List.length_cons]
    split
    · omega
    · split <;> omega
theorem gapL_le (l : List Nat) : gapL l ≤ l.length := gapC_le _ l
theorem runL_le : ∀ l : List Nat, runL l ≤ l.length
  | [] => by simp [runL]
  | b :: l => by
    have := runL_le l
    simp only [runL, List.length_cons]
    split <;> omega
theorem signL_le (l : List Nat) : signL l ≤ l.length := by
  unfold signL
  split
  · omega
  · split
    · rename_i h
      rcases l with _ | ⟨b, l⟩
      · simp [signsL] at h
      · simp
    · omega
theorem firstL_le (l : List Nat) : (firstL l).2 ≤ l.length := by
  have h1 := runL_le l
  have h2 := signL_le l
  unfold firstL
  repeat' split
  all_goals first | exact h1 | exact h2 | exact Nat.zero_le _
theorem firstL_pos (l : List Nat) (h : (firstL l).1 ≠ 0) : 1 ≤ (firstL l).2 := by
  revert h
  unfold firstL
  repeat' split
  all_goals first | (intro h; exact absurd rfl h) | (intro _; show 1 ≤ signL l; omega) | (intro _; show 1 ≤ runL l; omega)
theorem scanF_up : ∀ (f : Nat) (l : List Nat) (a g : Nat), l.length ≤ f → f ≤ g → scanF g l a = scanF f l a
  | 0, l, a, g, h, _ => by
    obtain rfl : l = [] := List.length_eq_zero_iff.1 (by omega)
    cases g with
    | zero => rfl
    | succ g => simp [scanF]
  | f + 1, l, a, 0, h, hg => by omega
  | f + 1, l, a, g + 1, h, hg => by
    unfold scanF
    by_cases h1 : l.length ≤ gapL l
    · rw [if_pos h1, if_pos h1]
    · rw [if_neg h1, if_neg h1]
      by_cases h2 : (firstL (l.drop (gapL l))).1 = 0
      · rw [if_pos h2, if_pos h2]
      · rw [if_neg h2, if_neg h2]
        have hp := firstL_pos _ h2
        rw [scanF_up f _ _ g (by rw [List.length_drop]; omega) (by omega)]
theorem scanF_succ (n : Nat) (l : List Nat) (a : Nat) : scanF (n + 1) l a = if l.length ≤ gapL l then some []
    else if (firstL (l.drop (gapL l))).1 = 0 then none
    else (scanF n (l.drop (gapL l + (firstL (l.drop (gapL l))).2)) (a + gapL l + (firstL (l.drop (gapL l))).2)).map (⟨(firstL (l.drop (gapL l))).1, (l.drop (gapL l)).take (firstL (l.drop (gapL l))).2, a + gapL l⟩ :: ·) := rfl
/-- One step. -/
theorem scan_end {l : List Nat} {a : Nat} (h : l.length ≤ gapL l) : scan l a = some [] := by
  unfold scan
  cases hl : l.length with
  | zero => rfl
  | succ n => unfold scanF; rw [if_pos h]
theorem scan_bad {l : List Nat} {a : Nat} (h : gapL l < l.length) (h2 : (firstL (l.drop (gapL l))).1 = 0) : scan l a = none := by
  unfold scan
  cases hl : l.length with
  | zero => omega
  | succ n => unfold scanF; rw [if_neg (by omega), if_pos h2]
theorem scan_next {l : List Nat} {a : Nat} (h : gapL l < l.length) (h2 : (firstL (l.drop (gapL l))).1 ≠ 0) :
    scan l a = (scan (l.drop (gapL l + (firstL (l.drop (gapL l))).2)) (a + gapL l + (firstL (l.drop (gapL l))).2)).map (⟨(firstL (l.drop (gapL l))).1, (l.drop (gapL l)).take (firstL (l.drop (gapL l))).2, a + gapL l⟩ :: ·) := by
  have hp := firstL_pos _ h2
  unfold scan
  cases hl : l.length with
  | zero => omega
  | succ n =>
    rw [scanF_succ, if_neg (by omega), if_neg h2, scanF_up _ _ _ n (Nat.le_refl _) (by rw [List.length_drop]; omega)]
/-- A gap's bytes may be left out, one by one. -/
theorem gapC_true {l : List Nat} {k : Nat} (h : ∀ j, j < k → ∃ b, l[j]? = some b ∧ b ≠ 10) : gapC true l = k + gapC true (l.drop k) := by
  induction k generalizing l with
  | zero => simp
  | succ k ih =>
    obtain ⟨b, hb, hne⟩ := h 0 (by omega)
    rcases l with _ | ⟨c, l⟩
    · cases hb
    · simp at hb
      subst hb
      simp only [gapC, List.drop_succ_cons]
      rw [show decide (c ≠ 10) = true from decide_eq_true hne, ih (fun j hj => by simpa using h (j + 1) (by omega))]
      omega
end Go.Proofs.YtfnobibjphnmdaaGreatDoor
