/- Operations as plain functions: their words, their bytes, what is read of a line, and that each is read again. -/
import Derived.Test.YtfnobibjphnmdaaGreatDoorKDec
import Derived.Test.YtfnobibjphnmdaaGreatDoorKName
import Derived.Test.YtfnobibjphnmdaaGreatDoorKJoin
import Derived.Test.YtfnobibjphnmdaaGreatDoorTpText
import Derived.Lib.ParseIntB
namespace Go.Proofs.YtfnobibjphnmdaaGreatDoor

/-- The words of the kinds. -/
def opWords : List (List Nat) := [[114, 101, 110, 97, 109, 101, 45, 109, 111, 100, 117, 108, 101], [114, 101, 110, 97, 109, 101, 45, 102, 117, 110, 99], [114, 101, 110, 97, 109, 101, 45, 112, 97, 114, 97, 109], [114, 101, 110, 97, 109, 101, 45, 108, 101, 116], [109, 111, 118, 101, 45, 102, 117, 110, 99], [101, 120, 116, 114, 97, 99, 116, 45, 108, 101, 116], [105, 110, 108, 105, 110, 101, 45, 108, 101, 116], [101, 120, 116, 114, 97, 99, 116, 45, 102, 117, 110, 99], [105, 110, 108, 105, 110, 101, 45, 99, 97, 108, 108], [97, 100, 100, 45, 109, 111, 100, 117, 108, 101], [100, 114, 111, 112, 45, 109, 111, 100, 117, 108, 101], [100, 114, 111, 112, 45, 102, 117, 110, 99], [102, 108, 105, 112, 45, 105, 102], [115, 119, 97, 112, 45, 112, 97, 114, 116, 115]]
def wordK (k : Nat) : List Nat := ([] :: opWords).getD k []
def aK (k : Nat) : Bool := !decide (k = 10)
def bK (k : Nat) : Bool := decide (k = 5) || decide (k = 8)
def nK (k : Nat) : Bool := decide (k ∈ [1, 2, 3, 4, 6, 8, 10])
def isNm (l : List Nat) : Bool := nameL l && !inL l wordsL
/-- May it be? -/
def rightO (k a b : Nat) (s : List Nat) : Bool := decide (1 ≤ k ∧ k ≤ 14) && (decide (a ≠ 0) == aK k) && (decide (b ≠ 0) == bK k) && (if nK k then isNm s else decide (s = []))
def optL (c : Bool) (l : List Nat) : List (List Nat) := if c then [l] else []
def partsO (k a b : Nat) (s : List Nat) : List (List Nat) := wordK k :: (optL (aK k) (decL a) ++ optL (bK k) (decL b) ++ optL (nK k) s)
def textO (k a b : Nat) (s : List Nat) : List Nat := joinT (partsO k a b s)
def bytesO (k a b : Nat) (s : List Nat) : List Nat := [k] ++ num a ++ num b ++ (num s.length ++ s)
theorem rightO_kind {k a b : Nat} {s : List Nat} (h : rightO k a b s = true) : 1 ≤ k ∧ k ≤ 14 := by
  unfold rightO at h
  simp only [Bool.and_eq_true, decide_eq_true_eq] at h
  exact h.1.1.1
theorem rightO_a {k a b : Nat} {s : List Nat} (h : rightO k a b s = true) : decide (a ≠ 0) = aK k := by
  unfold rightO at h
  simp only [Bool.and_eq_true, beq_iff_eq] at h
  exact h.1.1.2
theorem rightO_b {k a b : Nat} {s : List Nat} (h : rightO k a b s = true) : decide (b ≠ 0) = bK k := by
  unfold rightO at h
  simp only [Bool.and_eq_true, beq_iff_eq] at h
  exact h.1.2
theorem rightO_n {k a b : Nat} {s : List Nat} (h : rightO k a b s = true) : if nK k = true then isNm s = true else s = [] := by
  unfold rightO at h
  simp only [Bool.and_eq_true] at h
  have := h.2
  split at this
  · rw [if_pos (by assumption)]; exact this
  · rw [if_neg (by assumption)]; simpa using this
/-- What is cut off at the first blank. -/
def splitS : Nat → List Nat → List (List Nat)
  | 0, l => [l]
  | k + 1, l => if 32 ∈ l then l.takeWhile (· != 32) :: splitS k (l.drop ((l.takeWhile (· != 32)).length + 1)) else [l]
theorem takeW_at (x r : List Nat) (h : 32 ∉ x) : (x ++ 32 :: r).takeWhile (· != 32) = x := by
  induction x with
  | nil => simp
  | cons a x ih =>
    have ha : a ≠ 32 := fun e => h (by simp [e])
    rw [List.cons_append, List.takeWhile_cons, if_pos (by simpa using ha), ih fun e => h (List.mem_cons_of_mem _ e)]
theorem drop_at (x r : List Nat) : (x ++ 32 :: r).drop (x.length + 1) = r := by
  induction x with
  | nil => rfl
  | cons a x ih => exact ih
theorem splitS_join : ∀ (ps : List (List Nat)) (K : Nat), ps ≠ [] → ps.length ≤ K + 1 → (∀ p ∈ ps, 32 ∉ p) → splitS K (joinT ps) = ps
  | [], _, h, _, _ => absurd rfl h
  | [x], K, _, _, h => by
    have h1 : 32 ∉ x := h x (by simp)
    cases K with
    | zero => rfl
    | succ K => show splitS (K + 1) x = [x]; unfold splitS; rw [if_neg h1]
  | x :: y :: r, 0, _, hl, _ => by simp at hl
  | x :: y :: r, K + 1, _, hl, h => by
    show splitS (K + 1) (x ++ 32 :: joinT (y :: r)) = _
    unfold splitS
    rw [if_pos (by simp), takeW_at _ _ (h x (by simp)), drop_at, splitS_join (y :: r) K (by simp) (by simp at hl ⊢; omega) fun p hp => h p (List.mem_cons_of_mem _ hp)]
theorem dig_no32 {l : List Nat} (h : digL l = true) : 32 ∉ l := fun e => by
  have := List.all_eq_true.1 h 32 e
  revert this; decide
theorem nm_no32 {l : List Nat} (h : isNm l = true) : 32 ∉ l := fun e => by
  unfold isNm nameL at h
  simp only [Bool.and_eq_true, decide_eq_true_eq] at h
  obtain ⟨j, hj⟩ := List.getElem?_of_mem e
  have := runL_all h.1.2 j 32 hj
  revert this; decide
theorem word_no32 : ∀ k, k ≤ 14 → 32 ∉ wordK k := by decide
/-- The number that a part says; 0: none. -/
def parseN (l : List Nat) : Nat := match Lib.parseUintB 64 (l.map UInt8.ofNat) with | .ok u => u | _ => 0
def kindL (l : List Nat) : Nat := ((List.range 15).find? fun k => decide (wordK k = l)).getD 0
theorem kindL_word : ∀ k, k ≤ 14 → kindL (wordK k) = k := by decide
theorem kindL_le (l : List Nat) : kindL l ≤ 14 := by
  unfold kindL
  cases h : (List.range 15).find? fun k => decide (wordK k = l) with
  | none => simp
  | some k => have := List.mem_of_find?_eq_some h; simp at this ⊢; omega
/-- What a line's parts say: a kind, two numbers, a name, what each takes. -/
def headP (ps : List (List Nat)) : List Nat := ps.headD []
def readK (ps : List (List Nat)) : Nat := kindL (headP ps)
def restA (ps : List (List Nat)) : List (List Nat) := ps.drop 1
def restB (ps : List (List Nat)) : List (List Nat) := if aK (readK ps) then (restA ps).drop 1 else restA ps
def restN (ps : List (List Nat)) : List (List Nat) := if bK (readK ps) then (restB ps).drop 1 else restB ps
def readA (ps : List (List Nat)) : Nat := if aK (readK ps) then parseN (headP (restA ps)) else 0
def readB (ps : List (List Nat)) : Nat := if bK (readK ps) then parseN (headP (restB ps)) else 0
def readN (ps : List (List Nat)) : List Nat := if nK (readK ps) then headP (restN ps) else []
theorem parseM_ok : ∀ (l : List Nat) (acc : Nat), digL l = true → l.foldl (fun n b => 10 * n + (b - 48)) acc < 18446744073709551616 → Lib.parseUintM (2 ^ 64 - 1) acc (l.map UInt8.ofNat) = .ok (l.foldl (fun n b => 10 * n + (b - 48)) acc)
  | [], acc, _, _ => rfl
  | b :: l, acc, hd, hv => by
    have hb : isDig b = true := List.all_eq_true.1 hd b (by simp)
    have hl : digL l = true := List.all_eq_true.2 fun x hx => List.all_eq_true.1 hd x (List.mem_cons_of_mem _ hx)
    have hb2 : 48 ≤ b ∧ b ≤ 57 := by simpa [isDig] using hb
    have ht : (UInt8.ofNat b).toNat = b := by rw [UInt8.toNat_ofNat']; omega
    have hmono : ∀ (l : List Nat) (a : Nat), a ≤ l.foldl (fun n b => 10 * n + (b - 48)) a := by
      intro l
      induction l with
      | nil => intro a; exact Nat.le_refl _
      | cons c l ih => intro a; exact Nat.le_trans (by omega) (ih (10 * a + (c - 48)))
    have h1 := hmono l (10 * acc + (b - 48))
    rw [List.foldl_cons] at hv ⊢
    rw [List.map_cons]
    unfold Lib.parseUintM
    rw [ht, if_pos hb2, if_neg (by omega), if_neg (by omega), show acc * 10 + (b - 48) = 10 * acc + (b - 48) by omega]
    exact parseM_ok l _ hl hv
theorem parseN_dec {a : Nat} (h : a < 18446744073709551616) : parseN (decL a) = a := by
  have hp := decL_pos a
  have hv := decL_val a
  have hd := decL_dig a
  unfold valL at hv
  unfold parseN Lib.parseUintB
  rw [if_neg (by intro e; have := congrArg List.length e; simp at this; rw [this] at hp; simp at hp), parseM_ok _ _ hd (by rw [hv]; exact h)]
  exact hv
theorem partsO_no32 {k a b : Nat} {s : List Nat} (h : rightO k a b s = true) : ∀ p ∈ partsO k a b s, 32 ∉ p := by
  intro p hp
  have hk := rightO_kind h
  have hn := rightO_n h
  unfold partsO optL at hp
  rcases List.mem_cons.1 hp with rfl | hp
  · exact word_no32 k hk.2
  · rcases List.mem_append.1 hp with hp | hp
    · rcases List.mem_append.1 hp with hp | hp
      · split at hp
        · simp at hp; subst hp; exact dig_no32 (decL_dig a)
        · simp at hp
      · split at hp
        · simp at hp; subst hp; exact dig_no32 (decL_dig b)
        · simp at hp
    · split at hp
      · simp at hp; subst hp; rw [if_pos (by assumption)] at hn; exact nm_no32 hn
      · simp at hp
theorem partsO_len {k a b : Nat} {s : List Nat} : (partsO k a b s).length ≤ 4 := by
  unfold partsO optL
  split <;> split <;> split <;> simp
theorem readO_text {k a b : Nat} {s : List Nat} (h : rightO k a b s = true) (ha : a < 18446744073709551616) (hb : b < 18446744073709551616) :
    readK (splitS 3 (textO k a b s)) = k ∧ readA (splitS 3 (textO k a b s)) = a ∧ readB (splitS 3 (textO k a b s)) = b ∧ readN (splitS 3 (textO k a b s)) = s := by
  have hs : splitS 3 (textO k a b s) = partsO k a b s := splitS_join _ 3 (by simp [partsO]) partsO_len (partsO_no32 h)
  rw [hs]
  have hk := rightO_kind h
  have h1 := rightO_a h
  have h2 := rightO_b h
  have hn := rightO_n h
  have hK : readK (partsO k a b s) = k := kindL_word k hk.2
  have hpa := parseN_dec ha
  have hpb := parseN_dec hb
  unfold readA readB readN restN restB
  rw [hK]
  unfold restA headP partsO optL
  rcases hA : aK k with _ | _ <;> rcases hB : bK k with _ | _ <;> rcases hN : nK k with _ | _ <;> rw [hA] at h1 <;> rw [hB] at h2 <;> rw [hN] at hn <;> simp at h1 h2 hn <;> simp [hpa, hpb, h1, h2, hn]
/-- Texts tell the operations. -/
theorem textO_inj {k a b k2 a2 b2 : Nat} {s s2 : List Nat} (h : rightO k a b s = true) (h2 : rightO k2 a2 b2 s2 = true) (ha : a < 18446744073709551616) (hb : b < 18446744073709551616) (ha2 : a2 < 18446744073709551616) (hb2 : b2 < 18446744073709551616)
    (he : textO k a b s = textO k2 a2 b2 s2) : k = k2 ∧ a = a2 ∧ b = b2 ∧ s = s2 := by
  have x := readO_text h ha hb
  have y := readO_text h2 ha2 hb2
  rw [he] at x
  exact ⟨x.1.symm.trans y.1, x.2.1.symm.trans y.2.1, x.2.2.1.symm.trans y.2.2.1, x.2.2.2.symm.trans y.2.2.2⟩
/-- What bytes say: a kind, two numbers, a name; is that all that there is? -/
def pK (l : List Nat) : Nat := (takeByte l).1
def pl1 (l : List Nat) : List Nat := (takeByte l).2.1
def pA (l : List Nat) : Nat := (takeNum (pl1 l) 18446744073709551615).1
def pl2 (l : List Nat) : List Nat := (takeNum (pl1 l) 18446744073709551615).2.1
def pB (l : List Nat) : Nat := (takeNum (pl2 l) 18446744073709551615).1
def pl3 (l : List Nat) : List Nat := (takeNum (pl2 l) 18446744073709551615).2.1
def pN (l : List Nat) : List Nat := (takeText (pl3 l) 64).1
def pl4 (l : List Nat) : List Nat := (takeText (pl3 l) 64).2.1
def pOk (l : List Nat) : Bool := (takeByte l).2.2 && (takeNum (pl1 l) 18446744073709551615).2.2 && (takeNum (pl2 l) 18446744073709551615).2.2 && (takeText (pl3 l) 64).2.2 && decide (pl4 l = [])
theorem takeNum_num {n : Nat} (r : List Nat) (h : n < 18446744073709551616) : takeNum (num n ++ r) 18446744073709551615 = (n, r, true) := by
  have hp := num_pos n
  unfold takeNum
  rw [numOf_num h r, if_neg (by simp only; omega)]
  simp
theorem isNm_len {s : List Nat} (h : isNm s = true) : s.length ≤ 64 := by
  unfold isNm nameL at h
  simp only [Bool.and_eq_true, decide_eq_true_eq] at h
  exact h.1.1.1.2
theorem rightO_len {k a b : Nat} {s : List Nat} (h : rightO k a b s = true) : s.length ≤ 64 := by
  have hn := rightO_n h
  split at hn
  · exact isNm_len hn
  · rw [hn]; simp
theorem parse_bytes {k a b : Nat} {s : List Nat} (hs : s.length ≤ 64) (ha : a < 18446744073709551616) (hb : b < 18446744073709551616) :
    pK (bytesO k a b s) = k ∧ pA (bytesO k a b s) = a ∧ pB (bytesO k a b s) = b ∧ pN (bytesO k a b s) = s ∧ pOk (bytesO k a b s) = true := by
  have e1 : pl1 (bytesO k a b s) = num a ++ (num b ++ (num s.length ++ s)) := by simp [pl1, bytesO, takeByte]
  have e2 : pl2 (bytesO k a b s) = num b ++ (num s.length ++ s) := by unfold pl2; rw [e1, takeNum_num _ ha]
  have e3 : pl3 (bytesO k a b s) = num s.length ++ s := by unfold pl3; rw [e2, takeNum_num _ hb]
  have hn : takeNum (num s.length ++ s) 64 = (s.length, s, true) := by
    have hp := num_pos s.length
    unfold takeNum
    rw [numOf_num (by omega) s, if_neg (by simp only; omega)]
    simp
  have ht : takeText (num s.length ++ s) 64 = (s, [], true) := by
    unfold takeText
    rw [hn, if_neg (by simp)]
    simp
  refine ⟨by simp [pK, bytesO, takeByte], ?_, ?_, ?_, ?_⟩
  · unfold pA; rw [e1, takeNum_num _ ha]
  · unfold pB; rw [e2, takeNum_num _ hb]
  · unfold pN; rw [e3, ht]
  · unfold pOk pl4; rw [e1, e2, e3, takeNum_num _ ha, takeNum_num _ hb, ht]
    simp [bytesO, takeByte]
theorem takeNum_back {l : List Nat} {most : Nat} (hs : ∀ b ∈ l, b < 256) (h : (takeNum l most).2.2 = true) : (takeNum l most).1 < 18446744073709551616 ∧ (takeNum l most).1 ≤ most ∧ l = num (takeNum l most).1 ++ (takeNum l most).2.1 := by
  unfold takeNum at h ⊢
  split at h
  · simp at h
  · rename_i hc
    rw [if_neg hc]
    simp only [not_or, Nat.not_lt] at hc
    obtain ⟨h1, h2, h3⟩ := numOf_back hs (a := (numOf l).1) (k := (numOf l).2) rfl hc.1
    refine ⟨h1, hc.2, ?_⟩
    show l = num (numOf l).1 ++ l.drop (numOf l).2
    rw [← h3, List.take_append_drop]
theorem parse_only {l : List Nat} (hs : ∀ b ∈ l, b < 256) (h : pOk l = true) : pA l < 18446744073709551616 ∧ pB l < 18446744073709551616 ∧ l = bytesO (pK l) (pA l) (pB l) (pN l) := by
  unfold pOk at h
  simp only [Bool.and_eq_true, decide_eq_true_eq] at h
  obtain ⟨⟨⟨⟨h0, h1⟩, h2⟩, h3⟩, h4⟩ := h
  rcases l with _ | ⟨k, l1⟩
  · simp [takeByte] at h0
  have e1 : pl1 (k :: l1) = l1 := rfl
  have s1 : ∀ b ∈ pl1 (k :: l1), b < 256 := fun b hb => hs b (List.mem_cons_of_mem _ hb)
  obtain ⟨a1, _, a2⟩ := takeNum_back s1 h1
  have s2 : ∀ b ∈ pl2 (k :: l1), b < 256 := fun b hb => s1 b (by rw [a2]; exact List.mem_append_right _ hb)
  obtain ⟨b1, _, b2⟩ := takeNum_back s2 h2
  have s3 : ∀ b ∈ pl3 (k :: l1), b < 256 := fun b hb => s2 b (by rw [b2]; exact List.mem_append_right _ hb)
  have hT : (takeText (pl3 (k :: l1)) 64).2.2 = true := h3
  have hD : (takeText (pl3 (k :: l1)) 64).2.1 = [] := h4
  have hN : pN (k :: l1) = (takeText (pl3 (k :: l1)) 64).1 := rfl
  unfold takeText at hT hD hN
  split at hT
  · simp at hT
  · rename_i hc
    rw [if_neg hc] at hD hN
    obtain ⟨c1, _, c2⟩ := takeNum_back s3 hT
    simp only at hD hN
    have hlen : (takeNum (pl3 (k :: l1)) 64).2.1.length = (takeNum (pl3 (k :: l1)) 64).1 := by
      have := congrArg List.length hD
      simp at this
      omega
    rw [List.take_of_length_le (by omega)] at hN
    refine ⟨a1, b1, ?_⟩
    unfold bytesO
    rw [hN, hlen, ← c2]
    show k :: l1 = [k] ++ num (pA (k :: l1)) ++ num (pB (k :: l1)) ++ pl3 (k :: l1)
    rw [List.append_assoc, List.append_assoc]
    show k :: l1 = [k] ++ (num (takeNum (pl1 (k :: l1)) 18446744073709551615).1 ++ (num (takeNum (pl2 (k :: l1)) 18446744073709551615).1 ++ (takeNum (pl2 (k :: l1)) 18446744073709551615).2.1))
    rw [← b2]
    show k :: l1 = [k] ++ (num (takeNum (pl1 (k :: l1)) 18446744073709551615).1 ++ (takeNum (pl1 (k :: l1)) 18446744073709551615).2.1)
    rw [← a2]
    rfl
/-- Bytes tell the operations. -/
theorem bytesO_inj {k a b k2 a2 b2 : Nat} {s s2 : List Nat} (hs : s.length ≤ 64) (hs2 : s2.length ≤ 64) (ha : a < 18446744073709551616) (hb : b < 18446744073709551616) (ha2 : a2 < 18446744073709551616) (hb2 : b2 < 18446744073709551616)
    (he : bytesO k a b s = bytesO k2 a2 b2 s2) : k = k2 ∧ a = a2 ∧ b = b2 ∧ s = s2 := by
  have x := parse_bytes (k := k) hs ha hb
  have y := parse_bytes (k := k2) hs2 ha2 hb2
  rw [he] at x
  exact ⟨x.1.symm.trans y.1, x.2.1.symm.trans y.2.1, x.2.2.1.symm.trans y.2.2.1, x.2.2.2.1.symm.trans y.2.2.2.1⟩
end Go.Proofs.YtfnobibjphnmdaaGreatDoor
