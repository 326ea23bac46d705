/- KIn, KName, KNum: joined by program (tools/merge.py). -/
import Derived.Test.YtecbaceinifjiaaGreatDoorZ17
import Derived.Lib.ParseIntBCases
import Derived.Lib.ItoaMem
namespace Go.Proofs.YtecbaceinifjiaaGreatDoor
open Go.RowKit
set_option linter.unusedSimpArgs false
set_option linter.unusedVariables false
/-- Is it in the list? -/
def inL (x : List Nat) (zs : List (List Nat)) : Bool := decide (x ∈ zs)
theorem mem_str {zs : List ByteArray} {x : ByteArray} : x ∈ zs ↔ str x ∈ zs.map str := by
  rw [List.mem_map]
  exact ⟨fun h => ⟨x, h, rfl⟩, fun ⟨y, hy, e⟩ => by rw [← str_inj e]; exact hy⟩
theorem contains_str (zs : List ByteArray) (x : ByteArray) : Lib.containsS zs x = inL (str x) (zs.map str) := by
  unfold inL
  rw [Bool.eq_iff_iff, Lib.containsS_iff, decide_eq_true_eq]
  exact mem_str
set_option maxRecDepth 100000 in
set_option maxHeartbeats 1000000 in
theorem isword_any (w : World) (s : ByteArray) :
    Calls Tryz.prog 41 #[.string s] w fun e w' => e = .returned (.bool (inL (str s) wordsL)) ∧ Below w.heap.size w w' := by
  have HW := fun (x : World) => hide (words_any x)
  have HC := fun (x : World) (b : Nat) h => hide (contains_any x b wordsB.length wordsB.length wordsB s rfl (by decide) h)
  go_enter Tryz.func41, Tryz.ntmps41
  go_wp2_with (first
    | (go_at_call 62; (with_reducible refine (unhide (HW _)).mono ?_); rintro e w1 ⟨v, rfl, b, rfl, hb1, hb2, hc, hb⟩; go_loud (
        have HB := Lib.hid hb;
        have HX := HC w1 b hc;
        clear hb))
    | (go_at_call 61; (with_reducible refine (unhide HX).mono ?_); rintro e w2 ⟨rfl, rfl⟩))
  go_ret
  refine ⟨?_, HB.out⟩
  rw [contains_str, wordsB_str]
  rfl
def InR (zs : List ByteArray) (x : ByteArray) (i : Value) : Prop := ∃ k : Nat, i = .int .i64 (k : Int) ∧ k ≤ zs.length ∧ ∀ j y, j < k → zs[j]? = some y → y ≠ x
end Go.Proofs.YtecbaceinifjiaaGreatDoor
namespace Go.Proofs.YtecbaceinifjiaaGreatDoor
open Go.RowKit
set_option linter.unusedSimpArgs false
set_option linter.unusedVariables false
theorem let_not_dig {c : Nat} (h : isLet c = true) : isDig c = false := by
  simp [isLet, isDig] at *
  omega
theorem runL_head {l : List Nat} (h : 1 ≤ l.length) (hr : runL l = l.length) : isLD (l.headD 0) = true := by
  rcases l with _ | ⟨b, l⟩
  · simp at h
  · simp only [runL, List.length_cons] at hr
    split at hr
    · assumption
    · omega
theorem name_eq (l : List Nat) : nameL l = (decide (1 ≤ l.length) && decide (l.length ≤ 64) && !isDig (l.headD 0) && decide (runL l = l.length)) := by
  unfold nameL
  by_cases h1 : 1 ≤ l.length
  · by_cases hr : runL l = l.length
    · have h := runL_head h1 hr
      unfold isLD at h
      rcases hl : isLet (l.headD 0) with _ | _
      · rw [hl, Bool.false_or] at h
        rw [h]
        rfl
      · rw [let_not_dig hl]
        simp
    · simp [hr]
  · simp [h1]
theorem nil_of {s : ByteArray} (h : s.size = 0) : (s.toList == []) = true := by
  rw [Lib.toList_data, beq_iff_eq, ← List.length_eq_zero_iff, Array.length_toList]
  exact h
theorem not_nil_of {s : ByteArray} (h : s.size ≠ 0) : (s.toList == []) = false := by
  rw [Lib.toList_data, beq_eq_false_iff_ne]
  intro e
  have := congrArg List.length e
  rw [Array.length_toList] at this
  exact h this
theorem str_head {s : ByteArray} (h : 0 < s.size) : (str s).headD 0 = (s[0]'h).toNat := by
  have := str_get s 0 h
  rcases hl : str s with _ | ⟨b, l⟩
  · rw [hl] at this; cases this
  · rw [hl] at this
    simpa using this
set_option maxRecDepth 100000 in
set_option maxHeartbeats 1000000 in
theorem isname_any (w : World) (s : ByteArray) (hs : s.size ≤ 140737488355328) :
    Calls Tryz.prog 42 #[.string s] w fun e w' => e = .returned (.bool (nameL (str s) && !inL (str s) wordsL)) ∧ Below w.heap.size w w' := by
  have HD := fun (x : World) (c : Nat) (hc : c < 256) => hide (digit_any x c hc)
  have HR := fun (x : World) => hide (run_any x s hs)
  have HW := fun (x : World) => hide (isword_any x s)
  have hn := name_eq (str s)
  rw [str_length] at hn
  by_cases h0 : s.size = 0
  · have hx := nil_of h0
    have hr : (nameL (str s) && !inL (str s) wordsL) = false := by rw [hn, show decide (1 ≤ s.size) = false from decide_eq_false (by omega)]; rfl
    rw [hr]
    clear hn hr
    go_enter Tryz.func42, Tryz.ntmps42
    go_wp2
    go_ret
    exact ⟨rfl, Below.refl _ _⟩
  · have hx := not_nil_of h0
    have hpos : 0 < s.size := by omega
    rw [show decide (1 ≤ s.size) = true from decide_eq_true (by omega), str_head hpos] at hn
    by_cases h64 : s.size ≤ 64
    · rw [decide_eq_true h64] at hn
      have hy : decide ((s.size : Int) ≤ 64) = true := decide_eq_true (by omega)
      have HBB := Lib.hid (UInt8.toNat_lt (s[0]'hpos))
      rcases hd : isDig (s[0]'hpos).toNat with _ | _
      · rw [hd] at hn
        by_cases hrun : runL (str s) = s.size
        · rw [decide_eq_true hrun] at hn
          have hz : ((runL (str s) : Int) == (s.size : Int)) = true := by rw [beq_iff_eq]; omega
          have HN := Lib.hid hn
          clear hn hrun
          go_enter Tryz.func42, Tryz.ntmps42
          go_wp2_with (first
            | (go_at_call 58; (with_reducible refine (unhide (HD _ _ HBB.out)).mono ?_); rintro e w1 ⟨rfl, rfl⟩)
            | (go_at_call 39; (with_reducible refine (unhide (HR _)).mono ?_); rintro e w1 ⟨rfl, rfl⟩)
            | (go_at_call 41; (with_reducible refine (unhide (HW _)).mono ?_); rintro e w1 ⟨rfl, hb⟩; have HB := Lib.hid hb; clear hb))
          go_ret
          exact ⟨by rw [HN.out]; rfl, HB.out⟩
        · have hz : ((runL (str s) : Int) == (s.size : Int)) = false := by rw [beq_eq_false_iff_ne]; omega
          have hr : (nameL (str s) && !inL (str s) wordsL) = false := by rw [hn, decide_eq_false hrun]; rfl
          rw [hr]
          clear hn hr hrun
          go_enter Tryz.func42, Tryz.ntmps42
          go_wp2_with (first
            | (go_at_call 58; (with_reducible refine (unhide (HD _ _ HBB.out)).mono ?_); rintro e w1 ⟨rfl, rfl⟩)
            | (go_at_call 39; (with_reducible refine (unhide (HR _)).mono ?_); rintro e w1 ⟨rfl, rfl⟩))
          go_ret
          exact ⟨rfl, Below.refl _ _⟩
      · have hr : (nameL (str s) && !inL (str s) wordsL) = false := by rw [hn, hd]; rfl
        rw [hr]
        clear hn hr
        go_enter Tryz.func42, Tryz.ntmps42
        go_wp2_with (go_at_call 58; (with_reducible refine (unhide (HD _ _ HBB.out)).mono ?_); rintro e w1 ⟨rfl, rfl⟩)
        go_ret
        exact ⟨rfl, Below.refl _ _⟩
    · have hy : decide ((s.size : Int) ≤ 64) = false := decide_eq_false (by omega)
      have hr : (nameL (str s) && !inL (str s) wordsL) = false := by rw [hn, decide_eq_false h64]; rfl
      rw [hr]
      clear hn hr
      go_enter Tryz.func42, Tryz.ntmps42
      go_wp2
      go_ret
      exact ⟨rfl, Below.refl _ _⟩
/-- The class of a byte. -/
theorem cls_one {c : Nat} : clsL c = 1 ↔ isLet c = true := by
  unfold clsL
  split
  · simp [*]
  · split
    · simp [*]
    · split <;> simp [*]
theorem cls_ld {c : Nat} : (clsL c = 1 ∨ clsL c = 2) ↔ isLD c = true := by
  unfold clsL isLD
  split
  · simp [*]
  · split
    · simp [*]
    · split <;> simp [*]
theorem cls_le (c : Nat) : clsL c ≤ 3 := by
  unfold clsL
  split
  · omega
  · split
    · omega
    · split <;> omega
theorem runL_full {l : List Nat} (h : ∀ (j b : Nat), l[j]? = some b → isLD b = true) : runL l = l.length := by
  induction l with
  | nil => rfl
  | cons b l ih =>
    simp only [runL, List.length_cons]
    rw [if_pos (h 0 b rfl), ih fun j c hc => h (j + 1) c hc]
theorem runL_all : ∀ {l : List Nat}, runL l = l.length → ∀ (j b : Nat), l[j]? = some b → isLD b = true
  | [], _, j, b, h => by simp at h
  | c :: l, hr, j, b, h => by
    simp only [runL, List.length_cons] at hr
    split at hr
    · rcases j with _ | j
      · simp at h; subst h; assumption
      · exact runL_all (by omega) j b h
    · omega
def NameR (l : List Nat) (i : Value) : Prop := ∃ k : Nat, i = .int .i64 (k : Int) ∧ k ≤ l.length ∧ ∀ (j b : Nat), j < k → l[j]? = some b → isLD b = true
end Go.Proofs.YtecbaceinifjiaaGreatDoor
namespace Go.Proofs.YtecbaceinifjiaaGreatDoor
open Go.RowKit
set_option linter.unusedSimpArgs false
set_option linter.unusedVariables false
def valA (acc : Nat) (l : List Nat) : Nat := l.foldl (fun n b => 10 * n + (b - 48)) acc
theorem valA_cons (acc b : Nat) (l : List Nat) : valA acc (b :: l) = valA (10 * acc + (b - 48)) l := by unfold valA; rw [List.foldl_cons]
theorem valA_ge (l : List Nat) : ∀ (acc : Nat), acc * 10 ^ l.length ≤ valA acc l := by
  induction l with
  | nil => intro acc; show acc * 10 ^ 0 ≤ acc; omega
  | cons b l ih =>
    intro acc
    rw [valA_cons, List.length_cons, Nat.pow_succ]
    refine Nat.le_trans ?_ (ih _)
    rw [Nat.mul_comm (10 ^ l.length), ← Nat.mul_assoc]
    exact Nat.mul_le_mul_right _ (by omega)
theorem valA_ge' (l : List Nat) (acc : Nat) : acc ≤ valA acc l := Nat.le_trans (Nat.le_mul_of_pos_right _ (Nat.pow_pos (by decide))) (valA_ge l acc)
theorem valL_eq (l : List Nat) : valL l = valA 0 l := rfl
theorem dig_iff {c : Nat} : isDig c = true ↔ 48 ≤ c ∧ c ≤ 57 := by simp [isDig]
theorem parse_ok : ∀ (M : Nat) (l : List UInt8) (acc u : Nat), Lib.parseUintM M acc l = .ok u → digL (l.map UInt8.toNat) = true ∧ u = valA acc (l.map UInt8.toNat)
  | M, [], acc, u, h => by simp [Lib.parseUintM] at h; subst h; exact ⟨rfl, rfl⟩
  | M, c :: r, acc, u, h => by
    unfold Lib.parseUintM at h
    split at h
    · rename_i hc
      split at h
      · cases h
      · split at h
        · cases h
        · obtain ⟨h1, h2⟩ := parse_ok M r _ u h
          refine ⟨?_, ?_⟩
          · unfold digL at *
            rw [List.map_cons, List.all_cons, h1, dig_iff.2 hc]
            rfl
          · rw [h2, List.map_cons, valA_cons, Nat.mul_comm]
    · cases h
theorem parse_of : ∀ (l : List UInt8) (acc : Nat), digL (l.map UInt8.toNat) = true → valA acc (l.map UInt8.toNat) ≤ 9223372036854775807 → Lib.parseUintM 18446744073709551615 acc l = .ok (valA acc (l.map UInt8.toNat))
  | [], acc, _, _ => rfl
  | c :: r, acc, h, hv => by
    unfold digL at h
    rw [List.map_cons, List.all_cons, Bool.and_eq_true] at h
    have hc := dig_iff.1 h.1
    rw [List.map_cons, valA_cons] at hv ⊢
    have hge := valA_ge' (r.map UInt8.toNat) (10 * acc + (c.toNat - 48))
    unfold Lib.parseUintM
    rw [if_pos hc, if_neg (by omega), if_neg (by omega), Nat.mul_comm acc]
    exact parse_of r _ h.2 hv
theorem valA_append (acc : Nat) (l : List Nat) (b : Nat) : valA acc (l ++ [b]) = 10 * valA acc l + (b - 48) := by
  unfold valA
  rw [List.foldl_append]
  rfl
theorem val_pos {b : Nat} {l : List Nat} (h1 : isDig b = true) (h2 : b ≠ 48) : 10 ^ l.length ≤ valL (b :: l) := by
  rw [valL_eq, valA_cons]
  have h := dig_iff.1 h1
  exact Nat.le_trans (Nat.le_mul_of_pos_left _ (by omega)) (valA_ge l _)
/-- Digits without a nought ahead are their value's numeral. -/
theorem numeral : ∀ (n : Nat) (l : List UInt8), l.length = n → digL (l.map UInt8.toNat) = true → 1 ≤ l.length → ((l.map UInt8.toNat).headD 0 = 48 → l.length = 1) → Lib.decDigits (valL (l.map UInt8.toNat)) = l
  | 0, l, hn, _, h1, _ => by omega
  | 1, l, hn, hd, _, _ => by
    obtain ⟨c, rfl⟩ := List.length_eq_one_iff.1 hn
    unfold digL at hd
    rw [List.map_cons, List.all_cons, Bool.and_eq_true] at hd
    have hc := dig_iff.1 hd.1
    rw [Lib.decDigits, dif_pos (by simp [valL]; omega)]
    congr 1
    apply UInt8.toNat_inj.1
    simp [valL]
    omega
  | n + 2, l, hn, hd, h1, h0 => by
    obtain ⟨r, c, rfl⟩ : ∃ r c, l = r ++ [c] := ⟨l.dropLast, l.getLast (by intro e; subst e; simp at hn), (List.dropLast_concat_getLast _).symm⟩
    rw [List.length_append, List.length_singleton] at hn
    unfold digL at hd
    rw [List.map_append, List.all_append, Bool.and_eq_true] at hd
    obtain ⟨hd1, hd2⟩ := hd
    rw [List.map_cons, List.all_cons, Bool.and_eq_true] at hd2
    have hc := dig_iff.1 hd2.1
    rcases r with _ | ⟨b, r⟩
    · simp at hn
    · have hb0 : b.toNat ≠ 48 := fun e => by
        have := h0 (by simpa using e)
        simp at this
      have hbd : isDig b.toNat = true := by
        rw [List.map_cons, List.all_cons, Bool.and_eq_true] at hd1
        exact hd1.1
      have hp := val_pos (l := r.map UInt8.toNat) hbd hb0
      have hp2 : 1 ≤ 10 ^ (r.map UInt8.toNat).length := Nat.one_le_pow _ _ (by decide)
      have ih := numeral (n + 1) (b :: r) (by simpa using hn) hd1 (by simp) (fun e => absurd (by simpa using e) hb0)
      rw [List.map_append, valL_eq, show List.map UInt8.toNat [c] = [c.toNat] from rfl, valA_append, ← valL_eq]
      rw [List.map_cons] at ih ⊢
      rw [Lib.decDigits, dif_neg (by omega), show (10 * valL (b.toNat :: r.map UInt8.toNat) + (c.toNat - 48)) / 10 = valL (b.toNat :: r.map UInt8.toNat) by omega, ih]
      congr 2
      apply UInt8.toNat_inj.1
      simp
      omega
theorem dec_head : ∀ (u : Nat), 1 ≤ u → ((Lib.decDigits u).map UInt8.toNat).headD 0 ≠ 48 := fun u => by
  induction u using Nat.strongRecOn with
  | _ u ih =>
    intro h
    by_cases h10 : u < 10
    · rw [Lib.decDigits_one h10]
      simp
      omega
    · have := ih (u / 10) (by omega) (by omega)
      rw [Lib.decDigits, dif_neg h10]
      have hl := Lib.decDigits_length (u / 10)
      have hp := Lib.nDigits_pos (u / 10)
      rcases hd : Lib.decDigits (u / 10) with _ | ⟨c, r⟩
      · rw [hd] at hl; simp at hl; omega
      · rw [hd] at this
        simpa using this
/-- What isNumber asks is what a number is. -/
theorem is_num {s : ByteArray} (hld : runL (str s) = s.size) :
    (∀ v, Lib.parseIntB 64 s.data.toList = .ok v → (((⟨(Lib.itoa v).toArray⟩ : ByteArray).toList == s.toList) = numL (str s)) ∧ (numL (str s) = true → v = (valL (str s) : Int)) ∧ 0 ≤ v ∧ v ≤ 9223372036854775807) ∧ ((∀ v, Lib.parseIntB 64 s.data.toList ≠ .ok v) → numL (str s) = false) := by
  have hall : ∀ (c : UInt8), c ∈ s.data.toList → isLD c.toNat = true := fun c hc => by
    obtain ⟨j, hj⟩ := List.mem_iff_getElem?.1 hc
    exact runL_all (by rw [str_length]; exact hld) j c.toNat (by unfold str; rw [List.getElem?_map, hj]; rfl)
  have hsz : s.size = s.data.toList.length := Array.length_toList.symm
  have hstr : str s = s.data.toList.map UInt8.toNat := rfl
  rw [Lib.toList_data]
  obtain ⟨l, hl⟩ : ∃ l, l = s.data.toList := ⟨_, rfl⟩
  rw [← hl] at hall hsz hstr ⊢
  rw [hstr]
  rcases l with _ | ⟨c, r⟩
  · refine ⟨fun v h => ?_, fun _ => by simp [numL]⟩
    simp [Lib.parseIntB] at h
  · have hc := hall c (by simp)
    have h43 : c.toNat ≠ 43 := fun e => by rw [e] at hc; simp [isLD, isLet, isDig] at hc
    have h45 : c.toNat ≠ 45 := fun e => by rw [e] at hc; simp [isLD, isLet, isDig] at hc
    have hpu : Lib.parseUintB 64 (c :: r) = Lib.parseUintM 18446744073709551615 0 (c :: r) := rfl
    rw [Lib.parseIntB_plain 64 c r h43 h45, hpu]
    have hok : ∀ v, Lib.signlessC (2 ^ (64 - 1)) (Lib.parseUintM 18446744073709551615 0 (c :: r)) = .ok v → ∃ u : Nat, Lib.parseUintM 18446744073709551615 0 (c :: r) = .ok u ∧ v = (u : Int) ∧ u ≤ 9223372036854775807 := fun v h => by
      rcases hm : Lib.parseUintM 18446744073709551615 0 (c :: r) with u | _ | _
      · rw [hm] at h
        by_cases hu : 9223372036854775808 ≤ u
        · rw [show Lib.signlessC (2 ^ (64 - 1)) (.ok u) = .range from if_pos hu] at h
          cases h
        · rw [show Lib.signlessC (2 ^ (64 - 1)) (.ok u) = .ok (u : Int) from if_neg hu] at h
          injection h with h
          exact ⟨u, rfl, h.symm, by omega⟩
      · rw [hm] at h; cases h
      · rw [hm] at h; cases h
    have hnum : numL ((c :: r).map UInt8.toNat) = true → digL ((c :: r).map UInt8.toNat) = true ∧ valL ((c :: r).map UInt8.toNat) ≤ 9223372036854775807 ∧ (((c :: r).map UInt8.toNat).headD 0 = 48 → (c :: r).length = 1) := fun h => by
      unfold numL at h
      simp only [Bool.and_eq_true, decide_eq_true_eq, Bool.not_eq_true', Bool.and_eq_false_iff, decide_eq_false_iff_not] at h
      refine ⟨h.1.2, h.2, fun e => ?_⟩
      rcases h.1.1.2 with h2 | h2
      · exact absurd e h2
      · rw [List.length_map] at h2
        have : 1 ≤ (c :: r).length := by simp
        omega
    refine ⟨fun v h => ?_, fun h => ?_⟩
    · obtain ⟨u, hu, rfl, hb⟩ := hok v h
      obtain ⟨hd, hv⟩ := parse_ok _ _ _ _ hu
      refine ⟨?_, fun hn => by rw [hv]; rfl, by omega, by omega⟩
      rw [Lib.toList_data, Lib.itoa_nonneg, Bool.eq_iff_iff, beq_iff_eq]
      show Lib.decDigits u = c :: r ↔ _
      constructor
      · intro e
        have hz : ((c :: r).map UInt8.toNat).headD 0 = 48 → (c :: r).length = 1 := fun h0 => by
          rcases Nat.eq_zero_or_pos u with h1 | h1
          · subst h1
            rw [← e, Lib.decDigits_one (by decide)]
            rfl
          · have := dec_head u h1
            rw [e] at this
            exact absurd h0 this
        have hc0 : isDig c.toNat = true := by
          have := hd
          unfold digL at this
          rw [List.map_cons, List.all_cons, Bool.and_eq_true] at this
          exact this.1
        have hlen : (c :: r).length ≤ 19 := by
          by_cases h48 : c.toNat = 48
          · rw [hz (by simpa using h48)]
            decide
          · have hp := val_pos (l := r.map UInt8.toNat) hc0 h48
            rw [valL_eq, ← List.map_cons (f := UInt8.toNat), ← hv, List.length_map] at hp
            rcases Nat.lt_or_ge r.length 19 with h1 | h1
            · simp; omega
            · have h2 := Nat.le_trans (Nat.pow_le_pow_right (show 0 < 10 by decide) h1) hp
              have h3 : (10 : Nat) ^ 19 = 10000000000000000000 := by decide
              omega
        unfold numL
        simp only [Bool.and_eq_true, decide_eq_true_eq, Bool.not_eq_true', Bool.and_eq_false_iff, decide_eq_false_iff_not]
        refine ⟨⟨⟨⟨by simp, by rw [List.length_map]; exact hlen⟩, ?_⟩, hd⟩, by rw [valL_eq, ← hv]; exact hb⟩
        by_cases h48 : ((c :: r).map UInt8.toNat).headD 0 = 48
        · exact .inr (by rw [List.length_map, hz h48]; decide)
        · exact .inl h48
      · intro hn
        obtain ⟨h1, h2, h3⟩ := hnum hn
        rw [hv, ← valL_eq]
        exact numeral _ _ rfl h1 (by simp) h3
    · rcases hn : numL ((c :: r).map UInt8.toNat) with _ | _
      · rfl
      · obtain ⟨h1, h2, h3⟩ := hnum hn
        have hp := parse_of (c :: r) 0 h1 h2
        refine absurd ?_ (h ((valA 0 ((c :: r).map UInt8.toNat) : Nat) : Int))
        rw [hp]
        exact if_neg (by rw [valL_eq] at h2; omega)
end Go.Proofs.YtecbaceinifjiaaGreatDoor
