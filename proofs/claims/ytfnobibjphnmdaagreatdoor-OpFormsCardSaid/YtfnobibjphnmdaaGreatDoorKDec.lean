/- A number's digits: what Int writes, what its text is read as. Texts of signs alone. -/
import Derived.Test.YtfnobibjphnmdaaGreatDoorKReads
namespace Go.Proofs.YtfnobibjphnmdaaGreatDoor
open Go.RowKit
set_option linter.unusedSimpArgs false
set_option linter.unusedVariables false
/-- A number's digits. -/
def decL (u : Nat) : List Nat := (Lib.decDigits u).map UInt8.toNat
theorem decL_small {u : Nat} (h : u < 10) : decL u = [48 + u] := by
  unfold decL
  rw [Lib.decDigits_one h]
  simp
  omega
theorem decL_big {u : Nat} (h : ¬ u < 10) : decL u = decL (u / 10) ++ decL (u % 10) := by
  rw [decL_small (u := u % 10) (by omega)]
  unfold decL
  rw [Lib.decDigits, dif_neg h, List.map_append]
  congr 1
  simp
  omega
theorem decL_val (u : Nat) : valL (decL u) = u := by
  induction u using Nat.strongRecOn with
  | _ u ih =>
    by_cases h : u < 10
    · rw [decL_small h]
      simp [valL]
    · rw [decL_big h, decL_small (u := u % 10) (by omega), valL_eq, valA_append, ← valL_eq, ih (u / 10) (by omega)]
      omega
theorem decL_dig (u : Nat) : digL (decL u) = true := by
  induction u using Nat.strongRecOn with
  | _ u ih =>
    by_cases h : u < 10
    · rw [decL_small h]
      simp [digL, isDig]
      omega
    · have h1 := ih (u / 10) (by omega)
      have h2 := ih (u % 10) (by omega)
      rw [decL_big h]
      unfold digL at *
      rw [List.all_append, h1, h2]
      rfl
theorem decL_pos (u : Nat) : 1 ≤ (decL u).length := by
  unfold decL
  rw [List.length_map, Lib.decDigits_length]
  exact Lib.nDigits_pos u
theorem decL_len (u : Nat) : (decL u).length ≤ u + 1 := by
  induction u using Nat.strongRecOn with
  | _ u ih =>
    by_cases h : u < 10
    · rw [decL_small h]
      simp
    · have h1 := ih (u / 10) (by omega)
      rw [decL_big h, decL_small (u := u % 10) (by omega), List.length_append, List.length_singleton]
      omega
theorem decL_byte (u : Nat) : ∀ b ∈ decL u, b < 256 := fun b hb => by
  unfold decL at hb
  obtain ⟨c, _, rfl⟩ := List.mem_map.1 hb
  exact c.toNat_lt
theorem decL_size (u : Nat) : (ba (decL u)).size ≤ u + 1 := by
  rw [← str_length, str_ba (decL_byte u)]
  exact decL_len u
theorem decL_lead (u : Nat) : (decL u).headD 0 = 48 → (decL u).length = 1 := fun h => by
  rcases Nat.eq_zero_or_pos u with h1 | h1
  · subst h1
    rw [decL_small (by decide)]
    rfl
  · exact absurd h (dec_head u h1)
theorem decL_num {u : Nat} (hu : u ≤ 9223372036854775807) : numL (decL u) = true := by
  have hp := decL_pos u
  have hd := decL_dig u
  have hv := decL_val u
  have hl := decL_lead u
  have hlen : (decL u).length ≤ 19 := by
    rcases hx : decL u with _ | ⟨b, r⟩
    · simp
    · rw [hx] at hd hv hl
      by_cases h48 : b = 48
      · have := hl (by simpa using h48)
        omega
      · have hb : isDig b = true := by
          unfold digL at hd
          rw [List.all_cons, Bool.and_eq_true] at hd
          exact hd.1
        have h2 := val_pos (l := r) hb h48
        rw [hv] at h2
        rcases Nat.lt_or_ge r.length 19 with h1 | h1
        · simp; omega
        · have h3 := Nat.le_trans (Nat.pow_le_pow_right (show 0 < 10 by decide) h1) h2
          have h4 : (10 : Nat) ^ 19 = 10000000000000000000 := by decide
          omega
  unfold numL
  simp only [Bool.and_eq_true, decide_eq_true_eq, Bool.not_eq_true', Bool.and_eq_false_iff, decide_eq_false_iff_not]
  refine ⟨⟨⟨⟨hp, hlen⟩, ?_⟩, hd⟩, by rw [hv]; exact hu⟩
  by_cases h48 : (decL u).headD 0 = 48
  · exact .inr (by have := hl h48; omega)
  · exact .inl h48
theorem words_let : ∀ s ∈ wordsL, isDig (s.headD 0) = false := by decide
/-- Digits alone are one token. -/
theorem scan_num {l : List Nat} (hn : numL l = true) : scan l 0 = some [⟨2, l, 0⟩] := by
  have hx := hn
  unfold numL at hx
  simp only [Bool.and_eq_true, decide_eq_true_eq] at hx
  have hd : digL l = true := hx.1.2
  have hp : 1 ≤ l.length := hx.1.1.1.1
  have hr : runL l = l.length := runL_full fun j b hb => by
    unfold digL at hd
    rw [List.all_eq_true] at hd
    unfold isLD
    rw [hd b (List.mem_of_getElem? hb), Bool.or_true]
  rcases l with _ | ⟨b, r⟩
  · simp at hp
  · have hb : isDig b = true := by
      unfold digL at hd
      rw [List.all_cons, Bool.and_eq_true] at hd
      exact hd.1
    have hb2 := dig_iff.1 hb
    have hg : gapL (b :: r) = 0 := by
      unfold gapL
      simp only [gapC]
      rw [if_neg (by omega), if_neg (by omega)]
    have hf : firstL (b :: r) = (2, (b :: r).length) := by
      have e := first_num (l := b :: r) (by rw [hr]; simp)
      rw [hr, List.take_length] at e
      refine e ?_ ?_ hn
      · refine decide_eq_false fun h => ?_
        have := words_let _ h
        rw [show (b :: r).headD 0 = b from rfl, hb] at this
        cases this
      · unfold nameL
        rw [show (b :: r).headD 0 = b from rfl, show isLet b = false from let_eq (by simp; omega)]
        simp
    rw [scan_next (by rw [hg]; simp) (by rw [hg, List.drop_zero, hf]; simp), hg, List.drop_zero, hf]
    simp only [Nat.zero_add]
    rw [List.drop_length, List.take_length, scan_end (by simp)]
    rfl
/-- A byte of a sign. -/
def sgnB (b : Nat) : Bool := !isLD b && !decide (b = 32 ∨ b = 9 ∨ b = 10 ∨ b = 35)
theorem signs_sgn : ∀ s ∈ signsL, ∀ b ∈ s, sgnB b = true := by decide
/-- Of signs alone there are signs alone, and nothing is left out. -/
theorem scan_signs : ∀ (ts : List Tok) (l : List Nat) (a : Nat), (∀ b ∈ l, sgnB b = true) → scan l a = some ts → (∀ t ∈ ts, t.kind = 4) ∧ (ts.map (·.text)).flatten = l
  | [], l, a, hl, h => by
    refine ⟨fun t ht => by simp at ht, ?_⟩
    rcases l with _ | ⟨b, l⟩
    · rfl
    · have hb := hl b (by simp)
      unfold sgnB at hb
      simp at hb
      by_cases h1 : (b :: l).length ≤ gapL (b :: l)
      · have hg : gapL (b :: l) = 0 := by
          unfold gapL
          simp only [gapC]
          rw [if_neg (by omega), if_neg (by omega)]
        rw [hg] at h1
        simp at h1
      · by_cases h2 : (firstL ((b :: l).drop (gapL (b :: l)))).1 = 0
        · rw [scan_bad (by omega) h2] at h
          cases h
        · rw [scan_next (by omega) h2] at h
          obtain ⟨x, _, hx⟩ := Option.map_eq_some_iff.1 h
          cases hx
  | t :: ts, l, a, hl, h => by
    obtain ⟨h1, h2, h3, h4⟩ := scan_inv h
    rcases l with _ | ⟨b, l⟩
    · simp at h1
    · have hb := hl b (by simp)
      unfold sgnB at hb
      simp at hb
      have hg : gapL (b :: l) = 0 := by
        unfold gapL
        simp only [gapC]
        rw [if_neg (by omega), if_neg (by omega)]
      rw [hg, List.drop_zero] at h2 h3
      rw [hg, Nat.zero_add] at h4
      have hr : runL (b :: l) = 0 := by
        simp only [runL]
        rw [hb.1]
        rfl
      have hk : (firstL (b :: l)).1 = 4 := by
        have h5 := (first_sign hr).1
        unfold sgnK at h5
        split at h5
        · omega
        · omega
      obtain ⟨q1, q2⟩ := scan_signs ts _ _ (fun c hc => hl c (List.mem_of_mem_drop hc)) h4
      refine ⟨fun u hu => ?_, ?_⟩
      · rcases List.mem_cons.1 hu with rfl | hu
        · rw [h3]; exact hk
        · exact q1 u hu
      · rw [List.map_cons, List.flatten_cons, q2, h3]
        exact List.take_append_drop _ _
set_option maxRecDepth 100000 in
set_option maxHeartbeats 2000000 in
theorem dec_any (u : Nat) : ∀ (w : World), u < 18446744073709551616 →
    Calls Tryz.prog 44 #[.int .u64 (u : Int)] w fun e w' => e = .returned (.string (ba (decL u))) ∧ w = w' := by
  induction u using Nat.strongRecOn with
  | _ u ih =>
    intro w hu
    by_cases h : u < 10
    · have hx : decide ((u : Int) < 10) = true := decide_eq_true (by omega)
      have hxn : decide (u < 10) = true := decide_eq_true h
      have hw : IntKind.u64.wrap ((u : Int) + 1) = (u : Int) + 1 := by rw [IntKind.wrap_u64]; omega
      have q1 : 0 ≤ (u : Int) + 1 := by omega
      have q2 : ((u : Int) + 1).toNat = u + 1 := by omega
      have q3 : (u : Int) + 1 ≤ 10 := by omega
      have q4 : (u : Int) ≤ (u : Int) + 1 := by omega
      have hres : ba (decL u) = (⟨#[48, 49, 50, 51, 52, 53, 54, 55, 56, 57]⟩ : ByteArray).extract u (u + 1) := by
        apply str_inj
        rw [decL_small h, str_ba (by intro b hb; simp at hb; omega), str_extract]
        rcases (show u = 0 ∨ u = 1 ∨ u = 2 ∨ u = 3 ∨ u = 4 ∨ u = 5 ∨ u = 6 ∨ u = 7 ∨ u = 8 ∨ u = 9 by omega) with rfl | rfl | rfl | rfl | rfl | rfl | rfl | rfl | rfl | rfl <;> rfl
      have HR := hide hres
      clear hres
      go_enter Tryz.func44, Tryz.ntmps44
      go_wp2
      go_ret
      exact ⟨by rw [unhide HR]; rfl, rfl⟩
    · have hx : decide ((u : Int) < 10) = false := decide_eq_false (by omega)
      have hxn : decide (u < 10) = false := decide_eq_false h
      have I1 := fun (x : World) => hide (ih (u / 10) (by omega) x (by omega))
      have I2 := fun (x : World) => hide (ih (u % 10) (by omega) x (by omega))
      have e1 : ((u / 10 : Nat) : Int) = (u : Int) / 10 := by omega
      have e2 : ((u % 10 : Nat) : Int) = (u : Int) % 10 := by omega
      rw [e1] at I1
      rw [e2] at I2
      have hres : ba (decL u) = ba (decL (u / 10)) ++ ba (decL (u % 10)) := by
        apply str_inj
        rw [str_append, str_ba (decL_byte _), str_ba (decL_byte _), str_ba (decL_byte _), decL_big h]
      have z1 := decL_size (u / 10)
      have z2 := decL_size (u % 10)
      have hcat : ¬ 9223372036854775807 < (ba (decL (u / 10))).size + (ba (decL (u % 10))).size := by omega
      have HR := hide hres
      clear hres ih e1 e2 z1 z2
      go_enter Tryz.func44, Tryz.ntmps44
      go_wp2_with (go_at_call 44; (first | (with_reducible refine (unhide (I1 _)).mono ?_) | (with_reducible refine (unhide (I2 _)).mono ?_)); rintro e w1 ⟨rfl, rfl⟩)
      go_ret
      exact ⟨by rw [unhide HR]; rfl, rfl⟩
end Go.Proofs.YtfnobibjphnmdaaGreatDoor
