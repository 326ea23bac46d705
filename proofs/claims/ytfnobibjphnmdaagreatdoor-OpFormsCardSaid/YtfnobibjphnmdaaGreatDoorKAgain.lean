/- A text's tokens, with blanks behind them, are read again. -/
import Derived.Test.YtfnobibjphnmdaaGreatDoorKReads
namespace Go.Proofs.YtfnobibjphnmdaaGreatDoor
open Go.RowKit
set_option linter.unusedSimpArgs false
set_option linter.unusedVariables false
/-- Nothing, or a blank ahead. -/
def Apart (r : List Nat) : Prop := r = [] ∨ ∃ b s, r = b :: s ∧ (b = 32 ∨ b = 9 ∨ b = 10)
theorem runL_apart {r : List Nat} (h : Apart r) : runL r = 0 := by
  rcases h with rfl | ⟨b, s, rfl, hb⟩
  · rfl
  · simp only [runL]
    rw [if_neg]
    simp [isLD, isLet, isDig]
    omega
theorem runL_app : ∀ (l r : List Nat), runL l = l.length → runL (l ++ r) = l.length + runL r
  | [], r, _ => by simp
  | b :: l, r, h => by
    simp only [runL, List.length_cons] at h
    split at h
    · rename_i hb
      rw [List.cons_append]
      simp only [runL]
      rw [if_pos hb, runL_app l r (by omega), List.length_cons]
      omega
    · omega
theorem signs_second : ∀ s ∈ signsL, ∀ c b, s = [c, b] → ¬ (b = 32 ∨ b = 9 ∨ b = 10) := by
  intro s hs c b e
  subst e
  revert hs
  unfold signsL
  simp
  omega
theorem signs_sgn' : ∀ s ∈ signsL, ∀ b ∈ s, ¬ (b = 32 ∨ b = 9 ∨ b = 10) ∧ b ≠ 35 := by decide
/-- A token: what a text begins with. -/
def Good (t : Tok) : Prop := ∃ o : List Nat, firstL o = (t.kind, t.text.length) ∧ t.kind ≠ 0 ∧ t.text = o.take t.text.length ∧ t.text.length ≤ o.length
theorem first_again {t : Tok} (h : Good t) {r : List Nat} (hr : Apart r) : firstL (t.text ++ r) = (t.kind, t.text.length) := by
  obtain ⟨o, hf, hk, ht, hl⟩ := h
  by_cases h0 : runL o = 0
  · have h1 := first_sign h0
    rw [hf] at h1
    simp only [] at h1
    obtain ⟨hk4, hn⟩ := h1
    have hpos : 1 ≤ t.text.length := by
      have := firstL_pos o (by rw [hf]; exact hk)
      rw [hf] at this
      exact this
    rcases hx : t.text with _ | ⟨c, x⟩
    · rw [hx] at hpos; simp at hpos
    · rcases ho : o with _ | ⟨c', o'⟩
      · rw [ho, hx] at hl; simp at hl
      · have hcc : c = c' := by
          rw [hx, ho] at ht
          simp at ht
          exact ht.1
        subst hcc
        have hld : isLD c = false := by
          rw [ho] at h0
          simp only [runL] at h0
          rcases hc : isLD c with _ | _
          · rfl
          · rw [hc] at h0; simp at h0
        have hrun : runL (c :: x ++ r) = 0 := by
          rw [List.cons_append]
          simp only [runL]
          rw [hld]
          rfl
        have hk4' : t.kind = 4 := by
          unfold sgnK at hk4
          split at hk4
          · omega
          · omega
        have hin : t.text ∈ signsL := by
          have hs := hn
          unfold signL at hs
          rw [ht]
          split at hs
          · rename_i h2
            rw [hs]
            exact h2.1
          · split at hs
            · rename_i h2
              rw [hs]
              exact h2
            · omega
        rw [hx] at hin
        rcases signsL_len _ hin with h2 | h2
        · have hx0 : x = [] := List.length_eq_zero_iff.1 (by simpa using h2)
          subst hx0
          rw [first_one hrun ?_ (decide_eq_true (by simpa using hin)), hk4']
          · rfl
          · rcases hr with rfl | ⟨b, s, rfl, hb⟩
            · exact .inr (by simp)
            · refine .inl (decide_eq_false fun hmem => ?_)
              exact signs_second _ hmem c b rfl hb
        · rw [first_two hrun (by rw [List.length_append]; omega) (decide_eq_true ?_), hk4']
          · rw [h2]
          · rw [List.take_append_of_le_length (by omega), List.take_of_length_le (by omega)]
            exact hin
  · have hlen : t.text.length = runL o := by
      have := hf
      unfold firstL at this
      rw [if_neg h0] at this
      split at this
      · injection this with _ h; exact h.symm
      · split at this
        · injection this with _ h; exact h.symm
        · split at this
          · injection this with _ h; exact h.symm
          · injection this with h _; exact absurd h.symm hk
    have hfull : runL t.text = t.text.length := by rw [ht, hlen, runL_take, List.length_take, Nat.min_eq_left (by omega)]
    have hrun : runL (t.text ++ r) = t.text.length := by rw [runL_app _ _ hfull, runL_apart hr]; rfl
    have htk : (t.text ++ r).take t.text.length = t.text := by rw [List.take_append_of_le_length (Nat.le_refl _), List.take_length]
    have e1 := hf
    unfold firstL at e1
    rw [if_neg h0, ← hlen, ← ht] at e1
    unfold firstL
    rw [hrun, if_neg (by omega), htk]
    exact e1
theorem good_of : ∀ (ts : List Tok) (l : List Nat) (a : Nat), scan l a = some ts → ∀ t ∈ ts, Good t
  | [], _, _, _, t, ht => by simp at ht
  | u :: ts, l, a, h, t, ht => by
    obtain ⟨h1, h2, h3, h4⟩ := scan_inv h
    rcases List.mem_cons.1 ht with rfl | ht
    · have hle := firstL_le (l.drop (gapL l))
      have hlen : t.text.length = (firstL (l.drop (gapL l))).2 := by
        rw [h3]
        show (List.take _ _).length = _
        rw [List.length_take, Nat.min_eq_left hle]
      refine ⟨l.drop (gapL l), ?_, by rw [h3]; exact h2, ?_, by omega⟩
      · rw [hlen, h3]
      · rw [hlen, h3]
    · exact good_of ts _ _ h4 t ht
/-- No gap ahead of a token. -/
theorem gap_good {t : Tok} (h : Good t) (r : List Nat) : gapL (t.text ++ r) = 0 := by
  obtain ⟨o, hf, hk, ht, hl⟩ := h
  have hpos := firstL_pos o (by rw [hf]; exact hk)
  rw [hf] at hpos
  simp only [] at hpos
  rcases hx : t.text with _ | ⟨c, x⟩
  · rw [hx] at hpos; simp at hpos
  · rcases ho : o with _ | ⟨c', o'⟩
    · rw [ho, hx] at hl; simp at hl
    · have hcc : c = c' := by
        rw [hx, ho] at ht
        simp at ht
        exact ht.1
      subst hcc
      have hc : ¬ (c = 32 ∨ c = 9 ∨ c = 10) ∧ c ≠ 35 := by
        rcases hld : isLD c with _ | _
        · have h0 : runL o = 0 := by rw [ho]; simp only [runL]; rw [hld]; rfl
          have hn := (first_sign h0).2
          rw [hf] at hn
          simp only [] at hn
          have hin : t.text ∈ signsL := by
            have hs := hn
            unfold signL at hs
            rw [ht]
            split at hs
            · rename_i h2; rw [hs]; exact h2.1
            · split at hs
              · rename_i h2; rw [hs]; exact h2
              · omega
          have := signs_sgn' _ hin c (by rw [hx]; simp)
          exact this
        · have : isLD 32 = false ∧ isLD 9 = false ∧ isLD 10 = false ∧ isLD 35 = false := by decide
          refine ⟨?_, fun e => ?_⟩
          · rintro (e | e | e) <;> rw [e] at hld <;> simp [this] at hld
          · rw [e] at hld; simp [this] at hld
      rw [List.cons_append]
      unfold gapL
      simp only [gapC]
      rw [if_neg hc.1, if_neg hc.2]
theorem scan_tok {t : Tok} (h : Good t) {r : List Nat} (hr : Apart r) (a : Nat) : scan (t.text ++ r) a = (scan r (a + t.text.length)).map (⟨t.kind, t.text, a⟩ :: ·) := by
  have hg := gap_good h r
  have hf := first_again h hr
  have hk : t.kind ≠ 0 := by obtain ⟨_, _, hk, _⟩ := h; exact hk
  have hpos : 1 ≤ t.text.length := by
    have := firstL_pos (t.text ++ r) (by rw [hf]; exact hk)
    rw [hf] at this
    exact this
  rw [scan_next (by rw [hg, List.length_append]; omega) (by rw [hg, List.drop_zero, hf]; exact hk), hg, List.drop_zero, hf]
  simp only [Nat.zero_add, Nat.add_zero]
  rw [List.drop_append_of_le_length (Nat.le_refl _), List.drop_length, List.nil_append, List.take_append_of_le_length (Nat.le_refl _), List.take_length]
/-- What says nothing. -/
def Mute (s : List Nat) : Prop := ∀ r, gapL (s ++ r) = s.length + gapL r
theorem scan_mute {s : List Nat} (h : Mute s) (r : List Nat) (a : Nat) : scan (s ++ r) a = scan r (a + s.length) := by
  have hg := h r
  have e : (s ++ r).drop (gapL (s ++ r)) = r.drop (gapL r) := by
    rw [hg, ← List.drop_drop, List.drop_append_of_le_length (Nat.le_refl _), List.drop_length, List.nil_append]
  by_cases hend : r.length ≤ gapL r
  · rw [scan_end hend, scan_end (by rw [hg, List.length_append]; omega)]
  · have hlt : gapL (s ++ r) < (s ++ r).length := by rw [hg, List.length_append]; omega
    by_cases hf : (firstL (r.drop (gapL r))).1 = 0
    · rw [scan_bad (by omega) hf, scan_bad hlt (by rw [e]; exact hf)]
    · rw [scan_next (by omega) hf, scan_next hlt (by rw [e]; exact hf), ← List.drop_drop, ← List.drop_drop, e, hg]
      simp only [Nat.add_assoc]
theorem mute_blank {b : Nat} (hb : b = 32 ∨ b = 9 ∨ b = 10) {s : List Nat} (h : Mute s) : Mute (b :: s) := fun r => by
  rw [List.cons_append]
  show gapC false _ = _
  simp only [gapC]
  rw [if_pos hb]
  have := h r
  unfold gapL at this
  rw [this, List.length_cons]
  unfold gapL
  omega
theorem mute_nil : Mute [] := fun r => by simp
/-- The tokens, but for their places. -/
def keys (ts : List Tok) : List (Nat × List Nat) := ts.map fun t => (t.kind, t.text)
theorem again_wide {sep : List Nat} (hm : Mute sep) (ha : ∃ b s, sep = b :: s ∧ (b = 32 ∨ b = 9 ∨ b = 10)) : ∀ (ts : List Tok) (a : Nat), (∀ t ∈ ts, Good t) → ∃ ms, scan ((ts.map fun t => t.text ++ sep).flatten) a = some ms ∧ keys ms = keys ts
  | [], a, _ => ⟨[], by rw [scan_end]; simp, rfl⟩
  | t :: ts, a, h => by
    obtain ⟨ms, h1, h2⟩ := again_wide hm ha ts (a + t.text.length + sep.length) fun u hu => h u (by simp [hu])
    obtain ⟨b, s, hs, hb⟩ := ha
    refine ⟨⟨t.kind, t.text, a⟩ :: ms, ?_, by unfold keys at *; rw [List.map_cons, List.map_cons, h2]⟩
    rw [List.map_cons, List.flatten_cons, List.append_assoc, scan_tok (h t (by simp)) (.inr ⟨b, s ++ (ts.map fun t => t.text ++ sep).flatten, by rw [hs]; rfl, hb⟩), scan_mute hm, h1]
    rfl
/-- The texts with blanks between. -/
def joinT : List (List Nat) → List Nat
  | [] => []
  | [x] => x
  | x :: y :: r => x ++ 32 :: joinT (y :: r)
theorem again_join : ∀ (ts : List Tok) (a : Nat), (∀ t ∈ ts, Good t) → ∃ ms, scan (joinT (ts.map (·.text))) a = some ms ∧ keys ms = keys ts
  | [], a, _ => ⟨[], by rw [scan_end]; simp [joinT], rfl⟩
  | [t], a, h => by
    refine ⟨[⟨t.kind, t.text, a⟩], ?_, rfl⟩
    have := scan_tok (h t (by simp)) (r := []) (.inl rfl) a
    rw [List.append_nil] at this
    show scan t.text a = _
    rw [this, scan_end (by simp)]
    rfl
  | t :: u :: ts, a, h => by
    obtain ⟨ms, h1, h2⟩ := again_join (u :: ts) (a + t.text.length + 1) fun v hv => h v (by simp at hv ⊢; exact .inr hv)
    refine ⟨⟨t.kind, t.text, a⟩ :: ms, ?_, by unfold keys at *; rw [List.map_cons, h2]; rfl⟩
    show scan (t.text ++ 32 :: joinT ((u :: ts).map (·.text))) a = _
    rw [scan_tok (h t (by simp)) (.inr ⟨32, _, rfl, .inl rfl⟩)]
    have hm := scan_mute (mute_blank (.inl rfl) mute_nil) (joinT ((u :: ts).map (·.text))) (a + t.text.length)
    rw [show (32 :: joinT ((u :: ts).map (·.text))) = [32] ++ joinT ((u :: ts).map (·.text)) from rfl, hm, show ([32] : List Nat).length = 1 from rfl, h1]
    rfl
end Go.Proofs.YtfnobibjphnmdaaGreatDoor
