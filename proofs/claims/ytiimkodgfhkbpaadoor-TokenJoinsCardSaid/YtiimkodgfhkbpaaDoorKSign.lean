/- Contracts: the sign at the front. -/
import Derived.Test.YtiimkodgfhkbpaaDoorKIn
namespace Go.Proofs.YtiimkodgfhkbpaaDoor
open Go.RowKit
set_option linter.unusedSimpArgs false
set_option linter.unusedVariables false
/-- Does l begin with p? -/
def pfxL (l p : List Nat) : Bool := decide (l.take p.length = p)
theorem pfx_str (s p : ByteArray) : Lib.hasPrefix s.data.toList p.data.toList = pfxL (str s) (str p) := by
  rw [← Lib.hasPrefix_raw, Bool.eq_iff_iff]
  unfold pfxL
  rw [Bool.and_eq_true, decide_eq_true_eq, decide_eq_true_eq, Lib.bytes_beq_iff, str_length]
  constructor
  · rintro ⟨_, h⟩
    have h2 := congrArg str h
    rw [str_extract, List.drop_zero, Nat.sub_zero] at h2
    exact h2
  · intro h
    have hl := congrArg List.length h
    rw [List.length_take, str_length, str_length] at hl
    refine ⟨by omega, str_inj ?_⟩
    rw [str_extract, List.drop_zero, Nat.sub_zero]
    exact h
theorem signsL_len : ∀ s ∈ signsL, s.length = 1 ∨ s.length = 2 := by decide
theorem signL_of {l : List Nat} {m : Nat} (h1 : ∀ s ∈ signsL, pfxL l s = true → s.length ≤ m) (h2 : m = 0 ∨ ∃ s ∈ signsL, pfxL l s = true ∧ s.length = m) : signL l = m := by
  unfold pfxL at h1 h2
  have hm : m ≤ 2 := by
    rcases h2 with h | ⟨s, hs, _, h⟩
    · omega
    · have := signsL_len s hs; omega
  unfold signL
  split
  · rename_i h
    have := h1 _ h.1 (decide_eq_true (by rw [List.length_take, Nat.min_eq_left h.2]))
    rw [List.length_take] at this
    omega
  · rename_i h
    split
    · rename_i h3
      have hl : 1 ≤ l.length := by
        rcases l with _ | ⟨b, l⟩
        · simp [signsL] at h3
        · simp
      have := h1 _ h3 (decide_eq_true (by rw [List.length_take, Nat.min_eq_left hl]))
      rw [List.length_take] at this
      rcases h2 with h4 | ⟨s, hs, hp, h4⟩
      · omega
      · rcases signsL_len s hs with h5 | h5
        · omega
        · have e := of_decide_eq_true hp
          rw [h5] at e
          have hl2 := congrArg List.length e
          rw [List.length_take] at hl2
          exact absurd ⟨e.symm ▸ hs, by omega⟩ h
    · rename_i h3
      rcases h2 with h4 | ⟨s, hs, hp, h4⟩
      · exact h4.symm
      · have e := of_decide_eq_true hp
        have hl2 := congrArg List.length e
        rw [List.length_take] at hl2
        rcases signsL_len s hs with h5 | h5
        · rw [h5] at e
          exact absurd (e.symm ▸ hs) h3
        · rw [h5] at e
          exact absurd ⟨e.symm ▸ hs, by omega⟩ h
/-- The kind of a sign this long. -/
def sgnK (n : Nat) : Int := if n = 0 then 0 else 4
def SignR (l : List Nat) (m i : Value) : Prop := ∃ k n : Nat, i = .int .i64 (k : Int) ∧ m = .int .i64 (n : Int) ∧ k ≤ 22 ∧ n ≤ 2 ∧ (∀ j s, j < k → signsL[j]? = some s → pfxL l s = true → s.length ≤ n) ∧ (n = 0 ∨ ∃ s ∈ signsL, pfxL l s = true ∧ s.length = n)
theorem signs_lie (w : World) : Calls Tryd.prog 22 #[] w fun e w' => ∃ b, e = .returned (.slice (some ⟨b, 0, none⟩) 22 22) ∧ (∀ j x, signsB[j]? = some x → w'.cell? ⟨b, j, none⟩ = some (.string x)) ∧ Below w.heap.size w w' :=
  (signs_any w).mono fun e w' ⟨v, he, b, hv, _, _, hc, hb⟩ => ⟨b, by rw [he, hv]; rfl, hc, hb⟩
set_option maxRecDepth 100000 in
set_option maxHeartbeats 1000000 in
theorem sign_any (w : World) (s : ByteArray) :
    Calls Tryd.prog 38 #[.string s] w fun e w' => e = .returned (.tuple #[.int .u8 (sgnK (signL (str s))), .int .i64 (signL (str s) : Int)]) ∧ Below w.heap.size w w' := by
  have HW := fun (x : World) => hide (signs_lie x)
  have HP := fun (x : World) (p : ByteArray) => hide (prefix_any x s p)
  go_enter Tryd.func38, Tryd.ntmps38
  go_wp2_with (go_at_call 22; (with_reducible refine (unhide (HW _)).mono ?_); rintro e w1 ⟨b, rfl, hc, hb⟩; go_loud (
        have HB := Lib.hid hb;
        have HC := Lib.hid hc;
        clear hb hc))
  go_loop [4, 9] (fun m i => SignR (str s) m i) (fun _ i => 22 - (intOf i).toNat)
  case atStart => exact ⟨0, 0, rfl, rfl, by omega, by omega, fun j s h => by omega, .inl rfl⟩
  case round =>
    obtain ⟨k, n, rfl, rfl, hk, hn, hr, hr2⟩ := hrel
    have HR := hide hr
    have HR2 := hide hr2
    clear hr hr2
    have hlen : signsB.length = 22 := rfl
    by_cases hlt : k < 22
    · obtain ⟨y, hy⟩ : ∃ y, signsB[k]? = some y := ⟨_, List.getElem?_eq_getElem (by rw [hlen]; exact hlt)⟩
      have hcell := HC.out k y hy
      have hy2 : signsL[k]? = some (str y) := by rw [← signsB_str, List.getElem?_map, hy]; rfl
      have hys : y.size ≤ 2 := by
        have := signsL_len _ (List.mem_of_getElem? hy2)
        rw [str_length] at this
        omega
      have HY := Lib.hid hy2
      have hx := pfx_str s y
      clear hy hy2
      rcases hp : pfxL (str s) (str y) with _ | _
      · rw [hp] at hx
        have HP2 := Lib.hid hp
        clear hp
        go_wp2_with (go_at_call 48; (with_reducible refine (unhide (HP _ _)).mono ?_); rintro e w2 ⟨rfl, rfl⟩)
        go_round
        case rel =>
          refine ⟨k + 1, n, by go_num, rfl, by omega, hn, fun j z hj hz hq => ?_, unhide HR2⟩
          rcases Nat.lt_or_ge j k with h | h
          · exact unhide HR j z h hz hq
          · obtain rfl : j = k := by omega
            rw [HY.out] at hz
            injection hz with hz
            rw [← hz, HP2.out] at hq
            cases hq
        case measure => simp [intOf]; omega
      · rw [hp] at hx
        have HP2 := Lib.hid hp
        clear hp
        go_wp2_with (go_at_call 48; (with_reducible refine (unhide (HP _ _)).mono ?_); rintro e w2 ⟨rfl, rfl⟩)
        go_round
        case rel =>
          refine ⟨k + 1, max n y.size, by go_num, congrArg (Value.int .i64) (by omega), by omega, by omega, fun j z hj hz hq => ?_, ?_⟩
          · rcases Nat.lt_or_ge j k with h | h
            · have := unhide HR j z h hz hq
              omega
            · obtain rfl : j = k := by omega
              rw [HY.out] at hz
              injection hz with hz
              rw [← hz, str_length]
              omega
          · rcases Nat.le_total n y.size with h | h
            · exact .inr ⟨str y, List.mem_of_getElem? HY.out, HP2.out, by rw [str_length]; omega⟩
            · rw [Nat.max_eq_left h]
              exact unhide HR2
        case measure => simp [intOf]; omega
    · have hs : signL (str s) = n := signL_of (fun z hz hq => by
        obtain ⟨j, hj⟩ := List.mem_iff_getElem?.1 hz
        refine unhide HR j z ?_ hj hq
        have hj2 : j < signsL.length := by
          rcases Nat.lt_or_ge j signsL.length with h1 | h1
          · exact h1
          · rw [List.getElem?_eq_none h1] at hj; cases hj
        have : signsL.length = 22 := rfl
        omega) (unhide HR2)
      have HS := Lib.hid hs
      clear hs
      by_cases hn0 : n = 0
      · subst hn0
        go_wp2
        go_ret2
        exact ⟨by rw [HS.out]; rfl, HB.out⟩
      · have h0 : ((n : Int) == 0) = false := by rw [beq_eq_false_iff_ne]; omega
        go_wp2
        go_ret2
        refine ⟨?_, HB.out⟩
        rw [HS.out]
        unfold sgnK
        rw [if_neg hn0]
        rfl
end Go.Proofs.YtiimkodgfhkbpaaDoor
