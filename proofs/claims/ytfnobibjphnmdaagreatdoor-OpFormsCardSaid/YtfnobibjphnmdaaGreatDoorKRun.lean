/- Contracts: how many bytes at the front may stand in a name. -/
import Derived.Test.YtfnobibjphnmdaaGreatDoorKByte
namespace Go.Proofs.YtfnobibjphnmdaaGreatDoor
open Go.RowKit
set_option linter.unusedSimpArgs false
set_option linter.unusedVariables false
theorem runL_at {l : List Nat} {k : Nat} {b : Nat} (h : l[k]? = some b) : runL (l.drop k) = if isLD b then runL (l.drop (k + 1)) + 1 else 0 := by
  have hk : k < l.length := by
    rcases Nat.lt_or_ge k l.length with h1 | h1
    · exact h1
    · rw [List.getElem?_eq_none h1] at h; cases h
  rw [List.getElem?_eq_getElem hk] at h
  injection h with h
  rw [List.drop_eq_getElem_cons hk, h]
  rfl
def RunR (l : List Nat) (i : Value) : Prop := ∃ k : Nat, i = .int .i64 (k : Int) ∧ k ≤ l.length ∧ runL l = k + runL (l.drop k)
set_option maxRecDepth 100000 in
set_option maxHeartbeats 1000000 in
theorem run_any (w : World) (s : ByteArray) (hs : s.size ≤ 140737488355328) :
    Calls Tryz.prog 49 #[.string s] w fun e w' => e = .returned (.int .i64 (runL (str s) : Int)) ∧ w = w' := by
  have HD := fun (x : World) (c : Nat) (hc : c < 256) => hide (digit_any x c hc)
  have HT := fun (x : World) (c : Nat) (hc : c < 256) => hide (letter_any x c hc)
  obtain ⟨n, hn⟩ : ∃ n, n = s.size := ⟨_, rfl⟩
  go_enter Tryz.func49, Tryz.ntmps49
  go_wp2
  go_loop [6] (fun i => RunR (str s) i) (fun i => s.size - (intOf i).toNat)
  case atStart => exact ⟨0, rfl, by omega, by simp⟩
  case round =>
    obtain ⟨k, rfl, hk, hr⟩ := hrel
    rw [str_length] at hk
    by_cases hlt : k < s.size
    · have hb := str_get s k hlt
      rw [runL_at hb] at hr
      have HR := Lib.hid hr
      have HBB := Lib.hid (UInt8.toNat_lt (s[k]'hlt))
      clear hr hb
      rcases hl : isLet (s[k]'hlt).toNat with _ | _
      · rcases hd : isDig (s[k]'hlt).toNat with _ | _
        · go_wp2_with (first
            | (go_at_call 63; (with_reducible refine (unhide (HT _ _ HBB.out)).mono ?_); rintro e w1 ⟨rfl, rfl⟩)
            | (go_at_call 48; (with_reducible refine (unhide (HD _ _ HBB.out)).mono ?_); rintro e w1 ⟨rfl, rfl⟩))
          go_ret
          have h := HR.out
          rw [if_neg (by unfold isLD; rw [hl, hd]; simp)] at h
          exact ⟨by rw [h]; rfl, rfl⟩
        · go_wp2_with (first
            | (go_at_call 63; (with_reducible refine (unhide (HT _ _ HBB.out)).mono ?_); rintro e w1 ⟨rfl, rfl⟩)
            | (go_at_call 48; (with_reducible refine (unhide (HD _ _ HBB.out)).mono ?_); rintro e w1 ⟨rfl, rfl⟩))
          go_round
          case rel =>
            have h := HR.out
            rw [if_pos (by unfold isLD; rw [hl, hd]; rfl)] at h
            exact ⟨k + 1, by go_num, by rw [str_length]; omega, by rw [h]; omega⟩
          case measure => simp [intOf]; omega
      · go_wp2_with (first
          | (go_at_call 63; (with_reducible refine (unhide (HT _ _ HBB.out)).mono ?_); rintro e w1 ⟨rfl, rfl⟩)
          | (go_at_call 48; (with_reducible refine (unhide (HD _ _ HBB.out)).mono ?_); rintro e w1 ⟨rfl, rfl⟩))
        go_round
        case rel =>
          have h := HR.out
          rw [if_pos (by unfold isLD; rw [hl]; rfl)] at h
          exact ⟨k + 1, by go_num, by rw [str_length]; omega, by rw [h]; omega⟩
        case measure => simp [intOf]; omega
    · rw [List.drop_eq_nil_of_le (by rw [str_length]; omega)] at hr
      have HR := Lib.hid hr
      clear hr
      go_wp2
      go_ret
      have h := HR.out
      simp only [runL] at h
      exact ⟨by rw [h, show k + 0 = s.size by omega]; rfl, rfl⟩
end Go.Proofs.YtfnobibjphnmdaaGreatDoor
