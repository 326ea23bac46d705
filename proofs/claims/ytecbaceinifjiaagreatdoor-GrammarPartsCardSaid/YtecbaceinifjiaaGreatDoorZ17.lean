/- KRows, KByte, KRun, KGap: joined by program (tools/merge.py). -/
import Derived.Test.YtecbaceinifjiaaGreatDoorZ10
import Derived.Deep.Draws
import Derived.Test.YtecbaceinifjiaaGreatDoorZ0
namespace Go.Proofs.YtecbaceinifjiaaGreatDoor
open Go.RowKit
set_option linter.unusedSimpArgs false
set_option linter.unusedVariables false
def wordsB : List ByteArray := [⟨#[98, 111, 111, 108]⟩, ⟨#[100, 111]⟩, ⟨#[101, 108, 115, 101]⟩, ⟨#[102, 97, 108, 115, 101]⟩, ⟨#[102, 117, 110, 99]⟩, ⟨#[105, 102]⟩, ⟨#[105, 110, 116]⟩, ⟨#[108, 101, 116]⟩, ⟨#[109, 111, 100, 117, 108, 101]⟩, ⟨#[112, 114, 105, 110, 116]⟩, ⟨#[114, 101, 97, 100]⟩, ⟨#[114, 101, 116, 117, 114, 110]⟩, ⟨#[116, 114, 117, 101]⟩, ⟨#[119, 104, 105, 108, 101]⟩]
def signsB : List ByteArray := [⟨#[40]⟩, ⟨#[41]⟩, ⟨#[123]⟩, ⟨#[125]⟩, ⟨#[46]⟩, ⟨#[44]⟩, ⟨#[59]⟩, ⟨#[61]⟩, ⟨#[33]⟩, ⟨#[43]⟩, ⟨#[45]⟩, ⟨#[42]⟩, ⟨#[47]⟩, ⟨#[37]⟩, ⟨#[60]⟩, ⟨#[60, 61]⟩, ⟨#[62]⟩, ⟨#[62, 61]⟩, ⟨#[61, 61]⟩, ⟨#[33, 61]⟩, ⟨#[38, 38]⟩, ⟨#[124, 124]⟩]
theorem wordsB_str : wordsB.map str = wordsL := by decide
theorem signsB_str : signsB.map str = signsL := by decide
/-- v is a row of these strings, in a block of its own. -/
def SRow (w0 w : World) (v : Value) (zs : List ByteArray) : Prop :=
  ∃ b, v = .slice (some ⟨b, 0, none⟩) zs.length zs.length ∧ w0.heap.size ≤ b ∧ b < w.heap.size ∧ (∀ j x, zs[j]? = some x → w.cell? ⟨b, j, none⟩ = some (.string x)) ∧ Below w0.heap.size w0 w
theorem srow_new (w : World) (t : TypeId) (zs : List ByteArray) : SRow w (w.alloc (.cells (zs.map Value.string).toArray t)) (.slice (some ⟨w.heap.size, 0, none⟩) zs.length zs.length) zs := by
  refine ⟨_, rfl, Nat.le_refl _, by simp, fun j x h => ?_, (Below.refl _ w).alloc (Nat.le_refl _) _⟩
  rw [World.cell?_alloc_at _ _ _ _ rfl]
  simp [h]
set_option maxRecDepth 100000 in
set_option maxHeartbeats 1000000 in
theorem words_any (w : World) : Calls Tryz.prog 62 #[] w fun e w' => ∃ v, e = .returned v ∧ SRow w w' v wordsB := by
  go_enter Tryz.func62, Tryz.ntmps62
  go_wp2
  go_ret
  exact ⟨_, rfl, srow_new w _ wordsB⟩
set_option maxRecDepth 100000 in
set_option maxHeartbeats 1000000 in
theorem signs_any (w : World) : Calls Tryz.prog 59 #[] w fun e w' => ∃ v, e = .returned v ∧ SRow w w' v signsB := by
  go_enter Tryz.func59, Tryz.ntmps59
  go_wp2
  go_ret
  exact ⟨_, rfl, srow_new w _ signsB⟩
end Go.Proofs.YtecbaceinifjiaaGreatDoor
namespace Go.Proofs.YtecbaceinifjiaaGreatDoor
open Go.RowKit
set_option linter.unusedSimpArgs false
set_option linter.unusedVariables false
/-- 1 a letter, 2 a digit, 3 a blank, 0 else. -/
def clsL (c : Nat) : Nat := if isLet c then 1 else if isDig c then 2 else if c = 32 ∨ c = 9 ∨ c = 10 then 3 else 0
theorem let_eq {c : Nat} {b : Bool} (h : b = true ↔ (97 ≤ c ∧ c ≤ 122 ∨ 65 ≤ c ∧ c ≤ 90 ∨ c = 95)) : isLet c = b := by
  rw [Bool.eq_iff_iff, h]
  simp [isLet, or_assoc]
theorem dig_eq {c : Nat} {b : Bool} (h : b = true ↔ (48 ≤ c ∧ c ≤ 57)) : isDig c = b := by
  rw [Bool.eq_iff_iff, h]
  simp [isDig]

set_option maxRecDepth 100000 in
set_option maxHeartbeats 1000000 in
theorem digit_any (w : World) (c : Nat) (hc : c < 256) :
    Calls Tryz.prog 58 #[.int .u8 (c : Int)] w fun e w' => e = .returned (.bool (isDig c)) ∧ w = w' := by
  rcases (show (0 ≤ c ∧ c ≤ 47) ∨ (48 ≤ c ∧ c ≤ 57) ∨ (58 ≤ c ∧ c ≤ 255) by omega) with ⟨h, h2⟩ | ⟨h, h2⟩ | ⟨h, h2⟩
  · have hr : isDig c = false := dig_eq (by simp; omega)
    rw [hr]
    clear hr
    have hg97 : decide (97 ≤ (c : Int)) = false := decide_eq_false (by omega)
    have hg65 : decide (65 ≤ (c : Int)) = false := decide_eq_false (by omega)
    have hg48 : decide (48 ≤ (c : Int)) = false := decide_eq_false (by omega)
    have hl122 : decide ((c : Int) ≤ 122) = true := decide_eq_true (by omega)
    have hl90 : decide ((c : Int) ≤ 90) = true := decide_eq_true (by omega)
    have hl57 : decide ((c : Int) ≤ 57) = true := decide_eq_true (by omega)
    have he95 : ((c : Int) == 95) = false := by rw [beq_eq_false_iff_ne]; omega
    clear h h2 hc
    go_enter Tryz.func58, Tryz.ntmps58
    go_wp2
    go_ret
    exact ⟨rfl, rfl⟩
  · have hr : isDig c = true := dig_eq (by simp; omega)
    rw [hr]
    clear hr
    have hg97 : decide (97 ≤ (c : Int)) = false := decide_eq_false (by omega)
    have hg65 : decide (65 ≤ (c : Int)) = false := decide_eq_false (by omega)
    have hg48 : decide (48 ≤ (c : Int)) = true := decide_eq_true (by omega)
    have hl122 : decide ((c : Int) ≤ 122) = true := decide_eq_true (by omega)
    have hl90 : decide ((c : Int) ≤ 90) = true := decide_eq_true (by omega)
    have hl57 : decide ((c : Int) ≤ 57) = true := decide_eq_true (by omega)
    have he95 : ((c : Int) == 95) = false := by rw [beq_eq_false_iff_ne]; omega
    have he32 : ((c : Int) == 32) = false := by rw [beq_eq_false_iff_ne]; omega
    have he9 : ((c : Int) == 9) = false := by rw [beq_eq_false_iff_ne]; omega
    have he10 : ((c : Int) == 10) = false := by rw [beq_eq_false_iff_ne]; omega
    clear h h2 hc
    go_enter Tryz.func58, Tryz.ntmps58
    go_wp2
    go_ret
    exact ⟨rfl, rfl⟩
  · have hr : isDig c = false := dig_eq (by simp; omega)
    rw [hr]
    clear hr
    have hg48 : decide (48 ≤ (c : Int)) = true := decide_eq_true (by omega)
    have hl57 : decide ((c : Int) ≤ 57) = false := decide_eq_false (by omega)
    have he32 : ((c : Int) == 32) = false := by rw [beq_eq_false_iff_ne]; omega
    have he9 : ((c : Int) == 9) = false := by rw [beq_eq_false_iff_ne]; omega
    have he10 : ((c : Int) == 10) = false := by rw [beq_eq_false_iff_ne]; omega
    clear h h2 hc
    go_enter Tryz.func58, Tryz.ntmps58
    go_wp2
    go_ret
    exact ⟨rfl, rfl⟩
set_option maxRecDepth 100000 in
set_option maxHeartbeats 1000000 in
theorem letter_any (w : World) (c : Nat) (hc : c < 256) :
    Calls Tryz.prog 57 #[.int .u8 (c : Int)] w fun e w' => e = .returned (.bool (isLet c)) ∧ w = w' := by
  rcases (show (0 ≤ c ∧ c ≤ 64) ∨ (65 ≤ c ∧ c ≤ 90) ∨ (91 ≤ c ∧ c ≤ 94) ∨ (95 ≤ c ∧ c ≤ 95) ∨ (96 ≤ c ∧ c ≤ 96) ∨ (97 ≤ c ∧ c ≤ 122) ∨ (123 ≤ c ∧ c ≤ 255) by omega) with ⟨h, h2⟩ | ⟨h, h2⟩ | ⟨h, h2⟩ | ⟨h, h2⟩ | ⟨h, h2⟩ | ⟨h, h2⟩ | ⟨h, h2⟩
  · have hr : isLet c = false := let_eq (by simp; omega)
    rw [hr]
    clear hr
    have hg97 : decide (97 ≤ (c : Int)) = false := decide_eq_false (by omega)
    have hg65 : decide (65 ≤ (c : Int)) = false := decide_eq_false (by omega)
    have hl122 : decide ((c : Int) ≤ 122) = true := decide_eq_true (by omega)
    have hl90 : decide ((c : Int) ≤ 90) = true := decide_eq_true (by omega)
    have he95 : ((c : Int) == 95) = false := by rw [beq_eq_false_iff_ne]; omega
    clear h h2 hc
    go_enter Tryz.func57, Tryz.ntmps57
    go_wp2
    go_ret
    exact ⟨rfl, rfl⟩
  · have hr : isLet c = true := let_eq (by simp; omega)
    rw [hr]
    clear hr
    have hg97 : decide (97 ≤ (c : Int)) = false := decide_eq_false (by omega)
    have hg65 : decide (65 ≤ (c : Int)) = true := decide_eq_true (by omega)
    have hg48 : decide (48 ≤ (c : Int)) = true := decide_eq_true (by omega)
    have hl122 : decide ((c : Int) ≤ 122) = true := decide_eq_true (by omega)
    have hl90 : decide ((c : Int) ≤ 90) = true := decide_eq_true (by omega)
    have hl57 : decide ((c : Int) ≤ 57) = false := decide_eq_false (by omega)
    have he95 : ((c : Int) == 95) = false := by rw [beq_eq_false_iff_ne]; omega
    have he32 : ((c : Int) == 32) = false := by rw [beq_eq_false_iff_ne]; omega
    have he9 : ((c : Int) == 9) = false := by rw [beq_eq_false_iff_ne]; omega
    have he10 : ((c : Int) == 10) = false := by rw [beq_eq_false_iff_ne]; omega
    clear h h2 hc
    go_enter Tryz.func57, Tryz.ntmps57
    go_wp2
    go_ret
    exact ⟨rfl, rfl⟩
  · have hr : isLet c = false := let_eq (by simp; omega)
    rw [hr]
    clear hr
    have hg97 : decide (97 ≤ (c : Int)) = false := decide_eq_false (by omega)
    have hg65 : decide (65 ≤ (c : Int)) = true := decide_eq_true (by omega)
    have hg48 : decide (48 ≤ (c : Int)) = true := decide_eq_true (by omega)
    have hl122 : decide ((c : Int) ≤ 122) = true := decide_eq_true (by omega)
    have hl90 : decide ((c : Int) ≤ 90) = false := decide_eq_false (by omega)
    have hl57 : decide ((c : Int) ≤ 57) = false := decide_eq_false (by omega)
    have he95 : ((c : Int) == 95) = false := by rw [beq_eq_false_iff_ne]; omega
    have he32 : ((c : Int) == 32) = false := by rw [beq_eq_false_iff_ne]; omega
    have he9 : ((c : Int) == 9) = false := by rw [beq_eq_false_iff_ne]; omega
    have he10 : ((c : Int) == 10) = false := by rw [beq_eq_false_iff_ne]; omega
    clear h h2 hc
    go_enter Tryz.func57, Tryz.ntmps57
    go_wp2
    go_ret
    exact ⟨rfl, rfl⟩
  · have hr : isLet c = true := let_eq (by simp; omega)
    rw [hr]
    clear hr
    have hg97 : decide (97 ≤ (c : Int)) = false := decide_eq_false (by omega)
    have hg65 : decide (65 ≤ (c : Int)) = true := decide_eq_true (by omega)
    have hg48 : decide (48 ≤ (c : Int)) = true := decide_eq_true (by omega)
    have hl122 : decide ((c : Int) ≤ 122) = true := decide_eq_true (by omega)
    have hl90 : decide ((c : Int) ≤ 90) = false := decide_eq_false (by omega)
    have hl57 : decide ((c : Int) ≤ 57) = false := decide_eq_false (by omega)
    have he95 : ((c : Int) == 95) = true := by rw [beq_iff_eq]; omega
    have he32 : ((c : Int) == 32) = false := by rw [beq_eq_false_iff_ne]; omega
    have he9 : ((c : Int) == 9) = false := by rw [beq_eq_false_iff_ne]; omega
    have he10 : ((c : Int) == 10) = false := by rw [beq_eq_false_iff_ne]; omega
    clear h h2 hc
    go_enter Tryz.func57, Tryz.ntmps57
    go_wp2
    go_ret
    exact ⟨rfl, rfl⟩
  · have hr : isLet c = false := let_eq (by simp; omega)
    rw [hr]
    clear hr
    have hg97 : decide (97 ≤ (c : Int)) = false := decide_eq_false (by omega)
    have hg65 : decide (65 ≤ (c : Int)) = true := decide_eq_true (by omega)
    have hg48 : decide (48 ≤ (c : Int)) = true := decide_eq_true (by omega)
    have hl122 : decide ((c : Int) ≤ 122) = true := decide_eq_true (by omega)
    have hl90 : decide ((c : Int) ≤ 90) = false := decide_eq_false (by omega)
    have hl57 : decide ((c : Int) ≤ 57) = false := decide_eq_false (by omega)
    have he95 : ((c : Int) == 95) = false := by rw [beq_eq_false_iff_ne]; omega
    have he32 : ((c : Int) == 32) = false := by rw [beq_eq_false_iff_ne]; omega
    have he9 : ((c : Int) == 9) = false := by rw [beq_eq_false_iff_ne]; omega
    have he10 : ((c : Int) == 10) = false := by rw [beq_eq_false_iff_ne]; omega
    clear h h2 hc
    go_enter Tryz.func57, Tryz.ntmps57
    go_wp2
    go_ret
    exact ⟨rfl, rfl⟩
  · have hr : isLet c = true := let_eq (by simp; omega)
    rw [hr]
    clear hr
    have hg97 : decide (97 ≤ (c : Int)) = true := decide_eq_true (by omega)
    have hg65 : decide (65 ≤ (c : Int)) = true := decide_eq_true (by omega)
    have hg48 : decide (48 ≤ (c : Int)) = true := decide_eq_true (by omega)
    have hl122 : decide ((c : Int) ≤ 122) = true := decide_eq_true (by omega)
    have hl90 : decide ((c : Int) ≤ 90) = false := decide_eq_false (by omega)
    have hl57 : decide ((c : Int) ≤ 57) = false := decide_eq_false (by omega)
    have he95 : ((c : Int) == 95) = false := by rw [beq_eq_false_iff_ne]; omega
    have he32 : ((c : Int) == 32) = false := by rw [beq_eq_false_iff_ne]; omega
    have he9 : ((c : Int) == 9) = false := by rw [beq_eq_false_iff_ne]; omega
    have he10 : ((c : Int) == 10) = false := by rw [beq_eq_false_iff_ne]; omega
    clear h h2 hc
    go_enter Tryz.func57, Tryz.ntmps57
    go_wp2
    go_ret
    exact ⟨rfl, rfl⟩
  · have hr : isLet c = false := let_eq (by simp; omega)
    rw [hr]
    clear hr
    have hg97 : decide (97 ≤ (c : Int)) = true := decide_eq_true (by omega)
    have hg65 : decide (65 ≤ (c : Int)) = true := decide_eq_true (by omega)
    have hg48 : decide (48 ≤ (c : Int)) = true := decide_eq_true (by omega)
    have hl122 : decide ((c : Int) ≤ 122) = false := decide_eq_false (by omega)
    have hl90 : decide ((c : Int) ≤ 90) = false := decide_eq_false (by omega)
    have hl57 : decide ((c : Int) ≤ 57) = false := decide_eq_false (by omega)
    have he95 : ((c : Int) == 95) = false := by rw [beq_eq_false_iff_ne]; omega
    have he32 : ((c : Int) == 32) = false := by rw [beq_eq_false_iff_ne]; omega
    have he9 : ((c : Int) == 9) = false := by rw [beq_eq_false_iff_ne]; omega
    have he10 : ((c : Int) == 10) = false := by rw [beq_eq_false_iff_ne]; omega
    clear h h2 hc
    go_enter Tryz.func57, Tryz.ntmps57
    go_wp2
    go_ret
    exact ⟨rfl, rfl⟩
end Go.Proofs.YtecbaceinifjiaaGreatDoor
namespace Go.Proofs.YtecbaceinifjiaaGreatDoor
open Go.RowKit
set_option linter.unusedSimpArgs false
set_option linter.unusedVariables false
theorem runL_at {l : List Nat} {k : Nat} {b : Nat} (h : l[k]? = some b) : runL (l.drop k) = if isLD b then runL (l.drop (k + 1)) + 1 else 0 := by
  have hk : k < l.length := by
    rcases Nat.lt_or_ge k l.length with h1 | h1
    · exact h1
    · rw [List.getElem?_eq_none h1] at h; cases h
  rw [List.getElem?_eq_getElem hk] at h
  injection h with h
  rw [List.drop_eq_getElem_cons hk, h]
  rfl
def RunR (l : List Nat) (i : Value) : Prop := ∃ k : Nat, i = .int .i64 (k : Int) ∧ k ≤ l.length ∧ runL l = k + runL (l.drop k)
set_option maxRecDepth 100000 in
set_option maxHeartbeats 1000000 in
theorem run_any (w : World) (s : ByteArray) (hs : s.size ≤ 140737488355328) :
    Calls Tryz.prog 39 #[.string s] w fun e w' => e = .returned (.int .i64 (runL (str s) : Int)) ∧ w = w' := by
  have HD := fun (x : World) (c : Nat) (hc : c < 256) => hide (digit_any x c hc)
  have HT := fun (x : World) (c : Nat) (hc : c < 256) => hide (letter_any x c hc)
  obtain ⟨n, hn⟩ : ∃ n, n = s.size := ⟨_, rfl⟩
  go_enter Tryz.func39, Tryz.ntmps39
  go_wp2
  go_loop [6] (fun i => RunR (str s) i) (fun i => s.size - (intOf i).toNat)
  case atStart => exact ⟨0, rfl, by omega, by simp⟩
  case round =>
    obtain ⟨k, rfl, hk, hr⟩ := hrel
    rw [str_length] at hk
    by_cases hlt : k < s.size
    · have hb := str_get s k hlt
      rw [runL_at hb] at hr
      have HR := Lib.hid hr
      have HBB := Lib.hid (UInt8.toNat_lt (s[k]'hlt))
      clear hr hb
      rcases hl : isLet (s[k]'hlt).toNat with _ | _
      · rcases hd : isDig (s[k]'hlt).toNat with _ | _
        · go_wp2_with (first
            | (go_at_call 57; (with_reducible refine (unhide (HT _ _ HBB.out)).mono ?_); rintro e w1 ⟨rfl, rfl⟩)
            | (go_at_call 58; (with_reducible refine (unhide (HD _ _ HBB.out)).mono ?_); rintro e w1 ⟨rfl, rfl⟩))
          go_ret
          have h := HR.out
          rw [if_neg (by unfold isLD; rw [hl, hd]; simp)] at h
          exact ⟨by rw [h]; rfl, rfl⟩
        · go_wp2_with (first
            | (go_at_call 57; (with_reducible refine (unhide (HT _ _ HBB.out)).mono ?_); rintro e w1 ⟨rfl, rfl⟩)
            | (go_at_call 58; (with_reducible refine (unhide (HD _ _ HBB.out)).mono ?_); rintro e w1 ⟨rfl, rfl⟩))
          go_round
          case rel =>
            have h := HR.out
            rw [if_pos (by unfold isLD; rw [hl, hd]; rfl)] at h
            exact ⟨k + 1, by go_num, by rw [str_length]; omega, by rw [h]; omega⟩
          case measure => simp [intOf]; omega
      · go_wp2_with (first
          | (go_at_call 57; (with_reducible refine (unhide (HT _ _ HBB.out)).mono ?_); rintro e w1 ⟨rfl, rfl⟩)
          | (go_at_call 58; (with_reducible refine (unhide (HD _ _ HBB.out)).mono ?_); rintro e w1 ⟨rfl, rfl⟩))
        go_round
        case rel =>
          have h := HR.out
          rw [if_pos (by unfold isLD; rw [hl]; rfl)] at h
          exact ⟨k + 1, by go_num, by rw [str_length]; omega, by rw [h]; omega⟩
        case measure => simp [intOf]; omega
    · rw [List.drop_eq_nil_of_le (by rw [str_length]; omega)] at hr
      have HR := Lib.hid hr
      clear hr
      go_wp2
      go_ret
      have h := HR.out
      simp only [runL] at h
      exact ⟨by rw [h, show k + 0 = s.size by omega]; rfl, rfl⟩
end Go.Proofs.YtecbaceinifjiaaGreatDoor
namespace Go.Proofs.YtecbaceinifjiaaGreatDoor
open Go.RowKit
set_option linter.unusedSimpArgs false
set_option linter.unusedVariables false
theorem drop_cons {l : List Nat} {k b : Nat} (h : l[k]? = some b) : l.drop k = b :: l.drop (k + 1) := by
  have hk : k < l.length := by
    rcases Nat.lt_or_ge k l.length with h1 | h1
    · exact h1
    · rw [List.getElem?_eq_none h1] at h; cases h
  rw [List.getElem?_eq_getElem hk] at h
  injection h with h
  rw [List.drop_eq_getElem_cons hk, h]
theorem gap_blank {l : List Nat} {k b : Nat} (h : l[k]? = some b) (hb : b = 32 ∨ b = 9 ∨ b = 10) : gapC false (l.drop k) = gapC false (l.drop (k + 1)) + 1 := by
  rw [drop_cons h]; simp only [gapC]; rw [if_pos hb]
theorem gap_stop {l : List Nat} {k b : Nat} (h : l[k]? = some b) (hb : ¬ (b = 32 ∨ b = 9 ∨ b = 10)) (h2 : b ≠ 35) : gapC false (l.drop k) = 0 := by
  rw [drop_cons h]; simp only [gapC]; rw [if_neg hb, if_neg h2]
theorem gap_hash {l : List Nat} {k : Nat} (h : l[k]? = some 35) : gapC false (l.drop k) = gapC true (l.drop (k + 1)) + 1 := by
  rw [drop_cons h]; simp only [gapC]; rw [if_neg (by decide), if_pos trivial]
theorem gapC_all : ∀ l : List Nat, (∀ b ∈ l, b ≠ 10) → gapC true l = l.length
  | [], _ => rfl
  | b :: l, h => by
    simp only [gapC, List.length_cons]
    rw [show decide (b ≠ 10) = true from decide_eq_true (h b (by simp)), gapC_all l fun c hc => h c (by simp [hc])]
theorem gapC_line {l : List Nat} {o : Nat} (h : l[o]? = some 10) (hn : ∀ j, j < o → l[j]? ≠ some 10) : gapC true l = o + 1 + gapC false (l.drop (o + 1)) := by
  have hlt : o < l.length := by
    rcases Nat.lt_or_ge o l.length with h1 | h1
    · exact h1
    · rw [List.getElem?_eq_none h1] at h; cases h
  rw [gapC_true (k := o) fun j hj => ⟨l[j]'(by omega), List.getElem?_eq_getElem (by omega), fun e => hn j hj (by rw [List.getElem?_eq_getElem (by omega), e])⟩, drop_cons h]
  simp only [gapC]
  rw [show decide (¬ (10 : Nat) = 10) = false from rfl]
  omega
theorem str_at_iff (s : ByteArray) (k c : Nat) (hc : c < 256) : (str s)[k]? = some c ↔ s.data.toList[k]? = some (UInt8.ofNat c) := by
  unfold str
  rw [List.getElem?_map]
  constructor
  · intro h
    obtain ⟨u, hu, he⟩ := Option.map_eq_some_iff.1 h
    rw [hu]
    congr 1
    apply UInt8.toNat_inj.1
    rw [he, UInt8.toNat_ofNat_of_lt' (by simpa using hc)]
  · intro h
    rw [h]
    simp
    omega
/-- What IndexByte says of a comment. -/
theorem gap_none {s : ByteArray} {k : Nat} (hk : k ≤ s.size) (h35 : (str s)[k]? = some 35) (h : Lib.indexByte (s.extract k s.size).data.toList 10 = -1) : gapC false ((str s).drop k) = s.size - k := by
  have h2 := Lib.indexByte_none h
  have he : str (s.extract k s.size) = (str s).drop k := by rw [str_extract, List.take_of_length_le]; rw [List.length_drop, str_length]; exact Nat.le_refl _
  have hlt : k < s.size := by
    rcases Nat.lt_or_ge k s.size with h1 | h1
    · exact h1
    · rw [List.getElem?_eq_none (by rw [str_length]; exact h1)] at h35; cases h35
  rw [gap_hash h35, gapC_all]
  · rw [List.length_drop, str_length]
    omega
  · intro b hb e
    subst e
    obtain ⟨j, hj⟩ := List.mem_iff_getElem?.1 hb
    rw [List.getElem?_drop] at hj
    refine h2 (j + 1) ?_
    have := (str_at_iff (s.extract k s.size) (j + 1) 10 (by decide)).1 (by rw [he, List.getElem?_drop, ← hj]; congr 1; omega)
    exact this
theorem gap_some {s : ByteArray} {k o : Nat} (hk : k ≤ s.size) (h35 : (str s)[k]? = some 35) (h : Lib.indexByte (s.extract k s.size).data.toList 10 = (o : Int)) : gapC false ((str s).drop k) = o + 1 + gapC false ((str s).drop (k + o + 1)) ∧ k + o + 1 ≤ s.size := by
  obtain ⟨h1, h2⟩ := Lib.indexByte_some h
  have he : str (s.extract k s.size) = (str s).drop k := by rw [str_extract, List.take_of_length_le]; rw [List.length_drop, str_length]; exact Nat.le_refl _
  have h3 := (str_at_iff (s.extract k s.size) o 10 (by decide)).2 h1
  rw [he, List.getElem?_drop] at h3
  have hlt : k + o < s.size := by
    rcases Nat.lt_or_ge (k + o) s.size with h1 | h1
    · exact h1
    · rw [List.getElem?_eq_none (by rw [str_length]; exact h1)] at h3; cases h3
  rcases o with _ | o
  · rw [Nat.add_zero, h35] at h3
    cases h3
  · refine ⟨?_, by omega⟩
    rw [gap_hash h35, gapC_line (o := o) (by rw [List.getElem?_drop, ← h3]; congr 1; omega) ?_, List.drop_drop]
    · rw [show k + 1 + (o + 1) = k + (o + 1) + 1 by omega]
      omega
    · intro j hj e
      rw [List.getElem?_drop] at e
      refine h2 (j + 1) (by omega) ?_
      exact (str_at_iff (s.extract k s.size) (j + 1) 10 (by decide)).1 (by rw [he, List.getElem?_drop, ← e]; congr 1; omega)
def GapR (s : ByteArray) (i : Value) : Prop := ∃ k : Nat, i = .int .i64 (k : Int) ∧ k ≤ s.size ∧ gapL (str s) = k + gapC false ((str s).drop k)
set_option maxRecDepth 100000 in
set_option maxHeartbeats 1000000 in
theorem gap_any (w : World) (s : ByteArray) (hs : s.size ≤ 140737488355328) :
    Calls Tryz.prog 27 #[.string s] w fun e w' => e = .returned (.int .i64 (gapL (str s) : Int)) ∧ w = w' := by
  have HI := fun (x : World) (t : ByteArray) => hide (tk_index_any x t)
  go_enter Tryz.func27, Tryz.ntmps27
  go_wp2
  go_loop [3] (fun i => GapR s i) (fun i => s.size - (intOf i).toNat)
  case atStart => exact ⟨0, rfl, by omega, by simp [gapL]⟩
  case round =>
    obtain ⟨k, rfl, hk, hr⟩ := hrel
    have HR := Lib.hid hr
    clear hr
    by_cases hlt : k < s.size
    · have hb := str_get s k hlt
      have HB := Lib.hid hb
      clear hb
      by_cases h32 : (s[k]'hlt).toNat = 32
      · have e32 : (((s[k]'hlt).toNat : Int) == 32) = true := by rw [beq_iff_eq]; omega
        have h0 := HR.out
        rw [gap_blank HB.out (by omega)] at h0
        have HR0 := Lib.hid h0
        clear h0 h32
        go_wp2
        go_round
        case rel => exact ⟨k + 1, by go_num, by omega, by rw [HR0.out]; omega⟩
        case measure => simp [intOf]; omega
      · by_cases h9 : (s[k]'hlt).toNat = 9
        · have e32 : (((s[k]'hlt).toNat : Int) == 32) = false := by rw [beq_eq_false_iff_ne]; omega
          have e9 : (((s[k]'hlt).toNat : Int) == 9) = true := by rw [beq_iff_eq]; omega
          have h0 := HR.out
          rw [gap_blank HB.out (by omega)] at h0
          have HR0 := Lib.hid h0
          clear h0 h32 h9
          go_wp2
          go_round
          case rel => exact ⟨k + 1, by go_num, by omega, by rw [HR0.out]; omega⟩
          case measure => simp [intOf]; omega
        · by_cases h10 : (s[k]'hlt).toNat = 10
          · have e32 : (((s[k]'hlt).toNat : Int) == 32) = false := by rw [beq_eq_false_iff_ne]; omega
            have e9 : (((s[k]'hlt).toNat : Int) == 9) = false := by rw [beq_eq_false_iff_ne]; omega
            have e10 : (((s[k]'hlt).toNat : Int) == 10) = true := by rw [beq_iff_eq]; omega
            have h0 := HR.out
            rw [gap_blank HB.out (by omega)] at h0
            have HR0 := Lib.hid h0
            clear h0 h32 h9 h10
            go_wp2
            go_round
            case rel => exact ⟨k + 1, by go_num, by omega, by rw [HR0.out]; omega⟩
            case measure => simp [intOf]; omega
          · have e32 : (((s[k]'hlt).toNat : Int) == 32) = false := by rw [beq_eq_false_iff_ne]; omega
            have e9 : (((s[k]'hlt).toNat : Int) == 9) = false := by rw [beq_eq_false_iff_ne]; omega
            have e10 : (((s[k]'hlt).toNat : Int) == 10) = false := by rw [beq_eq_false_iff_ne]; omega
            by_cases h35 : (s[k]'hlt).toNat = 35
            · have e35 : (((s[k]'hlt).toNat : Int) == 35) = true := by rw [beq_iff_eq]; omega
              obtain ⟨j, hj⟩ : ∃ j, j = Lib.indexByte (s.extract k s.size).data.toList 10 := ⟨_, rfl⟩
              have HX := fun (x : World) => HI x (s.extract k s.size)
              rw [← hj] at HX
              have hj1 := Lib.indexByte_ge (s.extract k s.size).data.toList 10
              rw [← hj] at hj1
              have HJ := Lib.hid hj
              clear hj
              by_cases hneg : j < 0
              · go_wp2_with (go_at_call 38; (with_reducible refine (unhide (HX _)).mono ?_); rintro e w1 ⟨rfl, rfl⟩)
                go_ret
                have h0 := HR.out
                rw [gap_none hk (by rw [HB.out, h35]) (by rw [← HJ.out]; omega)] at h0
                exact ⟨by rw [h0, show k + (s.size - k) = s.size by omega]; rfl, rfl⟩
              · obtain ⟨o, rfl⟩ : ∃ o : Nat, j = (o : Int) := ⟨j.toNat, by omega⟩
                obtain ⟨h1, h2⟩ := gap_some hk (by rw [HB.out, h35]) HJ.out.symm
                have h0 := HR.out
                rw [h1] at h0
                have HR0 := Lib.hid h0
                clear h0 h1 h32 h9 h10 h35
                go_wp2_with (go_at_call 38; (with_reducible refine (unhide (HX _)).mono ?_); rintro e w1 ⟨rfl, rfl⟩)
                go_round
                case rel => exact ⟨k + o + 1, by go_num, by omega, by rw [HR0.out]; omega⟩
                case measure => simp [intOf]; omega
            · have e35 : (((s[k]'hlt).toNat : Int) == 35) = false := by rw [beq_eq_false_iff_ne]; omega
              have h0 := HR.out
              rw [gap_stop HB.out (by omega) h35] at h0
              have HR0 := Lib.hid h0
              clear h0 h32 h9 h10 h35
              go_wp2
              go_ret
              exact ⟨by rw [HR0.out]; rfl, rfl⟩
    · have h0 := HR.out
      rw [List.drop_eq_nil_of_le (by rw [str_length]; omega)] at h0
      have HR0 := Lib.hid h0
      clear h0
      go_wp2
      go_ret
      have h := HR0.out
      simp only [gapC] at h
      exact ⟨by rw [h, show k + 0 = s.size by omega]; rfl, rfl⟩
end Go.Proofs.YtecbaceinifjiaaGreatDoor
