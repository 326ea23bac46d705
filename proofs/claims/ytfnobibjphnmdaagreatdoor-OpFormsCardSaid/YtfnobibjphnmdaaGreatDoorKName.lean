/- Contracts: is it a name, to the program and to the reference. -/
import Derived.Test.YtfnobibjphnmdaaGreatDoorKIn
namespace Go.Proofs.YtfnobibjphnmdaaGreatDoor
open Go.RowKit
set_option linter.unusedSimpArgs false
set_option linter.unusedVariables false
theorem let_not_dig {c : Nat} (h : isLet c = true) : isDig c = false := by
  simp [isLet, isDig] at *
  omega
theorem runL_head {l : List Nat} (h : 1 ≤ l.length) (hr : runL l = l.length) : isLD (l.headD 0) = true := by
  rcases l with _ | ⟨b, l⟩
  · simp at h
  · simp only [runL, List.length_cons] at hr
    split at hr
    · assumption
    · omega
theorem name_eq (l : List Nat) : nameL l = (decide (1 ≤ l.length) && decide (l.length ≤ 64) && !isDig (l.headD 0) && decide (runL l = l.length)) := by
  unfold nameL
  by_cases h1 : 1 ≤ l.length
  · by_cases hr : runL l = l.length
    · have h := runL_head h1 hr
      unfold isLD at h
      rcases hl : isLet (l.headD 0) with _ | _
      · rw [hl, Bool.false_or] at h
        rw [h]
        rfl
      · rw [let_not_dig hl]
        simp
    · simp [hr]
  · simp [h1]
theorem nil_of {s : ByteArray} (h : s.size = 0) : (s.toList == []) = true := by
  rw [Lib.toList_data, beq_iff_eq, ← List.length_eq_zero_iff, Array.length_toList]
  exact h
theorem not_nil_of {s : ByteArray} (h : s.size ≠ 0) : (s.toList == []) = false := by
  rw [Lib.toList_data, beq_eq_false_iff_ne]
  intro e
  have := congrArg List.length e
  rw [Array.length_toList] at this
  exact h this
theorem str_head {s : ByteArray} (h : 0 < s.size) : (str s).headD 0 = (s[0]'h).toNat := by
  have := str_get s 0 h
  rcases hl : str s with _ | ⟨b, l⟩
  · rw [hl] at this; cases this
  · rw [hl] at this
    simpa using this
set_option maxRecDepth 100000 in
set_option maxHeartbeats 1000000 in
theorem isname_any (w : World) (s : ByteArray) (hs : s.size ≤ 140737488355328) :
    Calls Tryz.prog 23 #[.string s] w fun e w' => e = .returned (.bool (nameL (str s) && !inL (str s) wordsL)) ∧ Below w.heap.size w w' := by
  have HD := fun (x : World) (c : Nat) (hc : c < 256) => hide (digit_any x c hc)
  have HR := fun (x : World) => hide (run_any x s hs)
  have HW := fun (x : World) => hide (isword_any x s)
  have hn := name_eq (str s)
  rw [str_length] at hn
  by_cases h0 : s.size = 0
  · have hx := nil_of h0
    have hr : (nameL (str s) && !inL (str s) wordsL) = false := by rw [hn, show decide (1 ≤ s.size) = false from decide_eq_false (by omega)]; rfl
    rw [hr]
    clear hn hr
    go_enter Tryz.func23, Tryz.ntmps23
    go_wp2
    go_ret
    exact ⟨rfl, Below.refl _ _⟩
  · have hx := not_nil_of h0
    have hpos : 0 < s.size := by omega
    rw [show decide (1 ≤ s.size) = true from decide_eq_true (by omega), str_head hpos] at hn
    by_cases h64 : s.size ≤ 64
    · rw [decide_eq_true h64] at hn
      have hy : decide ((s.size : Int) ≤ 64) = true := decide_eq_true (by omega)
      have HBB := Lib.hid (UInt8.toNat_lt (s[0]'hpos))
      rcases hd : isDig (s[0]'hpos).toNat with _ | _
      · rw [hd] at hn
        by_cases hrun : runL (str s) = s.size
        · rw [decide_eq_true hrun] at hn
          have hz : ((runL (str s) : Int) == (s.size : Int)) = true := by rw [beq_iff_eq]; omega
          have HN := Lib.hid hn
          clear hn hrun
          go_enter Tryz.func23, Tryz.ntmps23
          go_wp2_with (first
            | (go_at_call 48; (with_reducible refine (unhide (HD _ _ HBB.out)).mono ?_); rintro e w1 ⟨rfl, rfl⟩)
            | (go_at_call 49; (with_reducible refine (unhide (HR _)).mono ?_); rintro e w1 ⟨rfl, rfl⟩)
            | (go_at_call 50; (with_reducible refine (unhide (HW _)).mono ?_); rintro e w1 ⟨rfl, hb⟩; have HB := Lib.hid hb; clear hb))
          go_ret
          exact ⟨by rw [HN.out]; rfl, HB.out⟩
        · have hz : ((runL (str s) : Int) == (s.size : Int)) = false := by rw [beq_eq_false_iff_ne]; omega
          have hr : (nameL (str s) && !inL (str s) wordsL) = false := by rw [hn, decide_eq_false hrun]; rfl
          rw [hr]
          clear hn hr hrun
          go_enter Tryz.func23, Tryz.ntmps23
          go_wp2_with (first
            | (go_at_call 48; (with_reducible refine (unhide (HD _ _ HBB.out)).mono ?_); rintro e w1 ⟨rfl, rfl⟩)
            | (go_at_call 49; (with_reducible refine (unhide (HR _)).mono ?_); rintro e w1 ⟨rfl, rfl⟩))
          go_ret
          exact ⟨rfl, Below.refl _ _⟩
      · have hr : (nameL (str s) && !inL (str s) wordsL) = false := by rw [hn, hd]; rfl
        rw [hr]
        clear hn hr
        go_enter Tryz.func23, Tryz.ntmps23
        go_wp2_with (go_at_call 48; (with_reducible refine (unhide (HD _ _ HBB.out)).mono ?_); rintro e w1 ⟨rfl, rfl⟩)
        go_ret
        exact ⟨rfl, Below.refl _ _⟩
    · have hy : decide ((s.size : Int) ≤ 64) = false := decide_eq_false (by omega)
      have hr : (nameL (str s) && !inL (str s) wordsL) = false := by rw [hn, decide_eq_false h64]; rfl
      rw [hr]
      clear hn hr
      go_enter Tryz.func23, Tryz.ntmps23
      go_wp2
      go_ret
      exact ⟨rfl, Below.refl _ _⟩
/-- The class of a byte. -/
theorem cls_one {c : Nat} : clsL c = 1 ↔ isLet c = true := by
  unfold clsL
  split
  · simp [*]
  · split
    · simp [*]
    · split <;> simp [*]
theorem cls_ld {c : Nat} : (clsL c = 1 ∨ clsL c = 2) ↔ isLD c = true := by
  unfold clsL isLD
  split
  · simp [*]
  · split
    · simp [*]
    · split <;> simp [*]
theorem cls_le (c : Nat) : clsL c ≤ 3 := by
  unfold clsL
  split
  · omega
  · split
    · omega
    · split <;> omega
theorem runL_full {l : List Nat} (h : ∀ (j b : Nat), l[j]? = some b → isLD b = true) : runL l = l.length := by
  induction l with
  | nil => rfl
  | cons b l ih =>
    simp only [runL, List.length_cons]
    rw [if_pos (h 0 b rfl), ih fun j c hc => h (j + 1) c hc]
theorem runL_all : ∀ {l : List Nat}, runL l = l.length → ∀ (j b : Nat), l[j]? = some b → isLD b = true
  | [], _, j, b, h => by simp at h
  | c :: l, hr, j, b, h => by
    simp only [runL, List.length_cons] at hr
    split at hr
    · rcases j with _ | j
      · simp at h; subst h; assumption
      · exact runL_all (by omega) j b h
    · omega
def NameR (l : List Nat) (i : Value) : Prop := ∃ k : Nat, i = .int .i64 (k : Int) ∧ k ≤ l.length ∧ ∀ (j b : Nat), j < k → l[j]? = some b → isLD b = true
set_option maxRecDepth 100000 in
set_option maxHeartbeats 1000000 in
theorem rname_any (w : World) (s : ByteArray) (hs : s.size ≤ 140737488355328) :
    Calls Tryz.prog 47 #[.string s] w fun e w' => e = .returned (.bool (nameL (str s))) ∧ w = w' := by
  have HC := fun (x : World) (c : Nat) (hc : c < 256) => hide (class_any x c hc)
  have hn : nameL (str s) = _ := rfl
  unfold nameL at hn
  rw [str_length] at hn
  by_cases h0 : s.size < 1
  · have hr : nameL (str s) = false := by unfold nameL; rw [str_length, show decide (1 ≤ s.size) = false from decide_eq_false (by omega)]; rfl
    rw [hr]
    have hx : decide ((s.size : Int) < 1) = true := decide_eq_true (by omega)
    clear hn hr
    go_enter Tryz.func47, Tryz.ntmps47
    go_wp2
    go_ret
    exact ⟨rfl, rfl⟩
  · have hx : decide ((s.size : Int) < 1) = false := decide_eq_false (by omega)
    have hpos : 0 < s.size := by omega
    by_cases h64 : 64 < s.size
    · have hr : nameL (str s) = false := by unfold nameL; rw [str_length, show decide (s.size ≤ 64) = false from decide_eq_false (by omega)]; simp
      rw [hr]
      have hy : decide (64 < (s.size : Int)) = true := decide_eq_true (by omega)
      clear hn hr
      go_enter Tryz.func47, Tryz.ntmps47
      go_wp2
      go_ret
      exact ⟨rfl, rfl⟩
    · have hy : decide (64 < (s.size : Int)) = false := decide_eq_false (by omega)
      have HBB := Lib.hid (UInt8.toNat_lt (s[0]'hpos))
      by_cases h1 : clsL (s[0]'hpos).toNat = 1
      · have hc1 : ((clsL (s[0]'hpos).toNat : Int) == 1) = true := by rw [beq_iff_eq]; omega
        have hc1n : ((clsL (s[0]'hpos).toNat : Int) != 1) = false := by rw [bne, hc1]; rfl
        have hl := cls_one.1 h1
        have hr : nameL (str s) = decide (runL (str s) = s.size) := by
          unfold nameL
          rw [str_length, str_head hpos, hl, show decide (1 ≤ s.size) = true from decide_eq_true (by omega), show decide (s.size ≤ 64) = true from decide_eq_true (by omega)]
          simp
        have HR := Lib.hid hr
        clear hn hr h1 hl
        go_enter Tryz.func47, Tryz.ntmps47
        go_wp2_with (go_at_call 62; (with_reducible refine (unhide (HC _ _ HBB.out)).mono ?_); rintro e w1 ⟨rfl, rfl⟩)
        clear hc1 hc1n
        go_loop [3] (fun i => NameR (str s) i) (fun i => s.size - (intOf i).toNat)
        case atStart => exact ⟨0, rfl, by omega, fun j b h => by omega⟩
        case round =>
          obtain ⟨k, rfl, hk, hrel⟩ := hrel
          rw [str_length] at hk
          have HREL := Lib.hid hrel
          clear hrel
          by_cases hlt : k < s.size
          · have HG := Lib.hid (str_get s k hlt)
            have HBK := Lib.hid (UInt8.toNat_lt (s[k]'hlt))
            rcases hld : isLD (s[k]'hlt).toNat with _ | _
            · have hno : ¬ (clsL (s[k]'hlt).toNat = 1 ∨ clsL (s[k]'hlt).toNat = 2) := fun h => by rw [cls_ld.1 h] at hld; cases hld
              have hc1 : ((clsL (s[k]'hlt).toNat : Int) == 1) = false := by rw [beq_eq_false_iff_ne]; omega
              have hc1n : ((clsL (s[k]'hlt).toNat : Int) != 1) = true := by rw [bne, hc1]; rfl
              have hc2 : ((clsL (s[k]'hlt).toNat : Int) == 2) = false := by rw [beq_eq_false_iff_ne]; omega
              have hc2n : ((clsL (s[k]'hlt).toNat : Int) != 2) = true := by rw [bne, hc2]; rfl
              have HLD := Lib.hid hld
              clear hno hld
              go_wp2_with (go_at_call 62; (with_reducible refine (unhide (HC _ _ HBK.out)).mono ?_); rintro e w1 ⟨rfl, rfl⟩)
              go_ret
              refine ⟨?_, rfl⟩
              rw [HR.out, decide_eq_false]
              · rfl
              · intro h
                have := runL_all (by rw [str_length]; exact h) k _ HG.out
                rw [HLD.out] at this
                cases this
            · have hyes := cls_ld.2 hld
              have HLD := Lib.hid hld
              clear hld
              by_cases hone : clsL (s[k]'hlt).toNat = 1
              · have hc1 : ((clsL (s[k]'hlt).toNat : Int) == 1) = true := by rw [beq_iff_eq]; omega
                have hc1n : ((clsL (s[k]'hlt).toNat : Int) != 1) = false := by rw [bne, hc1]; rfl
                clear hyes hone
                go_wp2_with (go_at_call 62; (with_reducible refine (unhide (HC _ _ HBK.out)).mono ?_); rintro e w1 ⟨rfl, rfl⟩)
                go_round
                case rel =>
                  refine ⟨k + 1, by go_num, by rw [str_length]; omega, fun j b hj hb => ?_⟩
                  rcases Nat.lt_or_ge j k with h | h
                  · exact HREL.out j b h hb
                  · obtain rfl : j = k := by omega
                    rw [HG.out] at hb
                    injection hb with hb
                    rw [← hb]
                    exact HLD.out
                case measure => simp [intOf]; omega
              · have hc1 : ((clsL (s[k]'hlt).toNat : Int) == 1) = false := by rw [beq_eq_false_iff_ne]; omega
                have hc1n : ((clsL (s[k]'hlt).toNat : Int) != 1) = true := by rw [bne, hc1]; rfl
                have hc2 : ((clsL (s[k]'hlt).toNat : Int) == 2) = true := by rw [beq_iff_eq]; omega
                have hc2n : ((clsL (s[k]'hlt).toNat : Int) != 2) = false := by rw [bne, hc2]; rfl
                clear hyes hone
                go_wp2_with (go_at_call 62; (with_reducible refine (unhide (HC _ _ HBK.out)).mono ?_); rintro e w1 ⟨rfl, rfl⟩)
                go_round
                case rel =>
                  refine ⟨k + 1, by go_num, by rw [str_length]; omega, fun j b hj hb => ?_⟩
                  rcases Nat.lt_or_ge j k with h | h
                  · exact HREL.out j b h hb
                  · obtain rfl : j = k := by omega
                    rw [HG.out] at hb
                    injection hb with hb
                    rw [← hb]
                    exact HLD.out
                case measure => simp [intOf]; omega
          · go_wp2
            go_ret
            refine ⟨?_, rfl⟩
            rw [HR.out, decide_eq_true]
            · rfl
            · rw [← str_length]
              refine runL_full fun j b hb => HREL.out j b ?_ hb
              have hj2 : j < (str s).length := by
                rcases Nat.lt_or_ge j (str s).length with h1 | h1
                · exact h1
                · rw [List.getElem?_eq_none h1] at hb; cases hb
              rw [str_length] at hj2
              omega
      · have hc1 : ((clsL (s[0]'hpos).toNat : Int) == 1) = false := by rw [beq_eq_false_iff_ne]; omega
        have hc1n : ((clsL (s[0]'hpos).toNat : Int) != 1) = true := by rw [bne, hc1]; rfl
        have hr : nameL (str s) = false := by
          unfold nameL
          rw [str_head hpos, show isLet (s[0]'hpos).toNat = false from by rcases h : isLet (s[0]'hpos).toNat with _ | _; rfl; exact absurd (cls_one.2 h) h1]
          simp
        rw [hr]
        clear hn hr h1
        go_enter Tryz.func47, Tryz.ntmps47
        go_wp2_with (go_at_call 62; (with_reducible refine (unhide (HC _ _ HBB.out)).mono ?_); rintro e w1 ⟨rfl, rfl⟩)
        go_ret
        exact ⟨rfl, rfl⟩
end Go.Proofs.YtfnobibjphnmdaaGreatDoor
