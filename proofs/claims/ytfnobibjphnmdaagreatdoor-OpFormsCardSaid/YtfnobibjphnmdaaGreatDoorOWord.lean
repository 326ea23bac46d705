/- Contracts: the kinds' words, what a kind has. -/
import Derived.Test.YtfnobibjphnmdaaGreatDoorOSh
namespace Go.Proofs.YtfnobibjphnmdaaGreatDoor
open Go.RowKit
set_option linter.unusedVariables false
set_option linter.unusedSimpArgs false
theorem wordK_big {k : Nat} (h : ¬ k < 15) : wordK k = [] := by
  unfold wordK
  rw [List.getD_eq_getElem?_getD, List.getElem?_eq_none (by simp [opWords]; omega)]
  rfl
set_option maxRecDepth 100000 in
theorem word_any (w : World) (k : Nat) (hk : k < 256) (hv : Vo w) :
    Calls Tryz.prog 18 #[.int .u8 (k : Int)] w fun e w' => e = .returned (.string (ba (wordK k))) ∧ w' = w := by
  by_cases h : k < 15
  · have hx : decide ((15 : Int) ≤ (k : Int)) = false := decide_eq_false (by omega)
    have hy : decide ((k : Int) < 15) = true := decide_eq_true (by omega)
    have hc := hv.wds k h
    go_enter Tryz.func18, Tryz.ntmps18
    go_wp2
    go_ret
    exact ⟨rfl, rfl⟩
  · have hx : decide ((15 : Int) ≤ (k : Int)) = true := decide_eq_true (by omega)
    rw [wordK_big h]
    go_enter Tryz.func18, Tryz.ntmps18
    go_wp2
    go_ret
    exact ⟨rfl, rfl⟩
theorem hasA_any (w : World) (k : Nat) (hk : k < 256) :
    Calls Tryz.prog 24 #[.int .u8 (k : Int)] w fun e w' => e = .returned (.bool (aK k)) ∧ w' = w := by
  have he : aK k = ((k : Int) != 10) := by
    unfold aK
    rw [bne, Bool.beq_eq_decide_eq]
    congr 1
    exact decide_eq_decide.2 (by omega)
  rw [he]
  go_enter Tryz.func24, Tryz.ntmps24
  go_wp2
  go_ret
  exact ⟨rfl, rfl⟩
theorem hasB_any (w : World) (k : Nat) (hk : k < 256) :
    Calls Tryz.prog 25 #[.int .u8 (k : Int)] w fun e w' => e = .returned (.bool (bK k)) ∧ w' = w := by
  by_cases h5 : k = 5
  · subst h5
    go_enter Tryz.func25, Tryz.ntmps25
    go_wp2
    go_ret
    exact ⟨rfl, rfl⟩
  · have h1 : ((k : Int) == 5) = false := by rw [beq_eq_false_iff_ne]; omega
    have he : bK k = ((k : Int) == 8) := by
      unfold bK
      rw [decide_eq_false h5, Bool.false_or]
      rw [Bool.beq_eq_decide_eq]
      exact decide_eq_decide.2 (by omega)
    rw [he]
    go_enter Tryz.func25, Tryz.ntmps25
    go_wp2
    go_ret
    exact ⟨rfl, rfl⟩
theorem hasN_any (w : World) (k : Nat) (hk : k < 256) :
    Calls Tryz.prog 22 #[.int .u8 (k : Int)] w fun e w' => e = .returned (.bool (nK k)) ∧ w' = w := by
  by_cases h : k ∈ [1, 2, 3, 4, 6, 8, 10]
  · have hn : nK k = true := decide_eq_true h
    rw [hn]
    simp only [List.mem_cons, List.not_mem_nil, or_false] at h
    clear hn
    rcases h with rfl | rfl | rfl | rfl | rfl | rfl | rfl
    all_goals
      go_enter Tryz.func22, Tryz.ntmps22
      go_wp2
      go_ret
      exact ⟨rfl, rfl⟩
  · have hn : nK k = false := decide_eq_false h
    rw [hn]
    simp only [List.mem_cons, List.not_mem_nil, or_false, not_or] at h
    obtain ⟨h1, h2, h3, h4, h5, h6, h7⟩ := h
    have e1 : ((k : Int) == 1) = false := by rw [beq_eq_false_iff_ne]; omega
    have e2 : ((k : Int) == 2) = false := by rw [beq_eq_false_iff_ne]; omega
    have e3 : ((k : Int) == 3) = false := by rw [beq_eq_false_iff_ne]; omega
    have e4 : ((k : Int) == 4) = false := by rw [beq_eq_false_iff_ne]; omega
    have e5 : ((k : Int) == 6) = false := by rw [beq_eq_false_iff_ne]; omega
    have e6 : ((k : Int) == 8) = false := by rw [beq_eq_false_iff_ne]; omega
    have e7 : ((k : Int) == 10) = false := by rw [beq_eq_false_iff_ne]; omega
    clear h1 h2 h3 h4 h5 h6 h7 hn
    go_enter Tryz.func22, Tryz.ntmps22
    go_wp2
    go_ret
    exact ⟨rfl, rfl⟩
end Go.Proofs.YtfnobibjphnmdaaGreatDoor
