/- Contract: a row that is nearly sorted already is sorted, or given up. -/
import Derived.Test.YtdphpjlhkamadaaZ30
namespace Go.Proofs.Ytdphpjlhkamadaa
open Go.RowKit
open Go.Sort (PermIn SortedIn SWO swp Holds putRow grow At Ins size_swp permIn_refl permIn_trans swp_permIn swp_get permIn_all swp_other)
set_option linter.unusedSimpArgs false
set_option linter.unusedVariables false
set_option maxRecDepth 100000
/-- What is told of it. -/
def PartR (w : World) (blk off a b : Nat) (d : Array Nat) (e : Ending) (w' : World) : Prop := ∃ (r : Bool) (d' : Array Nat), e = .returned (.bool r) ∧ PermIn a b d d' ∧ (r = true → SortedIn ltU a b d') ∧ At eU w blk off d' w'
set_option maxHeartbeats 6400000 in
theorem partial_any (w : World) (blk off len cap a b : Nat) (d : Array Nat) (hlen : d.size = len) (h0 : Holds eU w blk off d) (hb : blk < w.heap.size) (hab : a < b) (hbd : b ≤ len) (hsz : len < 4611686018427387904) (hfl : FloorU a b d) :
    Calls Try.prog 95 #[.slice (some ⟨blk, off, none⟩) len cap, .int .i64 a, .int .i64 b] w (PartR w blk off a b d) := by
  have H0 := Lib.hid h0
  have HL := Lib.hid hlen
  have HB := Lib.hid hb
  have HF := Lib.hid hfl
  have HAR := Lib.hid (At.refl h0)
  clear h0 hlen hb hfl
  go_enter Try.func95, Try.ntmps95
  go_wp2_with fail
  go_loopw [7, 8] (fun s7 s8 wr => ∃ (i s : Nat) (dk : Array Nat), s7 = .int .i64 i ∧ s8 = .int .i64 s ∧ a < i ∧ i ≤ b ∧ s ≤ 5 ∧ dk.size = len ∧ PermIn a b d dk ∧ SortedIn ltU a i dk ∧ At eU w blk off dk wr) (fun s7 s8 _ => 5 - (sInt s8).toNat)
  case atStart => exact ⟨a + 1, 0, d, by go_num, rfl, by omega, by omega, by omega, HL.out, permIn_refl _ _ _, sorted_one, HAR.out⟩
  case round =>
    obtain ⟨i, s, dk, rfl, rfl, hai, hib, hs5, hsk, hP, hS, hA⟩ := hrel
    obtain ⟨G, hG, hcw, hfw⟩ := row_fam hA H0.out HB.out (hsk.trans HL.out.symm)
    rw [HL.out] at hcw hfw
    have HG := Lib.hid hG
    have HP := Lib.hid hP
    have HS := Lib.hid hS
    have HA := Lib.hid hA
    have HK := Lib.hid hsk
    clear hG hP hS hA hsk
    obtain ⟨W1, hW1⟩ : ∃ x : World, x = wr := ⟨_, rfl⟩
    rw [← hW1] at hcw hfw HA ⊢
    clear hW1
    by_cases hs : s < 5
    · have hsI : (s : Int) < 5 := by omega
      go_upto_block 2 with fail
      go_cut [7] (fun s7 wx => ∃ i' : Nat, s7 = .int .i64 i' ∧ i ≤ i' ∧ i' ≤ b ∧ SortedIn ltU a i' dk ∧ (i' < b → ltU (G i') (G (i' - 1)) = true) ∧ ∃ n, wx = W1.drewN n)
      case first =>
        go_wp2_with fail
        go_loopw [7] (fun s7 wr => ∃ i' : Nat, s7 = .int .i64 i' ∧ i ≤ i' ∧ i' ≤ b ∧ SortedIn ltU a i' dk ∧ ∃ n, wr = W1.drewN n) (fun s7 _ => b - (sInt s7).toNat)
        case atStart => exact ⟨i, rfl, Nat.le_refl _, hib, HS.out, 0, rfl⟩
        case round =>
          obtain ⟨k, rfl, hik, hkb, hsk2, n, hw⟩ := hrel
          have hcw2 : ∀ t, t < len → wr.cell? ⟨blk, off + t, none⟩ = some (.int .u64 (G t : Int)) := fun t ht => by rw [hw]; exact hcw t ht
          have HW := Lib.hid hw
          have HS2 := Lib.hid hsk2
          clear hw hcw hfw hsk2
          by_cases hle : k < b
          · have hleI : (k : Int) < (b : Int) := by omega
            go_wp2_with fail
            go_quiet (first | (go_at_call 96; refine Calls.quiet_of_same (less_any _ _ _)))
            go_wp2_with fail
            · have hl : ltU (G k) (G (k - 1)) = false := by
                have : (!ltU (G k) (G (k - 1))) = true := by assumption
                simpa using this
              go_roundw
              case rel => exact ⟨k + 1, by go_num, by omega, by omega, sorted_grow HS2.out (by omega) (by rw [← HG.out, ← HG.out]; exact hl), n + nq, by rw [HW.out, World.drewN_drewN]⟩
              case measure => simp [sInt]; omega
            · have hl : ltU (G k) (G (k - 1)) = true := by
                have : (!ltU (G k) (G (k - 1))) = false := by assumption
                simpa using this
              go_meet
              exact ⟨k, rfl, hik, hkb, HS2.out, fun _ => hl, n + nq, by rw [HW.out, World.drewN_drewN]⟩
          · have hleI : ¬ (k : Int) < (b : Int) := by omega
            go_wp2_with fail
            go_quiet (first | (go_at_call 96; refine Calls.quiet_of_same (less_any _ _ _)))
            go_wp2_with fail
            go_meet
            exact ⟨k, rfl, hik, hkb, HS2.out, fun h => absurd h hle, n + nq, by rw [HW.out, World.drewN_drewN]⟩
      case rest =>
      obtain ⟨i', rfl, hii, hib', hS2, hl2, n1, hw1⟩ := hcut
      have HS2 := Lib.hid hS2
      have HL2 := Lib.hid hl2
      have HA2 := Lib.hid (at_drewN HA.out n1)
      have hcw2 : ∀ t, t < len → wc.cell? ⟨blk, off + t, none⟩ = some (.int .u64 (G t : Int)) := fun t ht => by rw [hw1]; exact hcw t ht
      have hfw2 : ∀ t, t < len → wc.frozen? ⟨blk, off + t, none⟩ = false := fun t ht => by rw [hw1]; exact hfw t ht
      rw [← hw1] at HA2
      clear hS2 hl2 hw1 hcw hfw
      obtain ⟨W2, hW2⟩ : ∃ x : World, x = wc := ⟨_, rfl⟩
      rw [← hW2] at hcw2 hfw2 HA2 ⊢
      clear hW2
      by_cases hend : i' = b
      · subst hend
        go_wp2_with fail
        go_ret
        exact ⟨true, dk, rfl, HP.out, fun _ => HS2.out, HA2.out⟩
      · have hendI : ¬ ((i' : Int) = (b : Int)) := by omega
        have hend2 : ((i' : Int) == (b : Int)) = false := by rw [beq_eq_false_iff_ne]; exact hendI
        by_cases h50 : b - a < 50
        · have h50I : (b : Int) - (a : Int) < 50 := by omega
          go_wp2_with fail
          go_ret
          exact (⟨false, dk, rfl, HP.out, (fun h => Bool.noConfusion h), HA2.out⟩ : PartR w blk off a b d _ _)
        · have h50I : ¬ (b : Int) - (a : Int) < 50 := by omega
          have hltG := Lib.hid (HL2.out (by omega))
          go_upto_region 11 with fail
          go_cut [] (fun wx => At eU w blk off (swp dk i' (i' - 1)) wx)
          case first =>
            go_region
            all_goals go_wp2_with fail
            all_goals go_meet
            all_goals first
              | exact at_swap1 HA2.out HB.out (by rw [HK.out]; omega) (by rw [HK.out]; omega) (HG.out _) (HG.out _)
              | exact at_swap2 HA2.out HB.out (by rw [HK.out]; omega) (by rw [HK.out]; omega) (HG.out _) (HG.out _)
          case rest =>
          have HA3 := Lib.hid hcut
          have HI3 := Lib.hid (sorted_swap HS2.out (by omega) (by rw [HK.out]; omega) (by rw [← HG.out, ← HG.out]; exact hltG.out))
          have HP3 := Lib.hid (permIn_trans _ _ _ _ _ HP.out (swp_permIn dk a b i' (i' - 1) (by omega) (by omega) (by omega) (by omega) (by rw [HK.out]; omega)))
          have HK3 := Lib.hid (show (swp dk i' (i' - 1)).size = len by rw [size_swp]; exact HK.out)
          obtain ⟨d3, hd3⟩ : ∃ x, x = swp dk i' (i' - 1) := ⟨_, rfl⟩
          rw [← hd3] at HA3 HI3 HP3 HK3
          clear hcut hcw2 hfw2 hd3 HA2 HS2 HL2 hltG HA HG HS HP HK
          clear G
          obtain ⟨W3, hW3⟩ : ∃ x : World, x = wc := ⟨_, rfl⟩
          rw [← hW3] at HA3 ⊢
          clear hW3
          go_upto_if 61 with fail
          go_cut [] (fun wx => ∃ d4 : Array Nat, d4.size = len ∧ PermIn a b d d4 ∧ SortedIn ltU a i' d4 ∧ At eU w blk off d4 wx)
          case first =>
            by_cases h2 : 2 ≤ i' - a
            · have h2I : (2 : Int) ≤ (i' : Int) - (a : Int) := by omega
              go_wp2_with fail
              go_loopw [9] (fun s9 wr => ∃ (j : Nat) (dj : Array Nat), s9 = .int .i64 j ∧ a ≤ j ∧ j ≤ i' - 1 ∧ dj.size = len ∧ PermIn a b d dj ∧ Ins ltU a j (i' - 1) dj ∧ At eU w blk off dj wr) (fun s9 _ => (sInt s9).toNat)
              case atStart => exact ⟨i' - 1, d3, by go_num, by omega, by omega, HK3.out, HP3.out, HI3.out, HA3.out⟩
              case round =>
                obtain ⟨j, dj, rfl, haj, hji, hsj, hPj, hIj, hAj⟩ := hrel
                obtain ⟨G, hG, hcw, hfw⟩ := row_fam hAj H0.out HB.out (hsj.trans HL.out.symm)
                rw [HL.out] at hcw hfw
                have HG := Lib.hid hG
                have HPj := Lib.hid hPj
                have HIj := Lib.hid hIj
                have HAj := Lib.hid hAj
                have HKj := Lib.hid hsj
                clear hG hPj hIj hAj hsj
                by_cases hj1 : 1 ≤ j
                · have hj1I : (1 : Int) ≤ (j : Int) := by omega
                  go_wp2_with fail
                  go_quiet (first | (go_at_call 96; refine Calls.quiet_of_same (less_any _ _ _)))
                  go_wp2_with fail
                  · have hl : ltU (G j) (G (j - 1)) = false := by
                      have : (!ltU (G j) (G (j - 1))) = true := by assumption
                      simpa using this
                    go_meet
                    refine ⟨dj, HKj.out, HPj.out, ?_, at_drewN HAj.out nq⟩
                    have := HIj.out.stop swoU (Or.inr (by rw [← HG.out, ← HG.out]; exact hl))
                    rw [show i' - 1 + 1 = i' by omega] at this
                    exact this
                  · have hl : ltU (G j) (G (j - 1)) = true := by
                      have : (!ltU (G j) (G (j - 1))) = false := by assumption
                      simpa using this
                    have haj2 : a < j := by
                      rcases Nat.lt_or_ge a j with h | h
                      · exact h
                      · have e : j = a := by omega
                        subst e
                        rcases HF.out.perm (by rw [HL.out]; exact hbd) HPj.out with h | h
                        · omega
                        · have := h j (Nat.le_refl _) hab
                          rw [← HG.out, ← HG.out, hl] at this
                          cases this
                    have HLj := Lib.hid hl
                    clear hl
                    go_region
                    all_goals go_wp2
                    go_roundw
                    case rel =>
                      refine ⟨j - 1, swp dj j (j - 1), by go_num, by omega, by omega, by rw [size_swp]; exact HKj.out, permIn_trans _ _ _ _ _ HPj.out (swp_permIn _ _ _ _ _ (by omega) (by omega) (by omega) (by omega) (by rw [HKj.out]; omega)), ins_next HIj.out haj2 (by rw [← HG.out, ← HG.out]; exact HLj.out) (by rw [HKj.out]; omega), ?_⟩
                      first
                        | exact at_swap1 (at_drewN HAj.out nq) HB.out (by rw [HKj.out]; omega) (by rw [HKj.out]; omega) (HG.out _) (HG.out _)
                        | exact at_swap2 (at_drewN HAj.out nq) HB.out (by rw [HKj.out]; omega) (by rw [HKj.out]; omega) (HG.out _) (HG.out _)
                    case measure => simp [sInt]; omega
                · have hj1I : ¬ (1 : Int) ≤ (j : Int) := by omega
                  go_wp2_with fail
                  go_meet
                  refine ⟨dj, HKj.out, HPj.out, ?_, HAj.out⟩
                  have := HIj.out.stop swoU (Or.inl (by omega))
                  rw [show i' - 1 + 1 = i' by omega] at this
                  exact this
            · have h2I : ¬ (2 : Int) ≤ (i' : Int) - (a : Int) := by omega
              go_wp2_with fail
              go_meet
              refine ⟨d3, HK3.out, HP3.out, ?_, HA3.out⟩
              have := HI3.out.stop swoU (Or.inl (by omega))
              rw [show i' - 1 + 1 = i' by omega] at this
              exact this
          case rest =>
          obtain ⟨d4, hs4, hP4, hS4, hA4⟩ := hcut
          have HK4 := Lib.hid hs4
          have HP4 := Lib.hid hP4
          have HS4 := Lib.hid hS4
          have HA4 := Lib.hid hA4
          clear hs4 hP4 hS4 hA4 HA3 HI3 HP3 HK3
          clear d3
          obtain ⟨W4, hW4⟩ : ∃ x : World, x = wc := ⟨_, rfl⟩
          rw [← hW4] at HA4 ⊢
          clear hW4
          by_cases h2 : 2 ≤ b - i'
          · have h2I : (2 : Int) ≤ (b : Int) - (i' : Int) := by omega
            go_wp2_with fail
            go_loopw [10] (fun s10 wr => ∃ (j : Nat) (dj : Array Nat), s10 = .int .i64 j ∧ i' + 1 ≤ j ∧ j ≤ b ∧ dj.size = len ∧ PermIn a b d dj ∧ SortedIn ltU a i' dj ∧ At eU w blk off dj wr) (fun s10 _ => b - (sInt s10).toNat)
            case atStart => exact ⟨i' + 1, d4, by go_num, by omega, by omega, HK4.out, HP4.out, HS4.out, HA4.out⟩
            case round =>
              obtain ⟨j, dj, rfl, haj, hji, hsj, hPj, hSj, hAj⟩ := hrel
              obtain ⟨G, hG, hcw, hfw⟩ := row_fam hAj H0.out HB.out (hsj.trans HL.out.symm)
              rw [HL.out] at hcw hfw
              have HG := Lib.hid hG
              have HPj := Lib.hid hPj
              have HSj := Lib.hid hSj
              have HAj := Lib.hid hAj
              have HKj := Lib.hid hsj
              clear hG hPj hSj hAj hsj
              by_cases hj1 : j < b
              · have hj1I : (j : Int) < (b : Int) := by omega
                go_wp2_with fail
                go_quiet (first | (go_at_call 96; refine Calls.quiet_of_same (less_any _ _ _)))
                go_wp2_with fail
                · go_roundw
                  case rel => exact ⟨i', s + 1, dj, rfl, by go_num, by omega, by omega, by omega, HKj.out, HPj.out, HSj.out, at_drewN HAj.out nq⟩
                  case measure => simp [sInt]; omega
                · go_region
                  all_goals go_wp2
                  go_roundw
                  case rel =>
                    refine ⟨j + 1, swp dj j (j - 1), by go_num, by omega, by omega, by rw [size_swp]; exact HKj.out, permIn_trans _ _ _ _ _ HPj.out (swp_permIn _ _ _ _ _ (by omega) (by omega) (by omega) (by omega) (by rw [HKj.out]; omega)), sorted_same HSj.out (fun t ht => swp_other _ _ _ _ (by omega) (by omega)), ?_⟩
                    first
                      | exact at_swap1 (at_drewN HAj.out nq) HB.out (by rw [HKj.out]; omega) (by rw [HKj.out]; omega) (HG.out _) (HG.out _)
                      | exact at_swap2 (at_drewN HAj.out nq) HB.out (by rw [HKj.out]; omega) (by rw [HKj.out]; omega) (HG.out _) (HG.out _)
                  case measure => simp [sInt]; omega
              · have hj1I : ¬ (j : Int) < (b : Int) := by omega
                go_wp2_with fail
                go_roundw
                case rel => exact ⟨i', s + 1, dj, rfl, by go_num, by omega, by omega, by omega, HKj.out, HPj.out, HSj.out, HAj.out⟩
                case measure => simp [sInt]; omega
          · have h2I : ¬ (2 : Int) ≤ (b : Int) - (i' : Int) := by omega
            go_wp2_with fail
            go_roundw
            case rel => exact ⟨i', s + 1, d4, rfl, by go_num, by omega, by omega, by omega, HK4.out, HP4.out, HS4.out, HA4.out⟩
            case measure => simp [sInt]; omega
    · have hsI : ¬ (s : Int) < 5 := by omega
      go_wp2_with fail
      go_ret
      exact (⟨false, dk, rfl, HP.out, (fun h => Bool.noConfusion h), HA.out⟩ : PartR w blk off a b d _ _)
end Go.Proofs.Ytdphpjlhkamadaa
