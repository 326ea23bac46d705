/- SIns, SPins: joined by program (tools/merge.py). -/
import Derived.Test.YtdphpjlhkamadaaZ29
import Derived.Deep.CutBlock
import Derived.Deep.DeepCutAuto
namespace Go.Proofs.Ytdphpjlhkamadaa
open Go.RowKit
open Go.Sort (PermIn SortedIn SWO swp Holds putRow grow At Ins size_swp permIn_refl permIn_trans swp_permIn)
set_option linter.unusedSimpArgs false
set_option linter.unusedVariables false
set_option maxRecDepth 100000
theorem ins_start {a i : Nat} {d : Array Nat} (h : SortedIn ltU a i d) : Ins ltU a i i d :=
  ⟨fun p q h1 h2 h3 h4 h5 => h p q h1 h2 (by omega), fun q h1 h2 => by omega⟩
theorem sorted_one {a : Nat} {d : Array Nat} : SortedIn ltU a (a + 1) d := fun i j h1 h2 h3 => by omega
theorem ins_next {a i j : Nat} {d : Array Nat} (h : Ins ltU a j i d) (hj : a < j) (hl : ltU d[j]! d[j - 1]! = true) (hs : j < d.size) : Ins ltU a (j - 1) i (swp d j (j - 1)) := by
  obtain ⟨m, rfl⟩ : ∃ m, j = m + 1 := ⟨j - 1, by omega⟩
  simp only [Nat.add_sub_cancel] at hl ⊢
  exact h.step hl (by omega) hs
set_option maxHeartbeats 1600000 in
theorem insertion_any (w : World) (blk off len cap a b : Nat) (d : Array Nat) (hlen : d.size = len) (h0 : Holds eU w blk off d) (hb : blk < w.heap.size) (hab : a ≤ b) (hbd : b ≤ len) (hsz : len < 4611686018427387904) :
    Calls Try.prog 90 #[.slice (some ⟨blk, off, none⟩) len cap, .int .i64 a, .int .i64 b] w fun e w' => e = .returned (.tuple #[]) ∧ ∃ d', PermIn a b d d' ∧ SortedIn ltU a b d' ∧ At eU w blk off d' w' := by
  have H0 := Lib.hid h0
  have HL := Lib.hid hlen
  have HB := Lib.hid hb
  go_enter Try.func90, Try.ntmps90
  go_wp2
  go_loopw [6] (fun vi wr => ∃ (i : Nat) (dk : Array Nat), vi = .int .i64 i ∧ a < i ∧ i ≤ b + 1 ∧ dk.size = len ∧ PermIn a b d dk ∧ SortedIn ltU a (min i b) dk ∧ At eU w blk off dk wr) (fun vi _ => b + 1 - (sInt vi).toNat)
  case atStart => exact ⟨a + 1, d, by go_num, by omega, by omega, hlen, permIn_refl _ _ _, fun p q h1 h2 h3 => by omega, At.refl h0⟩
  case round =>
    obtain ⟨i, dk, rfl, hai, hib, hsk, hP, hS, hA⟩ := hrel
    have HP := Lib.hid hP
    have HS := Lib.hid hS
    have HA := Lib.hid hA
    have HK := Lib.hid hsk
    clear hP hS hA hsk h0 hlen hb
    by_cases hlt : i < b
    · have hltI : (i : Int) < (b : Int) := by omega
      go_wp2_with fail
      go_loopw [7] (fun vj wr2 => ∃ (j : Nat) (dj : Array Nat), vj = .int .i64 j ∧ a ≤ j ∧ j ≤ i ∧ dj.size = len ∧ PermIn a b d dj ∧ Ins ltU a j i dj ∧ At eU w blk off dj wr2) (fun vj _ => (sInt vj).toNat)
      case atStart => exact ⟨i, dk, rfl, by omega, Nat.le_refl _, HK.out, HP.out, ins_start (by have := HS.out; rw [show min i b = i by omega] at this; exact this), HA.out⟩
      case round =>
        obtain ⟨j, dj, rfl, haj, hji, hsj, hP2, hI, hA2⟩ := hrel
        obtain ⟨G, hG, hcw, hfw⟩ := row_fam hA2 H0.out HB.out (hsj.trans HL.out.symm)
        rw [HL.out] at hcw hfw
        have HG := Lib.hid hG
        have HP2 := Lib.hid hP2
        have HI := Lib.hid hI
        have HA2 := Lib.hid hA2
        have HJ := Lib.hid hsj
        clear hG hP2 hI hA2 hsj
        by_cases hja : a < j
        · have hjaI : (a : Int) < (j : Int) := by omega
          go_wp2_with fail
          go_quiet (first | (go_at_call 96; refine Calls.quiet_of_same (less_any _ _ _)))
          go_wp2_with fail
          · have hl : ltU (G j) (G (j - 1)) = true := by assumption
            go_region
            all_goals go_wp2
            go_roundw
            case rel =>
              refine ⟨j - 1, swp dj j (j - 1), by congr 1; omega, by omega, by omega, by rw [size_swp]; exact HJ.out, permIn_trans _ _ _ _ _ HP2.out (swp_permIn _ _ _ _ _ (by omega) (by omega) (by omega) (by omega) (by rw [HJ.out]; omega)), ins_next HI.out hja (by rw [← HG.out, ← HG.out]; exact hl) (by rw [HJ.out]; omega), ?_⟩
              first
                | exact at_swap1 (at_drewN HA2.out nq) HB.out (by rw [HJ.out]; omega) (by rw [HJ.out]; omega) (HG.out _) (HG.out _)
                | exact at_swap2 (at_drewN HA2.out nq) HB.out (by rw [HJ.out]; omega) (by rw [HJ.out]; omega) (HG.out _) (HG.out _)
            case measure => simp [sInt]; omega
          · have hl : ltU (G j) (G (j - 1)) = false := by assumption
            go_roundw
            case rel => exact ⟨i + 1, dj, by go_num, by omega, by omega, HJ.out, HP2.out, by rw [show min (i + 1) b = i + 1 by omega]; exact HI.out.stop swoU (Or.inr (by rw [← HG.out, ← HG.out]; exact hl)), at_drewN HA2.out nq⟩
            case measure => simp [sInt]; omega
        · have hjaI : ¬ (a : Int) < (j : Int) := by omega
          go_wp2_with fail
          go_quiet (first | (go_at_call 96; refine Calls.quiet_of_same (less_any _ _ _)))
          go_wp2_with fail
          go_roundw
          case rel => exact ⟨i + 1, dj, by go_num, by omega, by omega, HJ.out, HP2.out, by rw [show min (i + 1) b = i + 1 by omega]; exact HI.out.stop swoU (Or.inl (by omega)), at_drewN HA2.out nq⟩
          case measure => simp [sInt]; omega
    · have hltI : ¬ (i : Int) < (b : Int) := by omega
      go_wp2
      go_end0
      exact ⟨rfl, dk, HP.out, by have := HS.out; rw [show min i b = b by omega] at this; exact this, HA.out⟩
end Go.Proofs.Ytdphpjlhkamadaa
namespace Go.Proofs.Ytdphpjlhkamadaa
open Go.RowKit
open Go.Sort (PermIn SortedIn SWO swp Holds putRow grow At Ins size_swp permIn_refl permIn_trans swp_permIn swp_get permIn_all)
set_option linter.unusedSimpArgs false
set_option linter.unusedVariables false
set_option maxRecDepth 100000
/-- Nothing in a part is below what stands ahead of it. -/
def FloorU (a b : Nat) (d : Array Nat) : Prop := a = 0 ∨ ∀ t, a ≤ t → t < b → ltU d[t]! d[a - 1]! = false
theorem FloorU.perm {a b : Nat} {d d' : Array Nat} (h : FloorU a b d) (hb : b ≤ d.size) (hp : PermIn a b d d') : FloorU a b d' := by
  rcases h with h | h
  · exact .inl h
  · rcases Nat.eq_zero_or_pos a with h0 | h0
    · exact .inl h0
    · refine .inr fun t h1 h2 => ?_
      rw [hp.2.1 (a - 1) (.inl (by omega))]
      exact permIn_all d d' a b (fun x => ltU x d[a - 1]! = false) hb hp h t h1 h2
theorem sorted_grow {a i : Nat} {d : Array Nat} (h : SortedIn ltU a i d) (hai : a < i) (hl : ltU d[i]! d[i - 1]! = false) : SortedIn ltU a (i + 1) d := by
  intro p q hp hpq hq
  rcases Nat.lt_or_ge q i with h1 | h1
  · exact h p q hp hpq h1
  · have : q = i := by omega
    subst this
    rcases Nat.lt_or_ge p (q - 1) with h2 | h2
    · exact swoU.ntrans _ _ _ hl (h p (q - 1) hp h2 (by omega))
    · rw [show p = q - 1 by omega]; exact hl
/-- What two neighbours that change places leave sorted ahead of them. -/
theorem sorted_swap {a i : Nat} {d : Array Nat} (h : SortedIn ltU a i d) (hai : a < i) (hs : i < d.size) (hl : ltU d[i]! d[i - 1]! = true) : Ins ltU a (i - 1) (i - 1) (swp d i (i - 1)) := by
  have g := swp_get d (i := i) (j := i - 1) hs (by omega)
  refine ⟨fun p q h1 h2 h3 h4 h5 => ?_, fun q h1 h2 => by omega⟩
  rw [g, g, if_neg h5, if_neg (by omega), if_neg h4, if_neg (by omega)]
  exact h p q h1 h2 (by omega)
theorem sorted_same {a i : Nat} {d d' : Array Nat} (h : SortedIn ltU a i d) (he : ∀ t, t < i → d'[t]! = d[t]!) : SortedIn ltU a i d' := fun p q h1 h2 h3 => by
  rw [he q h3, he p (by omega)]; exact h p q h1 h2 h3
end Go.Proofs.Ytdphpjlhkamadaa
