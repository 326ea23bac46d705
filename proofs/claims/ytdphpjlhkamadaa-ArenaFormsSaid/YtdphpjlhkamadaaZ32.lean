/- SHeap, SRev: joined by program (tools/merge.py). -/
import Derived.Test.YtdphpjlhkamadaaZ31
import Derived.Test.YtdphpjlhkamadaaZ29
namespace Go.Proofs.Ytdphpjlhkamadaa
open Go.RowKit
open Go.Sort (PermIn SortedIn SWO swp Holds putRow grow At size_swp siftDown heapSort heapPop heapBuild heapSort_holds)
set_option linter.unusedSimpArgs false
set_option linter.unusedVariables false
set_option maxRecDepth 100000
theorem sift_size (hi F : Nat) : ∀ (n r : Nat) (d : Array Nat), hi - r ≤ n → (siftDown ltU hi F r d).size = d.size
  | 0, r, d, h => by rw [siftDown, dif_pos (by omega)]
  | n + 1, r, d, h => by
    rw [siftDown]
    have ih := sift_size hi F n
    repeat' split
    all_goals first | rfl | (rw [ih _ _ (by omega), size_swp])
theorem half_int {a b : Nat} (h : a ≤ b) : ((b : Int) - (a : Int) - 1).tdiv 2 = (((b - a - 1) / 2 + 1 : Nat) : Int) - 1 := by
  rcases Nat.eq_or_lt_of_le h with rfl | h
  · rw [show ((a : Int) - (a : Int) - 1) = -1 by omega]
    simp
  · rw [Int.tdiv_eq_ediv_of_nonneg (by omega)]
    omega
set_option maxHeartbeats 3200000 in
theorem heap_any (w : World) (blk off len cap a b : Nat) (d : Array Nat) (hlen : d.size = len) (h0 : Holds eU w blk off d) (hb : blk < w.heap.size) (hab : a ≤ b) (hbd : b ≤ len) (hsz : len < 4611686018427387904) :
    Calls Try.prog 91 #[.slice (some ⟨blk, off, none⟩) len cap, .int .i64 a, .int .i64 b] w fun e w' => e = .returned (.tuple #[]) ∧ ∃ d', PermIn a b d d' ∧ SortedIn ltU a b d' ∧ At eU w blk off d' w' := by
  have H0 := Lib.hid h0
  have HL := Lib.hid hlen
  have HB := Lib.hid hb
  have ecast : ((b - a : Nat) : Int) = (b : Int) - (a : Int) := by omega
  go_enter Try.func91, Try.ntmps91
  go_wp2
  go_loopg [9] ((b - a - 1) / 2 + 1) (fun k s9 wr => s9 = .int .i64 ((k : Int) - 1) ∧ k ≤ (b - a - 1) / 2 + 1 ∧ ∃ (dk : Array Nat), dk.size = len ∧ heapBuild ltU (b - a) a k dk = heapBuild ltU (b - a) a ((b - a - 1) / 2 + 1) d ∧ At eU w blk off dk wr)
  case atStart => exact ⟨by rw [half_int hab], Nat.le_refl _, d, hlen, rfl, At.refl h0⟩
  case round =>
    obtain ⟨rfl, hkk, dk, hsk, hE, hA⟩ := hrel
    have HE := Lib.hid hE
    have HA := Lib.hid hA
    have HK := Lib.hid hsk
    clear hE hA hsk h0 hlen hb
    cases gk with
    | zero =>
      have HD := Lib.hid (show dk = heapBuild ltU (b - a) a ((b - a - 1) / 2 + 1) d from HE.out)
      clear hkk
      go_wp2
      go_loopg [10] (b - a) (fun k s10 wr2 => s10 = .int .i64 ((k : Int) - 1) ∧ k ≤ b - a ∧ ∃ (dj : Array Nat), dj.size = len ∧ heapPop ltU a k dj = heapPop ltU a (b - a) dk ∧ At eU w blk off dj wr2)
      case atStart => exact ⟨by rw [ecast], Nat.le_refl _, dk, HK.out, rfl, HA.out⟩
      case round =>
        obtain ⟨rfl, hkk, dj, hsj, hE2, hA2⟩ := hrel
        have HE2 := Lib.hid hE2
        have HA2 := Lib.hid hA2
        have HJ := Lib.hid hsj
        cases gk with
        | zero =>
          clear hE2 hA2 hsj
          go_wp2
          go_end0
          have e : dj = heapSort ltU d a b := by
            have h1 : dj = heapPop ltU a (b - a) dk := HE2.out
            rw [h1, HD.out]
            rfl
          have hh := heapSort_holds swoU d a b hab (by rw [HL.out]; exact hbd)
          rw [← e] at hh
          exact ⟨rfl, dj, hh.1, hh.2, HA2.out⟩
        | succ k =>
          obtain ⟨G, hG, hcw, hfw⟩ := row_fam hA2 H0.out HB.out (hsj.trans HL.out.symm)
          rw [HL.out] at hcw hfw
          have HG := Lib.hid hG
          clear hG hE2 hA2 hsj
          rcases Nat.eq_zero_or_pos k with hk0 | hkp
          · subst hk0
            go_wp2_with fail
            go_region
            go_wp2_with fail
            have hA3 : At eU w blk off (swp dj a a) ((wr.setCell ⟨blk, off + a, none⟩ (.int .u64 (G a : Int))).setCell ⟨blk, off + a, none⟩ (.int .u64 (G a : Int))).drew :=
              at_swap2 HA2.out HB.out (by rw [HJ.out]; omega) (by rw [HJ.out]; omega) (HG.out _) (HG.out _)
            have hh := hA3.holds H0.out (by rw [size_swp, HJ.out]; exact HL.out.symm) HB.out
            refine (sift_any _ blk off len cap 0 0 a (swp dj a a) (by rw [size_swp]; exact HJ.out) hh.1 hh.2 (Nat.le_refl _) (by omega) (by omega)).mono ?_
            rintro e w1 ⟨rfl, hA4⟩
            have HA4 := Lib.hid hA4
            have HA3 := Lib.hid hA3
            clear hA4 hA3 hh hcw hfw
            go_wp2
            go_roundg 0
            case measure => omega
            case rel =>
              obtain ⟨n, os, h4⟩ := HA4.out
              exact ⟨by simp, by omega, siftDown ltU 0 a 0 (swp dj a a), by rw [sift_size _ _ _ _ _ (Nat.le_refl _), size_swp]; exact HJ.out, HE2.out, HA3.out.stepG HB.out (sift_size _ _ _ _ _ (Nat.le_refl _)) ⟨n, os, h4⟩⟩
          · have hka : ¬ a = a + k := by omega
            go_wp2_with fail
            go_region
            go_wp2_with fail
            have hA3 : At eU w blk off (swp dj a (a + k)) ((wr.setCell ⟨blk, off + a, none⟩ (.int .u64 (G (a + k) : Int))).setCell ⟨blk, off + (a + k), none⟩ (.int .u64 (G a : Int))).drew :=
              at_swap2 HA2.out HB.out (by rw [HJ.out]; omega) (by rw [HJ.out]; omega) (HG.out _) (HG.out _)
            have hh := hA3.holds H0.out (by rw [size_swp, HJ.out]; exact HL.out.symm) HB.out
            refine (sift_any _ blk off len cap 0 k a (swp dj a (a + k)) (by rw [size_swp]; exact HJ.out) hh.1 hh.2 (Nat.zero_le _) (by omega) (by omega)).mono ?_
            rintro e w1 ⟨rfl, hA4⟩
            have HA4 := Lib.hid hA4
            have HA3 := Lib.hid hA3
            clear hA4 hA3 hh hcw hfw
            go_wp2
            go_roundg k
            case measure => omega
            case rel =>
              obtain ⟨n, os, h4⟩ := HA4.out
              exact ⟨by simp, by omega, siftDown ltU k a 0 (swp dj a (a + k)), by rw [sift_size _ _ _ _ _ (Nat.le_refl _), size_swp]; exact HJ.out, HE2.out, HA3.out.stepG HB.out (sift_size _ _ _ _ _ (Nat.le_refl _)) ⟨n, os, h4⟩⟩
    | succ k =>
      have hh := HA.out.holds H0.out (HK.out.trans HL.out.symm) HB.out
      have hc := sift_any wr blk off len cap k (b - a) a dk HK.out hh.1 hh.2 (by omega) (by omega) (by omega)
      rw [ecast] at hc
      have HC := Lib.hid hc
      clear hc hh
      go_wp2_with (go_at_call 104; refine HC.out.mono ?_; rintro e w1 ⟨rfl, hA4⟩; have HA4 := Lib.hid hA4; clear hA4)
      go_roundg k
      case measure => omega
      case rel =>
        obtain ⟨n, os, h4⟩ := HA4.out
        exact ⟨by simp, by omega, siftDown ltU (b - a) a k dk, by rw [sift_size _ _ _ _ _ (Nat.le_refl _)]; exact HK.out, HE.out, HA.out.stepG HB.out (sift_size _ _ _ _ _ (Nat.le_refl _)) ⟨n, os, h4⟩⟩
end Go.Proofs.Ytdphpjlhkamadaa
namespace Go.Proofs.Ytdphpjlhkamadaa
open Go.RowKit
open Go.Sort (PermIn SortedIn SWO swp Holds putRow grow At size_swp permIn_refl permIn_trans swp_permIn)
set_option linter.unusedSimpArgs false
set_option linter.unusedVariables false
set_option maxRecDepth 100000
set_option maxHeartbeats 1600000 in
theorem reverse_any (w : World) (blk off len cap a b : Nat) (d : Array Nat) (hlen : d.size = len) (h0 : Holds eU w blk off d) (hb : blk < w.heap.size) (hab : a ≤ b) (hbd : b ≤ len) (hsz : len < 4611686018427387904) :
    Calls Try.prog 94 #[.slice (some ⟨blk, off, none⟩) len cap, .int .i64 a, .int .i64 b] w fun e w' => e = .returned (.tuple #[]) ∧ ∃ d', PermIn a b d d' ∧ At eU w blk off d' w' := by
  have H0 := Lib.hid h0
  have HL := Lib.hid hlen
  have HB := Lib.hid hb
  go_enter Try.func94, Try.ntmps94
  go_wp2
  go_loopw [6, 7] (fun s6 s7 wr => ∃ (i : Nat) (jz : Int) (dk : Array Nat), s6 = .int .i64 i ∧ s7 = .int .i64 jz ∧ a ≤ i ∧ i ≤ len ∧ jz < (b : Int) ∧ -1 ≤ jz ∧ dk.size = len ∧ PermIn a b d dk ∧ At eU w blk off dk wr) (fun s6 s7 _ => (sInt s7 - sInt s6).toNat)
  case atStart => exact ⟨a, (b : Int) - 1, d, rfl, rfl, Nat.le_refl _, by omega, by omega, by omega, hlen, permIn_refl _ _ _, At.refl h0⟩
  case round =>
    obtain ⟨i, jz, dk, rfl, rfl, hai, hil, hjb, hj1, hsk, hP, hA⟩ := hrel
    have HP := Lib.hid hP
    have HA := Lib.hid hA
    have HK := Lib.hid hsk
    by_cases hlt : (i : Int) < jz
    · obtain ⟨j, rfl⟩ : ∃ j : Nat, jz = (j : Int) := ⟨jz.toNat, by omega⟩
      obtain ⟨G, hG, hcw, hfw⟩ := row_fam hA H0.out HB.out (hsk.trans HL.out.symm)
      rw [HL.out] at hcw hfw
      have HG := Lib.hid hG
      have hne : ¬ i = j := by omega
      have hjlen : j < len := by omega
      have hilen : i < len := by omega
      clear hG hP hA hsk h0 hlen hb
      go_wp2_with fail
      go_region
      all_goals go_wp2
      go_roundw
      case rel =>
        refine ⟨i + 1, (j : Int) - 1, swp dk i j, by go_num, rfl, by omega, by omega, by omega, by omega, by rw [size_swp]; exact HK.out, permIn_trans _ _ _ _ _ HP.out (swp_permIn _ _ _ _ _ (by omega) (by omega) (by omega) (by omega) (by rw [HK.out]; omega)), ?_⟩
        first
          | exact at_swap1 HA.out HB.out (by rw [HK.out]; omega) (by rw [HK.out]; omega) (HG.out _) (HG.out _)
          | exact at_swap2 HA.out HB.out (by rw [HK.out]; omega) (by rw [HK.out]; omega) (HG.out _) (HG.out _)
      case measure => simp [sInt]; omega
    · clear hP hA hsk h0 hlen hb
      go_wp2
      go_end0
      exact ⟨rfl, dk, HP.out, HA.out⟩
end Go.Proofs.Ytdphpjlhkamadaa
