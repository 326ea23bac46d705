/- SBase, SIns, SSift, SHeap, SRev, SPartE, SPart, SPivot, SChoose, SPins, SPinsW: joined by program (tools/merge.py). -/
import Derived.Test.YtogkeoainejfcaaChecked
import Derived.Sort.Walk13a
import Derived.Sort.LotA
import Derived.Sort.LotB
import Derived.Sort.LotC
import Derived.WalkKit
import Derived.BigGuard
import Derived.BigCall
import Derived.BigQuiet
import Derived.CellFam
import Derived.Deep.Draws
import Derived.Deep.QuietTactic
import Derived.Deep.LoopGhost
import Derived.Lib.Hide
import Derived.Deep.CutBlock
import Derived.Deep.DeepCutAuto
namespace Go.Proofs.Ytogkeoainejfcaa
open Go.RowKit
open Go.Sort (PermIn SortedIn SWO swp Holds putRow grow At mapBlock setCell_eq mapBlock_grow putRow_swp size_swp)
set_option linter.unusedSimpArgs false
set_option linter.unusedVariables false
set_option maxRecDepth 100000
/-- A number in its cell; the order. -/
def eU (n : Nat) : Value := .int .u64 (n : Int)
def ltU (x y : Nat) : Bool := decide (x < y)
theorem ltU_true {x y : Nat} : ltU x y = true ↔ x < y := by unfold ltU; exact decide_eq_true_iff
theorem ltU_false {x y : Nat} : ltU x y = false ↔ y ≤ x := by unfold ltU; rw [decide_eq_false_iff_not]; omega
theorem swoU : SWO ltU where
  irrefl x := ltU_false.2 (Nat.le_refl _)
  trans x y z h1 h2 := ltU_true.2 (Nat.lt_trans (ltU_true.1 h1) (ltU_true.1 h2))
  ntrans x y z h1 h2 := ltU_false.2 (Nat.le_trans (ltU_false.1 h2) (ltU_false.1 h1))
def sInt : Value → Int | .int _ q => q | _ => 0
section
variable {w wr : World} {blk off : Nat} {d d0 : Array Nat}
/-- What a walk asks of the row: its cells, under a name of their own. -/
theorem row_fam (h : At eU w blk off d wr) (h0 : Holds eU w blk off d0) (hb : blk < w.heap.size) (hs : d.size = d0.size) :
    ∃ G : Nat → Nat, (∀ t, G t = d[t]!) ∧ (∀ t, t < d0.size → wr.cell? ⟨blk, off + t, none⟩ = some (.int .u64 (G t : Int))) ∧ (∀ t, t < d0.size → wr.frozen? ⟨blk, off + t, none⟩ = false) := by
  have hh := (h.holds h0 hs hb).1
  exact ⟨fun t => d[t]!, fun _ => rfl, fun t ht => (hh t (by omega)).1, fun t ht => (hh t (by omega)).2⟩
theorem at_drewN (h : At eU w blk off d wr) (m : Nat) : At eU w blk off d (wr.drewN m) := h.ahead m
theorem at_drew (h : At eU w blk off d wr) : At eU w blk off d wr.drew := h.ahead 1
theorem at_store (h : At eU w blk off d wr) (hb : blk < w.heap.size) {j k : Nat} (hj : j < d.size) (hk : k < d.size) {x y : Value} (hx : x = eU d[k]!) (hy : y = eU d[j]!) :
    At eU w blk off (swp d j k) ((wr.setCell ⟨blk, off + j, none⟩ x).setCell ⟨blk, off + k, none⟩ y) := by
  obtain ⟨n, os, rfl⟩ := h
  subst hx hy
  refine ⟨n, os, ?_⟩
  rw [setCell_eq, setCell_eq, mapBlock_grow _ _ _ _ (by simpa using hb), mapBlock_grow _ _ _ _ (by simpa [mapBlock] using hb), ← setCell_eq, ← setCell_eq, putRow_swp eU _ blk off d j k hj hk]
/-- Two cells change places; the region has drawn its order, ahead or behind. -/
theorem at_swap1 (h : At eU w blk off d wr) (hb : blk < w.heap.size) {j k : Nat} (hj : j < d.size) (hk : k < d.size) {x y : Nat} (hx : x = d[k]!) (hy : y = d[j]!) :
    At eU w blk off (swp d j k) ((wr.drew.setCell ⟨blk, off + j, none⟩ (.int .u64 (x : Int))).setCell ⟨blk, off + k, none⟩ (.int .u64 (y : Int))) :=
  at_store (at_drew h) hb hj hk (by rw [hx]; rfl) (by rw [hy]; rfl)
theorem at_swap2 (h : At eU w blk off d wr) (hb : blk < w.heap.size) {j k : Nat} (hj : j < d.size) (hk : k < d.size) {x y : Nat} (hx : x = d[k]!) (hy : y = d[j]!) :
    At eU w blk off (swp d j k) ((wr.setCell ⟨blk, off + j, none⟩ (.int .u64 (x : Int))).setCell ⟨blk, off + k, none⟩ (.int .u64 (y : Int))).drew :=
  at_drew (at_store h hb hj hk (by rw [hx]; rfl) (by rw [hy]; rfl))
end
theorem sNaN_any (w : World) (x : Nat) : Calls Try.prog 101 #[.int .u64 (x : Int)] w fun e w' => e = .returned (.bool false) ∧ w' = w := by
  go_enter Try.func101, Try.ntmps101
  go_wp2
  go_ret
  exact ⟨by simp, rfl⟩
theorem less_any (x y : Nat) (w : World) : Calls Try.prog 96 #[.int .u64 (x : Int), .int .u64 (y : Int)] w fun e w' => e = .returned (.bool (ltU x y)) ∧ w' = w := by
  go_enter Try.func96, Try.ntmps96
  go_wp2_with (go_at_call 101; refine (sNaN_any _ _).mono ?_; rintro e w' ⟨rfl, rfl⟩)
  go_ret
  refine ⟨?_, rfl⟩
  unfold ltU
  simp
end Go.Proofs.Ytogkeoainejfcaa
namespace Go.Proofs.Ytogkeoainejfcaa
open Go.RowKit
open Go.Sort (PermIn SortedIn SWO swp Holds putRow grow At Ins size_swp permIn_refl permIn_trans swp_permIn)
set_option linter.unusedSimpArgs false
set_option linter.unusedVariables false
set_option maxRecDepth 100000
theorem ins_start {a i : Nat} {d : Array Nat} (h : SortedIn ltU a i d) : Ins ltU a i i d :=
  ⟨fun p q h1 h2 h3 h4 h5 => h p q h1 h2 (by omega), fun q h1 h2 => by omega⟩
theorem sorted_one {a : Nat} {d : Array Nat} : SortedIn ltU a (a + 1) d := fun i j h1 h2 h3 => by omega
theorem ins_next {a i j : Nat} {d : Array Nat} (h : Ins ltU a j i d) (hj : a < j) (hl : ltU d[j]! d[j - 1]! = true) (hs : j < d.size) : Ins ltU a (j - 1) i (swp d j (j - 1)) := by
  obtain ⟨m, rfl⟩ : ∃ m, j = m + 1 := ⟨j - 1, by omega⟩
  simp only [Nat.add_sub_cancel] at hl ⊢
  exact h.step hl (by omega) hs
set_option maxHeartbeats 1600000 in
theorem insertion_any (w : World) (blk off len cap a b : Nat) (d : Array Nat) (hlen : d.size = len) (h0 : Holds eU w blk off d) (hb : blk < w.heap.size) (hab : a ≤ b) (hbd : b ≤ len) (hsz : len < 4611686018427387904) :
    Calls Try.prog 90 #[.slice (some ⟨blk, off, none⟩) len cap, .int .i64 a, .int .i64 b] w fun e w' => e = .returned (.tuple #[]) ∧ ∃ d', PermIn a b d d' ∧ SortedIn ltU a b d' ∧ At eU w blk off d' w' := by
  have H0 := Lib.hid h0
  have HL := Lib.hid hlen
  have HB := Lib.hid hb
  go_enter Try.func90, Try.ntmps90
  go_wp2
  go_loopw [6] (fun vi wr => ∃ (i : Nat) (dk : Array Nat), vi = .int .i64 i ∧ a < i ∧ i ≤ b + 1 ∧ dk.size = len ∧ PermIn a b d dk ∧ SortedIn ltU a (min i b) dk ∧ At eU w blk off dk wr) (fun vi _ => b + 1 - (sInt vi).toNat)
  case atStart => exact ⟨a + 1, d, by go_num, by omega, by omega, hlen, permIn_refl _ _ _, fun p q h1 h2 h3 => by omega, At.refl h0⟩
  case round =>
    obtain ⟨i, dk, rfl, hai, hib, hsk, hP, hS, hA⟩ := hrel
    have HP := Lib.hid hP
    have HS := Lib.hid hS
    have HA := Lib.hid hA
    have HK := Lib.hid hsk
    clear hP hS hA hsk h0 hlen hb
    by_cases hlt : i < b
    · have hltI : (i : Int) < (b : Int) := by omega
      go_wp2_with fail
      go_loopw [7] (fun vj wr2 => ∃ (j : Nat) (dj : Array Nat), vj = .int .i64 j ∧ a ≤ j ∧ j ≤ i ∧ dj.size = len ∧ PermIn a b d dj ∧ Ins ltU a j i dj ∧ At eU w blk off dj wr2) (fun vj _ => (sInt vj).toNat)
      case atStart => exact ⟨i, dk, rfl, by omega, Nat.le_refl _, HK.out, HP.out, ins_start (by have := HS.out; rw [show min i b = i by omega] at this; exact this), HA.out⟩
      case round =>
        obtain ⟨j, dj, rfl, haj, hji, hsj, hP2, hI, hA2⟩ := hrel
        obtain ⟨G, hG, hcw, hfw⟩ := row_fam hA2 H0.out HB.out (hsj.trans HL.out.symm)
        rw [HL.out] at hcw hfw
        have HG := Lib.hid hG
        have HP2 := Lib.hid hP2
        have HI := Lib.hid hI
        have HA2 := Lib.hid hA2
        have HJ := Lib.hid hsj
        clear hG hP2 hI hA2 hsj
        by_cases hja : a < j
        · have hjaI : (a : Int) < (j : Int) := by omega
          go_wp2_with fail
          go_quiet (first | (go_at_call 96; refine Calls.quiet_of_same (less_any _ _ _)))
          go_wp2_with fail
          · have hl : ltU (G j) (G (j - 1)) = true := by assumption
            go_region
            all_goals go_wp2
            go_roundw
            case rel =>
              refine ⟨j - 1, swp dj j (j - 1), by congr 1; omega, by omega, by omega, by rw [size_swp]; exact HJ.out, permIn_trans _ _ _ _ _ HP2.out (swp_permIn _ _ _ _ _ (by omega) (by omega) (by omega) (by omega) (by rw [HJ.out]; omega)), ins_next HI.out hja (by rw [← HG.out, ← HG.out]; exact hl) (by rw [HJ.out]; omega), ?_⟩
              first
                | exact at_swap1 (at_drewN HA2.out nq) HB.out (by rw [HJ.out]; omega) (by rw [HJ.out]; omega) (HG.out _) (HG.out _)
                | exact at_swap2 (at_drewN HA2.out nq) HB.out (by rw [HJ.out]; omega) (by rw [HJ.out]; omega) (HG.out _) (HG.out _)
            case measure => simp [sInt]; omega
          · have hl : ltU (G j) (G (j - 1)) = false := by assumption
            go_roundw
            case rel => exact ⟨i + 1, dj, by go_num, by omega, by omega, HJ.out, HP2.out, by rw [show min (i + 1) b = i + 1 by omega]; exact HI.out.stop swoU (Or.inr (by rw [← HG.out, ← HG.out]; exact hl)), at_drewN HA2.out nq⟩
            case measure => simp [sInt]; omega
        · have hjaI : ¬ (a : Int) < (j : Int) := by omega
          go_wp2_with fail
          go_quiet (first | (go_at_call 96; refine Calls.quiet_of_same (less_any _ _ _)))
          go_wp2_with fail
          go_roundw
          case rel => exact ⟨i + 1, dj, by go_num, by omega, by omega, HJ.out, HP2.out, by rw [show min (i + 1) b = i + 1 by omega]; exact HI.out.stop swoU (Or.inl (by omega)), at_drewN HA2.out nq⟩
          case measure => simp [sInt]; omega
    · have hltI : ¬ (i : Int) < (b : Int) := by omega
      go_wp2
      go_end0
      exact ⟨rfl, dk, HP.out, by have := HS.out; rw [show min i b = b by omega] at this; exact this, HA.out⟩
end Go.Proofs.Ytogkeoainejfcaa
namespace Go.Proofs.Ytogkeoainejfcaa
open Go.RowKit
open Go.Sort (PermIn SortedIn SWO swp Holds putRow grow At size_swp siftDown)
set_option linter.unusedSimpArgs false
set_option linter.unusedVariables false
set_option maxRecDepth 100000
section
variable {hi F r : Nat} {d : Array Nat}
theorem sift_none (h : hi ≤ 2 * r + 1) : siftDown ltU hi F r d = d := by rw [siftDown, dif_pos h]
theorem sift_right (h1 : 2 * r + 2 < hi) (h2 : ltU d[F + 2 * r + 1]! d[F + 2 * r + 2]! = true) :
    siftDown ltU hi F r d = if ltU d[F + r]! d[F + 2 * r + 2]! = true then siftDown ltU hi F (2 * r + 2) (swp d (F + r) (F + (2 * r + 2))) else d := by
  rw [siftDown, dif_neg (by omega), show F + (2 * r + 1) + 1 = F + 2 * r + 2 by omega, show F + (2 * r + 1) = F + 2 * r + 1 by omega, show F + (2 * r + 2) = F + 2 * r + 2 by omega, if_pos (by rw [h2]; simp; omega)]
  cases ltU d[F + r]! d[F + 2 * r + 2]! <;> simp [h1]
theorem sift_left (h1 : 2 * r + 1 < hi) (h2 : ¬ 2 * r + 2 < hi ∨ ltU d[F + 2 * r + 1]! d[F + 2 * r + 2]! = false) :
    siftDown ltU hi F r d = if ltU d[F + r]! d[F + 2 * r + 1]! = true then siftDown ltU hi F (2 * r + 1) (swp d (F + r) (F + (2 * r + 1))) else d := by
  rw [siftDown, dif_neg (by omega), show F + (2 * r + 1) + 1 = F + 2 * r + 2 by omega, show F + (2 * r + 1) = F + 2 * r + 1 by omega, show 2 * r + 1 + 1 = 2 * r + 2 by omega]
  rw [if_neg (by rcases h2 with h2 | h2 <;> simp [h2])]
  cases ltU d[F + r]! d[F + 2 * r + 1]! <;> simp
end
set_option maxHeartbeats 3200000 in
theorem sift_any (w : World) (blk off len cap lo hi F : Nat) (d : Array Nat) (hlen : d.size = len) (h0 : Holds eU w blk off d) (hb : blk < w.heap.size) (hlo : lo ≤ hi) (hF : F + hi ≤ len) (hsz : len < 4611686018427387904) :
    Calls Try.prog 104 #[.slice (some ⟨blk, off, none⟩) len cap, .int .i64 lo, .int .i64 hi, .int .i64 F] w fun e w' => e = .returned (.tuple #[]) ∧ At eU w blk off (siftDown ltU hi F lo d) w' := by
  have H0 := Lib.hid h0
  have HL := Lib.hid hlen
  have HB := Lib.hid hb
  go_enter Try.func104, Try.ntmps104
  go_wp2
  go_loopw [8] (fun s8 wr => ∃ (r : Nat) (dk : Array Nat), s8 = .int .i64 r ∧ r ≤ hi ∧ dk.size = len ∧ siftDown ltU hi F r dk = siftDown ltU hi F lo d ∧ At eU w blk off dk wr) (fun s8 _ => hi - (sInt s8).toNat)
  case atStart => exact ⟨lo, d, rfl, hlo, hlen, rfl, At.refl h0⟩
  case round =>
    obtain ⟨r, dk, rfl, hr, hsk, hE, hA⟩ := hrel
    obtain ⟨G, hG, hcw, hfw⟩ := row_fam hA H0.out HB.out (hsk.trans HL.out.symm)
    rw [HL.out] at hcw hfw
    have HG := Lib.hid hG
    have HE := Lib.hid hE
    have HA := Lib.hid hA
    have HK := Lib.hid hsk
    clear hG hE hA hsk h0 hlen hb
    by_cases hn : hi ≤ 2 * r + 1
    · have hnI : (hi : Int) ≤ 2 * (r : Int) + 1 := by omega
      go_wp2
      go_end0
      refine ⟨rfl, ?_⟩
      rw [← HE.out, sift_none hn]
      exact HA.out
    · have hnI : ¬ (hi : Int) ≤ 2 * (r : Int) + 1 := by omega
      by_cases h1 : 2 * r + 2 < hi
      · have h1I : 2 * (r : Int) + 1 + 1 < (hi : Int) := by omega
        go_wp2_with fail
        go_quiet (first | (go_at_call 96; refine Calls.quiet_of_same (less_any _ _ _)))
        go_wp2_with fail
        · have hR : ltU (G (F + 2 * r + 1)) (G (F + 2 * r + 2)) = true := by assumption
          have HR := Lib.hid hR
          clear hR
          have HA2 := Lib.hid (at_drewN HA.out nq)
          have hcw2 : ∀ t, t < len → (wr.drewN nq).cell? ⟨blk, off + t, none⟩ = some (.int .u64 (G t : Int)) := hcw
          have hfw2 : ∀ t, t < len → (wr.drewN nq).frozen? ⟨blk, off + t, none⟩ = false := hfw
          clear hcw hfw
          obtain ⟨w2, hw2⟩ : ∃ x, x = wr.drewN nq := ⟨_, rfl⟩
          rw [← hw2] at hcw2 hfw2 HA2 ⊢
          clear hw2 nq
          go_quiet (first | (go_at_call 96; refine Calls.quiet_of_same (less_any _ _ _)))
          go_wp2_with fail
          · have hl : ltU (G (F + r)) (G (F + 2 * r + 2)) = false := by
              have : (!ltU (G (F + r)) (G (F + 2 * r + 2))) = true := by assumption
              simpa using this
            (try simp only [Exit.inBlock, Exit.then])
            refine bodyPost_ret (results_none rfl _ _ _) rfl ?_
            refine ⟨rfl, ?_⟩
            rw [← HE.out, sift_right (r := r) (d := dk) h1 (by rw [← HG.out, ← HG.out]; exact HR.out), ← HG.out, ← HG.out, hl]
            exact at_drewN HA2.out nq
          · have hl : ltU (G (F + r)) (G (F + 2 * r + 2)) = true := by
              have : (!ltU (G (F + r)) (G (F + 2 * r + 2))) = false := by assumption
              simpa using this
            have HL2 := Lib.hid hl
            clear hl
            go_region
            all_goals go_wp2
            go_roundw
            case rel =>
              refine ⟨2 * r + 2, swp dk (F + r) (F + (2 * r + 2)), by go_num, by omega, by rw [size_swp]; exact HK.out, ?_, ?_⟩
              · rw [← HE.out, sift_right (r := r) (d := dk) h1 (by rw [← HG.out, ← HG.out]; exact HR.out), ← HG.out (F + r), ← HG.out (F + 2 * r + 2), HL2.out]
                rfl
              · first
                  | exact at_swap1 (at_drewN HA2.out nq) HB.out (by rw [HK.out]; omega) (by rw [HK.out]; omega) (HG.out _) (HG.out _)
                  | exact at_swap2 (at_drewN HA2.out nq) HB.out (by rw [HK.out]; omega) (by rw [HK.out]; omega) (HG.out _) (HG.out _)
            case measure => simp [sInt]; omega
        · have hR : ltU (G (F + 2 * r + 1)) (G (F + 2 * r + 2)) = false := by assumption
          have HR := Lib.hid hR
          clear hR
          have HA2 := Lib.hid (at_drewN HA.out nq)
          have hcw2 : ∀ t, t < len → (wr.drewN nq).cell? ⟨blk, off + t, none⟩ = some (.int .u64 (G t : Int)) := hcw
          have hfw2 : ∀ t, t < len → (wr.drewN nq).frozen? ⟨blk, off + t, none⟩ = false := hfw
          clear hcw hfw
          obtain ⟨w2, hw2⟩ : ∃ x, x = wr.drewN nq := ⟨_, rfl⟩
          rw [← hw2] at hcw2 hfw2 HA2 ⊢
          clear hw2 nq
          go_quiet (first | (go_at_call 96; refine Calls.quiet_of_same (less_any _ _ _)))
          go_wp2_with fail
          · have hl : ltU (G (F + r)) (G (F + 2 * r + 1)) = false := by
              have : (!ltU (G (F + r)) (G (F + 2 * r + 1))) = true := by assumption
              simpa using this
            (try simp only [Exit.inBlock, Exit.then])
            refine bodyPost_ret (results_none rfl _ _ _) rfl ?_
            refine ⟨rfl, ?_⟩
            rw [← HE.out, sift_left (r := r) (d := dk) (by omega) (Or.inr (by rw [← HG.out, ← HG.out]; exact HR.out)), ← HG.out, ← HG.out, hl]
            exact at_drewN HA2.out nq
          · have hl : ltU (G (F + r)) (G (F + 2 * r + 1)) = true := by
              have : (!ltU (G (F + r)) (G (F + 2 * r + 1))) = false := by assumption
              simpa using this
            have HL2 := Lib.hid hl
            clear hl
            go_region
            all_goals go_wp2
            go_roundw
            case rel =>
              refine ⟨2 * r + 1, swp dk (F + r) (F + (2 * r + 1)), by go_num, by omega, by rw [size_swp]; exact HK.out, ?_, ?_⟩
              · rw [← HE.out, sift_left (r := r) (d := dk) (by omega) (Or.inr (by rw [← HG.out, ← HG.out]; exact HR.out)), ← HG.out (F + r), ← HG.out (F + 2 * r + 1), HL2.out]
                rfl
              · first
                  | exact at_swap1 (at_drewN HA2.out nq) HB.out (by rw [HK.out]; omega) (by rw [HK.out]; omega) (HG.out _) (HG.out _)
                  | exact at_swap2 (at_drewN HA2.out nq) HB.out (by rw [HK.out]; omega) (by rw [HK.out]; omega) (HG.out _) (HG.out _)
            case measure => simp [sInt]; omega
      · have h1I : ¬ 2 * (r : Int) + 1 + 1 < (hi : Int) := by omega
        have h1J : decide (2 * (r : Int) + 1 + 1 < (hi : Int)) = false := decide_eq_false h1I
        go_wp2_with fail
        go_quiet (first | (go_at_call 96; refine Calls.quiet_of_same (less_any _ _ _)))
        go_wp2_with fail
        have HA2 := Lib.hid (at_drewN HA.out nq)
        have hcw2 : ∀ t, t < len → (wr.drewN nq).cell? ⟨blk, off + t, none⟩ = some (.int .u64 (G t : Int)) := hcw
        have hfw2 : ∀ t, t < len → (wr.drewN nq).frozen? ⟨blk, off + t, none⟩ = false := hfw
        clear hcw hfw
        obtain ⟨w2, hw2⟩ : ∃ x, x = wr.drewN nq := ⟨_, rfl⟩
        rw [← hw2] at hcw2 hfw2 HA2 ⊢
        clear hw2 nq
        go_quiet (first | (go_at_call 96; refine Calls.quiet_of_same (less_any _ _ _)))
        go_wp2_with fail
        · have hl : ltU (G (F + r)) (G (F + 2 * r + 1)) = false := by
            have : (!ltU (G (F + r)) (G (F + 2 * r + 1))) = true := by assumption
            simpa using this
          (try simp only [Exit.inBlock, Exit.then])
          refine bodyPost_ret (results_none rfl _ _ _) rfl ?_
          refine ⟨rfl, ?_⟩
          rw [← HE.out, sift_left (r := r) (d := dk) (by omega) (Or.inl h1), ← HG.out, ← HG.out, hl]
          exact at_drewN HA2.out nq
        · have hl : ltU (G (F + r)) (G (F + 2 * r + 1)) = true := by
            have : (!ltU (G (F + r)) (G (F + 2 * r + 1))) = false := by assumption
            simpa using this
          have HL2 := Lib.hid hl
          clear hl
          go_region
          all_goals go_wp2
          go_roundw
          case rel =>
            refine ⟨2 * r + 1, swp dk (F + r) (F + (2 * r + 1)), by go_num, by omega, by rw [size_swp]; exact HK.out, ?_, ?_⟩
            · rw [← HE.out, sift_left (r := r) (d := dk) (by omega) (Or.inl h1), ← HG.out (F + r), ← HG.out (F + 2 * r + 1), HL2.out]
              rfl
            · first
                | exact at_swap1 (at_drewN HA2.out nq) HB.out (by rw [HK.out]; omega) (by rw [HK.out]; omega) (HG.out _) (HG.out _)
                | exact at_swap2 (at_drewN HA2.out nq) HB.out (by rw [HK.out]; omega) (by rw [HK.out]; omega) (HG.out _) (HG.out _)
          case measure => simp [sInt]; omega
end Go.Proofs.Ytogkeoainejfcaa
namespace Go.Proofs.Ytogkeoainejfcaa
open Go.RowKit
open Go.Sort (PermIn SortedIn SWO swp Holds putRow grow At size_swp siftDown heapSort heapPop heapBuild heapSort_holds)
set_option linter.unusedSimpArgs false
set_option linter.unusedVariables false
set_option maxRecDepth 100000
theorem sift_size (hi F : Nat) : ∀ (n r : Nat) (d : Array Nat), hi - r ≤ n → (siftDown ltU hi F r d).size = d.size
  | 0, r, d, h => by rw [siftDown, dif_pos (by omega)]
  | n + 1, r, d, h => by
    rw [siftDown]
    have ih := sift_size hi F n
    repeat' split
    all_goals first | rfl | (rw [ih _ _ (by omega), size_swp])
theorem half_int {a b : Nat} (h : a ≤ b) : ((b : Int) - (a : Int) - 1).tdiv 2 = (((b - a - 1) / 2 + 1 : Nat) : Int) - 1 := by
  rcases Nat.eq_or_lt_of_le h with rfl | h
  · rw [show ((a : Int) - (a : Int) - 1) = -1 by omega]
    simp
  · rw [Int.tdiv_eq_ediv_of_nonneg (by omega)]
    omega
set_option maxHeartbeats 3200000 in
theorem heap_any (w : World) (blk off len cap a b : Nat) (d : Array Nat) (hlen : d.size = len) (h0 : Holds eU w blk off d) (hb : blk < w.heap.size) (hab : a ≤ b) (hbd : b ≤ len) (hsz : len < 4611686018427387904) :
    Calls Try.prog 91 #[.slice (some ⟨blk, off, none⟩) len cap, .int .i64 a, .int .i64 b] w fun e w' => e = .returned (.tuple #[]) ∧ ∃ d', PermIn a b d d' ∧ SortedIn ltU a b d' ∧ At eU w blk off d' w' := by
  have H0 := Lib.hid h0
  have HL := Lib.hid hlen
  have HB := Lib.hid hb
  have ecast : ((b - a : Nat) : Int) = (b : Int) - (a : Int) := by omega
  go_enter Try.func91, Try.ntmps91
  go_wp2
  go_loopg [9] ((b - a - 1) / 2 + 1) (fun k s9 wr => s9 = .int .i64 ((k : Int) - 1) ∧ k ≤ (b - a - 1) / 2 + 1 ∧ ∃ (dk : Array Nat), dk.size = len ∧ heapBuild ltU (b - a) a k dk = heapBuild ltU (b - a) a ((b - a - 1) / 2 + 1) d ∧ At eU w blk off dk wr)
  case atStart => exact ⟨by rw [half_int hab], Nat.le_refl _, d, hlen, rfl, At.refl h0⟩
  case round =>
    obtain ⟨rfl, hkk, dk, hsk, hE, hA⟩ := hrel
    have HE := Lib.hid hE
    have HA := Lib.hid hA
    have HK := Lib.hid hsk
    clear hE hA hsk h0 hlen hb
    cases gk with
    | zero =>
      have HD := Lib.hid (show dk = heapBuild ltU (b - a) a ((b - a - 1) / 2 + 1) d from HE.out)
      clear hkk
      go_wp2
      go_loopg [10] (b - a) (fun k s10 wr2 => s10 = .int .i64 ((k : Int) - 1) ∧ k ≤ b - a ∧ ∃ (dj : Array Nat), dj.size = len ∧ heapPop ltU a k dj = heapPop ltU a (b - a) dk ∧ At eU w blk off dj wr2)
      case atStart => exact ⟨by rw [ecast], Nat.le_refl _, dk, HK.out, rfl, HA.out⟩
      case round =>
        obtain ⟨rfl, hkk, dj, hsj, hE2, hA2⟩ := hrel
        have HE2 := Lib.hid hE2
        have HA2 := Lib.hid hA2
        have HJ := Lib.hid hsj
        cases gk with
        | zero =>
          clear hE2 hA2 hsj
          go_wp2
          go_end0
          have e : dj = heapSort ltU d a b := by
            have h1 : dj = heapPop ltU a (b - a) dk := HE2.out
            rw [h1, HD.out]
            rfl
          have hh := heapSort_holds swoU d a b hab (by rw [HL.out]; exact hbd)
          rw [← e] at hh
          exact ⟨rfl, dj, hh.1, hh.2, HA2.out⟩
        | succ k =>
          obtain ⟨G, hG, hcw, hfw⟩ := row_fam hA2 H0.out HB.out (hsj.trans HL.out.symm)
          rw [HL.out] at hcw hfw
          have HG := Lib.hid hG
          clear hG hE2 hA2 hsj
          rcases Nat.eq_zero_or_pos k with hk0 | hkp
          · subst hk0
            go_wp2_with fail
            go_region
            go_wp2_with fail
            have hA3 : At eU w blk off (swp dj a a) ((wr.setCell ⟨blk, off + a, none⟩ (.int .u64 (G a : Int))).setCell ⟨blk, off + a, none⟩ (.int .u64 (G a : Int))).drew :=
              at_swap2 HA2.out HB.out (by rw [HJ.out]; omega) (by rw [HJ.out]; omega) (HG.out _) (HG.out _)
            have hh := hA3.holds H0.out (by rw [size_swp, HJ.out]; exact HL.out.symm) HB.out
            refine (sift_any _ blk off len cap 0 0 a (swp dj a a) (by rw [size_swp]; exact HJ.out) hh.1 hh.2 (Nat.le_refl _) (by omega) (by omega)).mono ?_
            rintro e w1 ⟨rfl, hA4⟩
            have HA4 := Lib.hid hA4
            have HA3 := Lib.hid hA3
            clear hA4 hA3 hh hcw hfw
            go_wp2
            go_roundg 0
            case measure => omega
            case rel =>
              obtain ⟨n, os, h4⟩ := HA4.out
              exact ⟨by simp, by omega, siftDown ltU 0 a 0 (swp dj a a), by rw [sift_size _ _ _ _ _ (Nat.le_refl _), size_swp]; exact HJ.out, HE2.out, HA3.out.stepG HB.out (sift_size _ _ _ _ _ (Nat.le_refl _)) ⟨n, os, h4⟩⟩
          · have hka : ¬ a = a + k := by omega
            go_wp2_with fail
            go_region
            go_wp2_with fail
            have hA3 : At eU w blk off (swp dj a (a + k)) ((wr.setCell ⟨blk, off + a, none⟩ (.int .u64 (G (a + k) : Int))).setCell ⟨blk, off + (a + k), none⟩ (.int .u64 (G a : Int))).drew :=
              at_swap2 HA2.out HB.out (by rw [HJ.out]; omega) (by rw [HJ.out]; omega) (HG.out _) (HG.out _)
            have hh := hA3.holds H0.out (by rw [size_swp, HJ.out]; exact HL.out.symm) HB.out
            refine (sift_any _ blk off len cap 0 k a (swp dj a (a + k)) (by rw [size_swp]; exact HJ.out) hh.1 hh.2 (Nat.zero_le _) (by omega) (by omega)).mono ?_
            rintro e w1 ⟨rfl, hA4⟩
            have HA4 := Lib.hid hA4
            have HA3 := Lib.hid hA3
            clear hA4 hA3 hh hcw hfw
            go_wp2
            go_roundg k
            case measure => omega
            case rel =>
              obtain ⟨n, os, h4⟩ := HA4.out
              exact ⟨by simp, by omega, siftDown ltU k a 0 (swp dj a (a + k)), by rw [sift_size _ _ _ _ _ (Nat.le_refl _), size_swp]; exact HJ.out, HE2.out, HA3.out.stepG HB.out (sift_size _ _ _ _ _ (Nat.le_refl _)) ⟨n, os, h4⟩⟩
    | succ k =>
      have hh := HA.out.holds H0.out (HK.out.trans HL.out.symm) HB.out
      have hc := sift_any wr blk off len cap k (b - a) a dk HK.out hh.1 hh.2 (by omega) (by omega) (by omega)
      rw [ecast] at hc
      have HC := Lib.hid hc
      clear hc hh
      go_wp2_with (go_at_call 104; refine HC.out.mono ?_; rintro e w1 ⟨rfl, hA4⟩; have HA4 := Lib.hid hA4; clear hA4)
      go_roundg k
      case measure => omega
      case rel =>
        obtain ⟨n, os, h4⟩ := HA4.out
        exact ⟨by simp, by omega, siftDown ltU (b - a) a k dk, by rw [sift_size _ _ _ _ _ (Nat.le_refl _)]; exact HK.out, HE.out, HA.out.stepG HB.out (sift_size _ _ _ _ _ (Nat.le_refl _)) ⟨n, os, h4⟩⟩
end Go.Proofs.Ytogkeoainejfcaa
namespace Go.Proofs.Ytogkeoainejfcaa
open Go.RowKit
open Go.Sort (PermIn SortedIn SWO swp Holds putRow grow At size_swp permIn_refl permIn_trans swp_permIn)
set_option linter.unusedSimpArgs false
set_option linter.unusedVariables false
set_option maxRecDepth 100000
set_option maxHeartbeats 1600000 in
theorem reverse_any (w : World) (blk off len cap a b : Nat) (d : Array Nat) (hlen : d.size = len) (h0 : Holds eU w blk off d) (hb : blk < w.heap.size) (hab : a ≤ b) (hbd : b ≤ len) (hsz : len < 4611686018427387904) :
    Calls Try.prog 94 #[.slice (some ⟨blk, off, none⟩) len cap, .int .i64 a, .int .i64 b] w fun e w' => e = .returned (.tuple #[]) ∧ ∃ d', PermIn a b d d' ∧ At eU w blk off d' w' := by
  have H0 := Lib.hid h0
  have HL := Lib.hid hlen
  have HB := Lib.hid hb
  go_enter Try.func94, Try.ntmps94
  go_wp2
  go_loopw [6, 7] (fun s6 s7 wr => ∃ (i : Nat) (jz : Int) (dk : Array Nat), s6 = .int .i64 i ∧ s7 = .int .i64 jz ∧ a ≤ i ∧ i ≤ len ∧ jz < (b : Int) ∧ -1 ≤ jz ∧ dk.size = len ∧ PermIn a b d dk ∧ At eU w blk off dk wr) (fun s6 s7 _ => (sInt s7 - sInt s6).toNat)
  case atStart => exact ⟨a, (b : Int) - 1, d, rfl, rfl, Nat.le_refl _, by omega, by omega, by omega, hlen, permIn_refl _ _ _, At.refl h0⟩
  case round =>
    obtain ⟨i, jz, dk, rfl, rfl, hai, hil, hjb, hj1, hsk, hP, hA⟩ := hrel
    have HP := Lib.hid hP
    have HA := Lib.hid hA
    have HK := Lib.hid hsk
    by_cases hlt : (i : Int) < jz
    · obtain ⟨j, rfl⟩ : ∃ j : Nat, jz = (j : Int) := ⟨jz.toNat, by omega⟩
      obtain ⟨G, hG, hcw, hfw⟩ := row_fam hA H0.out HB.out (hsk.trans HL.out.symm)
      rw [HL.out] at hcw hfw
      have HG := Lib.hid hG
      have hne : ¬ i = j := by omega
      have hjlen : j < len := by omega
      have hilen : i < len := by omega
      clear hG hP hA hsk h0 hlen hb
      go_wp2_with fail
      go_region
      all_goals go_wp2
      go_roundw
      case rel =>
        refine ⟨i + 1, (j : Int) - 1, swp dk i j, by go_num, rfl, by omega, by omega, by omega, by omega, by rw [size_swp]; exact HK.out, permIn_trans _ _ _ _ _ HP.out (swp_permIn _ _ _ _ _ (by omega) (by omega) (by omega) (by omega) (by rw [HK.out]; omega)), ?_⟩
        first
          | exact at_swap1 HA.out HB.out (by rw [HK.out]; omega) (by rw [HK.out]; omega) (HG.out _) (HG.out _)
          | exact at_swap2 HA.out HB.out (by rw [HK.out]; omega) (by rw [HK.out]; omega) (HG.out _) (HG.out _)
      case measure => simp [sInt]; omega
    · clear hP hA hsk h0 hlen hb
      go_wp2
      go_end0
      exact ⟨rfl, dk, HP.out, HA.out⟩
end Go.Proofs.Ytogkeoainejfcaa
namespace Go.Proofs.Ytogkeoainejfcaa
open Go.RowKit
open Go.Sort (PermIn SortedIn SWO swp Holds putRow grow At size_swp permIn_refl permIn_trans swp_permIn swp_get)
set_option linter.unusedSimpArgs false
set_option linter.unusedVariables false
set_option maxRecDepth 100000
/-- What two scans have found: below i none is greater than the pivot, above j each one is. -/
def PEq (a i j b p : Nat) (d : Array Nat) : Prop := d[a]! = p ∧ (∀ t, a ≤ t → t < i → ltU p d[t]! = false) ∧ (∀ t, j < t → t < b → ltU p d[t]! = true)
theorem peq_start {a b pv : Nat} {d : Array Nat} (h1 : a ≤ pv) (h2 : pv < b) (h3 : b ≤ d.size) : PEq a (a + 1) (b - 1) b d[pv]! (swp d a pv) := by
  have g := swp_get d (i := a) (j := pv) (by omega) (by omega)
  refine ⟨?_, fun t ht1 ht2 => ?_, fun t ht1 ht2 => by omega⟩
  · rw [g]
    split
    · rename_i h; rw [← h]
    · rw [if_pos rfl]
  · have : t = a := by omega
    subst this
    rw [g]
    split
    · rename_i h; rw [← h]; exact swoU.irrefl _
    · rw [if_pos rfl]; exact swoU.irrefl _
theorem peq_swap {a i j b p : Nat} {d : Array Nat} {i' j' : Nat} (h : PEq a i j b p d) (ha : a < i') (hi : i ≤ i') (hj : j' ≤ j) (hij : i' < j') (hb : j' < b) (hs : b ≤ d.size)
    (hu : ∀ t, i ≤ t → t < i' → ltU p d[t]! = false) (hd : ∀ t, j' < t → t ≤ j → ltU p d[t]! = true) (h1 : ltU p d[i']! = true) (h2 : ltU p d[j']! = false) :
    PEq a (i' + 1) (j' - 1) b p (swp d i' j') := by
  have g := swp_get d (i := i') (j := j') (by omega) (by omega)
  refine ⟨by rw [g, if_neg (by omega), if_neg (by omega)]; exact h.1, fun t ht1 ht2 => ?_, fun t ht1 ht2 => ?_⟩
  · rw [g, if_neg (by omega)]
    split
    · exact h2
    · rcases Nat.lt_or_ge t i with h3 | h3
      · exact h.2.1 t ht1 h3
      · exact hu t h3 (by omega)
  · rw [g]
    split
    · exact h1
    · rw [if_neg (by omega)]
      rcases Nat.lt_or_ge j t with h3 | h3
      · exact h.2.2 t h3 ht2
      · exact hd t (by omega) h3
set_option maxHeartbeats 3200000 in
theorem partEq_any (w : World) (blk off len cap a b pv : Nat) (d : Array Nat) (hlen : d.size = len) (h0 : Holds eU w blk off d) (hb : blk < w.heap.size) (hap : a ≤ pv) (hpb : pv < b) (hbd : b ≤ len) (hsz : len < 4611686018427387904) :
    Calls Try.prog 97 #[.slice (some ⟨blk, off, none⟩) len cap, .int .i64 a, .int .i64 b, .int .i64 pv] w fun e w' => ∃ (mid : Nat) (d' : Array Nat), e = .returned (.int .i64 mid) ∧ a < mid ∧ mid ≤ b ∧ PermIn a b d d' ∧
      (∀ t, a ≤ t → t < mid → ltU d[pv]! d'[t]! = false) ∧ (∀ t, mid ≤ t → t < b → ltU d[pv]! d'[t]! = true) ∧ At eU w blk off d' w' := by
  have hS0 := peq_start hap hpb (by rw [hlen]; exact hbd)
  obtain ⟨p, hp⟩ : ∃ p, p = d[pv]! := ⟨_, rfl⟩
  rw [← hp] at hS0 ⊢
  obtain ⟨G, hG, hcw, hfw⟩ := row_fam (At.refl h0) h0 hb rfl
  rw [hlen] at hcw hfw
  have HG := Lib.hid hG
  have HS0 := Lib.hid hS0
  have HA0 := Lib.hid (At.refl h0)
  have H0 := Lib.hid h0
  have HL := Lib.hid hlen
  have HB := Lib.hid hb
  clear hG hS0 h0 hlen hb hp
  go_enter Try.func97, Try.ntmps97
  go_upto_region 2 with fail
  go_cut [] (fun wx => At eU w blk off (swp d a pv) wx)
  case first =>
    by_cases hEq : a = pv
    · subst hEq
      go_region
      all_goals go_wp2_with fail
      all_goals go_meet
      all_goals first
        | exact at_swap1 HA0.out HB.out (by rw [HL.out]; omega) (by rw [HL.out]; omega) (HG.out _) (HG.out _)
        | exact at_swap2 HA0.out HB.out (by rw [HL.out]; omega) (by rw [HL.out]; omega) (HG.out _) (HG.out _)
    · go_region
      all_goals go_wp2_with fail
      all_goals go_meet
      all_goals first
        | exact at_swap1 HA0.out HB.out (by rw [HL.out]; omega) (by rw [HL.out]; omega) (HG.out _) (HG.out _)
        | exact at_swap2 HA0.out HB.out (by rw [HL.out]; omega) (by rw [HL.out]; omega) (HG.out _) (HG.out _)
  case rest =>
  have HA1 := Lib.hid hcut
  clear hcut hcw hfw HG
  clear G
  go_wp2_with fail
  go_loopw [9, 10] (fun s9 s10 wr => ∃ (i j : Nat) (dk : Array Nat), s9 = .int .i64 i ∧ s10 = .int .i64 j ∧ a < i ∧ i ≤ j + 1 ∧ j < b ∧ dk.size = len ∧ PermIn a b d dk ∧ PEq a i j b p dk ∧ At eU w blk off dk wr) (fun s9 s10 _ => (sInt s10 + 1 - sInt s9).toNat)
  case atStart => exact ⟨a + 1, b - 1, swp d a pv, by go_num, by go_num, by omega, by omega, by omega, by rw [size_swp]; exact HL.out, swp_permIn _ _ _ _ _ (by omega) (by omega) (by omega) (by omega) (by rw [HL.out]; omega), HS0.out, HA1.out⟩
  case round =>
    obtain ⟨i, j, dk, rfl, rfl, hai, hij, hjb, hsk, hP, hS, hA⟩ := hrel
    obtain ⟨G, hG, hcw, hfw⟩ := row_fam hA H0.out HB.out (hsk.trans HL.out.symm)
    rw [HL.out] at hcw hfw
    have HG := Lib.hid hG
    have HP := Lib.hid hP
    have HS := Lib.hid hS
    have HA := Lib.hid hA
    have HK := Lib.hid hsk
    clear hG hP hS hA hsk HA1 HA0 HS0
    obtain ⟨W1, hW1⟩ : ∃ x : World, x = wr := ⟨_, rfl⟩
    rw [← hW1] at hcw hfw HA ⊢
    clear hW1
    go_upto_block 2 with fail
    go_cut [9] (fun s9 wx => ∃ i' : Nat, s9 = .int .i64 i' ∧ i ≤ i' ∧ i' ≤ j + 1 ∧ (∀ t, i ≤ t → t < i' → ltU (G a) (G t) = false) ∧ (i' ≤ j → ltU (G a) (G i') = true) ∧ ∃ n, wx = W1.drewN n)
    case first =>
      go_wp2_with fail
      go_loopw [9] (fun s9 wr => ∃ i' : Nat, s9 = .int .i64 i' ∧ i ≤ i' ∧ i' ≤ j + 1 ∧ (∀ t, i ≤ t → t < i' → ltU (G a) (G t) = false) ∧ ∃ n, wr = W1.drewN n) (fun s9 _ => j + 1 - (sInt s9).toNat)
      case atStart => exact ⟨i, rfl, Nat.le_refl _, hij, fun t h1 h2 => by omega, 0, rfl⟩
      case round =>
        obtain ⟨k, rfl, hik, hkj, hu, n, hw⟩ := hrel
        have hcw2 : ∀ t, t < len → wr.cell? ⟨blk, off + t, none⟩ = some (.int .u64 (G t : Int)) := fun t ht => by rw [hw]; exact hcw t ht
        have HU := Lib.hid hu
        have HW := Lib.hid hw
        clear hu hw hcw hfw
        by_cases hle : k ≤ j
        · have hleI : (k : Int) ≤ (j : Int) := by omega
          go_wp2_with fail
          go_quiet (first | (go_at_call 96; refine Calls.quiet_of_same (less_any _ _ _)))
          go_wp2_with fail
          · have hl : ltU (G a) (G k) = false := by
              have : (!ltU (G a) (G k)) = true := by assumption
              simpa using this
            go_roundw
            case rel => exact ⟨k + 1, by go_num, by omega, by omega, fun t h1 h2 => by
              rcases Nat.lt_or_ge t k with h3 | h3
              · exact HU.out t h1 h3
              · rw [show t = k by omega]; exact hl, n + nq, by rw [HW.out, World.drewN_drewN]⟩
            case measure => simp [sInt]; omega
          · have hl : ltU (G a) (G k) = true := by
              have : (!ltU (G a) (G k)) = false := by assumption
              simpa using this
            go_meet
            exact ⟨k, rfl, hik, hkj, HU.out, fun _ => hl, n + nq, by rw [HW.out, World.drewN_drewN]⟩
        · have hleI : ¬ (k : Int) ≤ (j : Int) := by omega
          go_wp2_with fail
          go_quiet (first | (go_at_call 96; refine Calls.quiet_of_same (less_any _ _ _)))
          go_wp2_with fail
          go_meet
          exact ⟨k, rfl, hik, hkj, HU.out, fun h => absurd h hle, n + nq, by rw [HW.out, World.drewN_drewN]⟩
    case rest =>
    obtain ⟨i', rfl, hii, hij', hu, hu2, n1, hw1⟩ := hcut
    have HU := Lib.hid hu
    have HU2 := Lib.hid hu2
    have HW1 := Lib.hid hw1
    clear hu hu2 hw1
    go_upto_block 4 with fail
    go_cut [10] (fun s10 wx => ∃ j' : Nat, s10 = .int .i64 j' ∧ j' ≤ j ∧ i' ≤ j' + 1 ∧ (∀ t, j' < t → t ≤ j → ltU (G a) (G t) = true) ∧ (i' ≤ j' → ltU (G a) (G j') = false) ∧ ∃ n, wx = W1.drewN n)
    case first =>
      go_wp2_with fail
      go_loopw [10] (fun s10 wr => ∃ j' : Nat, s10 = .int .i64 j' ∧ j' ≤ j ∧ i' ≤ j' + 1 ∧ (∀ t, j' < t → t ≤ j → ltU (G a) (G t) = true) ∧ ∃ n, wr = W1.drewN n) (fun s10 _ => (sInt s10).toNat)
      case atStart => exact ⟨j, rfl, Nat.le_refl _, hij', fun t h1 h2 => by omega, n1, HW1.out⟩
      case round =>
        obtain ⟨k, rfl, hkj, hik, hd, n, hw⟩ := hrel
        have hcw2 : ∀ t, t < len → wr.cell? ⟨blk, off + t, none⟩ = some (.int .u64 (G t : Int)) := fun t ht => by rw [hw]; exact hcw t ht
        have HD := Lib.hid hd
        have HW := Lib.hid hw
        clear hd hw hcw hfw
        by_cases hle : i' ≤ k
        · have hleI : (i' : Int) ≤ (k : Int) := by omega
          go_wp2_with fail
          go_quiet (first | (go_at_call 96; refine Calls.quiet_of_same (less_any _ _ _)))
          go_wp2_with fail
          · have hl : ltU (G a) (G k) = true := by assumption
            go_roundw
            case rel => exact ⟨k - 1, by go_num, by omega, by omega, fun t h1 h2 => by
              rcases Nat.lt_or_ge k t with h3 | h3
              · exact HD.out t h3 h2
              · rw [show t = k by omega]; exact hl, n + nq, by rw [HW.out, World.drewN_drewN]⟩
            case measure => simp [sInt]; omega
          · have hl : ltU (G a) (G k) = false := by assumption
            go_meet
            exact ⟨k, rfl, hkj, hik, HD.out, fun _ => hl, n + nq, by rw [HW.out, World.drewN_drewN]⟩
        · have hleI : ¬ (i' : Int) ≤ (k : Int) := by omega
          go_wp2_with fail
          go_quiet (first | (go_at_call 96; refine Calls.quiet_of_same (less_any _ _ _)))
          go_wp2_with fail
          go_meet
          exact ⟨k, rfl, hkj, hik, HD.out, fun h => absurd h hle, n + nq, by rw [HW.out, World.drewN_drewN]⟩
    case rest =>
    obtain ⟨j', rfl, hjj, hij2, hd, hd2, n2, hw2⟩ := hcut
    have HD := Lib.hid hd
    have HD2 := Lib.hid hd2
    have HA2 := Lib.hid (at_drewN HA.out n2)
    have hcw2 : ∀ t, t < len → wc.cell? ⟨blk, off + t, none⟩ = some (.int .u64 (G t : Int)) := fun t ht => by rw [hw2]; exact hcw t ht
    have hfw2 : ∀ t, t < len → wc.frozen? ⟨blk, off + t, none⟩ = false := fun t ht => by rw [hw2]; exact hfw t ht
    rw [← hw2] at HA2
    clear hd hd2 hw2 hcw hfw HW1
    have HGp := Lib.hid (show G a = p by rw [HG.out]; exact HS.out.1)
    by_cases hle : i' ≤ j'
    · have hleI : ¬ (j' : Int) < (i' : Int) := by omega
      have h1 := HU2.out (by omega)
      have h2 := HD2.out hle
      have hne : i' ≠ j' := fun e => by rw [e] at h1; rw [h1] at h2; cases h2
      have H1 := Lib.hid h1
      have H2 := Lib.hid h2
      have hlt : i' < j' := by omega
      have hne2 : ¬ i' = j' := hne
      clear h1 h2 hne hle
      go_wp2_with fail
      go_region
      all_goals go_wp2
      go_roundw
      case rel =>
        have hs := HS.out
        refine ⟨i' + 1, j' - 1, swp dk i' j', by go_num, by go_num, by omega, by omega, by omega, by rw [size_swp]; exact HK.out, permIn_trans _ _ _ _ _ HP.out (swp_permIn _ _ _ _ _ (by omega) (by omega) (by omega) (by omega) (by rw [HK.out]; omega)), ?_, ?_⟩
        · have e1 := HGp.out
          refine peq_swap hs (by omega) hii hjj hlt (by omega) (by rw [HK.out]; omega) (fun t h1 h2 => ?_) (fun t h1 h2 => ?_) ?_ ?_
          · rw [← HG.out, ← e1]; exact HU.out t h1 h2
          · rw [← HG.out, ← e1]; exact HD.out t h1 h2
          · rw [← HG.out, ← e1]; exact H1.out
          · rw [← HG.out, ← e1]; exact H2.out
        · first
            | exact at_swap1 HA2.out HB.out (by rw [HK.out]; omega) (by rw [HK.out]; omega) (HG.out _) (HG.out _)
            | exact at_swap2 HA2.out HB.out (by rw [HK.out]; omega) (by rw [HK.out]; omega) (HG.out _) (HG.out _)
      case measure => simp [sInt]; omega
    · have hleI : (j' : Int) < (i' : Int) := by omega
      go_wp2_with fail
      go_ret
      have hs := HS.out
      have e1 := HGp.out
      refine ⟨i', dk, rfl, by omega, by omega, HP.out, fun t h1 h2 => ?_, fun t h1 h2 => ?_, HA2.out⟩
      · rcases Nat.lt_or_ge t i with h3 | h3
        · exact hs.2.1 t h1 h3
        · rw [← HG.out, ← e1]; exact HU.out t h3 h2
      · rcases Nat.lt_or_ge j t with h3 | h3
        · exact hs.2.2 t h3 h2
        · rw [← HG.out, ← e1]; exact HD.out t (by omega) h3
end Go.Proofs.Ytogkeoainejfcaa
namespace Go.Proofs.Ytogkeoainejfcaa
open Go.RowKit
open Go.Sort (PermIn SortedIn SWO swp Holds putRow grow At size_swp permIn_refl permIn_trans swp_permIn swp_get)
set_option linter.unusedSimpArgs false
set_option linter.unusedVariables false
set_option maxRecDepth 100000
/-- What two scans have found: below i each is less than the pivot, above j none is. -/
def PPt (a i j b p : Nat) (d : Array Nat) : Prop := d[a]! = p ∧ (∀ t, a < t → t < i → ltU d[t]! p = true) ∧ (∀ t, j < t → t < b → ltU d[t]! p = false)
theorem ppt_start {a b pv : Nat} {d : Array Nat} (h1 : a ≤ pv) (h2 : pv < b) (h3 : b ≤ d.size) : PPt a (a + 1) (b - 1) b d[pv]! (swp d a pv) := by
  have g := swp_get d (i := a) (j := pv) (by omega) (by omega)
  refine ⟨?_, fun t ht1 ht2 => by omega, fun t ht1 ht2 => by omega⟩
  rw [g]
  split
  · rename_i h; rw [← h]
  · rw [if_pos rfl]
theorem ppt_swap {a i j b p : Nat} {d : Array Nat} {i' j' : Nat} (h : PPt a i j b p d) (ha : a < i') (hi : i ≤ i') (hj : j' ≤ j) (hij : i' < j') (hb : j' < b) (hs : b ≤ d.size)
    (hu : ∀ t, i ≤ t → t < i' → ltU d[t]! p = true) (hd : ∀ t, j' < t → t ≤ j → ltU d[t]! p = false) (h1 : ltU d[i']! p = false) (h2 : ltU d[j']! p = true) :
    PPt a (i' + 1) (j' - 1) b p (swp d i' j') := by
  have g := swp_get d (i := i') (j := j') (by omega) (by omega)
  refine ⟨by rw [g, if_neg (by omega), if_neg (by omega)]; exact h.1, fun t ht1 ht2 => ?_, fun t ht1 ht2 => ?_⟩
  · rw [g, if_neg (by omega)]
    split
    · exact h2
    · rcases Nat.lt_or_ge t i with h3 | h3
      · exact h.2.1 t ht1 h3
      · exact hu t h3 (by omega)
  · rw [g]
    split
    · exact h1
    · rw [if_neg (by omega)]
      rcases Nat.lt_or_ge j t with h3 | h3
      · exact h.2.2 t h3 ht2
      · exact hd t (by omega) h3
theorem ppt_end {a j b p : Nat} {d : Array Nat} (h : d[a]! = p) (hu : ∀ t, a < t → t ≤ j → ltU d[t]! p = true) (hd : ∀ t, j < t → t < b → ltU d[t]! p = false) (haj : a ≤ j) (hjb : j < b) (hs : b ≤ d.size) :
    (∀ t, a ≤ t → t < j → ltU (swp d j a)[t]! (swp d j a)[j]! = true) ∧ (∀ t, j < t → t < b → ltU (swp d j a)[t]! (swp d j a)[j]! = false) := by
  have g := swp_get d (i := j) (j := a) (by omega) (by omega)
  have hj : (swp d j a)[j]! = p := by
    rw [g]
    split
    · rename_i e; rw [e]; exact h
    · rw [if_pos rfl]; exact h
  rw [hj]
  refine ⟨fun t h1 h2 => ?_, fun t h1 h2 => ?_⟩
  · rw [g]
    split
    · exact hu j (by omega) (Nat.le_refl _)
    · rw [if_neg (by omega)]; exact hu t (by omega) (by omega)
  · rw [g, if_neg (by omega), if_neg (by omega)]
    exact hd t h1 h2
set_option maxHeartbeats 6400000 in
theorem part_any (w : World) (blk off len cap a b pv : Nat) (d : Array Nat) (hlen : d.size = len) (h0 : Holds eU w blk off d) (hb : blk < w.heap.size) (hap : a ≤ pv) (hpb : pv < b) (hbd : b ≤ len) (hsz : len < 4611686018427387904) :
    Calls Try.prog 98 #[.slice (some ⟨blk, off, none⟩) len cap, .int .i64 a, .int .i64 b, .int .i64 pv] w fun e w' => ∃ (mid : Nat) (d' : Array Nat) (ap : Bool), e = .returned (.tuple #[.int .i64 mid, .bool ap]) ∧ a ≤ mid ∧ mid < b ∧ PermIn a b d d' ∧
      (∀ t, a ≤ t → t < mid → ltU d'[t]! d'[mid]! = true) ∧ (∀ t, mid < t → t < b → ltU d'[t]! d'[mid]! = false) ∧ At eU w blk off d' w' := by
  have hS0 := ppt_start hap hpb (by rw [hlen]; exact hbd)
  obtain ⟨p, hp⟩ : ∃ p, p = d[pv]! := ⟨_, rfl⟩
  rw [← hp] at hS0
  obtain ⟨G, hG, hcw, hfw⟩ := row_fam (At.refl h0) h0 hb rfl
  rw [hlen] at hcw hfw
  have HG := Lib.hid hG
  have HS0 := Lib.hid hS0
  have HA0 := Lib.hid (At.refl h0)
  have H0 := Lib.hid h0
  have HL := Lib.hid hlen
  have HB := Lib.hid hb
  clear hG hS0 h0 hlen hb hp
  go_enter Try.func98, Try.ntmps98
  go_upto_region 1 with fail
  go_cut [] (fun wx => At eU w blk off (swp d a pv) wx)
  case first =>
    by_cases hEq : a = pv
    · subst hEq
      go_region
      all_goals go_wp2_with fail
      all_goals go_meet
      all_goals first
        | exact at_swap1 HA0.out HB.out (by rw [HL.out]; omega) (by rw [HL.out]; omega) (HG.out _) (HG.out _)
        | exact at_swap2 HA0.out HB.out (by rw [HL.out]; omega) (by rw [HL.out]; omega) (HG.out _) (HG.out _)
    · go_region
      all_goals go_wp2_with fail
      all_goals go_meet
      all_goals first
        | exact at_swap1 HA0.out HB.out (by rw [HL.out]; omega) (by rw [HL.out]; omega) (HG.out _) (HG.out _)
        | exact at_swap2 HA0.out HB.out (by rw [HL.out]; omega) (by rw [HL.out]; omega) (HG.out _) (HG.out _)
  case rest =>
  have HA1 := Lib.hid hcut
  clear hcut hcw hfw HG
  clear G
  obtain ⟨wq, hwq⟩ : ∃ x : World, x = wc := ⟨_, rfl⟩
  rw [← hwq] at HA1 ⊢
  clear hwq
  go_upto_region 2 with fail
  go_cut [10, 11] (fun s10 s11 wx => ∃ (i j : Nat) (dk : Array Nat), s10 = .int .i64 i ∧ s11 = .int .i64 j ∧ a < i ∧ i ≤ j + 1 ∧ j < b ∧ dk.size = len ∧ PermIn a b d dk ∧ PPt a i j b p dk ∧ At eU w blk off dk wx)
  case first =>
    go_wp2_with fail
    go_meet
    exact ⟨a + 1, b - 1, swp d a pv, by go_num, by go_num, by omega, by omega, by omega, by rw [size_swp]; exact HL.out, swp_permIn _ _ _ _ _ (by omega) (by omega) (by omega) (by omega) (by rw [HL.out]; omega), HS0.out, HA1.out⟩
  case rest =>
  obtain ⟨i, j, dk, rfl, rfl, hai, hij, hjb, hsk, hP, hS, hA⟩ := hcut
  obtain ⟨G, hG, hcw, hfw⟩ := row_fam hA H0.out HB.out (hsk.trans HL.out.symm)
  rw [HL.out] at hcw hfw
  have HG := Lib.hid hG
  have HP := Lib.hid hP
  have HS := Lib.hid hS
  have HA := Lib.hid hA
  have HK := Lib.hid hsk
  clear hG hP hS hA hsk
  obtain ⟨W1, hW1⟩ : ∃ x : World, x = wc := ⟨_, rfl⟩
  rw [← hW1] at hcw hfw HA ⊢
  clear hW1
  clear HA1 HA0 HS0
  go_upto_block 0 with fail
  go_cut [10] (fun s10 wx => ∃ i' : Nat, s10 = .int .i64 i' ∧ i ≤ i' ∧ i' ≤ j + 1 ∧ (∀ t, i ≤ t → t < i' → ltU (G t) (G a) = true) ∧ (i' ≤ j → ltU (G i') (G a) = false) ∧ ∃ n, wx = W1.drewN n)
  case first =>
    go_wp2_with fail
    go_loopw [10] (fun s10 wr => ∃ i' : Nat, s10 = .int .i64 i' ∧ i ≤ i' ∧ i' ≤ j + 1 ∧ (∀ t, i ≤ t → t < i' → ltU (G t) (G a) = true) ∧ ∃ n, wr = W1.drewN n) (fun s10 _ => j + 1 - (sInt s10).toNat)
    case atStart => exact ⟨i, rfl, Nat.le_refl _, hij, fun t h1 h2 => by omega, 0, rfl⟩
    case round =>
      obtain ⟨k, rfl, hik, hkj, hu, n, hw⟩ := hrel
      have hcw2 : ∀ t, t < len → wr.cell? ⟨blk, off + t, none⟩ = some (.int .u64 (G t : Int)) := fun t ht => by rw [hw]; exact hcw t ht
      have HU := Lib.hid hu
      have HW := Lib.hid hw
      clear hu hw hcw hfw
      by_cases hle : k ≤ j
      · have hleI : (k : Int) ≤ (j : Int) := by omega
        go_wp2_with fail
        go_quiet (first | (go_at_call 96; refine Calls.quiet_of_same (less_any _ _ _)))
        go_wp2_with fail
        · have hl : ltU (G k) (G a) = true := by assumption
          go_roundw
          case rel => exact ⟨k + 1, by go_num, by omega, by omega, fun t h1 h2 => by
            rcases Nat.lt_or_ge t k with h3 | h3
            · exact HU.out t h1 h3
            · rw [show t = k by omega]; exact hl, n + nq, by rw [HW.out, World.drewN_drewN]⟩
          case measure => simp [sInt]; omega
        · have hl : ltU (G k) (G a) = false := by assumption
          go_meet
          exact ⟨k, rfl, hik, hkj, HU.out, fun _ => hl, n + nq, by rw [HW.out, World.drewN_drewN]⟩
      · have hleI : ¬ (k : Int) ≤ (j : Int) := by omega
        go_wp2_with fail
        go_quiet (first | (go_at_call 96; refine Calls.quiet_of_same (less_any _ _ _)))
        go_wp2_with fail
        go_meet
        exact ⟨k, rfl, hik, hkj, HU.out, fun h => absurd h hle, n + nq, by rw [HW.out, World.drewN_drewN]⟩
  case rest =>
  obtain ⟨i', rfl, hii, hij', hu, hu2, n1, hw1⟩ := hcut
  have HU := Lib.hid hu
  have HU2 := Lib.hid hu2
  have HW1 := Lib.hid hw1
  clear hu hu2 hw1
  go_upto_block 2 with fail
  go_cut [11] (fun s11 wx => ∃ j' : Nat, s11 = .int .i64 j' ∧ j' ≤ j ∧ i' ≤ j' + 1 ∧ (∀ t, j' < t → t ≤ j → ltU (G t) (G a) = false) ∧ (i' ≤ j' → ltU (G j') (G a) = true) ∧ ∃ n, wx = W1.drewN n)
  case first =>
    go_wp2_with fail
    go_loopw [11] (fun s11 wr => ∃ j' : Nat, s11 = .int .i64 j' ∧ j' ≤ j ∧ i' ≤ j' + 1 ∧ (∀ t, j' < t → t ≤ j → ltU (G t) (G a) = false) ∧ ∃ n, wr = W1.drewN n) (fun s11 _ => (sInt s11).toNat)
    case atStart => exact ⟨j, rfl, Nat.le_refl _, hij', fun t h1 h2 => by omega, n1, HW1.out⟩
    case round =>
      obtain ⟨k, rfl, hkj, hik, hd, n, hw⟩ := hrel
      have hcw2 : ∀ t, t < len → wr.cell? ⟨blk, off + t, none⟩ = some (.int .u64 (G t : Int)) := fun t ht => by rw [hw]; exact hcw t ht
      have HD := Lib.hid hd
      have HW := Lib.hid hw
      clear hd hw hcw hfw
      by_cases hle : i' ≤ k
      · have hleI : (i' : Int) ≤ (k : Int) := by omega
        go_wp2_with fail
        go_quiet (first | (go_at_call 96; refine Calls.quiet_of_same (less_any _ _ _)))
        go_wp2_with fail
        · have hl : ltU (G k) (G a) = false := by
            have : (!ltU (G k) (G a)) = true := by assumption
            simpa using this
          go_roundw
          case rel => exact ⟨k - 1, by go_num, by omega, by omega, fun t h1 h2 => by
            rcases Nat.lt_or_ge k t with h3 | h3
            · exact HD.out t h3 h2
            · rw [show t = k by omega]; exact hl, n + nq, by rw [HW.out, World.drewN_drewN]⟩
          case measure => simp [sInt]; omega
        · have hl : ltU (G k) (G a) = true := by
            have : (!ltU (G k) (G a)) = false := by assumption
            simpa using this
          go_meet
          exact ⟨k, rfl, hkj, hik, HD.out, fun _ => hl, n + nq, by rw [HW.out, World.drewN_drewN]⟩
      · have hleI : ¬ (i' : Int) ≤ (k : Int) := by omega
        go_wp2_with fail
        go_quiet (first | (go_at_call 96; refine Calls.quiet_of_same (less_any _ _ _)))
        go_wp2_with fail
        go_meet
        exact ⟨k, rfl, hkj, hik, HD.out, fun h => absurd h hle, n + nq, by rw [HW.out, World.drewN_drewN]⟩
  case rest =>
  obtain ⟨j', rfl, hjj, hij2, hd, hd2, n2, hw2⟩ := hcut
  have HD := Lib.hid hd
  have HD2 := Lib.hid hd2
  have HA2 := Lib.hid (at_drewN HA.out n2)
  have hcw2 : ∀ t, t < len → wc.cell? ⟨blk, off + t, none⟩ = some (.int .u64 (G t : Int)) := fun t ht => by rw [hw2]; exact hcw t ht
  have hfw2 : ∀ t, t < len → wc.frozen? ⟨blk, off + t, none⟩ = false := fun t ht => by rw [hw2]; exact hfw t ht
  rw [← hw2] at HA2
  clear hd hd2 hw2 hcw hfw HW1
  have HGp := Lib.hid (show G a = p by rw [HG.out]; exact HS.out.1)
  by_cases hle : i' ≤ j'
  · have hleI : ¬ (j' : Int) < (i' : Int) := by omega
    have h1 := HU2.out (by omega)
    have h2 := HD2.out hle
    have hne : i' ≠ j' := fun e => by rw [e] at h1; rw [h1] at h2; cases h2
    have H1 := Lib.hid h1
    have H2 := Lib.hid h2
    have hlt : i' < j' := by omega
    have hne2 : ¬ i' = j' := hne
    clear h1 h2 hne hle
    go_upto_region 10 with fail
    go_cut [] (fun wx => At eU w blk off (swp dk i' j') wx)
    case first =>
      go_region
      all_goals go_wp2_with fail
      all_goals go_meet
      all_goals first
        | exact at_swap1 HA2.out HB.out (by rw [HK.out]; omega) (by rw [HK.out]; omega) (HG.out _) (HG.out _)
        | exact at_swap2 HA2.out HB.out (by rw [HK.out]; omega) (by rw [HK.out]; omega) (HG.out _) (HG.out _)
    case rest =>
    have HA3 := Lib.hid hcut
    have HR := Lib.hid (show PPt a (i' + 1) (j' - 1) b p (swp dk i' j') by
      have hs := HS.out
      have e1 := HGp.out
      refine ppt_swap hs (by omega) hii hjj hlt (by omega) (by rw [HK.out]; omega) (fun t h1 h2 => ?_) (fun t h1 h2 => ?_) ?_ ?_
      · rw [← HG.out, ← e1]; exact HU.out t h1 h2
      · rw [← HG.out, ← e1]; exact HD.out t h1 h2
      · rw [← HG.out, ← e1]; exact H1.out
      · rw [← HG.out, ← e1]; exact H2.out)
    have HP3 := Lib.hid (permIn_trans _ _ _ _ _ HP.out (swp_permIn dk a b i' j' (by omega) (by omega) (by omega) (by omega) (by rw [HK.out]; omega)))
    have HK3 := Lib.hid (show (swp dk i' j').size = len by rw [size_swp]; exact HK.out)
    clear hcut hcw2 hfw2
    go_wp2_with fail
    go_loopw [10, 11] (fun s10 s11 wr => ∃ (i j : Nat) (dk : Array Nat), s10 = .int .i64 i ∧ s11 = .int .i64 j ∧ a < i ∧ i ≤ j + 1 ∧ j < b ∧ dk.size = len ∧ PermIn a b d dk ∧ PPt a i j b p dk ∧ At eU w blk off dk wr) (fun s10 s11 _ => (sInt s11 + 1 - sInt s10).toNat)
    case atStart => exact ⟨i' + 1, j' - 1, swp dk i' j', by go_num, by go_num, by omega, by omega, by omega, HK3.out, HP3.out, HR.out, HA3.out⟩
    case round =>
      clear HU HU2 HD HD2 HA2 HGp H1 H2 HG HP HS HA HK HA3 HR HP3 HK3 hai hij hjb hii hij' hjj hij2 hlt hne2 hleI
      obtain ⟨i, j, dk, rfl, rfl, hai, hij, hjb, hsk, hP, hS, hA⟩ := hrel
      obtain ⟨G, hG, hcw, hfw⟩ := row_fam hA H0.out HB.out (hsk.trans HL.out.symm)
      rw [HL.out] at hcw hfw
      have HG := Lib.hid hG
      have HP := Lib.hid hP
      have HS := Lib.hid hS
      have HA := Lib.hid hA
      have HK := Lib.hid hsk
      clear hG hP hS hA hsk
      obtain ⟨W1, hW1⟩ : ∃ x : World, x = wr := ⟨_, rfl⟩
      rw [← hW1] at hcw hfw HA ⊢
      clear hW1
      go_upto_block 6 with fail
      go_cut [10] (fun s10 wx => ∃ i' : Nat, s10 = .int .i64 i' ∧ i ≤ i' ∧ i' ≤ j + 1 ∧ (∀ t, i ≤ t → t < i' → ltU (G t) (G a) = true) ∧ (i' ≤ j → ltU (G i') (G a) = false) ∧ ∃ n, wx = W1.drewN n)
      case first =>
        go_wp2_with fail
        go_loopw [10] (fun s10 wr => ∃ i' : Nat, s10 = .int .i64 i' ∧ i ≤ i' ∧ i' ≤ j + 1 ∧ (∀ t, i ≤ t → t < i' → ltU (G t) (G a) = true) ∧ ∃ n, wr = W1.drewN n) (fun s10 _ => j + 1 - (sInt s10).toNat)
        case atStart => exact ⟨i, rfl, Nat.le_refl _, hij, fun t h1 h2 => by omega, 0, rfl⟩
        case round =>
          obtain ⟨k, rfl, hik, hkj, hu, n, hw⟩ := hrel
          have hcw2 : ∀ t, t < len → wr.cell? ⟨blk, off + t, none⟩ = some (.int .u64 (G t : Int)) := fun t ht => by rw [hw]; exact hcw t ht
          have HU := Lib.hid hu
          have HW := Lib.hid hw
          clear hu hw hcw hfw
          by_cases hle : k ≤ j
          · have hleI : (k : Int) ≤ (j : Int) := by omega
            go_wp2_with fail
            go_quiet (first | (go_at_call 96; refine Calls.quiet_of_same (less_any _ _ _)))
            go_wp2_with fail
            · have hl : ltU (G k) (G a) = true := by assumption
              go_roundw
              case rel => exact ⟨k + 1, by go_num, by omega, by omega, fun t h1 h2 => by
                rcases Nat.lt_or_ge t k with h3 | h3
                · exact HU.out t h1 h3
                · rw [show t = k by omega]; exact hl, n + nq, by rw [HW.out, World.drewN_drewN]⟩
              case measure => simp [sInt]; omega
            · have hl : ltU (G k) (G a) = false := by assumption
              go_meet
              exact ⟨k, rfl, hik, hkj, HU.out, fun _ => hl, n + nq, by rw [HW.out, World.drewN_drewN]⟩
          · have hleI : ¬ (k : Int) ≤ (j : Int) := by omega
            go_wp2_with fail
            go_quiet (first | (go_at_call 96; refine Calls.quiet_of_same (less_any _ _ _)))
            go_wp2_with fail
            go_meet
            exact ⟨k, rfl, hik, hkj, HU.out, fun h => absurd h hle, n + nq, by rw [HW.out, World.drewN_drewN]⟩
      case rest =>
      obtain ⟨i', rfl, hii, hij', hu, hu2, n1, hw1⟩ := hcut
      have HU := Lib.hid hu
      have HU2 := Lib.hid hu2
      have HW1 := Lib.hid hw1
      clear hu hu2 hw1
      go_upto_block 8 with fail
      go_cut [11] (fun s11 wx => ∃ j' : Nat, s11 = .int .i64 j' ∧ j' ≤ j ∧ i' ≤ j' + 1 ∧ (∀ t, j' < t → t ≤ j → ltU (G t) (G a) = false) ∧ (i' ≤ j' → ltU (G j') (G a) = true) ∧ ∃ n, wx = W1.drewN n)
      case first =>
        go_wp2_with fail
        go_loopw [11] (fun s11 wr => ∃ j' : Nat, s11 = .int .i64 j' ∧ j' ≤ j ∧ i' ≤ j' + 1 ∧ (∀ t, j' < t → t ≤ j → ltU (G t) (G a) = false) ∧ ∃ n, wr = W1.drewN n) (fun s11 _ => (sInt s11).toNat)
        case atStart => exact ⟨j, rfl, Nat.le_refl _, hij', fun t h1 h2 => by omega, n1, HW1.out⟩
        case round =>
          obtain ⟨k, rfl, hkj, hik, hd, n, hw⟩ := hrel
          have hcw2 : ∀ t, t < len → wr.cell? ⟨blk, off + t, none⟩ = some (.int .u64 (G t : Int)) := fun t ht => by rw [hw]; exact hcw t ht
          have HD := Lib.hid hd
          have HW := Lib.hid hw
          clear hd hw hcw hfw
          by_cases hle : i' ≤ k
          · have hleI : (i' : Int) ≤ (k : Int) := by omega
            go_wp2_with fail
            go_quiet (first | (go_at_call 96; refine Calls.quiet_of_same (less_any _ _ _)))
            go_wp2_with fail
            · have hl : ltU (G k) (G a) = false := by
                have : (!ltU (G k) (G a)) = true := by assumption
                simpa using this
              go_roundw
              case rel => exact ⟨k - 1, by go_num, by omega, by omega, fun t h1 h2 => by
                rcases Nat.lt_or_ge k t with h3 | h3
                · exact HD.out t h3 h2
                · rw [show t = k by omega]; exact hl, n + nq, by rw [HW.out, World.drewN_drewN]⟩
              case measure => simp [sInt]; omega
            · have hl : ltU (G k) (G a) = true := by
                have : (!ltU (G k) (G a)) = false := by assumption
                simpa using this
              go_meet
              exact ⟨k, rfl, hkj, hik, HD.out, fun _ => hl, n + nq, by rw [HW.out, World.drewN_drewN]⟩
          · have hleI : ¬ (i' : Int) ≤ (k : Int) := by omega
            go_wp2_with fail
            go_quiet (first | (go_at_call 96; refine Calls.quiet_of_same (less_any _ _ _)))
            go_wp2_with fail
            go_meet
            exact ⟨k, rfl, hkj, hik, HD.out, fun h => absurd h hle, n + nq, by rw [HW.out, World.drewN_drewN]⟩
      case rest =>
      obtain ⟨j', rfl, hjj, hij2, hd, hd2, n2, hw2⟩ := hcut
      have HD := Lib.hid hd
      have HD2 := Lib.hid hd2
      have HA2 := Lib.hid (at_drewN HA.out n2)
      have hcw2 : ∀ t, t < len → wc.cell? ⟨blk, off + t, none⟩ = some (.int .u64 (G t : Int)) := fun t ht => by rw [hw2]; exact hcw t ht
      have hfw2 : ∀ t, t < len → wc.frozen? ⟨blk, off + t, none⟩ = false := fun t ht => by rw [hw2]; exact hfw t ht
      rw [← hw2] at HA2
      clear hd hd2 hw2 hcw hfw HW1
      have HGp := Lib.hid (show G a = p by rw [HG.out]; exact HS.out.1)
      by_cases hle : i' ≤ j'
      · have hleI : ¬ (j' : Int) < (i' : Int) := by omega
        have h1 := HU2.out (by omega)
        have h2 := HD2.out hle
        have hne : i' ≠ j' := fun e => by rw [e] at h1; rw [h1] at h2; cases h2
        have H1 := Lib.hid h1
        have H2 := Lib.hid h2
        have hlt : i' < j' := by omega
        have hne2 : ¬ i' = j' := hne
        clear h1 h2 hne hle
        go_wp2_with fail
        go_region
        all_goals go_wp2
        go_roundw
        case rel =>
          have hs := HS.out
          refine ⟨i' + 1, j' - 1, swp dk i' j', by go_num, by go_num, by omega, by omega, by omega, by rw [size_swp]; exact HK.out, permIn_trans _ _ _ _ _ HP.out (swp_permIn _ _ _ _ _ (by omega) (by omega) (by omega) (by omega) (by rw [HK.out]; omega)), ?_, ?_⟩
          · have e1 := HGp.out
            refine ppt_swap hs (by omega) hii hjj hlt (by omega) (by rw [HK.out]; omega) (fun t h1 h2 => ?_) (fun t h1 h2 => ?_) ?_ ?_
            · rw [← HG.out, ← e1]; exact HU.out t h1 h2
            · rw [← HG.out, ← e1]; exact HD.out t h1 h2
            · rw [← HG.out, ← e1]; exact H1.out
            · rw [← HG.out, ← e1]; exact H2.out
          · first
              | exact at_swap1 HA2.out HB.out (by rw [HK.out]; omega) (by rw [HK.out]; omega) (HG.out _) (HG.out _)
              | exact at_swap2 HA2.out HB.out (by rw [HK.out]; omega) (by rw [HK.out]; omega) (HG.out _) (HG.out _)
        case measure => simp [sInt]; omega
      · have hleI : (j' : Int) < (i' : Int) := by omega
        by_cases hja : a = j'
        · subst hja
          go_wp2_with fail
          go_region
          all_goals go_wp2_with fail
          all_goals go_ret2
          · have hs := HS.out
            have e1 := HGp.out
            obtain ⟨f1, f2⟩ := ppt_end (j := a) hs.1 (fun t h1 h2 => by
                rcases Nat.lt_or_ge t i with h3 | h3
                · exact hs.2.1 t h1 h3
                · rw [← HG.out, ← e1]; exact HU.out t h3 (by omega)) (fun t h1 h2 => by
                rcases Nat.lt_or_ge j t with h3 | h3
                · exact hs.2.2 t h3 h2
                · rw [← HG.out, ← e1]; exact HD.out t h1 (by omega)) (by omega) (by omega) (by rw [HK.out]; omega)
            refine ⟨a, swp dk a a, _, rfl, by omega, by omega, permIn_trans _ _ _ _ _ HP.out (swp_permIn _ _ _ _ _ (by omega) (by omega) (by omega) (by omega) (by rw [HK.out]; omega)), f1, f2, ?_⟩
            first
              | exact at_swap1 HA2.out HB.out (by rw [HK.out]; omega) (by rw [HK.out]; omega) (HG.out _) (HG.out _)
              | exact at_swap2 HA2.out HB.out (by rw [HK.out]; omega) (by rw [HK.out]; omega) (HG.out _) (HG.out _)
        · go_wp2_with fail
          go_region
          all_goals go_wp2_with fail
          all_goals go_ret2
          · have hs := HS.out
            have e1 := HGp.out
            obtain ⟨f1, f2⟩ := ppt_end (j := j') hs.1 (fun t h1 h2 => by
                rcases Nat.lt_or_ge t i with h3 | h3
                · exact hs.2.1 t h1 h3
                · rw [← HG.out, ← e1]; exact HU.out t h3 (by omega)) (fun t h1 h2 => by
                rcases Nat.lt_or_ge j t with h3 | h3
                · exact hs.2.2 t h3 h2
                · rw [← HG.out, ← e1]; exact HD.out t h1 (by omega)) (by omega) (by omega) (by rw [HK.out]; omega)
            refine ⟨j', swp dk j' a, _, rfl, by omega, by omega, permIn_trans _ _ _ _ _ HP.out (swp_permIn _ _ _ _ _ (by omega) (by omega) (by omega) (by omega) (by rw [HK.out]; omega)), f1, f2, ?_⟩
            first
              | exact at_swap1 HA2.out HB.out (by rw [HK.out]; omega) (by rw [HK.out]; omega) (HG.out _) (HG.out _)
              | exact at_swap2 HA2.out HB.out (by rw [HK.out]; omega) (by rw [HK.out]; omega) (HG.out _) (HG.out _)
  · have hleI : (j' : Int) < (i' : Int) := by omega
    by_cases hja : a = j'
    · subst hja
      go_wp2_with fail
      go_region
      all_goals go_wp2_with fail
      all_goals go_ret2
      · have hs := HS.out
        have e1 := HGp.out
        obtain ⟨f1, f2⟩ := ppt_end (j := a) hs.1 (fun t h1 h2 => by
            rcases Nat.lt_or_ge t i with h3 | h3
            · exact hs.2.1 t h1 h3
            · rw [← HG.out, ← e1]; exact HU.out t h3 (by omega)) (fun t h1 h2 => by
            rcases Nat.lt_or_ge j t with h3 | h3
            · exact hs.2.2 t h3 h2
            · rw [← HG.out, ← e1]; exact HD.out t h1 (by omega)) (by omega) (by omega) (by rw [HK.out]; omega)
        refine ⟨a, swp dk a a, _, rfl, by omega, by omega, permIn_trans _ _ _ _ _ HP.out (swp_permIn _ _ _ _ _ (by omega) (by omega) (by omega) (by omega) (by rw [HK.out]; omega)), f1, f2, ?_⟩
        first
          | exact at_swap1 HA2.out HB.out (by rw [HK.out]; omega) (by rw [HK.out]; omega) (HG.out _) (HG.out _)
          | exact at_swap2 HA2.out HB.out (by rw [HK.out]; omega) (by rw [HK.out]; omega) (HG.out _) (HG.out _)
    · go_wp2_with fail
      go_region
      all_goals go_wp2_with fail
      all_goals go_ret2
      · have hs := HS.out
        have e1 := HGp.out
        obtain ⟨f1, f2⟩ := ppt_end (j := j') hs.1 (fun t h1 h2 => by
            rcases Nat.lt_or_ge t i with h3 | h3
            · exact hs.2.1 t h1 h3
            · rw [← HG.out, ← e1]; exact HU.out t h3 (by omega)) (fun t h1 h2 => by
            rcases Nat.lt_or_ge j t with h3 | h3
            · exact hs.2.2 t h3 h2
            · rw [← HG.out, ← e1]; exact HD.out t h1 (by omega)) (by omega) (by omega) (by rw [HK.out]; omega)
        refine ⟨j', swp dk j' a, _, rfl, by omega, by omega, permIn_trans _ _ _ _ _ HP.out (swp_permIn _ _ _ _ _ (by omega) (by omega) (by omega) (by omega) (by rw [HK.out]; omega)), f1, f2, ?_⟩
        first
          | exact at_swap1 HA2.out HB.out (by rw [HK.out]; omega) (by rw [HK.out]; omega) (HG.out _) (HG.out _)
          | exact at_swap2 HA2.out HB.out (by rw [HK.out]; omega) (by rw [HK.out]; omega) (HG.out _) (HG.out _)
end Go.Proofs.Ytogkeoainejfcaa
namespace Go.Proofs.Ytogkeoainejfcaa
open Go.RowKit
open Go.Sort (PermIn SortedIn SWO swp Holds putRow grow At mapBlock setCell_eq mapBlock_grow_new onCells cell?_grow frozen?_grow heap_grow_old)
set_option linter.unusedSimpArgs false
set_option linter.unusedVariables false
set_option maxRecDepth 100000
/-- The world with a count in a block of its own. -/
def Piv (w : World) (z : Nat) (wr : World) : Prop := ∃ n, wr = grow (Sort.ahead w n) #[Obj.cells #[.int .i64 (z : Int)] 3]
section
variable {w wr : World} {z blk off : Nat} {d : Array Nat}
theorem Piv.cell (h : Piv w z wr) : wr.cell? ⟨w.heap.size, 0, none⟩ = some (.int .i64 (z : Int)) := by
  obtain ⟨n, rfl⟩ := h
  simp [grow, World.cell?]
theorem Piv.frozen (h : Piv w z wr) : wr.frozen? ⟨w.heap.size, 0, none⟩ = false := by
  obtain ⟨n, rfl⟩ := h
  simp [grow, World.frozen?]
theorem Piv.row (h : Piv w z wr) (h0 : Holds eU w blk off d) (hb : blk < w.heap.size) : ∃ G : Nat → Nat, (∀ t, t < d.size → wr.cell? ⟨blk, off + t, none⟩ = some (.int .u64 (G t : Int))) := by
  obtain ⟨n, rfl⟩ := h
  exact ⟨fun t => d[t]!, fun t ht => by rw [cell?_grow _ _ _ (by simpa using hb)]; exact (h0 t ht).1⟩
theorem Piv.drewN (h : Piv w z wr) (m : Nat) : Piv w z (wr.drewN m) := by
  obtain ⟨n, rfl⟩ := h
  exact ⟨n + m, by rw [← Sort.ahead_ahead]; rfl⟩
theorem Piv.set (h : Piv w z wr) : Piv w (z + 1) (wr.setCell ⟨w.heap.size, 0, none⟩ (.int .i64 ((z : Int) + 1))) := by
  obtain ⟨n, rfl⟩ := h
  refine ⟨n, ?_⟩
  have e : w.heap.size = (Sort.ahead w n).heap.size := rfl
  rw [setCell_eq, e, mapBlock_grow_new _ _ _ _ (Nat.le_refl _)]
  simp [onCells]
end
set_option maxHeartbeats 1600000 in
theorem order2_any (w wr : World) (blk off len cap a b z : Nat) (d : Array Nat) (hlen : d.size = len) (h0 : Holds eU w blk off d) (hb : blk < w.heap.size) (ha : a < len) (hbl : b < len) (hz : z < 1000) (hsz : len < 4611686018427387904) (hp : Piv w z wr) :
    Calls Try.prog 110 #[.slice (some ⟨blk, off, none⟩) len cap, .int .i64 a, .int .i64 b, .pointer (some ⟨w.heap.size, 0, none⟩)] wr fun e w' => ∃ x y z' : Nat, e = .returned (.tuple #[.int .i64 x, .int .i64 y]) ∧ ((x = a ∧ y = b) ∨ (x = b ∧ y = a)) ∧ z' ≤ z + 1 ∧ Piv w z' w' := by
  obtain ⟨G, hcw⟩ := hp.row h0 hb
  rw [hlen] at hcw
  have HP := Lib.hid hp
  clear hp h0 hb hlen
  go_enter Try.func110, Try.ntmps110
  go_wp2_with fail
  go_quiet (first | (go_at_call 96; refine Calls.quiet_of_same (less_any _ _ _)))
  have HP2 := Lib.hid (HP.out.drewN nq)
  obtain ⟨w2, hw2⟩ : ∃ x, x = wr.drewN nq := ⟨_, rfl⟩
  rw [← hw2] at HP2 ⊢
  clear hw2 hcw
  have hc := HP2.out.cell
  have hf := HP2.out.frozen
  go_wp2_with fail
  · go_ret2
    exact ⟨b, a, z + 1, rfl, Or.inr ⟨rfl, rfl⟩, Nat.le_refl _, HP2.out.set⟩
  · go_ret2
    exact ⟨a, b, z, rfl, Or.inl ⟨rfl, rfl⟩, by omega, HP2.out⟩
set_option maxHeartbeats 1600000 in
theorem median_any (w wr : World) (blk off len cap a b c z : Nat) (d : Array Nat) (hlen : d.size = len) (h0 : Holds eU w blk off d) (hb : blk < w.heap.size) (ha : a < len) (hbl : b < len) (hcl : c < len) (hz : z < 900) (hsz : len < 4611686018427387904) (hp : Piv w z wr) :
    Calls Try.prog 108 #[.slice (some ⟨blk, off, none⟩) len cap, .int .i64 a, .int .i64 b, .int .i64 c, .pointer (some ⟨w.heap.size, 0, none⟩)] wr fun e w' => ∃ x z' : Nat, e = .returned (.int .i64 x) ∧ (x = a ∨ x = b ∨ x = c) ∧ z' ≤ z + 3 ∧ Piv w z' w' := by
  have HO := fun (x : World) (a b z : Nat) (ha : a < len) (hb2 : b < len) (hz : z < 1000) (hp : Piv w z x) => Lib.hid (order2_any w x blk off len cap a b z d hlen h0 hb ha hb2 hz hsz hp)
  have HP := Lib.hid hp
  clear hp h0 hb hlen
  go_enter Try.func108, Try.ntmps108
  go_wp2_with fail
  refine (HO _ a b z ha hbl (by omega) HP.out).out.mono ?_
  rintro e w1 ⟨x1, y1, z1, rfl, hxy1, hz1, hp1⟩
  have HP1 := Lib.hid hp1
  clear hp1
  have hx1 : x1 < len := by omega
  have hy1 : y1 < len := by omega
  go_wp2_with fail
  refine (HO _ y1 c z1 hy1 hcl (by omega) HP1.out).out.mono ?_
  rintro e w2 ⟨x2, y2, z2, rfl, hxy2, hz2, hp2⟩
  have HP2 := Lib.hid hp2
  clear hp2
  have hx2 : x2 < len := by omega
  go_wp2_with fail
  refine (HO _ x1 x2 z2 hx1 hx2 (by omega) HP2.out).out.mono ?_
  rintro e w3 ⟨x3, y3, z3, rfl, hxy3, hz3, hp3⟩
  have HP3 := Lib.hid hp3
  clear hp3
  go_wp2_with fail
  go_ret
  exact ⟨y3, z3, rfl, by omega, by omega, HP3.out⟩
set_option maxHeartbeats 1600000 in
theorem adjacent_any (w wr : World) (blk off len cap a z : Nat) (d : Array Nat) (hlen : d.size = len) (h0 : Holds eU w blk off d) (hb : blk < w.heap.size) (ha1 : 1 ≤ a) (ha : a + 1 < len) (hz : z < 900) (hsz : len < 4611686018427387904) (hp : Piv w z wr) :
    Calls Try.prog 107 #[.slice (some ⟨blk, off, none⟩) len cap, .int .i64 a, .pointer (some ⟨w.heap.size, 0, none⟩)] wr fun e w' => ∃ x z' : Nat, e = .returned (.int .i64 x) ∧ a ≤ x + 1 ∧ x ≤ a + 1 ∧ z' ≤ z + 3 ∧ Piv w z' w' := by
  have hc := median_any w wr blk off len cap (a - 1) a (a + 1) z d hlen h0 hb (by omega) (by omega) (by omega) hz hsz hp
  rw [show ((a - 1 : Nat) : Int) = (a : Int) - 1 by omega, show ((a + 1 : Nat) : Int) = (a : Int) + 1 by omega] at hc
  have HC := Lib.hid hc
  clear hc hp h0 hb hlen
  go_enter Try.func107, Try.ntmps107
  go_wp2_with (go_at_call 108; refine HC.out.mono ?_; rintro e w1 ⟨x, z1, rfl, hx, hz1, hp1⟩; have HP1 := Lib.hid hp1; clear hp1)
  go_ret
  exact ⟨x, z1, rfl, by omega, by omega, hz1, HP1.out⟩
end Go.Proofs.Ytogkeoainejfcaa
namespace Go.Proofs.Ytogkeoainejfcaa
open Go.RowKit
open Go.Sort (PermIn SortedIn SWO swp Holds putRow grow At)
set_option linter.unusedSimpArgs false
set_option linter.unusedVariables false
set_option maxRecDepth 100000
set_option maxHeartbeats 3200000 in
theorem choose_any (w : World) (blk off len cap a b : Nat) (d : Array Nat) (hlen : d.size = len) (h0 : Holds eU w blk off d) (hb : blk < w.heap.size) (hab : a < b) (hbd : b ≤ len) (hsz : len < 4611686018427387904) :
    Calls Try.prog 93 #[.slice (some ⟨blk, off, none⟩) len cap, .int .i64 a, .int .i64 b] w fun e w' => ∃ x h : Nat, e = .returned (.tuple #[.int .i64 x, .int .i64 h]) ∧ a ≤ x ∧ x < b ∧ h ≤ 2 ∧ ∃ n os, w' = grow (Sort.ahead w n) os := by
  obtain ⟨L, rfl⟩ : ∃ L, b = a + L := ⟨b - a, by omega⟩
  have HM := fun (x : World) (i j k z : Nat) (hi : i < len) (hj : j < len) (hk : k < len) (hz : z < 900) (hp : Piv w z x) => Lib.hid (median_any w x blk off len cap i j k z d hlen h0 hb hi hj hk hz hsz hp)
  have HJ := fun (x : World) (i z : Nat) (hi : 1 ≤ i) (hj : i + 1 < len) (hz : z < 900) (hp : Piv w z x) => Lib.hid (adjacent_any w x blk off len cap i z d hlen h0 hb hi hj hz hsz hp)
  have HP0 := Lib.hid (show Piv w 0 (w.alloc (.cells #[.int .i64 0] 3)) from ⟨0, by rw [Sort.alloc_eq_grow]; rfl⟩)
  clear h0 hb hlen
  go_enter Try.func93, Try.ntmps93
  go_upto_region 1 with fail
  go_cut [8] (fun v wx => v = .int .i64 (L : Int) ∧ wx = w)
  case first =>
    go_wp2_with fail
    go_meet
    exact ⟨by congr 1; omega, rfl⟩
  case rest =>
  obtain ⟨rfl, hwc⟩ := hcut
  rw [hwc]
  clear hwc
  obtain ⟨q, hq⟩ : ∃ q, q = L / 4 := ⟨_, rfl⟩
  have hq1 : (L : Int).tdiv 4 = (q : Int) := by rw [Int.tdiv_eq_ediv_of_nonneg (by omega)]; omega
  have hq2 : (L : Int) / 4 = (q : Int) := by omega
  have hqL : 4 * q ≤ L := by omega
  have hL4 : L < 4 * q + 4 := by omega
  clear hq
  go_upto_if 32 with fail
  go_cut [11] (fun v11 wx => ∃ p z : Nat, v11 = .int .i64 (p : Int) ∧ a ≤ p ∧ p < a + L ∧ z ≤ 12 ∧ Piv w z wx)
  case first =>
    by_cases h8 : 8 ≤ L
    · have h8I : (8 : Int) ≤ (L : Int) := by omega
      by_cases h50 : 50 ≤ L
      · have h50I : (50 : Int) ≤ (L : Int) := by omega
        have H1 := (HJ _ (a + q) 0 (by omega) (by omega) (by omega) HP0.out)
        rw [show ((a + q : Nat) : Int) = (a : Int) + (q : Int) by omega] at H1
        go_wp2_with fail
        refine H1.out.mono ?_
        rintro e w1 ⟨i, z1, rfl, hi1, hi2, hz1, hp1⟩
        have H2 := (HJ _ (a + q * 2) z1 (by omega) (by omega) (by omega) hp1)
        rw [show ((a + q * 2 : Nat) : Int) = (a : Int) + (q : Int) * 2 by omega] at H2
        clear hp1 H1
        go_wp2_with fail
        refine H2.out.mono ?_
        rintro e w2 ⟨j, z2, rfl, hj1, hj2, hz2, hp2⟩
        have H3 := (HJ _ (a + q * 3) z2 (by omega) (by omega) (by omega) hp2)
        rw [show ((a + q * 3 : Nat) : Int) = (a : Int) + (q : Int) * 3 by omega] at H3
        clear hp2 H2
        go_wp2_with fail
        refine H3.out.mono ?_
        rintro e w3 ⟨k, z3, rfl, hk1, hk2, hz3, hp3⟩
        have H4 := (HM _ i j k z3 (by omega) (by omega) (by omega) (by omega) hp3)
        clear hp3 H3
        go_wp2_with fail
        refine H4.out.mono ?_
        rintro e w4 ⟨p, z4, rfl, hp, hz4, hp4⟩
        have HP4 := Lib.hid hp4
        clear hp4 H4
        go_wp2_with fail
        go_meet
        exact ⟨p, z4, rfl, by omega, by omega, by omega, HP4.out⟩
      · have h50I : ¬ (50 : Int) ≤ (L : Int) := by omega
        have H4 := (HM _ (a + q) (a + q * 2) (a + q * 3) 0 (by omega) (by omega) (by omega) (by omega) HP0.out)
        rw [show ((a + q : Nat) : Int) = (a : Int) + (q : Int) by omega, show ((a + q * 2 : Nat) : Int) = (a : Int) + (q : Int) * 2 by omega, show ((a + q * 3 : Nat) : Int) = (a : Int) + (q : Int) * 3 by omega] at H4
        go_wp2_with fail
        refine H4.out.mono ?_
        rintro e w4 ⟨p, z4, rfl, hp, hz4, hp4⟩
        have HP4 := Lib.hid hp4
        clear hp4 H4
        go_wp2_with fail
        go_meet
        exact ⟨p, z4, rfl, by omega, by omega, by omega, HP4.out⟩
    · have h8I : ¬ (8 : Int) ≤ (L : Int) := by omega
      go_wp2_with fail
      go_meet
      exact ⟨a + q * 2, 0, by congr 1 <;> omega, by omega, by omega, by omega, HP0.out⟩
  case rest =>
  obtain ⟨p, z, rfl, hp1, hp2, hz, hP⟩ := hcut
  have hc := hP.cell
  have hfin : ∃ n os, wc = grow (Sort.ahead w n) os := by
    obtain ⟨n, h⟩ := hP
    exact ⟨n, _, h⟩
  have HF := Lib.hid hfin
  clear hfin hP HM HJ HP0
  go_wp2_with fail
  all_goals go_ret2
  · exact ⟨p, 1, rfl, hp1, hp2, by omega, HF.out⟩
  · exact ⟨p, 2, rfl, hp1, hp2, by omega, HF.out⟩
  · exact ⟨p, 0, rfl, hp1, hp2, by omega, HF.out⟩
end Go.Proofs.Ytogkeoainejfcaa
namespace Go.Proofs.Ytogkeoainejfcaa
open Go.RowKit
open Go.Sort (PermIn SortedIn SWO swp Holds putRow grow At Ins size_swp permIn_refl permIn_trans swp_permIn swp_get permIn_all)
set_option linter.unusedSimpArgs false
set_option linter.unusedVariables false
set_option maxRecDepth 100000
/-- Nothing in a part is below what stands ahead of it. -/
def FloorU (a b : Nat) (d : Array Nat) : Prop := a = 0 ∨ ∀ t, a ≤ t → t < b → ltU d[t]! d[a - 1]! = false
theorem FloorU.perm {a b : Nat} {d d' : Array Nat} (h : FloorU a b d) (hb : b ≤ d.size) (hp : PermIn a b d d') : FloorU a b d' := by
  rcases h with h | h
  · exact .inl h
  · rcases Nat.eq_zero_or_pos a with h0 | h0
    · exact .inl h0
    · refine .inr fun t h1 h2 => ?_
      rw [hp.2.1 (a - 1) (.inl (by omega))]
      exact permIn_all d d' a b (fun x => ltU x d[a - 1]! = false) hb hp h t h1 h2
theorem sorted_grow {a i : Nat} {d : Array Nat} (h : SortedIn ltU a i d) (hai : a < i) (hl : ltU d[i]! d[i - 1]! = false) : SortedIn ltU a (i + 1) d := by
  intro p q hp hpq hq
  rcases Nat.lt_or_ge q i with h1 | h1
  · exact h p q hp hpq h1
  · have : q = i := by omega
    subst this
    rcases Nat.lt_or_ge p (q - 1) with h2 | h2
    · exact swoU.ntrans _ _ _ hl (h p (q - 1) hp h2 (by omega))
    · rw [show p = q - 1 by omega]; exact hl
/-- What two neighbours that change places leave sorted ahead of them. -/
theorem sorted_swap {a i : Nat} {d : Array Nat} (h : SortedIn ltU a i d) (hai : a < i) (hs : i < d.size) (hl : ltU d[i]! d[i - 1]! = true) : Ins ltU a (i - 1) (i - 1) (swp d i (i - 1)) := by
  have g := swp_get d (i := i) (j := i - 1) hs (by omega)
  refine ⟨fun p q h1 h2 h3 h4 h5 => ?_, fun q h1 h2 => by omega⟩
  rw [g, g, if_neg h5, if_neg (by omega), if_neg h4, if_neg (by omega)]
  exact h p q h1 h2 (by omega)
theorem sorted_same {a i : Nat} {d d' : Array Nat} (h : SortedIn ltU a i d) (he : ∀ t, t < i → d'[t]! = d[t]!) : SortedIn ltU a i d' := fun p q h1 h2 h3 => by
  rw [he q h3, he p (by omega)]; exact h p q h1 h2 h3
end Go.Proofs.Ytogkeoainejfcaa
namespace Go.Proofs.Ytogkeoainejfcaa
open Go.RowKit
open Go.Sort (PermIn SortedIn SWO swp Holds putRow grow At Ins size_swp permIn_refl permIn_trans swp_permIn swp_get permIn_all swp_other)
set_option linter.unusedSimpArgs false
set_option linter.unusedVariables false
set_option maxRecDepth 100000
/-- What is told of it. -/
def PartR (w : World) (blk off a b : Nat) (d : Array Nat) (e : Ending) (w' : World) : Prop := ∃ (r : Bool) (d' : Array Nat), e = .returned (.bool r) ∧ PermIn a b d d' ∧ (r = true → SortedIn ltU a b d') ∧ At eU w blk off d' w'
set_option maxHeartbeats 6400000 in
theorem partial_any (w : World) (blk off len cap a b : Nat) (d : Array Nat) (hlen : d.size = len) (h0 : Holds eU w blk off d) (hb : blk < w.heap.size) (hab : a < b) (hbd : b ≤ len) (hsz : len < 4611686018427387904) (hfl : FloorU a b d) :
    Calls Try.prog 95 #[.slice (some ⟨blk, off, none⟩) len cap, .int .i64 a, .int .i64 b] w (PartR w blk off a b d) := by
  have H0 := Lib.hid h0
  have HL := Lib.hid hlen
  have HB := Lib.hid hb
  have HF := Lib.hid hfl
  have HAR := Lib.hid (At.refl h0)
  clear h0 hlen hb hfl
  go_enter Try.func95, Try.ntmps95
  go_wp2_with fail
  go_loopw [7, 8] (fun s7 s8 wr => ∃ (i s : Nat) (dk : Array Nat), s7 = .int .i64 i ∧ s8 = .int .i64 s ∧ a < i ∧ i ≤ b ∧ s ≤ 5 ∧ dk.size = len ∧ PermIn a b d dk ∧ SortedIn ltU a i dk ∧ At eU w blk off dk wr) (fun s7 s8 _ => 5 - (sInt s8).toNat)
  case atStart => exact ⟨a + 1, 0, d, by go_num, rfl, by omega, by omega, by omega, HL.out, permIn_refl _ _ _, sorted_one, HAR.out⟩
  case round =>
    obtain ⟨i, s, dk, rfl, rfl, hai, hib, hs5, hsk, hP, hS, hA⟩ := hrel
    obtain ⟨G, hG, hcw, hfw⟩ := row_fam hA H0.out HB.out (hsk.trans HL.out.symm)
    rw [HL.out] at hcw hfw
    have HG := Lib.hid hG
    have HP := Lib.hid hP
    have HS := Lib.hid hS
    have HA := Lib.hid hA
    have HK := Lib.hid hsk
    clear hG hP hS hA hsk
    obtain ⟨W1, hW1⟩ : ∃ x : World, x = wr := ⟨_, rfl⟩
    rw [← hW1] at hcw hfw HA ⊢
    clear hW1
    by_cases hs : s < 5
    · have hsI : (s : Int) < 5 := by omega
      go_upto_block 2 with fail
      go_cut [7] (fun s7 wx => ∃ i' : Nat, s7 = .int .i64 i' ∧ i ≤ i' ∧ i' ≤ b ∧ SortedIn ltU a i' dk ∧ (i' < b → ltU (G i') (G (i' - 1)) = true) ∧ ∃ n, wx = W1.drewN n)
      case first =>
        go_wp2_with fail
        go_loopw [7] (fun s7 wr => ∃ i' : Nat, s7 = .int .i64 i' ∧ i ≤ i' ∧ i' ≤ b ∧ SortedIn ltU a i' dk ∧ ∃ n, wr = W1.drewN n) (fun s7 _ => b - (sInt s7).toNat)
        case atStart => exact ⟨i, rfl, Nat.le_refl _, hib, HS.out, 0, rfl⟩
        case round =>
          obtain ⟨k, rfl, hik, hkb, hsk2, n, hw⟩ := hrel
          have hcw2 : ∀ t, t < len → wr.cell? ⟨blk, off + t, none⟩ = some (.int .u64 (G t : Int)) := fun t ht => by rw [hw]; exact hcw t ht
          have HW := Lib.hid hw
          have HS2 := Lib.hid hsk2
          clear hw hcw hfw hsk2
          by_cases hle : k < b
          · have hleI : (k : Int) < (b : Int) := by omega
            go_wp2_with fail
            go_quiet (first | (go_at_call 96; refine Calls.quiet_of_same (less_any _ _ _)))
            go_wp2_with fail
            · have hl : ltU (G k) (G (k - 1)) = false := by
                have : (!ltU (G k) (G (k - 1))) = true := by assumption
                simpa using this
              go_roundw
              case rel => exact ⟨k + 1, by go_num, by omega, by omega, sorted_grow HS2.out (by omega) (by rw [← HG.out, ← HG.out]; exact hl), n + nq, by rw [HW.out, World.drewN_drewN]⟩
              case measure => simp [sInt]; omega
            · have hl : ltU (G k) (G (k - 1)) = true := by
                have : (!ltU (G k) (G (k - 1))) = false := by assumption
                simpa using this
              go_meet
              exact ⟨k, rfl, hik, hkb, HS2.out, fun _ => hl, n + nq, by rw [HW.out, World.drewN_drewN]⟩
          · have hleI : ¬ (k : Int) < (b : Int) := by omega
            go_wp2_with fail
            go_quiet (first | (go_at_call 96; refine Calls.quiet_of_same (less_any _ _ _)))
            go_wp2_with fail
            go_meet
            exact ⟨k, rfl, hik, hkb, HS2.out, fun h => absurd h hle, n + nq, by rw [HW.out, World.drewN_drewN]⟩
      case rest =>
      obtain ⟨i', rfl, hii, hib', hS2, hl2, n1, hw1⟩ := hcut
      have HS2 := Lib.hid hS2
      have HL2 := Lib.hid hl2
      have HA2 := Lib.hid (at_drewN HA.out n1)
      have hcw2 : ∀ t, t < len → wc.cell? ⟨blk, off + t, none⟩ = some (.int .u64 (G t : Int)) := fun t ht => by rw [hw1]; exact hcw t ht
      have hfw2 : ∀ t, t < len → wc.frozen? ⟨blk, off + t, none⟩ = false := fun t ht => by rw [hw1]; exact hfw t ht
      rw [← hw1] at HA2
      clear hS2 hl2 hw1 hcw hfw
      obtain ⟨W2, hW2⟩ : ∃ x : World, x = wc := ⟨_, rfl⟩
      rw [← hW2] at hcw2 hfw2 HA2 ⊢
      clear hW2
      by_cases hend : i' = b
      · subst hend
        go_wp2_with fail
        go_ret
        exact ⟨true, dk, rfl, HP.out, fun _ => HS2.out, HA2.out⟩
      · have hendI : ¬ ((i' : Int) = (b : Int)) := by omega
        have hend2 : ((i' : Int) == (b : Int)) = false := by rw [beq_eq_false_iff_ne]; exact hendI
        by_cases h50 : b - a < 50
        · have h50I : (b : Int) - (a : Int) < 50 := by omega
          go_wp2_with fail
          go_ret
          exact (⟨false, dk, rfl, HP.out, (fun h => Bool.noConfusion h), HA2.out⟩ : PartR w blk off a b d _ _)
        · have h50I : ¬ (b : Int) - (a : Int) < 50 := by omega
          have hltG := Lib.hid (HL2.out (by omega))
          go_upto_region 11 with fail
          go_cut [] (fun wx => At eU w blk off (swp dk i' (i' - 1)) wx)
          case first =>
            go_region
            all_goals go_wp2_with fail
            all_goals go_meet
            all_goals first
              | exact at_swap1 HA2.out HB.out (by rw [HK.out]; omega) (by rw [HK.out]; omega) (HG.out _) (HG.out _)
              | exact at_swap2 HA2.out HB.out (by rw [HK.out]; omega) (by rw [HK.out]; omega) (HG.out _) (HG.out _)
          case rest =>
          have HA3 := Lib.hid hcut
          have HI3 := Lib.hid (sorted_swap HS2.out (by omega) (by rw [HK.out]; omega) (by rw [← HG.out, ← HG.out]; exact hltG.out))
          have HP3 := Lib.hid (permIn_trans _ _ _ _ _ HP.out (swp_permIn dk a b i' (i' - 1) (by omega) (by omega) (by omega) (by omega) (by rw [HK.out]; omega)))
          have HK3 := Lib.hid (show (swp dk i' (i' - 1)).size = len by rw [size_swp]; exact HK.out)
          obtain ⟨d3, hd3⟩ : ∃ x, x = swp dk i' (i' - 1) := ⟨_, rfl⟩
          rw [← hd3] at HA3 HI3 HP3 HK3
          clear hcut hcw2 hfw2 hd3 HA2 HS2 HL2 hltG HA HG HS HP HK
          clear G
          obtain ⟨W3, hW3⟩ : ∃ x : World, x = wc := ⟨_, rfl⟩
          rw [← hW3] at HA3 ⊢
          clear hW3
          go_upto_if 61 with fail
          go_cut [] (fun wx => ∃ d4 : Array Nat, d4.size = len ∧ PermIn a b d d4 ∧ SortedIn ltU a i' d4 ∧ At eU w blk off d4 wx)
          case first =>
            by_cases h2 : 2 ≤ i' - a
            · have h2I : (2 : Int) ≤ (i' : Int) - (a : Int) := by omega
              go_wp2_with fail
              go_loopw [9] (fun s9 wr => ∃ (j : Nat) (dj : Array Nat), s9 = .int .i64 j ∧ a ≤ j ∧ j ≤ i' - 1 ∧ dj.size = len ∧ PermIn a b d dj ∧ Ins ltU a j (i' - 1) dj ∧ At eU w blk off dj wr) (fun s9 _ => (sInt s9).toNat)
              case atStart => exact ⟨i' - 1, d3, by go_num, by omega, by omega, HK3.out, HP3.out, HI3.out, HA3.out⟩
              case round =>
                obtain ⟨j, dj, rfl, haj, hji, hsj, hPj, hIj, hAj⟩ := hrel
                obtain ⟨G, hG, hcw, hfw⟩ := row_fam hAj H0.out HB.out (hsj.trans HL.out.symm)
                rw [HL.out] at hcw hfw
                have HG := Lib.hid hG
                have HPj := Lib.hid hPj
                have HIj := Lib.hid hIj
                have HAj := Lib.hid hAj
                have HKj := Lib.hid hsj
                clear hG hPj hIj hAj hsj
                by_cases hj1 : 1 ≤ j
                · have hj1I : (1 : Int) ≤ (j : Int) := by omega
                  go_wp2_with fail
                  go_quiet (first | (go_at_call 96; refine Calls.quiet_of_same (less_any _ _ _)))
                  go_wp2_with fail
                  · have hl : ltU (G j) (G (j - 1)) = false := by
                      have : (!ltU (G j) (G (j - 1))) = true := by assumption
                      simpa using this
                    go_meet
                    refine ⟨dj, HKj.out, HPj.out, ?_, at_drewN HAj.out nq⟩
                    have := HIj.out.stop swoU (Or.inr (by rw [← HG.out, ← HG.out]; exact hl))
                    rw [show i' - 1 + 1 = i' by omega] at this
                    exact this
                  · have hl : ltU (G j) (G (j - 1)) = true := by
                      have : (!ltU (G j) (G (j - 1))) = false := by assumption
                      simpa using this
                    have haj2 : a < j := by
                      rcases Nat.lt_or_ge a j with h | h
                      · exact h
                      · have e : j = a := by omega
                        subst e
                        rcases HF.out.perm (by rw [HL.out]; exact hbd) HPj.out with h | h
                        · omega
                        · have := h j (Nat.le_refl _) hab
                          rw [← HG.out, ← HG.out, hl] at this
                          cases this
                    have HLj := Lib.hid hl
                    clear hl
                    go_region
                    all_goals go_wp2
                    go_roundw
                    case rel =>
                      refine ⟨j - 1, swp dj j (j - 1), by go_num, by omega, by omega, by rw [size_swp]; exact HKj.out, permIn_trans _ _ _ _ _ HPj.out (swp_permIn _ _ _ _ _ (by omega) (by omega) (by omega) (by omega) (by rw [HKj.out]; omega)), ins_next HIj.out haj2 (by rw [← HG.out, ← HG.out]; exact HLj.out) (by rw [HKj.out]; omega), ?_⟩
                      first
                        | exact at_swap1 (at_drewN HAj.out nq) HB.out (by rw [HKj.out]; omega) (by rw [HKj.out]; omega) (HG.out _) (HG.out _)
                        | exact at_swap2 (at_drewN HAj.out nq) HB.out (by rw [HKj.out]; omega) (by rw [HKj.out]; omega) (HG.out _) (HG.out _)
                    case measure => simp [sInt]; omega
                · have hj1I : ¬ (1 : Int) ≤ (j : Int) := by omega
                  go_wp2_with fail
                  go_meet
                  refine ⟨dj, HKj.out, HPj.out, ?_, HAj.out⟩
                  have := HIj.out.stop swoU (Or.inl (by omega))
                  rw [show i' - 1 + 1 = i' by omega] at this
                  exact this
            · have h2I : ¬ (2 : Int) ≤ (i' : Int) - (a : Int) := by omega
              go_wp2_with fail
              go_meet
              refine ⟨d3, HK3.out, HP3.out, ?_, HA3.out⟩
              have := HI3.out.stop swoU (Or.inl (by omega))
              rw [show i' - 1 + 1 = i' by omega] at this
              exact this
          case rest =>
          obtain ⟨d4, hs4, hP4, hS4, hA4⟩ := hcut
          have HK4 := Lib.hid hs4
          have HP4 := Lib.hid hP4
          have HS4 := Lib.hid hS4
          have HA4 := Lib.hid hA4
          clear hs4 hP4 hS4 hA4 HA3 HI3 HP3 HK3
          clear d3
          obtain ⟨W4, hW4⟩ : ∃ x : World, x = wc := ⟨_, rfl⟩
          rw [← hW4] at HA4 ⊢
          clear hW4
          by_cases h2 : 2 ≤ b - i'
          · have h2I : (2 : Int) ≤ (b : Int) - (i' : Int) := by omega
            go_wp2_with fail
            go_loopw [10] (fun s10 wr => ∃ (j : Nat) (dj : Array Nat), s10 = .int .i64 j ∧ i' + 1 ≤ j ∧ j ≤ b ∧ dj.size = len ∧ PermIn a b d dj ∧ SortedIn ltU a i' dj ∧ At eU w blk off dj wr) (fun s10 _ => b - (sInt s10).toNat)
            case atStart => exact ⟨i' + 1, d4, by go_num, by omega, by omega, HK4.out, HP4.out, HS4.out, HA4.out⟩
            case round =>
              obtain ⟨j, dj, rfl, haj, hji, hsj, hPj, hSj, hAj⟩ := hrel
              obtain ⟨G, hG, hcw, hfw⟩ := row_fam hAj H0.out HB.out (hsj.trans HL.out.symm)
              rw [HL.out] at hcw hfw
              have HG := Lib.hid hG
              have HPj := Lib.hid hPj
              have HSj := Lib.hid hSj
              have HAj := Lib.hid hAj
              have HKj := Lib.hid hsj
              clear hG hPj hSj hAj hsj
              by_cases hj1 : j < b
              · have hj1I : (j : Int) < (b : Int) := by omega
                go_wp2_with fail
                go_quiet (first | (go_at_call 96; refine Calls.quiet_of_same (less_any _ _ _)))
                go_wp2_with fail
                · go_roundw
                  case rel => exact ⟨i', s + 1, dj, rfl, by go_num, by omega, by omega, by omega, HKj.out, HPj.out, HSj.out, at_drewN HAj.out nq⟩
                  case measure => simp [sInt]; omega
                · go_region
                  all_goals go_wp2
                  go_roundw
                  case rel =>
                    refine ⟨j + 1, swp dj j (j - 1), by go_num, by omega, by omega, by rw [size_swp]; exact HKj.out, permIn_trans _ _ _ _ _ HPj.out (swp_permIn _ _ _ _ _ (by omega) (by omega) (by omega) (by omega) (by rw [HKj.out]; omega)), sorted_same HSj.out (fun t ht => swp_other _ _ _ _ (by omega) (by omega)), ?_⟩
                    first
                      | exact at_swap1 (at_drewN HAj.out nq) HB.out (by rw [HKj.out]; omega) (by rw [HKj.out]; omega) (HG.out _) (HG.out _)
                      | exact at_swap2 (at_drewN HAj.out nq) HB.out (by rw [HKj.out]; omega) (by rw [HKj.out]; omega) (HG.out _) (HG.out _)
                  case measure => simp [sInt]; omega
              · have hj1I : ¬ (j : Int) < (b : Int) := by omega
                go_wp2_with fail
                go_roundw
                case rel => exact ⟨i', s + 1, dj, rfl, by go_num, by omega, by omega, by omega, HKj.out, HPj.out, HSj.out, HAj.out⟩
                case measure => simp [sInt]; omega
          · have h2I : ¬ (2 : Int) ≤ (b : Int) - (i' : Int) := by omega
            go_wp2_with fail
            go_roundw
            case rel => exact ⟨i', s + 1, d4, rfl, by go_num, by omega, by omega, by omega, HK4.out, HP4.out, HS4.out, HA4.out⟩
            case measure => simp [sInt]; omega
    · have hsI : ¬ (s : Int) < 5 := by omega
      go_wp2_with fail
      go_ret
      exact (⟨false, dk, rfl, HP.out, (fun h => Bool.noConfusion h), HA.out⟩ : PartR w blk off a b d _ _)
end Go.Proofs.Ytogkeoainejfcaa
