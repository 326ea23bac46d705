/- SGlue, SSift: joined by program (tools/merge.py). -/
import Derived.Test.YtdphpjlhkamadaaZ30
import Derived.Sort.LotD2
import Derived.Test.YtdphpjlhkamadaaZ29
namespace Go.Proofs.Ytdphpjlhkamadaa
open Go.Sort (PermIn SortedIn SWO swp permIn_refl permIn_trans swp_permIn permIn_all permIn_mono sorted_glue sorted_glue_eq)
set_option linter.unusedSimpArgs false
set_option linter.unusedVariables false
theorem FloorU.mono {a b b' : Nat} {d : Array Nat} (h : FloorU a b d) (hb : b' ≤ b) : FloorU a b' d := h.imp id fun h t h1 h2 => h t h1 (by omega)
theorem sorted_eq {a b : Nat} {d d' : Array Nat} (hs : SortedIn ltU a b d) (h : ∀ t, a ≤ t → t < b → d'[t]! = d[t]!) : SortedIn ltU a b d' := fun p q h1 h2 h3 => by
  rw [h p h1 (by omega), h q (by omega) h3]
  exact hs p q h1 h2 h3
theorem glue_eq {x y mid p : Nat} {d3 d4 : Array Nat} (hx : x < mid) (hy : mid ≤ y) (hs : y ≤ d3.size) (hge : ∀ t, x ≤ t → t < y → ltU d3[t]! p = false) (hP : PermIn x y d3 d4)
    (hlo : ∀ t, x ≤ t → t < mid → ltU p d4[t]! = false) (hhi : ∀ t, mid ≤ t → t < y → ltU p d4[t]! = true) :
    FloorU mid y d4 ∧ ∀ R, PermIn mid y d4 R → SortedIn ltU mid y R → PermIn x y d3 R ∧ SortedIn ltU x y R := by
  have hs4 : y ≤ d4.size := by rw [hP.1]; exact hs
  have hge4 := permIn_all d3 d4 x y (fun v => ltU v p = false) hs hP hge
  refine ⟨.inr fun t h1 h2 => ?_, fun R hR hsR => ⟨permIn_trans _ _ _ _ _ hP (permIn_mono _ _ mid y x y (by omega) (Nat.le_refl _) hs4 hR), ?_⟩⟩
  · have e1 := ltU_true.1 (hhi t h1 h2)
    have e2 := ltU_false.1 (hlo (mid - 1) (by omega) (by omega))
    exact ltU_false.2 (by omega)
  · refine sorted_glue_eq swoU p hsR (fun t h1 h2 => ?_) (fun t h1 h2 => ?_) (permIn_all d4 R mid y (fun v => ltU p v = true) hs4 hR hhi)
    · rw [hR.2.1 t (.inl h2)]; exact hlo t h1 h2
    · rw [hR.2.1 t (.inl h2)]; exact hge4 t h1 (by omega)
theorem glue_part {x y mid : Nat} {d3 d4 : Array Nat} (hx : x ≤ mid) (hy : mid < y) (hs : y ≤ d3.size) (hF : FloorU x y d3) (hP : PermIn x y d3 d4)
    (hlo : ∀ t, x ≤ t → t < mid → ltU d4[t]! d4[mid]! = true) (hhi : ∀ t, mid < t → t < y → ltU d4[t]! d4[mid]! = false) :
    FloorU x mid d4 ∧ FloorU (mid + 1) y d4 ∧
    (∀ L, PermIn x mid d4 L → SortedIn ltU x mid L → FloorU (mid + 1) y L ∧ ∀ R, PermIn (mid + 1) y L R → SortedIn ltU (mid + 1) y R → PermIn x y d3 R ∧ SortedIn ltU x y R) ∧
    (∀ L, PermIn (mid + 1) y d4 L → SortedIn ltU (mid + 1) y L → FloorU x mid L ∧ ∀ R, PermIn x mid L R → SortedIn ltU x mid R → PermIn x y d3 R ∧ SortedIn ltU x y R) := by
  have hs4 : y ≤ d4.size := by rw [hP.1]; exact hs
  have hFa : FloorU x mid d4 := (hF.perm hs hP).mono (by omega)
  have hFb : FloorU (mid + 1) y d4 := .inr fun t h1 h2 => by rw [Nat.add_sub_cancel]; exact hhi t (by omega) h2
  refine ⟨hFa, hFb, fun L hL hsL => ?_, fun L hL hsL => ?_⟩
  · have hsL' : y ≤ L.size := by rw [hL.1]; exact hs4
    have eL : ∀ t, mid ≤ t → L[t]! = d4[t]! := fun t h => hL.2.1 t (.inr h)
    refine ⟨.inr fun t h1 h2 => by rw [Nat.add_sub_cancel, eL t (by omega), eL mid (Nat.le_refl _)]; exact hhi t (by omega) h2, fun R hR hsR => ?_⟩
    have eR : ∀ t, t ≤ mid → R[t]! = L[t]! := fun t h => hR.2.1 t (.inl (by omega))
    refine ⟨permIn_trans _ _ _ _ _ hP (permIn_trans _ _ _ _ _ (permIn_mono _ _ x mid x y (Nat.le_refl _) (by omega) hs4 hL) (permIn_mono _ _ (mid + 1) y x y (by omega) (Nat.le_refl _) hsL' hR)), ?_⟩
    refine sorted_glue swoU (sorted_eq hsL fun t h1 h2 => eR t (by omega)) hsR (fun t h1 h2 => ?_) (fun t h1 h2 => ?_)
    · rw [eR t (by omega), eR mid (Nat.le_refl _), eL mid (Nat.le_refl _)]
      exact permIn_all d4 L x mid (fun v => ltU v d4[mid]! = true) (by omega) hL hlo t h1 h2
    · rw [eR mid (Nat.le_refl _), eL mid (Nat.le_refl _)]
      exact permIn_all L R (mid + 1) y (fun v => ltU v d4[mid]! = false) hsL' hR (fun k h3 h4 => by rw [eL k (by omega)]; exact hhi k (by omega) h4) t (by omega) h2
  · have hsL' : y ≤ L.size := by rw [hL.1]; exact hs4
    have eL : ∀ t, t ≤ mid → L[t]! = d4[t]! := fun t h => hL.2.1 t (.inl (by omega))
    refine ⟨?_, fun R hR hsR => ?_⟩
    · rcases hFa with h | h
      · exact .inl h
      · rcases Nat.eq_zero_or_pos x with h0 | h0
        · exact .inl h0
        · exact .inr fun t h1 h2 => by rw [eL t (by omega), eL (x - 1) (by omega)]; exact h t h1 h2
    have eR : ∀ t, mid ≤ t → R[t]! = L[t]! := fun t h => hR.2.1 t (.inr h)
    refine ⟨permIn_trans _ _ _ _ _ hP (permIn_trans _ _ _ _ _ (permIn_mono _ _ (mid + 1) y x y (by omega) (Nat.le_refl _) hs4 hL) (permIn_mono _ _ x mid x y (Nat.le_refl _) (by omega) hsL' hR)), ?_⟩
    refine sorted_glue swoU hsR (sorted_eq hsL fun t h1 h2 => eR t (by omega)) (fun t h1 h2 => ?_) (fun t h1 h2 => ?_)
    · rw [eR mid (Nat.le_refl _), eL mid (Nat.le_refl _)]
      exact permIn_all L R x mid (fun v => ltU v d4[mid]! = true) (by omega) hR (fun k h3 h4 => by rw [eL k (by omega)]; exact hlo k h3 h4) t h1 h2
    · rw [eR t (by omega), eR mid (Nat.le_refl _), eL mid (Nat.le_refl _)]
      exact permIn_all d4 L (mid + 1) y (fun v => ltU v d4[mid]! = false) hs4 hL (fun k h3 h4 => hhi k (by omega) h4) t (by omega) h2
end Go.Proofs.Ytdphpjlhkamadaa
namespace Go.Proofs.Ytdphpjlhkamadaa
open Go.RowKit
open Go.Sort (PermIn SortedIn SWO swp Holds putRow grow At size_swp siftDown)
set_option linter.unusedSimpArgs false
set_option linter.unusedVariables false
set_option maxRecDepth 100000
section
variable {hi F r : Nat} {d : Array Nat}
theorem sift_none (h : hi ≤ 2 * r + 1) : siftDown ltU hi F r d = d := by rw [siftDown, dif_pos h]
theorem sift_right (h1 : 2 * r + 2 < hi) (h2 : ltU d[F + 2 * r + 1]! d[F + 2 * r + 2]! = true) :
    siftDown ltU hi F r d = if ltU d[F + r]! d[F + 2 * r + 2]! = true then siftDown ltU hi F (2 * r + 2) (swp d (F + r) (F + (2 * r + 2))) else d := by
  rw [siftDown, dif_neg (by omega), show F + (2 * r + 1) + 1 = F + 2 * r + 2 by omega, show F + (2 * r + 1) = F + 2 * r + 1 by omega, show F + (2 * r + 2) = F + 2 * r + 2 by omega, if_pos (by rw [h2]; simp; omega)]
  cases ltU d[F + r]! d[F + 2 * r + 2]! <;> simp [h1]
theorem sift_left (h1 : 2 * r + 1 < hi) (h2 : ¬ 2 * r + 2 < hi ∨ ltU d[F + 2 * r + 1]! d[F + 2 * r + 2]! = false) :
    siftDown ltU hi F r d = if ltU d[F + r]! d[F + 2 * r + 1]! = true then siftDown ltU hi F (2 * r + 1) (swp d (F + r) (F + (2 * r + 1))) else d := by
  rw [siftDown, dif_neg (by omega), show F + (2 * r + 1) + 1 = F + 2 * r + 2 by omega, show F + (2 * r + 1) = F + 2 * r + 1 by omega, show 2 * r + 1 + 1 = 2 * r + 2 by omega]
  rw [if_neg (by rcases h2 with h2 | h2 <;> simp [h2])]
  cases ltU d[F + r]! d[F + 2 * r + 1]! <;> simp
end
set_option maxHeartbeats 3200000 in
theorem sift_any (w : World) (blk off len cap lo hi F : Nat) (d : Array Nat) (hlen : d.size = len) (h0 : Holds eU w blk off d) (hb : blk < w.heap.size) (hlo : lo ≤ hi) (hF : F + hi ≤ len) (hsz : len < 4611686018427387904) :
    Calls Try.prog 104 #[.slice (some ⟨blk, off, none⟩) len cap, .int .i64 lo, .int .i64 hi, .int .i64 F] w fun e w' => e = .returned (.tuple #[]) ∧ At eU w blk off (siftDown ltU hi F lo d) w' := by
  have H0 := Lib.hid h0
  have HL := Lib.hid hlen
  have HB := Lib.hid hb
  go_enter Try.func104, Try.ntmps104
  go_wp2
  go_loopw [8] (fun s8 wr => ∃ (r : Nat) (dk : Array Nat), s8 = .int .i64 r ∧ r ≤ hi ∧ dk.size = len ∧ siftDown ltU hi F r dk = siftDown ltU hi F lo d ∧ At eU w blk off dk wr) (fun s8 _ => hi - (sInt s8).toNat)
  case atStart => exact ⟨lo, d, rfl, hlo, hlen, rfl, At.refl h0⟩
  case round =>
    obtain ⟨r, dk, rfl, hr, hsk, hE, hA⟩ := hrel
    obtain ⟨G, hG, hcw, hfw⟩ := row_fam hA H0.out HB.out (hsk.trans HL.out.symm)
    rw [HL.out] at hcw hfw
    have HG := Lib.hid hG
    have HE := Lib.hid hE
    have HA := Lib.hid hA
    have HK := Lib.hid hsk
    clear hG hE hA hsk h0 hlen hb
    by_cases hn : hi ≤ 2 * r + 1
    · have hnI : (hi : Int) ≤ 2 * (r : Int) + 1 := by omega
      go_wp2
      go_end0
      refine ⟨rfl, ?_⟩
      rw [← HE.out, sift_none hn]
      exact HA.out
    · have hnI : ¬ (hi : Int) ≤ 2 * (r : Int) + 1 := by omega
      by_cases h1 : 2 * r + 2 < hi
      · have h1I : 2 * (r : Int) + 1 + 1 < (hi : Int) := by omega
        go_wp2_with fail
        go_quiet (first | (go_at_call 96; refine Calls.quiet_of_same (less_any _ _ _)))
        go_wp2_with fail
        · have hR : ltU (G (F + 2 * r + 1)) (G (F + 2 * r + 2)) = true := by assumption
          have HR := Lib.hid hR
          clear hR
          have HA2 := Lib.hid (at_drewN HA.out nq)
          have hcw2 : ∀ t, t < len → (wr.drewN nq).cell? ⟨blk, off + t, none⟩ = some (.int .u64 (G t : Int)) := hcw
          have hfw2 : ∀ t, t < len → (wr.drewN nq).frozen? ⟨blk, off + t, none⟩ = false := hfw
          clear hcw hfw
          obtain ⟨w2, hw2⟩ : ∃ x, x = wr.drewN nq := ⟨_, rfl⟩
          rw [← hw2] at hcw2 hfw2 HA2 ⊢
          clear hw2 nq
          go_quiet (first | (go_at_call 96; refine Calls.quiet_of_same (less_any _ _ _)))
          go_wp2_with fail
          · have hl : ltU (G (F + r)) (G (F + 2 * r + 2)) = false := by
              have : (!ltU (G (F + r)) (G (F + 2 * r + 2))) = true := by assumption
              simpa using this
            (try simp only [Exit.inBlock, Exit.then])
            refine bodyPost_ret (results_none rfl _ _ _) rfl ?_
            refine ⟨rfl, ?_⟩
            rw [← HE.out, sift_right (r := r) (d := dk) h1 (by rw [← HG.out, ← HG.out]; exact HR.out), ← HG.out, ← HG.out, hl]
            exact at_drewN HA2.out nq
          · have hl : ltU (G (F + r)) (G (F + 2 * r + 2)) = true := by
              have : (!ltU (G (F + r)) (G (F + 2 * r + 2))) = false := by assumption
              simpa using this
            have HL2 := Lib.hid hl
            clear hl
            go_region
            all_goals go_wp2
            go_roundw
            case rel =>
              refine ⟨2 * r + 2, swp dk (F + r) (F + (2 * r + 2)), by go_num, by omega, by rw [size_swp]; exact HK.out, ?_, ?_⟩
              · rw [← HE.out, sift_right (r := r) (d := dk) h1 (by rw [← HG.out, ← HG.out]; exact HR.out), ← HG.out (F + r), ← HG.out (F + 2 * r + 2), HL2.out]
                rfl
              · first
                  | exact at_swap1 (at_drewN HA2.out nq) HB.out (by rw [HK.out]; omega) (by rw [HK.out]; omega) (HG.out _) (HG.out _)
                  | exact at_swap2 (at_drewN HA2.out nq) HB.out (by rw [HK.out]; omega) (by rw [HK.out]; omega) (HG.out _) (HG.out _)
            case measure => simp [sInt]; omega
        · have hR : ltU (G (F + 2 * r + 1)) (G (F + 2 * r + 2)) = false := by assumption
          have HR := Lib.hid hR
          clear hR
          have HA2 := Lib.hid (at_drewN HA.out nq)
          have hcw2 : ∀ t, t < len → (wr.drewN nq).cell? ⟨blk, off + t, none⟩ = some (.int .u64 (G t : Int)) := hcw
          have hfw2 : ∀ t, t < len → (wr.drewN nq).frozen? ⟨blk, off + t, none⟩ = false := hfw
          clear hcw hfw
          obtain ⟨w2, hw2⟩ : ∃ x, x = wr.drewN nq := ⟨_, rfl⟩
          rw [← hw2] at hcw2 hfw2 HA2 ⊢
          clear hw2 nq
          go_quiet (first | (go_at_call 96; refine Calls.quiet_of_same (less_any _ _ _)))
          go_wp2_with fail
          · have hl : ltU (G (F + r)) (G (F + 2 * r + 1)) = false := by
              have : (!ltU (G (F + r)) (G (F + 2 * r + 1))) = true := by assumption
              simpa using this
            (try simp only [Exit.inBlock, Exit.then])
            refine bodyPost_ret (results_none rfl _ _ _) rfl ?_
            refine ⟨rfl, ?_⟩
            rw [← HE.out, sift_left (r := r) (d := dk) (by omega) (Or.inr (by rw [← HG.out, ← HG.out]; exact HR.out)), ← HG.out, ← HG.out, hl]
            exact at_drewN HA2.out nq
          · have hl : ltU (G (F + r)) (G (F + 2 * r + 1)) = true := by
              have : (!ltU (G (F + r)) (G (F + 2 * r + 1))) = false := by assumption
              simpa using this
            have HL2 := Lib.hid hl
            clear hl
            go_region
            all_goals go_wp2
            go_roundw
            case rel =>
              refine ⟨2 * r + 1, swp dk (F + r) (F + (2 * r + 1)), by go_num, by omega, by rw [size_swp]; exact HK.out, ?_, ?_⟩
              · rw [← HE.out, sift_left (r := r) (d := dk) (by omega) (Or.inr (by rw [← HG.out, ← HG.out]; exact HR.out)), ← HG.out (F + r), ← HG.out (F + 2 * r + 1), HL2.out]
                rfl
              · first
                  | exact at_swap1 (at_drewN HA2.out nq) HB.out (by rw [HK.out]; omega) (by rw [HK.out]; omega) (HG.out _) (HG.out _)
                  | exact at_swap2 (at_drewN HA2.out nq) HB.out (by rw [HK.out]; omega) (by rw [HK.out]; omega) (HG.out _) (HG.out _)
            case measure => simp [sInt]; omega
      · have h1I : ¬ 2 * (r : Int) + 1 + 1 < (hi : Int) := by omega
        have h1J : decide (2 * (r : Int) + 1 + 1 < (hi : Int)) = false := decide_eq_false h1I
        go_wp2_with fail
        go_quiet (first | (go_at_call 96; refine Calls.quiet_of_same (less_any _ _ _)))
        go_wp2_with fail
        have HA2 := Lib.hid (at_drewN HA.out nq)
        have hcw2 : ∀ t, t < len → (wr.drewN nq).cell? ⟨blk, off + t, none⟩ = some (.int .u64 (G t : Int)) := hcw
        have hfw2 : ∀ t, t < len → (wr.drewN nq).frozen? ⟨blk, off + t, none⟩ = false := hfw
        clear hcw hfw
        obtain ⟨w2, hw2⟩ : ∃ x, x = wr.drewN nq := ⟨_, rfl⟩
        rw [← hw2] at hcw2 hfw2 HA2 ⊢
        clear hw2 nq
        go_quiet (first | (go_at_call 96; refine Calls.quiet_of_same (less_any _ _ _)))
        go_wp2_with fail
        · have hl : ltU (G (F + r)) (G (F + 2 * r + 1)) = false := by
            have : (!ltU (G (F + r)) (G (F + 2 * r + 1))) = true := by assumption
            simpa using this
          (try simp only [Exit.inBlock, Exit.then])
          refine bodyPost_ret (results_none rfl _ _ _) rfl ?_
          refine ⟨rfl, ?_⟩
          rw [← HE.out, sift_left (r := r) (d := dk) (by omega) (Or.inl h1), ← HG.out, ← HG.out, hl]
          exact at_drewN HA2.out nq
        · have hl : ltU (G (F + r)) (G (F + 2 * r + 1)) = true := by
            have : (!ltU (G (F + r)) (G (F + 2 * r + 1))) = false := by assumption
            simpa using this
          have HL2 := Lib.hid hl
          clear hl
          go_region
          all_goals go_wp2
          go_roundw
          case rel =>
            refine ⟨2 * r + 1, swp dk (F + r) (F + (2 * r + 1)), by go_num, by omega, by rw [size_swp]; exact HK.out, ?_, ?_⟩
            · rw [← HE.out, sift_left (r := r) (d := dk) (by omega) (Or.inl h1), ← HG.out (F + r), ← HG.out (F + 2 * r + 1), HL2.out]
              rfl
            · first
                | exact at_swap1 (at_drewN HA2.out nq) HB.out (by rw [HK.out]; omega) (by rw [HK.out]; omega) (HG.out _) (HG.out _)
                | exact at_swap2 (at_drewN HA2.out nq) HB.out (by rw [HK.out]; omega) (by rw [HK.out]; omega) (HG.out _) (HG.out _)
          case measure => simp [sInt]; omega
end Go.Proofs.Ytdphpjlhkamadaa
