/- SPart, SPartE: joined by program (tools/merge.py). -/
import Derived.Test.YtdphpjlhkamadaaZ29
import Derived.Deep.CutBlock
import Derived.Deep.DeepCutAuto
namespace Go.Proofs.Ytdphpjlhkamadaa
open Go.RowKit
open Go.Sort (PermIn SortedIn SWO swp Holds putRow grow At size_swp permIn_refl permIn_trans swp_permIn swp_get)
set_option linter.unusedSimpArgs false
set_option linter.unusedVariables false
set_option maxRecDepth 100000
/-- What two scans have found: below i each is less than the pivot, above j none is. -/
def PPt (a i j b p : Nat) (d : Array Nat) : Prop := d[a]! = p ∧ (∀ t, a < t → t < i → ltU d[t]! p = true) ∧ (∀ t, j < t → t < b → ltU d[t]! p = false)
theorem ppt_start {a b pv : Nat} {d : Array Nat} (h1 : a ≤ pv) (h2 : pv < b) (h3 : b ≤ d.size) : PPt a (a + 1) (b - 1) b d[pv]! (swp d a pv) := by
  have g := swp_get d (i := a) (j := pv) (by omega) (by omega)
  refine ⟨?_, fun t ht1 ht2 => by omega, fun t ht1 ht2 => by omega⟩
  rw [g]
  split
  · rename_i h; rw [← h]
  · rw [if_pos rfl]
theorem ppt_swap {a i j b p : Nat} {d : Array Nat} {i' j' : Nat} (h : PPt a i j b p d) (ha : a < i') (hi : i ≤ i') (hj : j' ≤ j) (hij : i' < j') (hb : j' < b) (hs : b ≤ d.size)
    (hu : ∀ t, i ≤ t → t < i' → ltU d[t]! p = true) (hd : ∀ t, j' < t → t ≤ j → ltU d[t]! p = false) (h1 : ltU d[i']! p = false) (h2 : ltU d[j']! p = true) :
    PPt a (i' + 1) (j' - 1) b p (swp d i' j') := by
  have g := swp_get d (i := i') (j := j') (by omega) (by omega)
  refine ⟨by rw [g, if_neg (by omega), if_neg (by omega)]; exact h.1, fun t ht1 ht2 => ?_, fun t ht1 ht2 => ?_⟩
  · rw [g, if_neg (by omega)]
    split
    · exact h2
    · rcases Nat.lt_or_ge t i with h3 | h3
      · exact h.2.1 t ht1 h3
      · exact hu t h3 (by omega)
  · rw [g]
    split
    · exact h1
    · rw [if_neg (by omega)]
      rcases Nat.lt_or_ge j t with h3 | h3
      · exact h.2.2 t h3 ht2
      · exact hd t (by omega) h3
theorem ppt_end {a j b p : Nat} {d : Array Nat} (h : d[a]! = p) (hu : ∀ t, a < t → t ≤ j → ltU d[t]! p = true) (hd : ∀ t, j < t → t < b → ltU d[t]! p = false) (haj : a ≤ j) (hjb : j < b) (hs : b ≤ d.size) :
    (∀ t, a ≤ t → t < j → ltU (swp d j a)[t]! (swp d j a)[j]! = true) ∧ (∀ t, j < t → t < b → ltU (swp d j a)[t]! (swp d j a)[j]! = false) := by
  have g := swp_get d (i := j) (j := a) (by omega) (by omega)
  have hj : (swp d j a)[j]! = p := by
    rw [g]
    split
    · rename_i e; rw [e]; exact h
    · rw [if_pos rfl]; exact h
  rw [hj]
  refine ⟨fun t h1 h2 => ?_, fun t h1 h2 => ?_⟩
  · rw [g]
    split
    · exact hu j (by omega) (Nat.le_refl _)
    · rw [if_neg (by omega)]; exact hu t (by omega) (by omega)
  · rw [g, if_neg (by omega), if_neg (by omega)]
    exact hd t h1 h2
set_option maxHeartbeats 6400000 in
theorem part_any (w : World) (blk off len cap a b pv : Nat) (d : Array Nat) (hlen : d.size = len) (h0 : Holds eU w blk off d) (hb : blk < w.heap.size) (hap : a ≤ pv) (hpb : pv < b) (hbd : b ≤ len) (hsz : len < 4611686018427387904) :
    Calls Try.prog 98 #[.slice (some ⟨blk, off, none⟩) len cap, .int .i64 a, .int .i64 b, .int .i64 pv] w fun e w' => ∃ (mid : Nat) (d' : Array Nat) (ap : Bool), e = .returned (.tuple #[.int .i64 mid, .bool ap]) ∧ a ≤ mid ∧ mid < b ∧ PermIn a b d d' ∧
      (∀ t, a ≤ t → t < mid → ltU d'[t]! d'[mid]! = true) ∧ (∀ t, mid < t → t < b → ltU d'[t]! d'[mid]! = false) ∧ At eU w blk off d' w' := by
  have hS0 := ppt_start hap hpb (by rw [hlen]; exact hbd)
  obtain ⟨p, hp⟩ : ∃ p, p = d[pv]! := ⟨_, rfl⟩
  rw [← hp] at hS0
  obtain ⟨G, hG, hcw, hfw⟩ := row_fam (At.refl h0) h0 hb rfl
  rw [hlen] at hcw hfw
  have HG := Lib.hid hG
  have HS0 := Lib.hid hS0
  have HA0 := Lib.hid (At.refl h0)
  have H0 := Lib.hid h0
  have HL := Lib.hid hlen
  have HB := Lib.hid hb
  clear hG hS0 h0 hlen hb hp
  go_enter Try.func98, Try.ntmps98
  go_upto_region 1 with fail
  go_cut [] (fun wx => At eU w blk off (swp d a pv) wx)
  case first =>
    by_cases hEq : a = pv
    · subst hEq
      go_region
      all_goals go_wp2_with fail
      all_goals go_meet
      all_goals first
        | exact at_swap1 HA0.out HB.out (by rw [HL.out]; omega) (by rw [HL.out]; omega) (HG.out _) (HG.out _)
        | exact at_swap2 HA0.out HB.out (by rw [HL.out]; omega) (by rw [HL.out]; omega) (HG.out _) (HG.out _)
    · go_region
      all_goals go_wp2_with fail
      all_goals go_meet
      all_goals first
        | exact at_swap1 HA0.out HB.out (by rw [HL.out]; omega) (by rw [HL.out]; omega) (HG.out _) (HG.out _)
        | exact at_swap2 HA0.out HB.out (by rw [HL.out]; omega) (by rw [HL.out]; omega) (HG.out _) (HG.out _)
  case rest =>
  have HA1 := Lib.hid hcut
  clear hcut hcw hfw HG
  clear G
  obtain ⟨wq, hwq⟩ : ∃ x : World, x = wc := ⟨_, rfl⟩
  rw [← hwq] at HA1 ⊢
  clear hwq
  go_upto_region 2 with fail
  go_cut [10, 11] (fun s10 s11 wx => ∃ (i j : Nat) (dk : Array Nat), s10 = .int .i64 i ∧ s11 = .int .i64 j ∧ a < i ∧ i ≤ j + 1 ∧ j < b ∧ dk.size = len ∧ PermIn a b d dk ∧ PPt a i j b p dk ∧ At eU w blk off dk wx)
  case first =>
    go_wp2_with fail
    go_meet
    exact ⟨a + 1, b - 1, swp d a pv, by go_num, by go_num, by omega, by omega, by omega, by rw [size_swp]; exact HL.out, swp_permIn _ _ _ _ _ (by omega) (by omega) (by omega) (by omega) (by rw [HL.out]; omega), HS0.out, HA1.out⟩
  case rest =>
  obtain ⟨i, j, dk, rfl, rfl, hai, hij, hjb, hsk, hP, hS, hA⟩ := hcut
  obtain ⟨G, hG, hcw, hfw⟩ := row_fam hA H0.out HB.out (hsk.trans HL.out.symm)
  rw [HL.out] at hcw hfw
  have HG := Lib.hid hG
  have HP := Lib.hid hP
  have HS := Lib.hid hS
  have HA := Lib.hid hA
  have HK := Lib.hid hsk
  clear hG hP hS hA hsk
  obtain ⟨W1, hW1⟩ : ∃ x : World, x = wc := ⟨_, rfl⟩
  rw [← hW1] at hcw hfw HA ⊢
  clear hW1
  clear HA1 HA0 HS0
  go_upto_block 0 with fail
  go_cut [10] (fun s10 wx => ∃ i' : Nat, s10 = .int .i64 i' ∧ i ≤ i' ∧ i' ≤ j + 1 ∧ (∀ t, i ≤ t → t < i' → ltU (G t) (G a) = true) ∧ (i' ≤ j → ltU (G i') (G a) = false) ∧ ∃ n, wx = W1.drewN n)
  case first =>
    go_wp2_with fail
    go_loopw [10] (fun s10 wr => ∃ i' : Nat, s10 = .int .i64 i' ∧ i ≤ i' ∧ i' ≤ j + 1 ∧ (∀ t, i ≤ t → t < i' → ltU (G t) (G a) = true) ∧ ∃ n, wr = W1.drewN n) (fun s10 _ => j + 1 - (sInt s10).toNat)
    case atStart => exact ⟨i, rfl, Nat.le_refl _, hij, fun t h1 h2 => by omega, 0, rfl⟩
    case round =>
      obtain ⟨k, rfl, hik, hkj, hu, n, hw⟩ := hrel
      have hcw2 : ∀ t, t < len → wr.cell? ⟨blk, off + t, none⟩ = some (.int .u64 (G t : Int)) := fun t ht => by rw [hw]; exact hcw t ht
      have HU := Lib.hid hu
      have HW := Lib.hid hw
      clear hu hw hcw hfw
      by_cases hle : k ≤ j
      · have hleI : (k : Int) ≤ (j : Int) := by omega
        go_wp2_with fail
        go_quiet (first | (go_at_call 96; refine Calls.quiet_of_same (less_any _ _ _)))
        go_wp2_with fail
        · have hl : ltU (G k) (G a) = true := by assumption
          go_roundw
          case rel => exact ⟨k + 1, by go_num, by omega, by omega, fun t h1 h2 => by
            rcases Nat.lt_or_ge t k with h3 | h3
            · exact HU.out t h1 h3
            · rw [show t = k by omega]; exact hl, n + nq, by rw [HW.out, World.drewN_drewN]⟩
          case measure => simp [sInt]; omega
        · have hl : ltU (G k) (G a) = false := by assumption
          go_meet
          exact ⟨k, rfl, hik, hkj, HU.out, fun _ => hl, n + nq, by rw [HW.out, World.drewN_drewN]⟩
      · have hleI : ¬ (k : Int) ≤ (j : Int) := by omega
        go_wp2_with fail
        go_quiet (first | (go_at_call 96; refine Calls.quiet_of_same (less_any _ _ _)))
        go_wp2_with fail
        go_meet
        exact ⟨k, rfl, hik, hkj, HU.out, fun h => absurd h hle, n + nq, by rw [HW.out, World.drewN_drewN]⟩
  case rest =>
  obtain ⟨i', rfl, hii, hij', hu, hu2, n1, hw1⟩ := hcut
  have HU := Lib.hid hu
  have HU2 := Lib.hid hu2
  have HW1 := Lib.hid hw1
  clear hu hu2 hw1
  go_upto_block 2 with fail
  go_cut [11] (fun s11 wx => ∃ j' : Nat, s11 = .int .i64 j' ∧ j' ≤ j ∧ i' ≤ j' + 1 ∧ (∀ t, j' < t → t ≤ j → ltU (G t) (G a) = false) ∧ (i' ≤ j' → ltU (G j') (G a) = true) ∧ ∃ n, wx = W1.drewN n)
  case first =>
    go_wp2_with fail
    go_loopw [11] (fun s11 wr => ∃ j' : Nat, s11 = .int .i64 j' ∧ j' ≤ j ∧ i' ≤ j' + 1 ∧ (∀ t, j' < t → t ≤ j → ltU (G t) (G a) = false) ∧ ∃ n, wr = W1.drewN n) (fun s11 _ => (sInt s11).toNat)
    case atStart => exact ⟨j, rfl, Nat.le_refl _, hij', fun t h1 h2 => by omega, n1, HW1.out⟩
    case round =>
      obtain ⟨k, rfl, hkj, hik, hd, n, hw⟩ := hrel
      have hcw2 : ∀ t, t < len → wr.cell? ⟨blk, off + t, none⟩ = some (.int .u64 (G t : Int)) := fun t ht => by rw [hw]; exact hcw t ht
      have HD := Lib.hid hd
      have HW := Lib.hid hw
      clear hd hw hcw hfw
      by_cases hle : i' ≤ k
      · have hleI : (i' : Int) ≤ (k : Int) := by omega
        go_wp2_with fail
        go_quiet (first | (go_at_call 96; refine Calls.quiet_of_same (less_any _ _ _)))
        go_wp2_with fail
        · have hl : ltU (G k) (G a) = false := by
            have : (!ltU (G k) (G a)) = true := by assumption
            simpa using this
          go_roundw
          case rel => exact ⟨k - 1, by go_num, by omega, by omega, fun t h1 h2 => by
            rcases Nat.lt_or_ge k t with h3 | h3
            · exact HD.out t h3 h2
            · rw [show t = k by omega]; exact hl, n + nq, by rw [HW.out, World.drewN_drewN]⟩
          case measure => simp [sInt]; omega
        · have hl : ltU (G k) (G a) = true := by
            have : (!ltU (G k) (G a)) = false := by assumption
            simpa using this
          go_meet
          exact ⟨k, rfl, hkj, hik, HD.out, fun _ => hl, n + nq, by rw [HW.out, World.drewN_drewN]⟩
      · have hleI : ¬ (i' : Int) ≤ (k : Int) := by omega
        go_wp2_with fail
        go_quiet (first | (go_at_call 96; refine Calls.quiet_of_same (less_any _ _ _)))
        go_wp2_with fail
        go_meet
        exact ⟨k, rfl, hkj, hik, HD.out, fun h => absurd h hle, n + nq, by rw [HW.out, World.drewN_drewN]⟩
  case rest =>
  obtain ⟨j', rfl, hjj, hij2, hd, hd2, n2, hw2⟩ := hcut
  have HD := Lib.hid hd
  have HD2 := Lib.hid hd2
  have HA2 := Lib.hid (at_drewN HA.out n2)
  have hcw2 : ∀ t, t < len → wc.cell? ⟨blk, off + t, none⟩ = some (.int .u64 (G t : Int)) := fun t ht => by rw [hw2]; exact hcw t ht
  have hfw2 : ∀ t, t < len → wc.frozen? ⟨blk, off + t, none⟩ = false := fun t ht => by rw [hw2]; exact hfw t ht
  rw [← hw2] at HA2
  clear hd hd2 hw2 hcw hfw HW1
  have HGp := Lib.hid (show G a = p by rw [HG.out]; exact HS.out.1)
  by_cases hle : i' ≤ j'
  · have hleI : ¬ (j' : Int) < (i' : Int) := by omega
    have h1 := HU2.out (by omega)
    have h2 := HD2.out hle
    have hne : i' ≠ j' := fun e => by rw [e] at h1; rw [h1] at h2; cases h2
    have H1 := Lib.hid h1
    have H2 := Lib.hid h2
    have hlt : i' < j' := by omega
    have hne2 : ¬ i' = j' := hne
    clear h1 h2 hne hle
    go_upto_region 10 with fail
    go_cut [] (fun wx => At eU w blk off (swp dk i' j') wx)
    case first =>
      go_region
      all_goals go_wp2_with fail
      all_goals go_meet
      all_goals first
        | exact at_swap1 HA2.out HB.out (by rw [HK.out]; omega) (by rw [HK.out]; omega) (HG.out _) (HG.out _)
        | exact at_swap2 HA2.out HB.out (by rw [HK.out]; omega) (by rw [HK.out]; omega) (HG.out _) (HG.out _)
    case rest =>
    have HA3 := Lib.hid hcut
    have HR := Lib.hid (show PPt a (i' + 1) (j' - 1) b p (swp dk i' j') by
      have hs := HS.out
      have e1 := HGp.out
      refine ppt_swap hs (by omega) hii hjj hlt (by omega) (by rw [HK.out]; omega) (fun t h1 h2 => ?_) (fun t h1 h2 => ?_) ?_ ?_
      · rw [← HG.out, ← e1]; exact HU.out t h1 h2
      · rw [← HG.out, ← e1]; exact HD.out t h1 h2
      · rw [← HG.out, ← e1]; exact H1.out
      · rw [← HG.out, ← e1]; exact H2.out)
    have HP3 := Lib.hid (permIn_trans _ _ _ _ _ HP.out (swp_permIn dk a b i' j' (by omega) (by omega) (by omega) (by omega) (by rw [HK.out]; omega)))
    have HK3 := Lib.hid (show (swp dk i' j').size = len by rw [size_swp]; exact HK.out)
    clear hcut hcw2 hfw2
    go_wp2_with fail
    go_loopw [10, 11] (fun s10 s11 wr => ∃ (i j : Nat) (dk : Array Nat), s10 = .int .i64 i ∧ s11 = .int .i64 j ∧ a < i ∧ i ≤ j + 1 ∧ j < b ∧ dk.size = len ∧ PermIn a b d dk ∧ PPt a i j b p dk ∧ At eU w blk off dk wr) (fun s10 s11 _ => (sInt s11 + 1 - sInt s10).toNat)
    case atStart => exact ⟨i' + 1, j' - 1, swp dk i' j', by go_num, by go_num, by omega, by omega, by omega, HK3.out, HP3.out, HR.out, HA3.out⟩
    case round =>
      clear HU HU2 HD HD2 HA2 HGp H1 H2 HG HP HS HA HK HA3 HR HP3 HK3 hai hij hjb hii hij' hjj hij2 hlt hne2 hleI
      obtain ⟨i, j, dk, rfl, rfl, hai, hij, hjb, hsk, hP, hS, hA⟩ := hrel
      obtain ⟨G, hG, hcw, hfw⟩ := row_fam hA H0.out HB.out (hsk.trans HL.out.symm)
      rw [HL.out] at hcw hfw
      have HG := Lib.hid hG
      have HP := Lib.hid hP
      have HS := Lib.hid hS
      have HA := Lib.hid hA
      have HK := Lib.hid hsk
      clear hG hP hS hA hsk
      obtain ⟨W1, hW1⟩ : ∃ x : World, x = wr := ⟨_, rfl⟩
      rw [← hW1] at hcw hfw HA ⊢
      clear hW1
      go_upto_block 6 with fail
      go_cut [10] (fun s10 wx => ∃ i' : Nat, s10 = .int .i64 i' ∧ i ≤ i' ∧ i' ≤ j + 1 ∧ (∀ t, i ≤ t → t < i' → ltU (G t) (G a) = true) ∧ (i' ≤ j → ltU (G i') (G a) = false) ∧ ∃ n, wx = W1.drewN n)
      case first =>
        go_wp2_with fail
        go_loopw [10] (fun s10 wr => ∃ i' : Nat, s10 = .int .i64 i' ∧ i ≤ i' ∧ i' ≤ j + 1 ∧ (∀ t, i ≤ t → t < i' → ltU (G t) (G a) = true) ∧ ∃ n, wr = W1.drewN n) (fun s10 _ => j + 1 - (sInt s10).toNat)
        case atStart => exact ⟨i, rfl, Nat.le_refl _, hij, fun t h1 h2 => by omega, 0, rfl⟩
        case round =>
          obtain ⟨k, rfl, hik, hkj, hu, n, hw⟩ := hrel
          have hcw2 : ∀ t, t < len → wr.cell? ⟨blk, off + t, none⟩ = some (.int .u64 (G t : Int)) := fun t ht => by rw [hw]; exact hcw t ht
          have HU := Lib.hid hu
          have HW := Lib.hid hw
          clear hu hw hcw hfw
          by_cases hle : k ≤ j
          · have hleI : (k : Int) ≤ (j : Int) := by omega
            go_wp2_with fail
            go_quiet (first | (go_at_call 96; refine Calls.quiet_of_same (less_any _ _ _)))
            go_wp2_with fail
            · have hl : ltU (G k) (G a) = true := by assumption
              go_roundw
              case rel => exact ⟨k + 1, by go_num, by omega, by omega, fun t h1 h2 => by
                rcases Nat.lt_or_ge t k with h3 | h3
                · exact HU.out t h1 h3
                · rw [show t = k by omega]; exact hl, n + nq, by rw [HW.out, World.drewN_drewN]⟩
              case measure => simp [sInt]; omega
            · have hl : ltU (G k) (G a) = false := by assumption
              go_meet
              exact ⟨k, rfl, hik, hkj, HU.out, fun _ => hl, n + nq, by rw [HW.out, World.drewN_drewN]⟩
          · have hleI : ¬ (k : Int) ≤ (j : Int) := by omega
            go_wp2_with fail
            go_quiet (first | (go_at_call 96; refine Calls.quiet_of_same (less_any _ _ _)))
            go_wp2_with fail
            go_meet
            exact ⟨k, rfl, hik, hkj, HU.out, fun h => absurd h hle, n + nq, by rw [HW.out, World.drewN_drewN]⟩
      case rest =>
      obtain ⟨i', rfl, hii, hij', hu, hu2, n1, hw1⟩ := hcut
      have HU := Lib.hid hu
      have HU2 := Lib.hid hu2
      have HW1 := Lib.hid hw1
      clear hu hu2 hw1
      go_upto_block 8 with fail
      go_cut [11] (fun s11 wx => ∃ j' : Nat, s11 = .int .i64 j' ∧ j' ≤ j ∧ i' ≤ j' + 1 ∧ (∀ t, j' < t → t ≤ j → ltU (G t) (G a) = false) ∧ (i' ≤ j' → ltU (G j') (G a) = true) ∧ ∃ n, wx = W1.drewN n)
      case first =>
        go_wp2_with fail
        go_loopw [11] (fun s11 wr => ∃ j' : Nat, s11 = .int .i64 j' ∧ j' ≤ j ∧ i' ≤ j' + 1 ∧ (∀ t, j' < t → t ≤ j → ltU (G t) (G a) = false) ∧ ∃ n, wr = W1.drewN n) (fun s11 _ => (sInt s11).toNat)
        case atStart => exact ⟨j, rfl, Nat.le_refl _, hij', fun t h1 h2 => by omega, n1, HW1.out⟩
        case round =>
          obtain ⟨k, rfl, hkj, hik, hd, n, hw⟩ := hrel
          have hcw2 : ∀ t, t < len → wr.cell? ⟨blk, off + t, none⟩ = some (.int .u64 (G t : Int)) := fun t ht => by rw [hw]; exact hcw t ht
          have HD := Lib.hid hd
          have HW := Lib.hid hw
          clear hd hw hcw hfw
          by_cases hle : i' ≤ k
          · have hleI : (i' : Int) ≤ (k : Int) := by omega
            go_wp2_with fail
            go_quiet (first | (go_at_call 96; refine Calls.quiet_of_same (less_any _ _ _)))
            go_wp2_with fail
            · have hl : ltU (G k) (G a) = false := by
                have : (!ltU (G k) (G a)) = true := by assumption
                simpa using this
              go_roundw
              case rel => exact ⟨k - 1, by go_num, by omega, by omega, fun t h1 h2 => by
                rcases Nat.lt_or_ge k t with h3 | h3
                · exact HD.out t h3 h2
                · rw [show t = k by omega]; exact hl, n + nq, by rw [HW.out, World.drewN_drewN]⟩
              case measure => simp [sInt]; omega
            · have hl : ltU (G k) (G a) = true := by
                have : (!ltU (G k) (G a)) = false := by assumption
                simpa using this
              go_meet
              exact ⟨k, rfl, hkj, hik, HD.out, fun _ => hl, n + nq, by rw [HW.out, World.drewN_drewN]⟩
          · have hleI : ¬ (i' : Int) ≤ (k : Int) := by omega
            go_wp2_with fail
            go_quiet (first | (go_at_call 96; refine Calls.quiet_of_same (less_any _ _ _)))
            go_wp2_with fail
            go_meet
            exact ⟨k, rfl, hkj, hik, HD.out, fun h => absurd h hle, n + nq, by rw [HW.out, World.drewN_drewN]⟩
      case rest =>
      obtain ⟨j', rfl, hjj, hij2, hd, hd2, n2, hw2⟩ := hcut
      have HD := Lib.hid hd
      have HD2 := Lib.hid hd2
      have HA2 := Lib.hid (at_drewN HA.out n2)
      have hcw2 : ∀ t, t < len → wc.cell? ⟨blk, off + t, none⟩ = some (.int .u64 (G t : Int)) := fun t ht => by rw [hw2]; exact hcw t ht
      have hfw2 : ∀ t, t < len → wc.frozen? ⟨blk, off + t, none⟩ = false := fun t ht => by rw [hw2]; exact hfw t ht
      rw [← hw2] at HA2
      clear hd hd2 hw2 hcw hfw HW1
      have HGp := Lib.hid (show G a = p by rw [HG.out]; exact HS.out.1)
      by_cases hle : i' ≤ j'
      · have hleI : ¬ (j' : Int) < (i' : Int) := by omega
        have h1 := HU2.out (by omega)
        have h2 := HD2.out hle
        have hne : i' ≠ j' := fun e => by rw [e] at h1; rw [h1] at h2; cases h2
        have H1 := Lib.hid h1
        have H2 := Lib.hid h2
        have hlt : i' < j' := by omega
        have hne2 : ¬ i' = j' := hne
        clear h1 h2 hne hle
        go_wp2_with fail
        go_region
        all_goals go_wp2
        go_roundw
        case rel =>
          have hs := HS.out
          refine ⟨i' + 1, j' - 1, swp dk i' j', by go_num, by go_num, by omega, by omega, by omega, by rw [size_swp]; exact HK.out, permIn_trans _ _ _ _ _ HP.out (swp_permIn _ _ _ _ _ (by omega) (by omega) (by omega) (by omega) (by rw [HK.out]; omega)), ?_, ?_⟩
          · have e1 := HGp.out
            refine ppt_swap hs (by omega) hii hjj hlt (by omega) (by rw [HK.out]; omega) (fun t h1 h2 => ?_) (fun t h1 h2 => ?_) ?_ ?_
            · rw [← HG.out, ← e1]; exact HU.out t h1 h2
            · rw [← HG.out, ← e1]; exact HD.out t h1 h2
            · rw [← HG.out, ← e1]; exact H1.out
            · rw [← HG.out, ← e1]; exact H2.out
          · first
              | exact at_swap1 HA2.out HB.out (by rw [HK.out]; omega) (by rw [HK.out]; omega) (HG.out _) (HG.out _)
              | exact at_swap2 HA2.out HB.out (by rw [HK.out]; omega) (by rw [HK.out]; omega) (HG.out _) (HG.out _)
        case measure => simp [sInt]; omega
      · have hleI : (j' : Int) < (i' : Int) := by omega
        by_cases hja : a = j'
        · subst hja
          go_wp2_with fail
          go_region
          all_goals go_wp2_with fail
          all_goals go_ret2
          · have hs := HS.out
            have e1 := HGp.out
            obtain ⟨f1, f2⟩ := ppt_end (j := a) hs.1 (fun t h1 h2 => by
                rcases Nat.lt_or_ge t i with h3 | h3
                · exact hs.2.1 t h1 h3
                · rw [← HG.out, ← e1]; exact HU.out t h3 (by omega)) (fun t h1 h2 => by
                rcases Nat.lt_or_ge j t with h3 | h3
                · exact hs.2.2 t h3 h2
                · rw [← HG.out, ← e1]; exact HD.out t h1 (by omega)) (by omega) (by omega) (by rw [HK.out]; omega)
            refine ⟨a, swp dk a a, _, rfl, by omega, by omega, permIn_trans _ _ _ _ _ HP.out (swp_permIn _ _ _ _ _ (by omega) (by omega) (by omega) (by omega) (by rw [HK.out]; omega)), f1, f2, ?_⟩
            first
              | exact at_swap1 HA2.out HB.out (by rw [HK.out]; omega) (by rw [HK.out]; omega) (HG.out _) (HG.out _)
              | exact at_swap2 HA2.out HB.out (by rw [HK.out]; omega) (by rw [HK.out]; omega) (HG.out _) (HG.out _)
        · go_wp2_with fail
          go_region
          all_goals go_wp2_with fail
          all_goals go_ret2
          · have hs := HS.out
            have e1 := HGp.out
            obtain ⟨f1, f2⟩ := ppt_end (j := j') hs.1 (fun t h1 h2 => by
                rcases Nat.lt_or_ge t i with h3 | h3
                · exact hs.2.1 t h1 h3
                · rw [← HG.out, ← e1]; exact HU.out t h3 (by omega)) (fun t h1 h2 => by
                rcases Nat.lt_or_ge j t with h3 | h3
                · exact hs.2.2 t h3 h2
                · rw [← HG.out, ← e1]; exact HD.out t h1 (by omega)) (by omega) (by omega) (by rw [HK.out]; omega)
            refine ⟨j', swp dk j' a, _, rfl, by omega, by omega, permIn_trans _ _ _ _ _ HP.out (swp_permIn _ _ _ _ _ (by omega) (by omega) (by omega) (by omega) (by rw [HK.out]; omega)), f1, f2, ?_⟩
            first
              | exact at_swap1 HA2.out HB.out (by rw [HK.out]; omega) (by rw [HK.out]; omega) (HG.out _) (HG.out _)
              | exact at_swap2 HA2.out HB.out (by rw [HK.out]; omega) (by rw [HK.out]; omega) (HG.out _) (HG.out _)
  · have hleI : (j' : Int) < (i' : Int) := by omega
    by_cases hja : a = j'
    · subst hja
      go_wp2_with fail
      go_region
      all_goals go_wp2_with fail
      all_goals go_ret2
      · have hs := HS.out
        have e1 := HGp.out
        obtain ⟨f1, f2⟩ := ppt_end (j := a) hs.1 (fun t h1 h2 => by
            rcases Nat.lt_or_ge t i with h3 | h3
            · exact hs.2.1 t h1 h3
            · rw [← HG.out, ← e1]; exact HU.out t h3 (by omega)) (fun t h1 h2 => by
            rcases Nat.lt_or_ge j t with h3 | h3
            · exact hs.2.2 t h3 h2
            · rw [← HG.out, ← e1]; exact HD.out t h1 (by omega)) (by omega) (by omega) (by rw [HK.out]; omega)
        refine ⟨a, swp dk a a, _, rfl, by omega, by omega, permIn_trans _ _ _ _ _ HP.out (swp_permIn _ _ _ _ _ (by omega) (by omega) (by omega) (by omega) (by rw [HK.out]; omega)), f1, f2, ?_⟩
        first
          | exact at_swap1 HA2.out HB.out (by rw [HK.out]; omega) (by rw [HK.out]; omega) (HG.out _) (HG.out _)
          | exact at_swap2 HA2.out HB.out (by rw [HK.out]; omega) (by rw [HK.out]; omega) (HG.out _) (HG.out _)
    · go_wp2_with fail
      go_region
      all_goals go_wp2_with fail
      all_goals go_ret2
      · have hs := HS.out
        have e1 := HGp.out
        obtain ⟨f1, f2⟩ := ppt_end (j := j') hs.1 (fun t h1 h2 => by
            rcases Nat.lt_or_ge t i with h3 | h3
            · exact hs.2.1 t h1 h3
            · rw [← HG.out, ← e1]; exact HU.out t h3 (by omega)) (fun t h1 h2 => by
            rcases Nat.lt_or_ge j t with h3 | h3
            · exact hs.2.2 t h3 h2
            · rw [← HG.out, ← e1]; exact HD.out t h1 (by omega)) (by omega) (by omega) (by rw [HK.out]; omega)
        refine ⟨j', swp dk j' a, _, rfl, by omega, by omega, permIn_trans _ _ _ _ _ HP.out (swp_permIn _ _ _ _ _ (by omega) (by omega) (by omega) (by omega) (by rw [HK.out]; omega)), f1, f2, ?_⟩
        first
          | exact at_swap1 HA2.out HB.out (by rw [HK.out]; omega) (by rw [HK.out]; omega) (HG.out _) (HG.out _)
          | exact at_swap2 HA2.out HB.out (by rw [HK.out]; omega) (by rw [HK.out]; omega) (HG.out _) (HG.out _)
end Go.Proofs.Ytdphpjlhkamadaa
namespace Go.Proofs.Ytdphpjlhkamadaa
open Go.RowKit
open Go.Sort (PermIn SortedIn SWO swp Holds putRow grow At size_swp permIn_refl permIn_trans swp_permIn swp_get)
set_option linter.unusedSimpArgs false
set_option linter.unusedVariables false
set_option maxRecDepth 100000
/-- What two scans have found: below i none is greater than the pivot, above j each one is. -/
def PEq (a i j b p : Nat) (d : Array Nat) : Prop := d[a]! = p ∧ (∀ t, a ≤ t → t < i → ltU p d[t]! = false) ∧ (∀ t, j < t → t < b → ltU p d[t]! = true)
theorem peq_start {a b pv : Nat} {d : Array Nat} (h1 : a ≤ pv) (h2 : pv < b) (h3 : b ≤ d.size) : PEq a (a + 1) (b - 1) b d[pv]! (swp d a pv) := by
  have g := swp_get d (i := a) (j := pv) (by omega) (by omega)
  refine ⟨?_, fun t ht1 ht2 => ?_, fun t ht1 ht2 => by omega⟩
  · rw [g]
    split
    · rename_i h; rw [← h]
    · rw [if_pos rfl]
  · have : t = a := by omega
    subst this
    rw [g]
    split
    · rename_i h; rw [← h]; exact swoU.irrefl _
    · rw [if_pos rfl]; exact swoU.irrefl _
theorem peq_swap {a i j b p : Nat} {d : Array Nat} {i' j' : Nat} (h : PEq a i j b p d) (ha : a < i') (hi : i ≤ i') (hj : j' ≤ j) (hij : i' < j') (hb : j' < b) (hs : b ≤ d.size)
    (hu : ∀ t, i ≤ t → t < i' → ltU p d[t]! = false) (hd : ∀ t, j' < t → t ≤ j → ltU p d[t]! = true) (h1 : ltU p d[i']! = true) (h2 : ltU p d[j']! = false) :
    PEq a (i' + 1) (j' - 1) b p (swp d i' j') := by
  have g := swp_get d (i := i') (j := j') (by omega) (by omega)
  refine ⟨by rw [g, if_neg (by omega), if_neg (by omega)]; exact h.1, fun t ht1 ht2 => ?_, fun t ht1 ht2 => ?_⟩
  · rw [g, if_neg (by omega)]
    split
    · exact h2
    · rcases Nat.lt_or_ge t i with h3 | h3
      · exact h.2.1 t ht1 h3
      · exact hu t h3 (by omega)
  · rw [g]
    split
    · exact h1
    · rw [if_neg (by omega)]
      rcases Nat.lt_or_ge j t with h3 | h3
      · exact h.2.2 t h3 ht2
      · exact hd t (by omega) h3
set_option maxHeartbeats 3200000 in
theorem partEq_any (w : World) (blk off len cap a b pv : Nat) (d : Array Nat) (hlen : d.size = len) (h0 : Holds eU w blk off d) (hb : blk < w.heap.size) (hap : a ≤ pv) (hpb : pv < b) (hbd : b ≤ len) (hsz : len < 4611686018427387904) :
    Calls Try.prog 97 #[.slice (some ⟨blk, off, none⟩) len cap, .int .i64 a, .int .i64 b, .int .i64 pv] w fun e w' => ∃ (mid : Nat) (d' : Array Nat), e = .returned (.int .i64 mid) ∧ a < mid ∧ mid ≤ b ∧ PermIn a b d d' ∧
      (∀ t, a ≤ t → t < mid → ltU d[pv]! d'[t]! = false) ∧ (∀ t, mid ≤ t → t < b → ltU d[pv]! d'[t]! = true) ∧ At eU w blk off d' w' := by
  have hS0 := peq_start hap hpb (by rw [hlen]; exact hbd)
  obtain ⟨p, hp⟩ : ∃ p, p = d[pv]! := ⟨_, rfl⟩
  rw [← hp] at hS0 ⊢
  obtain ⟨G, hG, hcw, hfw⟩ := row_fam (At.refl h0) h0 hb rfl
  rw [hlen] at hcw hfw
  have HG := Lib.hid hG
  have HS0 := Lib.hid hS0
  have HA0 := Lib.hid (At.refl h0)
  have H0 := Lib.hid h0
  have HL := Lib.hid hlen
  have HB := Lib.hid hb
  clear hG hS0 h0 hlen hb hp
  go_enter Try.func97, Try.ntmps97
  go_upto_region 2 with fail
  go_cut [] (fun wx => At eU w blk off (swp d a pv) wx)
  case first =>
    by_cases hEq : a = pv
    · subst hEq
      go_region
      all_goals go_wp2_with fail
      all_goals go_meet
      all_goals first
        | exact at_swap1 HA0.out HB.out (by rw [HL.out]; omega) (by rw [HL.out]; omega) (HG.out _) (HG.out _)
        | exact at_swap2 HA0.out HB.out (by rw [HL.out]; omega) (by rw [HL.out]; omega) (HG.out _) (HG.out _)
    · go_region
      all_goals go_wp2_with fail
      all_goals go_meet
      all_goals first
        | exact at_swap1 HA0.out HB.out (by rw [HL.out]; omega) (by rw [HL.out]; omega) (HG.out _) (HG.out _)
        | exact at_swap2 HA0.out HB.out (by rw [HL.out]; omega) (by rw [HL.out]; omega) (HG.out _) (HG.out _)
  case rest =>
  have HA1 := Lib.hid hcut
  clear hcut hcw hfw HG
  clear G
  go_wp2_with fail
  go_loopw [9, 10] (fun s9 s10 wr => ∃ (i j : Nat) (dk : Array Nat), s9 = .int .i64 i ∧ s10 = .int .i64 j ∧ a < i ∧ i ≤ j + 1 ∧ j < b ∧ dk.size = len ∧ PermIn a b d dk ∧ PEq a i j b p dk ∧ At eU w blk off dk wr) (fun s9 s10 _ => (sInt s10 + 1 - sInt s9).toNat)
  case atStart => exact ⟨a + 1, b - 1, swp d a pv, by go_num, by go_num, by omega, by omega, by omega, by rw [size_swp]; exact HL.out, swp_permIn _ _ _ _ _ (by omega) (by omega) (by omega) (by omega) (by rw [HL.out]; omega), HS0.out, HA1.out⟩
  case round =>
    obtain ⟨i, j, dk, rfl, rfl, hai, hij, hjb, hsk, hP, hS, hA⟩ := hrel
    obtain ⟨G, hG, hcw, hfw⟩ := row_fam hA H0.out HB.out (hsk.trans HL.out.symm)
    rw [HL.out] at hcw hfw
    have HG := Lib.hid hG
    have HP := Lib.hid hP
    have HS := Lib.hid hS
    have HA := Lib.hid hA
    have HK := Lib.hid hsk
    clear hG hP hS hA hsk HA1 HA0 HS0
    obtain ⟨W1, hW1⟩ : ∃ x : World, x = wr := ⟨_, rfl⟩
    rw [← hW1] at hcw hfw HA ⊢
    clear hW1
    go_upto_block 2 with fail
    go_cut [9] (fun s9 wx => ∃ i' : Nat, s9 = .int .i64 i' ∧ i ≤ i' ∧ i' ≤ j + 1 ∧ (∀ t, i ≤ t → t < i' → ltU (G a) (G t) = false) ∧ (i' ≤ j → ltU (G a) (G i') = true) ∧ ∃ n, wx = W1.drewN n)
    case first =>
      go_wp2_with fail
      go_loopw [9] (fun s9 wr => ∃ i' : Nat, s9 = .int .i64 i' ∧ i ≤ i' ∧ i' ≤ j + 1 ∧ (∀ t, i ≤ t → t < i' → ltU (G a) (G t) = false) ∧ ∃ n, wr = W1.drewN n) (fun s9 _ => j + 1 - (sInt s9).toNat)
      case atStart => exact ⟨i, rfl, Nat.le_refl _, hij, fun t h1 h2 => by omega, 0, rfl⟩
      case round =>
        obtain ⟨k, rfl, hik, hkj, hu, n, hw⟩ := hrel
        have hcw2 : ∀ t, t < len → wr.cell? ⟨blk, off + t, none⟩ = some (.int .u64 (G t : Int)) := fun t ht => by rw [hw]; exact hcw t ht
        have HU := Lib.hid hu
        have HW := Lib.hid hw
        clear hu hw hcw hfw
        by_cases hle : k ≤ j
        · have hleI : (k : Int) ≤ (j : Int) := by omega
          go_wp2_with fail
          go_quiet (first | (go_at_call 96; refine Calls.quiet_of_same (less_any _ _ _)))
          go_wp2_with fail
          · have hl : ltU (G a) (G k) = false := by
              have : (!ltU (G a) (G k)) = true := by assumption
              simpa using this
            go_roundw
            case rel => exact ⟨k + 1, by go_num, by omega, by omega, fun t h1 h2 => by
              rcases Nat.lt_or_ge t k with h3 | h3
              · exact HU.out t h1 h3
              · rw [show t = k by omega]; exact hl, n + nq, by rw [HW.out, World.drewN_drewN]⟩
            case measure => simp [sInt]; omega
          · have hl : ltU (G a) (G k) = true := by
              have : (!ltU (G a) (G k)) = false := by assumption
              simpa using this
            go_meet
            exact ⟨k, rfl, hik, hkj, HU.out, fun _ => hl, n + nq, by rw [HW.out, World.drewN_drewN]⟩
        · have hleI : ¬ (k : Int) ≤ (j : Int) := by omega
          go_wp2_with fail
          go_quiet (first | (go_at_call 96; refine Calls.quiet_of_same (less_any _ _ _)))
          go_wp2_with fail
          go_meet
          exact ⟨k, rfl, hik, hkj, HU.out, fun h => absurd h hle, n + nq, by rw [HW.out, World.drewN_drewN]⟩
    case rest =>
    obtain ⟨i', rfl, hii, hij', hu, hu2, n1, hw1⟩ := hcut
    have HU := Lib.hid hu
    have HU2 := Lib.hid hu2
    have HW1 := Lib.hid hw1
    clear hu hu2 hw1
    go_upto_block 4 with fail
    go_cut [10] (fun s10 wx => ∃ j' : Nat, s10 = .int .i64 j' ∧ j' ≤ j ∧ i' ≤ j' + 1 ∧ (∀ t, j' < t → t ≤ j → ltU (G a) (G t) = true) ∧ (i' ≤ j' → ltU (G a) (G j') = false) ∧ ∃ n, wx = W1.drewN n)
    case first =>
      go_wp2_with fail
      go_loopw [10] (fun s10 wr => ∃ j' : Nat, s10 = .int .i64 j' ∧ j' ≤ j ∧ i' ≤ j' + 1 ∧ (∀ t, j' < t → t ≤ j → ltU (G a) (G t) = true) ∧ ∃ n, wr = W1.drewN n) (fun s10 _ => (sInt s10).toNat)
      case atStart => exact ⟨j, rfl, Nat.le_refl _, hij', fun t h1 h2 => by omega, n1, HW1.out⟩
      case round =>
        obtain ⟨k, rfl, hkj, hik, hd, n, hw⟩ := hrel
        have hcw2 : ∀ t, t < len → wr.cell? ⟨blk, off + t, none⟩ = some (.int .u64 (G t : Int)) := fun t ht => by rw [hw]; exact hcw t ht
        have HD := Lib.hid hd
        have HW := Lib.hid hw
        clear hd hw hcw hfw
        by_cases hle : i' ≤ k
        · have hleI : (i' : Int) ≤ (k : Int) := by omega
          go_wp2_with fail
          go_quiet (first | (go_at_call 96; refine Calls.quiet_of_same (less_any _ _ _)))
          go_wp2_with fail
          · have hl : ltU (G a) (G k) = true := by assumption
            go_roundw
            case rel => exact ⟨k - 1, by go_num, by omega, by omega, fun t h1 h2 => by
              rcases Nat.lt_or_ge k t with h3 | h3
              · exact HD.out t h3 h2
              · rw [show t = k by omega]; exact hl, n + nq, by rw [HW.out, World.drewN_drewN]⟩
            case measure => simp [sInt]; omega
          · have hl : ltU (G a) (G k) = false := by assumption
            go_meet
            exact ⟨k, rfl, hkj, hik, HD.out, fun _ => hl, n + nq, by rw [HW.out, World.drewN_drewN]⟩
        · have hleI : ¬ (i' : Int) ≤ (k : Int) := by omega
          go_wp2_with fail
          go_quiet (first | (go_at_call 96; refine Calls.quiet_of_same (less_any _ _ _)))
          go_wp2_with fail
          go_meet
          exact ⟨k, rfl, hkj, hik, HD.out, fun h => absurd h hle, n + nq, by rw [HW.out, World.drewN_drewN]⟩
    case rest =>
    obtain ⟨j', rfl, hjj, hij2, hd, hd2, n2, hw2⟩ := hcut
    have HD := Lib.hid hd
    have HD2 := Lib.hid hd2
    have HA2 := Lib.hid (at_drewN HA.out n2)
    have hcw2 : ∀ t, t < len → wc.cell? ⟨blk, off + t, none⟩ = some (.int .u64 (G t : Int)) := fun t ht => by rw [hw2]; exact hcw t ht
    have hfw2 : ∀ t, t < len → wc.frozen? ⟨blk, off + t, none⟩ = false := fun t ht => by rw [hw2]; exact hfw t ht
    rw [← hw2] at HA2
    clear hd hd2 hw2 hcw hfw HW1
    have HGp := Lib.hid (show G a = p by rw [HG.out]; exact HS.out.1)
    by_cases hle : i' ≤ j'
    · have hleI : ¬ (j' : Int) < (i' : Int) := by omega
      have h1 := HU2.out (by omega)
      have h2 := HD2.out hle
      have hne : i' ≠ j' := fun e => by rw [e] at h1; rw [h1] at h2; cases h2
      have H1 := Lib.hid h1
      have H2 := Lib.hid h2
      have hlt : i' < j' := by omega
      have hne2 : ¬ i' = j' := hne
      clear h1 h2 hne hle
      go_wp2_with fail
      go_region
      all_goals go_wp2
      go_roundw
      case rel =>
        have hs := HS.out
        refine ⟨i' + 1, j' - 1, swp dk i' j', by go_num, by go_num, by omega, by omega, by omega, by rw [size_swp]; exact HK.out, permIn_trans _ _ _ _ _ HP.out (swp_permIn _ _ _ _ _ (by omega) (by omega) (by omega) (by omega) (by rw [HK.out]; omega)), ?_, ?_⟩
        · have e1 := HGp.out
          refine peq_swap hs (by omega) hii hjj hlt (by omega) (by rw [HK.out]; omega) (fun t h1 h2 => ?_) (fun t h1 h2 => ?_) ?_ ?_
          · rw [← HG.out, ← e1]; exact HU.out t h1 h2
          · rw [← HG.out, ← e1]; exact HD.out t h1 h2
          · rw [← HG.out, ← e1]; exact H1.out
          · rw [← HG.out, ← e1]; exact H2.out
        · first
            | exact at_swap1 HA2.out HB.out (by rw [HK.out]; omega) (by rw [HK.out]; omega) (HG.out _) (HG.out _)
            | exact at_swap2 HA2.out HB.out (by rw [HK.out]; omega) (by rw [HK.out]; omega) (HG.out _) (HG.out _)
      case measure => simp [sInt]; omega
    · have hleI : (j' : Int) < (i' : Int) := by omega
      go_wp2_with fail
      go_ret
      have hs := HS.out
      have e1 := HGp.out
      refine ⟨i', dk, rfl, by omega, by omega, HP.out, fun t h1 h2 => ?_, fun t h1 h2 => ?_, HA2.out⟩
      · rcases Nat.lt_or_ge t i with h3 | h3
        · exact hs.2.1 t h1 h3
        · rw [← HG.out, ← e1]; exact HU.out t h3 h2
      · rcases Nat.lt_or_ge j t with h3 | h3
        · exact hs.2.2 t h3 h2
        · rw [← HG.out, ← e1]; exact HD.out t (by omega) h3
end Go.Proofs.Ytdphpjlhkamadaa
