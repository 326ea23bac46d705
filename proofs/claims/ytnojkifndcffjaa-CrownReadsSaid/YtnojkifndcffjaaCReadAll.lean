/- Contract: what Read answers of any two sectors. -/
import Derived.Test.YtnojkifndcffjaaCPick
import Derived.Test.YtnojkifndcffjaaCOddB
import Derived.Test.YtnojkifndcffjaaCOddC
namespace Go.Proofs.Ytnojkifndcffjaa
open Go.RowKit
set_option linter.unusedSimpArgs false
set_option linter.unusedVariables false
theorem stored_no {w : World} {gs : Nat} {b : DB} {dur : List (List Nat)} {pend : List (Nat × List Nat)} {nw bud : Int} (h : Disk w gs b dur pend nw bud) (i : Nat) (hi : i < dur.length) (hi2 : i < 2) (s : List Nat) (hs : (applied pend dur)[i]? = some s) (hby : ∀ b ∈ s, b < 256) (hno : errOf s ≠ 3 ∧ ¬ OwnC s i) :
    ∃ x y z : Int, Calls Try.prog 35 #[.pointer (some ⟨gs, 0, none⟩), .int .i64 (i : Int)] w fun e w' => e = .returned (.tuple #[.agg #[.int .u32 x, .int .u8 y, .int .u32 z], .bool false]) ∧ Below w.heap.size w w' := by
  by_cases h0 : errOf s ≠ 0 ∨ (dataOf s).length ≠ 1
  · exact ⟨0, 0, 0, stored_err h i hi s hs h0⟩
  · have e0 : errOf s = 0 := Classical.byContradiction fun e => h0 (.inl e)
    have e1 : (dataOf s).length = 1 := Classical.byContradiction fun e => h0 (.inr e)
    obtain ⟨_, _, _, q2, q3, _, _, q4⟩ := parts_page hby e0
    have hd := data_half e1
    have hsm : halfOf s < 256 := q4 _ (by rw [hd]; simp)
    by_cases e2 : halfOf s ≤ 1
    · by_cases e5 : genOf s % 2 = i
      · exact ⟨_, _, _, stored_kind h i hi s _ _ _ _ _ hs e0 hd rfl rfl rfl rfl hsm e2 e5 q2 fun hk => hno.2 ⟨e0, e1, e2, hk.1, hk.2, e5⟩⟩
      · exact ⟨_, _, _, stored_place h i hi s _ _ _ _ _ hs e0 hd rfl rfl rfl rfl hsm e2 e5 q2⟩
    · exact ⟨_, _, _, stored_half h i hi s _ _ _ _ _ hs e0 hd rfl rfl rfl rfl hsm e2⟩
set_option maxRecDepth 100000 in
set_option maxHeartbeats 4000000 in
theorem cread_no {w : World} {gs : Nat} {b : DB} {dur : List (List Nat)} {pend : List (Nat × List Nat)} {nw bud : Int} (h : Disk w gs b dur pend nw bud) (hl : 4 ≤ dur.length) (o : Nat → Option (Nat × Nat × Nat)) (k : Nat) (hk : k < 2) (ho : ∀ i, i < k → ∃ s, (applied pend dur)[i]? = some s ∧ Holds s i (o i)) (sk : List Nat) (hsk : (applied pend dur)[k]? = some sk) (hby : ∀ b ∈ sk, b < 256) (hlk : sk.length = 512) (hno : errOf sk ≠ 3 ∧ ¬ OwnC sk k) :
    Calls Try.prog 13 #[.pointer (some ⟨gs, 0, none⟩)] w fun e w' => e = .returned (.tuple #[.agg #[.int .u32 0, .int .u8 0, .int .u32 0], .int .i64 (k : Int), .int .i64 7]) ∧ Below w.heap.size w w' := by
  have hn1 : ¬ (dur.length : Int) < 4 := by omega
  have hb0 := (Below.refl w.heap.size w).alloc (Nat.le_refl _) (.cells #[.int .u32 0, .int .u8 0, .int .u32 0] 24)
  have HSc := hide (sectors_any (h.below hb0))
  have HD := Lib.hid h
  have HO := Lib.hid ho
  have HSK := Lib.hid hsk
  have HNO := Lib.hid hno
  have HBYK := Lib.hid hby
  clear h ho hb0 hsk hno hby
  go_enter Try.func13, Try.ntmps13
  go_wp2_with (first
    | (go_at_call 34; (with_reducible refine (unhide HSc).mono ?_); rintro e w1 ⟨rfl, rfl⟩))
  go_loopw [6, 14] (fun f t x => RdK w o k f t x) (fun _ t _ => 2 - (intOf t).toNat)
  case atStart =>
    refine ⟨⟨0, 0, 0, 0, by omega, rfl, rfl, rfl, Go.heap_alloc2_new w _ _, ?_, below_two⟩, by simp [intOf]⟩
    rw [Go.heap_alloc_old _ _ (by simp)]
    exact Go.heap_alloc_new w _
  case round =>
    obtain ⟨⟨i, g, hf, se, hi, rfl, rfl, hbest, hL, hZ, hB⟩, hik⟩ := hrel
    have hik1 : i ≤ k := by simp [intOf] at hik; omega
    clear hik
    have lB : w.heap.size + 1 < wr.heap.size := by
      rcases Nat.lt_or_ge (w.heap.size + 1) wr.heap.size with h | h
      · exact h
      · rw [Array.getElem?_eq_none h] at hL; cases hL
    have hDr := HD.out.below hB
    have HDr := Lib.hid hDr
    have HL := Lib.hid hL
    have HZ := Lib.hid hZ
    have HB := Lib.hid hB
    have HBest := Lib.hid hbest
    by_cases hik2 : i < k
    · have hlt : i < 2 := by omega
      obtain ⟨s, hs, hh⟩ := HO.out i hik2
      have HBl := hide (blank_any hDr i (by omega) s hs)
      cases hoi : o i with
      | none =>
        rw [hoi] at hh
        have hh' : s = noughts := hh
        rw [decide_eq_true hh'] at HBl
        have hnx : bestOf o (i + 1) = bestOf o i := by rw [bestOf, hoi]
        have HNX := Lib.hid hnx
        clear hDr hL hZ hB hbest hs hh hh' hoi hnx
        go_wp2_with (first
          | (go_at_call 25; (with_reducible refine (unhide HBl).mono ?_); rintro e w2 ⟨rfl, rfl⟩))
        go_roundw
        case rel => exact ⟨⟨i + 1, g, hf, se, by omega, by go_num, by rw [HNX.out], by rw [HNX.out]; exact HBest.out, HL.out, HZ.out, HB.out⟩, by simp [intOf]; omega⟩
        case measure => simp [intOf]; omega
      | some c =>
        obtain ⟨g2, h2, s2⟩ := c
        rw [hoi] at hh
        obtain ⟨hh1, hh2, hh3, hh4, hh5⟩ := hh
        dsimp only at hh1 hh2 hh3 hh4 hh5
        rw [decide_eq_false (by rw [hh1]; exact crownSec_not)] at HBl
        have HSt := hide (stored_good hDr i (by omega) g2 h2 s2 (by rw [hs, hh1]) hh2 hh3 hh4 hh5)
        have HOI := Lib.hid hoi
        clear hDr hB hbest hs hh1 hoi
        cases hbo : bestOf o i with
        | none =>
          have hnx : bestOf o (i + 1) = some (g2, h2, s2) := by rw [bestOf, HOI.out, hbo]
          have HNX := Lib.hid hnx
          clear hnx hbo
          go_wp2_with (first
            | (go_at_call 25; (with_reducible refine (unhide HBl).mono ?_); rintro e w2 ⟨rfl, rfl⟩)
            | (go_at_call 35; (with_reducible refine (unhide HSt).mono ?_); rintro e w3 ⟨rfl, hb3⟩; go_loud (
               have g3 := (hb3.block (w.heap.size + 1) lB).trans hL;
               have z3 := (hb3.block w.heap.size (by omega)).trans hZ;
               obtain ⟨a0, a1, a2, f0, f1, f2⟩ := crown_facts g3;
               have l3 := Nat.lt_of_lt_of_le lB hb3.size;
               have n3 : ¬ w.heap.size + 1 = w3.heap.size := by omega;
               have HG3 := Lib.hid g3;
               have HZ3 := Lib.hid z3;
               have HB3 := Lib.hid (HB.out.trans (hb3.mono HB.out.size));
               clear g3 z3 hb3)))
          go_roundw
          case rel => exact ⟨rd_store HNX.out hlt HG3.out HZ3.out HB3.out _, by simp [intOf]; omega⟩
          case measure => simp [intOf]; omega
        | some l =>
          obtain ⟨lg, lh, ls⟩ := l
          have hb2 := HBest.out
          rw [hbo] at hb2
          obtain ⟨rfl, rfl, rfl⟩ : g = lg ∧ hf = lh ∧ se = ls := by
            injection hb2 with h1 h2
            injection h2 with h2 h3
            exact ⟨h1, h2, h3⟩
          by_cases hgt : g < g2
          · have hnx : bestOf o (i + 1) = some (g2, h2, s2) := by rw [bestOf, HOI.out, hbo]; exact if_pos hgt
            have hgti : (g2 : Int) > (g : Int) := by omega
            have hgti2 : (g : Int) < (g2 : Int) := by omega
            have HNX := Lib.hid hnx
            clear hnx hbo hb2 hgt
            go_wp2_with (first
              | (go_at_call 25; (with_reducible refine (unhide HBl).mono ?_); rintro e w2 ⟨rfl, rfl⟩)
              | (go_at_call 35; (with_reducible refine (unhide HSt).mono ?_); rintro e w3 ⟨rfl, hb3⟩; go_loud (
                 have g3 := (hb3.block (w.heap.size + 1) lB).trans hL;
                 have z3 := (hb3.block w.heap.size (by omega)).trans hZ;
                 obtain ⟨a0, a1, a2, f0, f1, f2⟩ := crown_facts g3;
                 have l3 := Nat.lt_of_lt_of_le lB hb3.size;
                 have n3 : ¬ w.heap.size + 1 = w3.heap.size := by omega;
                 have HG3 := Lib.hid g3;
                 have HZ3 := Lib.hid z3;
                 have HB3 := Lib.hid (HB.out.trans (hb3.mono HB.out.size));
                 clear g3 z3 hb3)))
            go_roundw
            case rel => exact ⟨rd_store HNX.out hlt HG3.out HZ3.out HB3.out _, by simp [intOf]; omega⟩
            case measure => simp [intOf]; omega
          · have hnx : bestOf o (i + 1) = some (g, hf, se) := by rw [bestOf, HOI.out, hbo]; exact if_neg hgt
            have hgti : ¬ (g2 : Int) > (g : Int) := by omega
            have HNX := Lib.hid hnx
            clear hnx hbo hb2 hgt
            go_wp2_with (first
              | (go_at_call 25; (with_reducible refine (unhide HBl).mono ?_); rintro e w2 ⟨rfl, rfl⟩)
              | (go_at_call 35; (with_reducible refine (unhide HSt).mono ?_); rintro e w3 ⟨rfl, hb3⟩; go_loud (
                 have g3 := (hb3.block (w.heap.size + 1) lB).trans hL;
                 have z3 := (hb3.block w.heap.size (by omega)).trans hZ;
                 obtain ⟨a0, a1, a2, f0, f1, f2⟩ := crown_facts g3;
                 have l3 := Nat.lt_of_lt_of_le lB hb3.size;
                 have n3 : ¬ w.heap.size + 1 = w3.heap.size := by omega;
                 have HG3 := Lib.hid g3;
                 have HZ3 := Lib.hid z3;
                 have HB3 := Lib.hid (HB.out.trans (hb3.mono HB.out.size));
                 clear g3 z3 hb3)))
            go_roundw
            case rel => exact ⟨rd_keep HNX.out hlt HG3.out HZ3.out HB3.out _, by simp [intOf]; omega⟩
            case measure => simp [intOf]; omega
    · obtain rfl : i = k := by omega
      have hne : sk ≠ noughts := fun e => HNO.out.1 (by rw [e]; exact err_noughts)
      have HBl := hide (blank_any hDr i (by omega) sk HSK.out)
      rw [decide_eq_false hne] at HBl
      obtain ⟨sx, sy, sz, hst⟩ := stored_no hDr i (by omega) hk sk HSK.out HBYK.out HNO.out
      have HSt := hide hst
      clear hst
      have hlt : (i : Int) < 2 := by omega
      clear hDr hB hbest hne
      go_wp2_with (first
        | (go_at_call 25; (with_reducible refine (unhide HBl).mono ?_); rintro e w2 ⟨rfl, rfl⟩)
        | (go_at_call 35; (with_reducible refine (unhide HSt).mono ?_); rintro e w3 ⟨rfl, hb3⟩; go_loud (
           have g3 := (hb3.block (w.heap.size + 1) lB).trans hL;
           have z3 := (hb3.block w.heap.size (by omega)).trans hZ;
           obtain ⟨a0, a1, a2, f0, f1, f2⟩ := crown_facts z3;
           have l3 := Nat.lt_of_lt_of_le lB hb3.size;
           have l3' : w.heap.size < w3.heap.size := by omega;
           have n3 : ¬ w.heap.size = w3.heap.size := by omega;
           have HZ3 := Lib.hid z3;
           have HB3 := Lib.hid (HB.out.trans (hb3.mono HB.out.size));
           clear g3 z3 hb3)))
      exact read_ret rfl rfl rfl rfl ((Go.heap_alloc_old _ _ (Array.getElem?_eq_some_iff.1 (set_crown HZ3.out)).1).trans (set_crown HZ3.out)) rfl ⟨rfl, (below_crown HB3.out (Nat.le_refl _)).alloc (below_crown HB3.out (Nat.le_refl _)).size _⟩
set_option maxRecDepth 100000 in
set_option maxHeartbeats 4000000 in
theorem cread_none {w : World} {gs : Nat} {b : DB} {dur : List (List Nat)} {pend : List (Nat × List Nat)} {nw bud : Int} (h : Disk w gs b dur pend nw bud) (hl : 4 ≤ dur.length) (o : Nat → Option (Nat × Nat × Nat)) (ho : ∀ i, i < 2 → ∃ s, (applied pend dur)[i]? = some s ∧ Holds s i (o i)) (hc : bestOf o 2 = none) :
    Calls Try.prog 13 #[.pointer (some ⟨gs, 0, none⟩)] w fun e w' => e = .returned (.tuple #[.agg #[.int .u32 0, .int .u8 0, .int .u32 0], .int .i64 0, .int .i64 3]) ∧ Below w.heap.size w w' := by
  have hn1 : ¬ (dur.length : Int) < 4 := by omega
  have hb0 := (Below.refl w.heap.size w).alloc (Nat.le_refl _) (.cells #[.int .u32 0, .int .u8 0, .int .u32 0] 24)
  have HSc := hide (sectors_any (h.below hb0))
  have HD := Lib.hid h
  have HO := Lib.hid ho
  have HC := Lib.hid hc
  clear h ho hc hb0
  go_enter Try.func13, Try.ntmps13
  go_wp2_with (first
    | (go_at_call 34; (with_reducible refine (unhide HSc).mono ?_); rintro e w1 ⟨rfl, rfl⟩))
  go_loopw [6, 14] (fun f t x => RdR w o f t x) (fun _ t _ => 2 - (intOf t).toNat)
  case atStart =>
    refine ⟨0, 0, 0, 0, by omega, rfl, rfl, rfl, Go.heap_alloc2_new w _ _, ?_, below_two⟩
    rw [Go.heap_alloc_old _ _ (by simp)]
    exact Go.heap_alloc_new w _
  case round =>
    obtain ⟨i, g, hf, se, hi, rfl, rfl, hbest, hL, hZ, hB⟩ := hrel
    have lB : w.heap.size + 1 < wr.heap.size := by
      rcases Nat.lt_or_ge (w.heap.size + 1) wr.heap.size with h | h
      · exact h
      · rw [Array.getElem?_eq_none h] at hL; cases hL
    have hDr := HD.out.below hB
    have HDr := Lib.hid hDr
    have HL := Lib.hid hL
    have HZ := Lib.hid hZ
    have HB := Lib.hid hB
    have HBest := Lib.hid hbest
    by_cases hlt : i < 2
    · obtain ⟨s, hs, hh⟩ := HO.out i hlt
      have HBl := hide (blank_any hDr i (by omega) s hs)
      cases hoi : o i with
      | none =>
        rw [hoi] at hh
        have hh' : s = noughts := hh
        rw [decide_eq_true hh'] at HBl
        have hnx : bestOf o (i + 1) = bestOf o i := by rw [bestOf, hoi]
        have HNX := Lib.hid hnx
        clear hDr hL hZ hB hbest hs hh hh' hoi hnx
        go_wp2_with (first
          | (go_at_call 25; (with_reducible refine (unhide HBl).mono ?_); rintro e w2 ⟨rfl, rfl⟩))
        go_roundw
        case rel => exact ⟨i + 1, g, hf, se, by omega, by go_num, by rw [HNX.out], by rw [HNX.out]; exact HBest.out, HL.out, HZ.out, HB.out⟩
        case measure => simp [intOf]; omega
      | some c =>
        obtain ⟨g2, h2, s2⟩ := c
        rw [hoi] at hh
        obtain ⟨hh1, hh2, hh3, hh4, hh5⟩ := hh
        dsimp only at hh1 hh2 hh3 hh4 hh5
        rw [decide_eq_false (by rw [hh1]; exact crownSec_not)] at HBl
        have HSt := hide (stored_good hDr i (by omega) g2 h2 s2 (by rw [hs, hh1]) hh2 hh3 hh4 hh5)
        have HOI := Lib.hid hoi
        clear hDr hB hbest hs hh1 hoi
        cases hbo : bestOf o i with
        | none =>
          have hnx : bestOf o (i + 1) = some (g2, h2, s2) := by rw [bestOf, HOI.out, hbo]
          have HNX := Lib.hid hnx
          clear hnx hbo
          go_wp2_with (first
            | (go_at_call 25; (with_reducible refine (unhide HBl).mono ?_); rintro e w2 ⟨rfl, rfl⟩)
            | (go_at_call 35; (with_reducible refine (unhide HSt).mono ?_); rintro e w3 ⟨rfl, hb3⟩; go_loud (
               have g3 := (hb3.block (w.heap.size + 1) lB).trans hL;
               have z3 := (hb3.block w.heap.size (by omega)).trans hZ;
               obtain ⟨a0, a1, a2, f0, f1, f2⟩ := crown_facts g3;
               have l3 := Nat.lt_of_lt_of_le lB hb3.size;
               have n3 : ¬ w.heap.size + 1 = w3.heap.size := by omega;
               have HG3 := Lib.hid g3;
               have HZ3 := Lib.hid z3;
               have HB3 := Lib.hid (HB.out.trans (hb3.mono HB.out.size));
               clear g3 z3 hb3)))
          go_roundw
          case rel => exact rd_store HNX.out hlt HG3.out HZ3.out HB3.out _
          case measure => simp [intOf]; omega
        | some l =>
          obtain ⟨lg, lh, ls⟩ := l
          have hb2 := HBest.out
          rw [hbo] at hb2
          obtain ⟨rfl, rfl, rfl⟩ : g = lg ∧ hf = lh ∧ se = ls := by
            injection hb2 with h1 h2
            injection h2 with h2 h3
            exact ⟨h1, h2, h3⟩
          by_cases hgt : g < g2
          · have hnx : bestOf o (i + 1) = some (g2, h2, s2) := by rw [bestOf, HOI.out, hbo]; exact if_pos hgt
            have hgti : (g2 : Int) > (g : Int) := by omega
            have hgti2 : (g : Int) < (g2 : Int) := by omega
            have HNX := Lib.hid hnx
            clear hnx hbo hb2 hgt
            go_wp2_with (first
              | (go_at_call 25; (with_reducible refine (unhide HBl).mono ?_); rintro e w2 ⟨rfl, rfl⟩)
              | (go_at_call 35; (with_reducible refine (unhide HSt).mono ?_); rintro e w3 ⟨rfl, hb3⟩; go_loud (
                 have g3 := (hb3.block (w.heap.size + 1) lB).trans hL;
                 have z3 := (hb3.block w.heap.size (by omega)).trans hZ;
                 obtain ⟨a0, a1, a2, f0, f1, f2⟩ := crown_facts g3;
                 have l3 := Nat.lt_of_lt_of_le lB hb3.size;
                 have n3 : ¬ w.heap.size + 1 = w3.heap.size := by omega;
                 have HG3 := Lib.hid g3;
                 have HZ3 := Lib.hid z3;
                 have HB3 := Lib.hid (HB.out.trans (hb3.mono HB.out.size));
                 clear g3 z3 hb3)))
            go_roundw
            case rel => exact rd_store HNX.out hlt HG3.out HZ3.out HB3.out _
            case measure => simp [intOf]; omega
          · have hnx : bestOf o (i + 1) = some (g, hf, se) := by rw [bestOf, HOI.out, hbo]; exact if_neg hgt
            have hgti : ¬ (g2 : Int) > (g : Int) := by omega
            have HNX := Lib.hid hnx
            clear hnx hbo hb2 hgt
            go_wp2_with (first
              | (go_at_call 25; (with_reducible refine (unhide HBl).mono ?_); rintro e w2 ⟨rfl, rfl⟩)
              | (go_at_call 35; (with_reducible refine (unhide HSt).mono ?_); rintro e w3 ⟨rfl, hb3⟩; go_loud (
                 have g3 := (hb3.block (w.heap.size + 1) lB).trans hL;
                 have z3 := (hb3.block w.heap.size (by omega)).trans hZ;
                 obtain ⟨a0, a1, a2, f0, f1, f2⟩ := crown_facts g3;
                 have l3 := Nat.lt_of_lt_of_le lB hb3.size;
                 have n3 : ¬ w.heap.size + 1 = w3.heap.size := by omega;
                 have HG3 := Lib.hid g3;
                 have HZ3 := Lib.hid z3;
                 have HB3 := Lib.hid (HB.out.trans (hb3.mono HB.out.size));
                 clear g3 z3 hb3)))
            go_roundw
            case rel => exact rd_keep HNX.out hlt HG3.out HZ3.out HB3.out _
            case measure => simp [intOf]; omega
    · obtain rfl : i = 2 := by omega
      have hlt2 : ¬ ((2 : Nat) : Int) < 2 := by omega
      have hcc := HC.out
      have hsome : (bestOf o 2).isSome = false := by rw [hcc]; rfl
      obtain ⟨a0, a1, a2, -, -, -⟩ := crown_facts hL
      obtain ⟨z0, z1, z2, f0, f1, f2⟩ := crown_facts hZ
      clear hDr hL hB hbest hcc
      go_wp2
      exact read_ret rfl rfl rfl rfl (set_crown HZ.out) rfl ⟨rfl, below_crown HB.out (Nat.le_refl _)⟩
/-- Read of any two sectors. -/
theorem cread_any {w : World} {gs : Nat} {b : DB} {dur : List (List Nat)} {pend : List (Nat × List Nat)} {nw bud : Int} (h : Disk w gs b dur pend nw bud) (hl : 4 ≤ dur.length) (s0 s1 : List Nat) (h0 : (applied pend dur)[0]? = some s0) (h1 : (applied pend dur)[1]? = some s1)
    (hb0 : ∀ b ∈ s0, b < 256) (hb1 : ∀ b ∈ s1, b < 256) (hl0 : s0.length = 512) (hl1 : s1.length = 512) :
    Calls Try.prog 13 #[.pointer (some ⟨gs, 0, none⟩)] w fun e w' => e = .returned (.tuple #[.agg #[.int .u32 ((readOf s0 s1).1.1 : Int), .int .u8 ((readOf s0 s1).1.2.1 : Int), .int .u32 ((readOf s0 s1).1.2.2 : Int)], .int .i64 ((readOf s0 s1).2.1 : Int), .int .i64 ((readOf s0 s1).2.2 : Int)]) ∧ Below w.heap.size w w' := by
  by_cases c0 : errOf s0 ≠ 3 ∧ ¬ OwnC s0 0
  · have e : readOf s0 s1 = ((0, 0, 0), 0, 7) := if_pos c0
    rw [e]
    exact cread_no h hl (fun _ => none) 0 (by omega) (fun i hi => by omega) s0 h0 hb0 hl0 c0
  · have ok0 : errOf s0 = 3 ∨ OwnC s0 0 := by
      by_cases e3 : errOf s0 = 3
      · exact .inl e3
      · exact .inr (Classical.byContradiction fun hn => c0 ⟨e3, hn⟩)
    have H0 : Holds s0 0 (pickO s0 s1 0) := holds_one hb0 hl0 ok0
    by_cases c1 : errOf s1 ≠ 3 ∧ ¬ OwnC s1 1
    · have e : readOf s0 s1 = ((0, 0, 0), 1, 7) := by unfold readOf; rw [if_neg c0, if_pos c1]
      rw [e]
      exact cread_no h hl (pickO s0 s1) 1 (by omega) (fun i hi => by
        obtain rfl : i = 0 := by omega
        exact ⟨s0, h0, H0⟩) s1 h1 hb1 hl1 c1
    · have ok1 : errOf s1 = 3 ∨ OwnC s1 1 := by
        by_cases e3 : errOf s1 = 3
        · exact .inl e3
        · exact .inr (Classical.byContradiction fun hn => c1 ⟨e3, hn⟩)
      have H1 : Holds s1 1 (pickO s0 s1 1) := holds_one hb1 hl1 ok1
      have ho : ∀ i, i < 2 → ∃ s, (applied pend dur)[i]? = some s ∧ Holds s i (pickO s0 s1 i) := fun i hi => by
        rcases (show i = 0 ∨ i = 1 by omega) with rfl | rfl
        · exact ⟨s0, h0, H0⟩
        · exact ⟨s1, h1, H1⟩
      rcases hbo : bestOf (pickO s0 s1) 2 with _ | c
      · have e : readOf s0 s1 = ((0, 0, 0), 0, 3) := by unfold readOf; rw [if_neg c0, if_neg c1, hbo]
        rw [e]
        exact cread_none h hl (pickO s0 s1) ho hbo
      · have e : readOf s0 s1 = (c, 0, 0) := by unfold readOf; rw [if_neg c0, if_neg c1, hbo]
        rw [e]
        exact cread_good h hl (pickO s0 s1) ho c hbo
end Go.Proofs.Ytnojkifndcffjaa
