/- Contracts: what stored and Read answer where a sector can't be read. -/
import Derived.Test.YtnojkifndcffjaaCShow
import Derived.Test.YtnojkifndcffjaaParse
namespace Go.Proofs.Ytnojkifndcffjaa
open Go.RowKit
set_option linter.unusedSimpArgs false
set_option linter.unusedVariables false

theorem parse_broken (w : World) (A : Option Addr) (c : Nat) (l : List Nat) (hp : Bytes w w.heap.size (.slice A 512 c) l) (hb : Broken l) :
    Calls Try.prog 45 #[.slice A 512 c] w fun e w' => ∃ er : Int, (er == 0) = false ∧ e = .returned (.tuple #[.agg #[.int .u32 0, .int .u32 0, .int .u32 0, .int .u8 0, .slice none 0 0], .int .i64 er]) ∧ Below w.heap.size w w' := by
  by_cases hs : val (l.drop 508) = crc (l.take 508)
  · exact (parse_sealed w A c l hp hb.2.1 hs).mono fun e w' h => ⟨2, rfl, h.2.1 (hb.2.2 hs), h.1⟩
  · exact (parse_corrupt w A c l hp hb.2.1 hs).mono fun e w' h => ⟨7, rfl, h.1, h.2⟩
set_option maxRecDepth 100000 in
set_option maxHeartbeats 4000000 in
theorem stored_bad {w : World} {gs : Nat} {b : DB} {dur : List (List Nat)} {pend : List (Nat × List Nat)} {nw bud : Int} (h : Disk w gs b dur pend nw bud) (i : Nat) (hi : i < dur.length) (s : List Nat) (hs : (applied pend dur)[i]? = some s) (hbr : Broken s) :
    Calls Try.prog 35 #[.pointer (some ⟨gs, 0, none⟩), .int .i64 (i : Int)] w fun e w' => e = .returned (.tuple #[.agg #[.int .u32 0, .int .u8 0, .int .u32 0], .bool false]) ∧ Below w.heap.size w w' := by
  have hb0 := (Below.refl w.heap.size w).alloc (Nat.le_refl _) (.cells #[.int .u32 0, .int .u8 0, .int .u32 0] 24)
  have HRd := hide (read_any (h.below hb0) i hi _ hs)
  have HB0 := Lib.hid hb0
  have HBR := Lib.hid hbr
  clear hs h hb0 hbr
  go_enter Try.func35, Try.ntmps35
  go_wp2_with (first
    | (go_at_call 23; (with_reducible refine (unhide HRd).mono ?_); rintro e w1 ⟨g1, rfl, hM1, hb1⟩; go_loud (
       have HP := hide (parse_broken w1 (some ⟨g1, 0, none⟩) 512 s hM1.bytes HBR.out)))
    | (go_at_call 45; (with_reducible refine (unhide HP).mono ?_); rintro e w2 ⟨er, her, rfl, hb2⟩; go_loud (
       have hb12 := hb1.trans (hb2.mono hb1.size);
       have her2 : (er != 0) = true := (by rw [bne, her]; rfl);
       have her3 : ¬ er = 0 := (by rw [beq_eq_false_iff_ne] at her; exact her);
       have hbw2 := HB0.out.trans (hb12.mono HB0.out.size);
       have g4 : w2.heap[w.heap.size]? = _ := (hb12.block w.heap.size (by simp)).trans (Go.heap_alloc_new w _);
       have l4 : w.heap.size < w2.heap.size := Nat.lt_of_lt_of_le (by simp) hb12.size;
       have n4 : ¬ w.heap.size = w2.heap.size := by omega;
       obtain ⟨a0, a1, a2, f0, f1, f2⟩ := crown_facts g4;
       have HG4 := Lib.hid g4;
       have HBW := Lib.hid hbw2;
       clear g4 hb12 hbw2 hb1 hb2)))
  exact stored_ret rfl rfl rfl ((Go.heap_alloc_old _ _ (Array.getElem?_eq_some_iff.1 (set_crown HG4.out)).1).trans (set_crown HG4.out)) rfl ⟨rfl, (below_crown HBW.out (Nat.le_refl _)).alloc (below_crown HBW.out (Nat.le_refl _)).size _⟩
def RdK (w : World) (o : Nat → Option (Nat × Nat × Nat)) (k : Nat) (f t : Value) (x : World) : Prop := RdR w o f t x ∧ intOf t ≤ (k : Int)
set_option maxRecDepth 100000 in
set_option maxHeartbeats 4000000 in
theorem cread_bad {w : World} {gs : Nat} {b : DB} {dur : List (List Nat)} {pend : List (Nat × List Nat)} {nw bud : Int} (h : Disk w gs b dur pend nw bud) (hl : 4 ≤ dur.length) (o : Nat → Option (Nat × Nat × Nat)) (k : Nat) (hk : k < 2) (ho : ∀ i, i < k → ∃ s, (applied pend dur)[i]? = some s ∧ Holds s i (o i)) (sk : List Nat) (hsk : (applied pend dur)[k]? = some sk) (hbr : Broken sk) :
    Calls Try.prog 13 #[.pointer (some ⟨gs, 0, none⟩)] w fun e w' => e = .returned (.tuple #[.agg #[.int .u32 0, .int .u8 0, .int .u32 0], .int .i64 (k : Int), .int .i64 7]) ∧ Below w.heap.size w w' := by
  have hn1 : ¬ (dur.length : Int) < 4 := by omega
  have hb0 := (Below.refl w.heap.size w).alloc (Nat.le_refl _) (.cells #[.int .u32 0, .int .u8 0, .int .u32 0] 24)
  have HSc := hide (sectors_any (h.below hb0))
  have HD := Lib.hid h
  have HO := Lib.hid ho
  have HSK := Lib.hid hsk
  have HBR := Lib.hid hbr
  clear h ho hb0 hsk hbr
  go_enter Try.func13, Try.ntmps13
  go_wp2_with (first
    | (go_at_call 34; (with_reducible refine (unhide HSc).mono ?_); rintro e w1 ⟨rfl, rfl⟩))
  go_loopw [6, 14] (fun f t x => RdK w o k f t x) (fun _ t _ => 2 - (intOf t).toNat)
  case atStart =>
    refine ⟨⟨0, 0, 0, 0, by omega, rfl, rfl, rfl, Go.heap_alloc2_new w _ _, ?_, below_two⟩, by simp [intOf]⟩
    rw [Go.heap_alloc_old _ _ (by simp)]
    exact Go.heap_alloc_new w _
  case round =>
    obtain ⟨⟨i, g, hf, se, hi, rfl, rfl, hbest, hL, hZ, hB⟩, hik⟩ := hrel
    have hik1 : i ≤ k := by simp [intOf] at hik; omega
    clear hik
    have lB : w.heap.size + 1 < wr.heap.size := by
      rcases Nat.lt_or_ge (w.heap.size + 1) wr.heap.size with h | h
      · exact h
      · rw [Array.getElem?_eq_none h] at hL; cases hL
    have hDr := HD.out.below hB
    have HDr := Lib.hid hDr
    have HL := Lib.hid hL
    have HZ := Lib.hid hZ
    have HB := Lib.hid hB
    have HBest := Lib.hid hbest
    by_cases hik2 : i < k
    · have hlt : i < 2 := by omega
      obtain ⟨s, hs, hh⟩ := HO.out i hik2
      have HBl := hide (blank_any hDr i (by omega) s hs)
      cases hoi : o i with
      | none =>
        rw [hoi] at hh
        have hh' : s = noughts := hh
        rw [decide_eq_true hh'] at HBl
        have hnx : bestOf o (i + 1) = bestOf o i := by rw [bestOf, hoi]
        have HNX := Lib.hid hnx
        clear hDr hL hZ hB hbest hs hh hh' hoi hnx
        go_wp2_with (first
          | (go_at_call 25; (with_reducible refine (unhide HBl).mono ?_); rintro e w2 ⟨rfl, rfl⟩))
        go_roundw
        case rel => exact ⟨⟨i + 1, g, hf, se, by omega, by go_num, by rw [HNX.out], by rw [HNX.out]; exact HBest.out, HL.out, HZ.out, HB.out⟩, by simp [intOf]; omega⟩
        case measure => simp [intOf]; omega
      | some c =>
        obtain ⟨g2, h2, s2⟩ := c
        rw [hoi] at hh
        obtain ⟨hh1, hh2, hh3, hh4, hh5⟩ := hh
        dsimp only at hh1 hh2 hh3 hh4 hh5
        rw [decide_eq_false (by rw [hh1]; exact crownSec_not)] at HBl
        have HSt := hide (stored_good hDr i (by omega) g2 h2 s2 (by rw [hs, hh1]) hh2 hh3 hh4 hh5)
        have HOI := Lib.hid hoi
        clear hDr hB hbest hs hh1 hoi
        cases hbo : bestOf o i with
        | none =>
          have hnx : bestOf o (i + 1) = some (g2, h2, s2) := by rw [bestOf, HOI.out, hbo]
          have HNX := Lib.hid hnx
          clear hnx hbo
          go_wp2_with (first
            | (go_at_call 25; (with_reducible refine (unhide HBl).mono ?_); rintro e w2 ⟨rfl, rfl⟩)
            | (go_at_call 35; (with_reducible refine (unhide HSt).mono ?_); rintro e w3 ⟨rfl, hb3⟩; go_loud (
               have g3 := (hb3.block (w.heap.size + 1) lB).trans hL;
               have z3 := (hb3.block w.heap.size (by omega)).trans hZ;
               obtain ⟨a0, a1, a2, f0, f1, f2⟩ := crown_facts g3;
               have l3 := Nat.lt_of_lt_of_le lB hb3.size;
               have n3 : ¬ w.heap.size + 1 = w3.heap.size := by omega;
               have HG3 := Lib.hid g3;
               have HZ3 := Lib.hid z3;
               have HB3 := Lib.hid (HB.out.trans (hb3.mono HB.out.size));
               clear g3 z3 hb3)))
          go_roundw
          case rel => exact ⟨rd_store HNX.out hlt HG3.out HZ3.out HB3.out _, by simp [intOf]; omega⟩
          case measure => simp [intOf]; omega
        | some l =>
          obtain ⟨lg, lh, ls⟩ := l
          have hb2 := HBest.out
          rw [hbo] at hb2
          obtain ⟨rfl, rfl, rfl⟩ : g = lg ∧ hf = lh ∧ se = ls := by
            injection hb2 with h1 h2
            injection h2 with h2 h3
            exact ⟨h1, h2, h3⟩
          by_cases hgt : g < g2
          · have hnx : bestOf o (i + 1) = some (g2, h2, s2) := by rw [bestOf, HOI.out, hbo]; exact if_pos hgt
            have hgti : (g2 : Int) > (g : Int) := by omega
            have hgti2 : (g : Int) < (g2 : Int) := by omega
            have HNX := Lib.hid hnx
            clear hnx hbo hb2 hgt
            go_wp2_with (first
              | (go_at_call 25; (with_reducible refine (unhide HBl).mono ?_); rintro e w2 ⟨rfl, rfl⟩)
              | (go_at_call 35; (with_reducible refine (unhide HSt).mono ?_); rintro e w3 ⟨rfl, hb3⟩; go_loud (
                 have g3 := (hb3.block (w.heap.size + 1) lB).trans hL;
                 have z3 := (hb3.block w.heap.size (by omega)).trans hZ;
                 obtain ⟨a0, a1, a2, f0, f1, f2⟩ := crown_facts g3;
                 have l3 := Nat.lt_of_lt_of_le lB hb3.size;
                 have n3 : ¬ w.heap.size + 1 = w3.heap.size := by omega;
                 have HG3 := Lib.hid g3;
                 have HZ3 := Lib.hid z3;
                 have HB3 := Lib.hid (HB.out.trans (hb3.mono HB.out.size));
                 clear g3 z3 hb3)))
            go_roundw
            case rel => exact ⟨rd_store HNX.out hlt HG3.out HZ3.out HB3.out _, by simp [intOf]; omega⟩
            case measure => simp [intOf]; omega
          · have hnx : bestOf o (i + 1) = some (g, hf, se) := by rw [bestOf, HOI.out, hbo]; exact if_neg hgt
            have hgti : ¬ (g2 : Int) > (g : Int) := by omega
            have HNX := Lib.hid hnx
            clear hnx hbo hb2 hgt
            go_wp2_with (first
              | (go_at_call 25; (with_reducible refine (unhide HBl).mono ?_); rintro e w2 ⟨rfl, rfl⟩)
              | (go_at_call 35; (with_reducible refine (unhide HSt).mono ?_); rintro e w3 ⟨rfl, hb3⟩; go_loud (
                 have g3 := (hb3.block (w.heap.size + 1) lB).trans hL;
                 have z3 := (hb3.block w.heap.size (by omega)).trans hZ;
                 obtain ⟨a0, a1, a2, f0, f1, f2⟩ := crown_facts g3;
                 have l3 := Nat.lt_of_lt_of_le lB hb3.size;
                 have n3 : ¬ w.heap.size + 1 = w3.heap.size := by omega;
                 have HG3 := Lib.hid g3;
                 have HZ3 := Lib.hid z3;
                 have HB3 := Lib.hid (HB.out.trans (hb3.mono HB.out.size));
                 clear g3 z3 hb3)))
            go_roundw
            case rel => exact ⟨rd_keep HNX.out hlt HG3.out HZ3.out HB3.out _, by simp [intOf]; omega⟩
            case measure => simp [intOf]; omega
    · obtain rfl : i = k := by omega
      have hne : sk ≠ noughts := fun e => HBR.out.2.1 (fun b hb => by rw [e] at hb; exact List.eq_of_mem_replicate hb)
      have HBl := hide (blank_any hDr i (by omega) sk HSK.out)
      rw [decide_eq_false hne] at HBl
      have HSt := hide (stored_bad hDr i (by omega) sk HSK.out HBR.out)
      have hlt : (i : Int) < 2 := by omega
      clear hDr hB hbest hne
      go_wp2_with (first
        | (go_at_call 25; (with_reducible refine (unhide HBl).mono ?_); rintro e w2 ⟨rfl, rfl⟩)
        | (go_at_call 35; (with_reducible refine (unhide HSt).mono ?_); rintro e w3 ⟨rfl, hb3⟩; go_loud (
           have g3 := (hb3.block (w.heap.size + 1) lB).trans hL;
           have z3 := (hb3.block w.heap.size (by omega)).trans hZ;
           obtain ⟨a0, a1, a2, f0, f1, f2⟩ := crown_facts z3;
           have l3 := Nat.lt_of_lt_of_le lB hb3.size;
           have l3' : w.heap.size < w3.heap.size := by omega;
           have n3 : ¬ w.heap.size = w3.heap.size := by omega;
           have HZ3 := Lib.hid z3;
           have HB3 := Lib.hid (HB.out.trans (hb3.mono HB.out.size));
           clear g3 z3 hb3)))
      exact read_ret rfl rfl rfl rfl ((Go.heap_alloc_old _ _ (Array.getElem?_eq_some_iff.1 (set_crown HZ3.out)).1).trans (set_crown HZ3.out)) rfl ⟨rfl, (below_crown HB3.out (Nat.le_refl _)).alloc (below_crown HB3.out (Nat.le_refl _)).size _⟩
end Go.Proofs.Ytnojkifndcffjaa
