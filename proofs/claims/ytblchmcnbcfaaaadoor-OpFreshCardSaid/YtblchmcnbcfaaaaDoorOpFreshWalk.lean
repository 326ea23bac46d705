/- The walk of OpFresh. -/
import Derived.Test.YtblchmcnbcfaaaaDoorOAwake
import Derived.Test.YtblchmcnbcfaaaaDoorOFresh
namespace Go.Proofs.YtblchmcnbcfaaaaDoor
open Go.RowKit
set_option linter.unusedVariables false
set_option linter.unusedSimpArgs false
/-- How far a stamp's IDs have been told. -/
def curN (t m : Nat) : Nat := if t = 0 then 0 else 65536 * t + min m 65535
theorem curN_zero (t : Nat) : curN t 0 = firstN t := by unfold curN firstN; split <;> omega
theorem tell_put {w : World} {g n l : Nat} (h : Tell w g n l) (m : Nat) : Tell (w.setCell ⟨g, 0, none⟩ (.int .u64 (m : Int))) g m l := by
  obtain ⟨h0, h1⟩ := h
  refine ⟨?_, ?_⟩
  · exact one_setCell h0
  · rw [Below.heap_setCell _ _ _ _ (by show g + 1 ≠ g; omega)]; exact h1
def FreI (W : World) (g t k : Nat) (i : Value) (wr : World) : Prop := ∃ j : Nat, i = .int .i64 (j : Int) ∧ 1 ≤ j ∧ j ≤ k + 1 ∧ Tell wr g (curN t (j - 1)) (lastN t) ∧ Below W.heap.size W wr
set_option maxRecDepth 100000 in
set_option maxHeartbeats 4000000 in
theorem freshes_pos (w : World) (t n : Nat) (h0 : t ≠ 0) (ht : t < 4294967296) (hn : n < 65536) (hv : Vo w) :
    Calls Tryd.prog 5 #[.int .u32 (t : Int), .int .u16 (n : Int)] w fun e w' => e = .returned (.bool true) ∧ Below w.heap.size w w' := by
  have HAW := hide (opawake w hv)
  have HF := fun (x : World) => hide (fresh_any x t ht)
  clear hv
  have HNM := fun (x : World) (g c l : Nat) (h1 : c < l) (h2 : l < 18446744073709551616) (h3 : Tell x g c l) => hide (next_more x g c l h1 h2 h3)
  have HNN := fun (x : World) (g c : Nat) (h3 : Tell x g c c) => hide (next_none x g c h3)
  obtain ⟨d, hd⟩ : ∃ d : Bool, ((n : Int) % 4 == 0) = d := ⟨_, rfl⟩
  rcases d with _ | _
  · skip
    go_enter Tryd.func5, Tryd.ntmps5
    go_wp2_with (first
      | (go_at_call 7; (with_reducible refine (unhide HAW).mono ?_); rintro e w1 ⟨rfl, hb1⟩; go_loud (
          have HB1 := Lib.hid hb1;
          clear hb1))
      | (go_at_call 17; (with_reducible refine (unhide (HF _)).mono ?_); rintro e w2 ⟨rfl, ht2, hb2, hs2⟩; go_loud (
          have HB2 := Lib.hid (ridec hb2 HB1.out);
          have HT2 := Lib.hid ht2;
          clear hb2 ht2 hs2)))
    obtain ⟨g, hg⟩ : ∃ g, g = w1.heap.size := ⟨_, rfl⟩
    rw [← hg] at HT2 ⊢
    have HG := Lib.hid (show w.heap.size ≤ g by rw [hg]; exact HB1.out.size)
    clear hg hd
    go_loopw [7] (fun i wr => FreI w g t n i wr) (fun i _ => n + 1 - (intOf i).toNat)
    case atStart => exact ⟨1, rfl, by omega, by omega, by rw [curN_zero]; exact HT2.out, HB2.out⟩
    case round =>
      obtain ⟨j, rfl, hj1, hj, htl, hbw⟩ := hrel
      have HTL := Lib.hid htl
      have HBW := Lib.hid hbw
      clear htl hbw
      by_cases hjk : j ≤ n
      · have hc : decide ((j : Int) ≤ (n : Int)) = true := decide_eq_true (by omega)
        · have hz : decide ((0 : Int) < (t : Int)) = true := decide_eq_true (by omega)
          have hz2 : decide (0 < t) = true := decide_eq_true (by omega)
          have hz3 : 0 < t := by omega
          by_cases h6 : j < 65536
          · have hy : decide ((j : Int) < 65536) = true := decide_eq_true (by omega)
            have hy2 : decide (j < 65536) = true := decide_eq_true (by omega)
            have e0 : curN t (j - 1) = 65536 * t + (j - 1) := by unfold curN; rw [if_neg h0]; omega
            have e1 : curN t j = 65536 * t + j := by unfold curN; rw [if_neg h0]; omega
            have e2 : lastN t = 65536 * t + 65535 := if_neg h0
            have htl := HTL.out
            have HZ := HNM _ g _ _ (by rw [e0, e2]; omega) (by rw [e2]; omega) htl
            rw [show curN t (j - 1) + 1 = curN t j by rw [e0, e1]; omega] at HZ
            have HFIN := Lib.hid (tell_put htl (curN t j))
            have HBF := Lib.hid (HBW.out.setCell (p := ⟨g, 0, none⟩) HG.out (.int .u64 ((curN t j : Nat) : Int)))
            have e3 : 65536 * (t : Int) + (j : Int) = ((curN t j : Nat) : Int) := by rw [e1]; omega
            clear e0 e1 e2 htl h0
            go_wp2_with (go_at_call 34; (with_reducible refine (unhide HZ).mono ?_); rintro e w3 ⟨rfl, rfl⟩)
            go_roundw
            case rel => exact ⟨j + 1, by go_num, by omega, by omega, by simpa using HFIN.out, HBF.out⟩
            case measure => simp [intOf]; omega
          · have hy : decide ((j : Int) < 65536) = false := decide_eq_false (by omega)
            have hy2 : decide (j < 65536) = false := decide_eq_false (by omega)
            have e0 : curN t (j - 1) = lastN t := by unfold curN lastN; rw [if_neg h0, if_neg h0]; omega
            have e1 : curN t j = lastN t := by unfold curN lastN; rw [if_neg h0, if_neg h0]; omega
            have htl := HTL.out
            rw [e0] at htl
            have HZ := HNN _ g _ htl
            have HFIN := Lib.hid (show Tell _ g (curN t j) (lastN t) by rw [e1]; exact htl)
            clear e0 e1 htl h0
            go_wp2_with (go_at_call 34; (with_reducible refine (unhide HZ).mono ?_); rintro e w3 ⟨rfl, rfl⟩)
            go_roundw
            case rel => exact ⟨j + 1, by go_num, by omega, by omega, by simpa using HFIN.out, HBW.out⟩
            case measure => simp [intOf]; omega
      · have hc : decide ((j : Int) ≤ (n : Int)) = false := decide_eq_false (by omega)
        · have hz : decide ((0 : Int) < (t : Int)) = true := decide_eq_true (by omega)
          have hz2 : decide (0 < t) = true := decide_eq_true (by omega)
          have hz3 : 0 < t := by omega
          have hlt : firstN t < lastN t := by unfold firstN lastN; rw [if_neg h0]; omega
          have hbig : lastN t < 18446744073709551616 := by unfold lastN; rw [if_neg h0]; omega
          have e3 : 65536 * (t : Int) + 1 = ((firstN t + 1 : Nat) : Int) := by unfold firstN; omega
          have E3 := Lib.hid e3
          obtain ⟨f1, hf1⟩ : ∃ f1, f1 = firstN t + 1 := ⟨_, rfl⟩
          rw [← hf1] at e3
          have HNM5 := fun (x : World) (g : Nat) (h : Tell x g (firstN t) (lastN t)) => HNM x g (firstN t) (lastN t) hlt hbig h
          rw [← hf1] at HNM5
          clear hlt hbig hf1 h0 E3
          go_wp2_with (first
            | (go_at_call 17; (with_reducible refine (unhide (HF _)).mono ?_); rintro e w5 ⟨rfl, ht5, hb5, hs5⟩; go_loud (
                have HB5 := Lib.hid (ridec hb5 HBW.out);
                have HB6 := Lib.hid (HB5.out.setCell (p := ⟨_, 0, none⟩) HBW.out.size (.int .u64 (f1 : Int)));
                have HZ5 := HNM5 _ _ ht5;
                clear hb5 hs5))
            | (go_at_call 34; (with_reducible refine (unhide HZ5).mono ?_); rintro e w6 ⟨rfl, rfl⟩))
          go_ret
          exact ⟨rfl, HB6.out⟩
  · skip
    go_enter Tryd.func5, Tryd.ntmps5
    go_wp2_with (first
      | (go_at_call 7; (with_reducible refine (unhide HAW).mono ?_); rintro e w1 ⟨rfl, hb1⟩; go_loud (
          have HB1 := Lib.hid hb1;
          clear hb1))
      | (go_at_call 17; (with_reducible refine (unhide (HF _)).mono ?_); rintro e w2 ⟨rfl, ht2, hb2, hs2⟩; go_loud (
          have HB2 := Lib.hid (ridec hb2 HB1.out);
          have HT2 := Lib.hid ht2;
          clear hb2 ht2 hs2)))
    obtain ⟨g, hg⟩ : ∃ g, g = w1.heap.size := ⟨_, rfl⟩
    rw [← hg] at HT2 ⊢
    have HG := Lib.hid (show w.heap.size ≤ g by rw [hg]; exact HB1.out.size)
    clear hg hd
    go_loopw [7] (fun i wr => FreI w g t 65540 i wr) (fun i _ => 65540 + 1 - (intOf i).toNat)
    case atStart => exact ⟨1, rfl, by omega, by omega, by rw [curN_zero]; exact HT2.out, HB2.out⟩
    case round =>
      obtain ⟨j, rfl, hj1, hj, htl, hbw⟩ := hrel
      have HTL := Lib.hid htl
      have HBW := Lib.hid hbw
      clear htl hbw
      by_cases hjk : j ≤ 65540
      · have hc : decide ((j : Int) ≤ 65540) = true := decide_eq_true (by omega)
        · have hz : decide ((0 : Int) < (t : Int)) = true := decide_eq_true (by omega)
          have hz2 : decide (0 < t) = true := decide_eq_true (by omega)
          have hz3 : 0 < t := by omega
          by_cases h6 : j < 65536
          · have hy : decide ((j : Int) < 65536) = true := decide_eq_true (by omega)
            have hy2 : decide (j < 65536) = true := decide_eq_true (by omega)
            have e0 : curN t (j - 1) = 65536 * t + (j - 1) := by unfold curN; rw [if_neg h0]; omega
            have e1 : curN t j = 65536 * t + j := by unfold curN; rw [if_neg h0]; omega
            have e2 : lastN t = 65536 * t + 65535 := if_neg h0
            have htl := HTL.out
            have HZ := HNM _ g _ _ (by rw [e0, e2]; omega) (by rw [e2]; omega) htl
            rw [show curN t (j - 1) + 1 = curN t j by rw [e0, e1]; omega] at HZ
            have HFIN := Lib.hid (tell_put htl (curN t j))
            have HBF := Lib.hid (HBW.out.setCell (p := ⟨g, 0, none⟩) HG.out (.int .u64 ((curN t j : Nat) : Int)))
            have e3 : 65536 * (t : Int) + (j : Int) = ((curN t j : Nat) : Int) := by rw [e1]; omega
            clear e0 e1 e2 htl h0
            go_wp2_with (go_at_call 34; (with_reducible refine (unhide HZ).mono ?_); rintro e w3 ⟨rfl, rfl⟩)
            go_roundw
            case rel => exact ⟨j + 1, by go_num, by omega, by omega, by simpa using HFIN.out, HBF.out⟩
            case measure => simp [intOf]; omega
          · have hy : decide ((j : Int) < 65536) = false := decide_eq_false (by omega)
            have hy2 : decide (j < 65536) = false := decide_eq_false (by omega)
            have e0 : curN t (j - 1) = lastN t := by unfold curN lastN; rw [if_neg h0, if_neg h0]; omega
            have e1 : curN t j = lastN t := by unfold curN lastN; rw [if_neg h0, if_neg h0]; omega
            have htl := HTL.out
            rw [e0] at htl
            have HZ := HNN _ g _ htl
            have HFIN := Lib.hid (show Tell _ g (curN t j) (lastN t) by rw [e1]; exact htl)
            clear e0 e1 htl h0
            go_wp2_with (go_at_call 34; (with_reducible refine (unhide HZ).mono ?_); rintro e w3 ⟨rfl, rfl⟩)
            go_roundw
            case rel => exact ⟨j + 1, by go_num, by omega, by omega, by simpa using HFIN.out, HBW.out⟩
            case measure => simp [intOf]; omega
      · have hc : decide ((j : Int) ≤ 65540) = false := decide_eq_false (by omega)
        · have hz : decide ((0 : Int) < (t : Int)) = true := decide_eq_true (by omega)
          have hz2 : decide (0 < t) = true := decide_eq_true (by omega)
          have hz3 : 0 < t := by omega
          have hlt : firstN t < lastN t := by unfold firstN lastN; rw [if_neg h0]; omega
          have hbig : lastN t < 18446744073709551616 := by unfold lastN; rw [if_neg h0]; omega
          have e3 : 65536 * (t : Int) + 1 = ((firstN t + 1 : Nat) : Int) := by unfold firstN; omega
          have E3 := Lib.hid e3
          obtain ⟨f1, hf1⟩ : ∃ f1, f1 = firstN t + 1 := ⟨_, rfl⟩
          rw [← hf1] at e3
          have HNM5 := fun (x : World) (g : Nat) (h : Tell x g (firstN t) (lastN t)) => HNM x g (firstN t) (lastN t) hlt hbig h
          rw [← hf1] at HNM5
          clear hlt hbig hf1 h0 E3
          go_wp2_with (first
            | (go_at_call 17; (with_reducible refine (unhide (HF _)).mono ?_); rintro e w5 ⟨rfl, ht5, hb5, hs5⟩; go_loud (
                have HB5 := Lib.hid (ridec hb5 HBW.out);
                have HB6 := Lib.hid (HB5.out.setCell (p := ⟨_, 0, none⟩) HBW.out.size (.int .u64 (f1 : Int)));
                have HZ5 := HNM5 _ _ ht5;
                clear hb5 hs5))
            | (go_at_call 34; (with_reducible refine (unhide HZ5).mono ?_); rintro e w6 ⟨rfl, rfl⟩))
          go_ret
          exact ⟨rfl, HB6.out⟩
set_option maxRecDepth 100000 in
set_option maxHeartbeats 4000000 in
theorem freshes_zero (w : World) (n : Nat) (hn : n < 65536) (hv : Vo w) :
    Calls Tryd.prog 5 #[.int .u32 0, .int .u16 (n : Int)] w fun e w' => e = .returned (.bool true) ∧ Below w.heap.size w w' := by
  have HAW := hide (opawake w hv)
  have HF := fun (x : World) => hide (fresh_any x 0 (by omega))
  rw [show ((0 : Nat) : Int) = 0 from rfl] at HF
  clear hv
  have HNM := fun (x : World) (g c l : Nat) (h1 : c < l) (h2 : l < 18446744073709551616) (h3 : Tell x g c l) => hide (next_more x g c l h1 h2 h3)
  have HNN := fun (x : World) (g c : Nat) (h3 : Tell x g c c) => hide (next_none x g c h3)
  obtain ⟨d, hd⟩ : ∃ d : Bool, ((n : Int) % 4 == 0) = d := ⟨_, rfl⟩
  rcases d with _ | _
  · skip
    go_enter Tryd.func5, Tryd.ntmps5
    go_wp2_with (first
      | (go_at_call 7; (with_reducible refine (unhide HAW).mono ?_); rintro e w1 ⟨rfl, hb1⟩; go_loud (
          have HB1 := Lib.hid hb1;
          clear hb1))
      | (go_at_call 17; (with_reducible refine (unhide (HF _)).mono ?_); rintro e w2 ⟨rfl, ht2, hb2, hs2⟩; go_loud (
          have HB2 := Lib.hid (ridec hb2 HB1.out);
          have HT2 := Lib.hid ht2;
          clear hb2 ht2 hs2)))
    obtain ⟨g, hg⟩ : ∃ g, g = w1.heap.size := ⟨_, rfl⟩
    rw [← hg] at HT2 ⊢
    have HG := Lib.hid (show w.heap.size ≤ g by rw [hg]; exact HB1.out.size)
    clear hg hd
    go_loopw [7] (fun i wr => FreI w g 0 n i wr) (fun i _ => n + 1 - (intOf i).toNat)
    case atStart => exact ⟨1, rfl, by omega, by omega, by rw [curN_zero]; exact HT2.out, HB2.out⟩
    case round =>
      obtain ⟨j, rfl, hj1, hj, htl, hbw⟩ := hrel
      have HTL := Lib.hid htl
      have HBW := Lib.hid hbw
      clear htl hbw
      by_cases hjk : j ≤ n
      · have hc : decide ((j : Int) ≤ (n : Int)) = true := decide_eq_true (by omega)
        · have e0 : ∀ m, curN 0 m = 0 := fun m => if_pos rfl
          have e2 : lastN 0 = 0 := if_pos rfl
          have htl := HTL.out
          rw [e0, e2] at htl
          have HZ := HNN _ g 0 htl
          have HFIN := Lib.hid (show Tell _ g (curN 0 j) (lastN 0) by rw [e0, e2]; exact htl)
          clear e0 e2 htl
          go_wp2_with (go_at_call 34; (with_reducible refine (unhide HZ).mono ?_); rintro e w3 ⟨rfl, rfl⟩)
          go_roundw
          case rel => exact ⟨j + 1, by go_num, by omega, by omega, by simpa using HFIN.out, HBW.out⟩
          case measure => simp [intOf]; omega
      · have hc : decide ((j : Int) ≤ (n : Int)) = false := decide_eq_false (by omega)
        · go_wp2_with (first
            | (go_at_call 17; (with_reducible refine (unhide (HF _)).mono ?_); rintro e w5 ⟨rfl, ht5, hb5, hs5⟩; go_loud (
                have HB5 := Lib.hid (ridec hb5 HBW.out);
                have HZ5 := HNN _ _ 0 ht5;
                clear hb5 hs5))
            | (go_at_call 34; (with_reducible refine (unhide HZ5).mono ?_); rintro e w6 ⟨rfl, rfl⟩))
          go_ret
          exact ⟨rfl, HB5.out⟩
  · skip
    go_enter Tryd.func5, Tryd.ntmps5
    go_wp2_with (first
      | (go_at_call 7; (with_reducible refine (unhide HAW).mono ?_); rintro e w1 ⟨rfl, hb1⟩; go_loud (
          have HB1 := Lib.hid hb1;
          clear hb1))
      | (go_at_call 17; (with_reducible refine (unhide (HF _)).mono ?_); rintro e w2 ⟨rfl, ht2, hb2, hs2⟩; go_loud (
          have HB2 := Lib.hid (ridec hb2 HB1.out);
          have HT2 := Lib.hid ht2;
          clear hb2 ht2 hs2)))
    obtain ⟨g, hg⟩ : ∃ g, g = w1.heap.size := ⟨_, rfl⟩
    rw [← hg] at HT2 ⊢
    have HG := Lib.hid (show w.heap.size ≤ g by rw [hg]; exact HB1.out.size)
    clear hg hd
    go_loopw [7] (fun i wr => FreI w g 0 65540 i wr) (fun i _ => 65540 + 1 - (intOf i).toNat)
    case atStart => exact ⟨1, rfl, by omega, by omega, by rw [curN_zero]; exact HT2.out, HB2.out⟩
    case round =>
      obtain ⟨j, rfl, hj1, hj, htl, hbw⟩ := hrel
      have HTL := Lib.hid htl
      have HBW := Lib.hid hbw
      clear htl hbw
      by_cases hjk : j ≤ 65540
      · have hc : decide ((j : Int) ≤ 65540) = true := decide_eq_true (by omega)
        · have e0 : ∀ m, curN 0 m = 0 := fun m => if_pos rfl
          have e2 : lastN 0 = 0 := if_pos rfl
          have htl := HTL.out
          rw [e0, e2] at htl
          have HZ := HNN _ g 0 htl
          have HFIN := Lib.hid (show Tell _ g (curN 0 j) (lastN 0) by rw [e0, e2]; exact htl)
          clear e0 e2 htl
          go_wp2_with (go_at_call 34; (with_reducible refine (unhide HZ).mono ?_); rintro e w3 ⟨rfl, rfl⟩)
          go_roundw
          case rel => exact ⟨j + 1, by go_num, by omega, by omega, by simpa using HFIN.out, HBW.out⟩
          case measure => simp [intOf]; omega
      · have hc : decide ((j : Int) ≤ 65540) = false := decide_eq_false (by omega)
        · go_wp2_with (first
            | (go_at_call 17; (with_reducible refine (unhide (HF _)).mono ?_); rintro e w5 ⟨rfl, ht5, hb5, hs5⟩; go_loud (
                have HB5 := Lib.hid (ridec hb5 HBW.out);
                have HZ5 := HNN _ _ 0 ht5;
                clear hb5 hs5))
            | (go_at_call 34; (with_reducible refine (unhide HZ5).mono ?_); rintro e w6 ⟨rfl, rfl⟩))
          go_ret
          exact ⟨rfl, HB5.out⟩
theorem freshes_core (w : World) (t n : Nat) (ht : t < 4294967296) (hn : n < 65536) (hv : Vo w) :
    Calls Tryd.prog 5 #[.int .u32 (t : Int), .int .u16 (n : Int)] w fun e w' => e = .returned (.bool true) ∧ Below w.heap.size w w' := by
  by_cases h0 : t = 0
  · subst h0
    exact freshes_zero w n hn hv
  · exact freshes_pos w t n h0 ht hn hv
end Go.Proofs.YtblchmcnbcfaaaaDoor
