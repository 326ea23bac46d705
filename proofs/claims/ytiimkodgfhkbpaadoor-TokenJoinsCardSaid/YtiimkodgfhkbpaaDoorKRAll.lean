/- Contracts: the tokens of a text, as the reference tells them. -/
import Derived.Test.YtiimkodgfhkbpaaDoorKSkip
namespace Go.Proofs.YtiimkodgfhkbpaaDoor
open Go.RowKit
set_option linter.unusedSimpArgs false
set_option linter.unusedVariables false
set_option maxRecDepth 100000 in
set_option maxHeartbeats 4000000 in
theorem rall_any (w : World) (s : ByteArray) (hs : s.size ≤ 200000) :
    Calls Tryd.prog 11 #[.string s] w (AllR w 33 (scan (str s) 0)) := by
  obtain ⟨i0, hi0, hz0, hz1, hz2⟩ := info_tok infoRTok
  have HI := Lib.hid hi0
  have H0 := Lib.hid hz0
  have H1 := Lib.hid hz1
  have H2 := Lib.hid hz2
  have HC := fun (x : World) (c : Nat) (hc : c < 256) => hide (class_any x c hc)
  clear hi0 hz0 hz1 hz2
  go_enter Tryd.func11, Tryd.ntmps11
  go_wp2
  go_loopw [4, 5] (fun v i wr => RAllI w s v i wr) (fun _ i _ => s.size - (intOf i).toNat)
  case atStart => exact ⟨0, [], by omega, rfl, TRow.nil _ _ _, by simp, Below.refl _ _, by rw [List.drop_zero]; simp⟩
  case round =>
    obtain ⟨k, acc, hk, rfl, hrow, hacc, hb, hsc⟩ := hrel
    have HB := hide hb
    have HS := hide hsc
    have HR := hide hrow
    clear hsc hb hrow
    by_cases hlt : k < s.size
    · have HBK := Lib.hid (UInt8.toNat_lt (s[k]'hlt))
      have HGET := hide (str_get s k hlt)
      by_cases h3 : clsL (s[k]'hlt).toNat = 3
      · have hc3 : ((clsL (s[k]'hlt).toNat : Int) == 3) = true := by rw [beq_iff_eq]; omega
        have H3 := hide h3
        clear h3
        go_wp2_with (go_at_call 28; (with_reducible refine (unhide (HC _ _ HBK.out)).mono ?_); rintro e w1 ⟨rfl, rfl⟩)
        go_roundw
        case rel => exact ⟨k + 1, acc, by omega, by go_num, unhide HR, by omega, unhide HB, by rw [unhide HS, skip_blank (unhide HGET) (unhide H3)]⟩
        case measure => simp [intOf]; omega
      · have hc3 : ((clsL (s[k]'hlt).toNat : Int) == 3) = false := by rw [beq_eq_false_iff_ne]; omega
        by_cases h35 : (s[k]'hlt).toNat = 35
        · have hc35 : (((s[k]'hlt).toNat : Int) == 35) = true := by rw [beq_iff_eq]; omega
          have H35 := hide h35
          clear h35 h3
          go_wp2_with (go_at_call 28; (with_reducible refine (unhide (HC _ _ HBK.out)).mono ?_); rintro e w1 ⟨rfl, rfl⟩)
          go_loop [5] (fun i => HashR (str s) k i) (fun i => s.size - (intOf i).toNat)
          case atStart => exact ⟨k, rfl, by omega, by rw [str_length]; omega, fun i h1 h2 => by omega⟩
          case round =>
            obtain ⟨j, rfl, hkj, hj, hno⟩ := hrel
            rw [str_length] at hj
            have HNO := hide hno
            clear hno
            by_cases hjl : j < s.size
            · have HGJ := hide (str_get s j hjl)
              by_cases h10 : (s[j]'hjl).toNat = 10
              · have hx10 : (((s[j]'hjl).toNat : Int) == 10) = true := by rw [beq_iff_eq]; omega
                have hx10n : (((s[j]'hjl).toNat : Int) != 10) = false := by rw [bne, hx10]; rfl
                have H10 := hide h10
                clear h10
                have hkj2 : k < j := by
                  rcases Nat.lt_or_ge k j with h | h
                  · exact h
                  · obtain rfl : k = j := by omega
                    rw [unhide H35] at H10
                    exact absurd (unhide H10) (by decide)
                go_wp2
                go_roundw
                case rel => exact ⟨j, acc, by omega, rfl, unhide HR, by omega, unhide HB, by rw [unhide HS, skip_hash (j := j) (by rw [unhide HGET, unhide H35]) hkj2 (by rw [str_length]; omega) (unhide HNO) (.inr (by rw [unhide HGJ, unhide H10]))]⟩
                case measure => simp [intOf]; omega
              · have hx10 : (((s[j]'hjl).toNat : Int) == 10) = false := by rw [beq_eq_false_iff_ne]; omega
                have hx10n : (((s[j]'hjl).toNat : Int) != 10) = true := by rw [bne, hx10]; rfl
                have H10 := hide h10
                clear h10
                go_wp2
                go_round
                case rel =>
                  refine ⟨j + 1, by go_num, by omega, by rw [str_length]; omega, fun i h1 h2 => ?_⟩
                  rcases Nat.lt_or_ge i j with h | h
                  · exact unhide HNO i h1 h
                  · obtain rfl : i = j := by omega
                    rw [unhide HGJ]
                    intro e
                    injection e with e
                    exact unhide H10 e
                case measure => simp [intOf]; omega
            · go_wp2
              go_roundw
              case rel => exact ⟨j, acc, by omega, rfl, unhide HR, by omega, unhide HB, by rw [unhide HS, skip_hash (j := j) (by rw [unhide HGET, unhide H35]) (by omega) (by rw [str_length]; omega) (unhide HNO) (.inl (by rw [str_length]; omega))]⟩
              case measure => simp [intOf]; omega
        · have hc35 : (((s[k]'hlt).toNat : Int) == 35) = false := by rw [beq_eq_false_iff_ne]; omega
          have HG0 := hide (gap_none_at (unhide HGET) h3 h35)
          have HV2 := hide h35
          have HV3 := hide h3
          clear h35 h3
          by_cases h12 : clsL (s[k]'hlt).toNat = 0
          · have hc0 : decide (0 < clsL (s[k]'hlt).toNat) = false := decide_eq_false (by omega)
            have hr0 : runL ((str s).drop k) = 0 := by
              rw [runL_at (unhide HGET), if_neg]
              intro h
              have := cls_ld.2 h
              omega
            have HR0 := hide hr0
            clear h12 hr0
            have q1 : 0 ≤ (k : Int) + 1 := by omega
            have q2 : ((k : Int) + 1).toNat = k + 1 := by omega
            have q3 : (k : Int) + 1 ≤ (s.size : Int) := by omega
            have q4 : (k : Int) ≤ (k : Int) + 1 := by omega
            have g1w : IntKind.i64.wrap ((k : Int) + 1) = (k : Int) + 1 := IntWalk.i64_in _ (by omega)
            have g2w : IntKind.i64.wrap ((k : Int) + 2) = (k : Int) + 2 := IntWalk.i64_in _ (by omega)
            have e1 : str (s.extract k (k + 1)) = ((str s).drop k).take 1 := by rw [str_extract]; congr 1; omega
            have hsz1 : (s.extract k (k + 1)).size = 1 := by rw [← str_length, e1, List.length_take, List.length_drop, str_length]; omega
            have HIN1 := fun (x : World) (b : Nat) (hc : ∀ j y, signsB[j]? = some y → x.cell? ⟨b, j, none⟩ = some (.string y)) => hide ((in_any x b 22 22 signsB (s.extract k (k + 1)) rfl (by decide) hc).mono fun e w' h => (show e = .returned (.bool (inL (str (s.extract k (k + 1))) signsL)) ∧ x = w' from ⟨by rw [h.1, signsB_str], h.2⟩))
            by_cases h2 : k + 1 < s.size
            · have g1 : decide ((k : Int) + 1 < (s.size : Int)) = true := decide_eq_true (by omega)
              have g1n : decide (k + 1 < s.size) = true := decide_eq_true (by omega)
              have r1 : 0 ≤ (k : Int) + 2 := by omega
              have r2 : ((k : Int) + 2).toNat = k + 2 := by omega
              have r3 : (k : Int) + 2 ≤ (s.size : Int) := by omega
              have r4 : (k : Int) ≤ (k : Int) + 2 := by omega
              have e2 : str (s.extract k (k + 2)) = ((str s).drop k).take 2 := by rw [str_extract]; congr 1; omega
              have hsz2 : (s.extract k (k + 2)).size = 2 := by rw [← str_length, e2, List.length_take, List.length_drop, str_length]; omega
              have HIN2 := fun (x : World) (b : Nat) (hc : ∀ j y, signsB[j]? = some y → x.cell? ⟨b, j, none⟩ = some (.string y)) => hide ((in_any x b 22 22 signsB (s.extract k (k + 2)) rfl (by decide) hc).mono fun e w' h => (show e = .returned (.bool (inL (str (s.extract k (k + 2))) signsL)) ∧ x = w' from ⟨by rw [h.1, signsB_str], h.2⟩))
              rcases hin : inL (str (s.extract k (k + 2))) signsL with _ | _
              · rw [hin] at HIN2
                go_wp2_with (go_at_call 28; (with_reducible refine (unhide (HC _ _ HBK.out)).mono ?_); rintro e w1 ⟨rfl, rfl⟩)
                go_region_held3 (fun x => Below wr.heap.size wr x)
                  ((repeat (with_reducible (first | exact Below.refl _ _ | assumption | refine ride_alloc ?_ _ | refine ride_drew ?_ | refine below_drewN ?_ _ | refine ride_call (by assumption) ?_))))
                  (first
                    | (go_at_call 23; (with_reducible refine (rsigns_lie _).mono ?_); rintro e w2 ⟨b2, rfl, hc2, hb2⟩)
                    | (go_at_call 29; (with_reducible refine (unhide (HIN2 _ _ (hc2 _ (by repeat (with_reducible (first | exact Below.refl _ _ | assumption | refine ride_alloc ?_ _ | refine ride_drew ?_ | refine below_drewN ?_ _)))))).mono ?_); rintro e w3 ⟨rfl, rfl⟩))
                have hbx : Below wr.heap.size wr w2 := ride_call hb2 (by repeat (with_reducible (first | exact Below.refl _ _ | assumption | refine ride_alloc ?_ _ | refine ride_drew ?_ | refine below_drewN ?_ _)))
                have HB2 := hide (below_on (unhide HB) hbx)
                have HR2 := hide ((unhide HR).below hbx)
                clear hb2 hbx hc2
                rcases hin1 : inL (str (s.extract k (k + 1))) signsL with _ | _
                · have HFI := hide (first_none (unhide HR0) (.inl (by rw [← e2]; exact hin)) (by rw [← e1]; exact hin1))
                  rw [hin1] at HIN1
                  clear hin1
                  go_wp2_with (first
                    | (go_at_call 23; (with_reducible refine (rsigns_lie _).mono ?_); rintro e w5 ⟨b5, rfl, hc5, hb5⟩; go_loud (
                        have HB5 := hide (below_on (unhide HB2) hb5);
                        have HR5 := hide ((unhide HR2).below hb5);
                        have HI5 := HIN1 w5 b5 (hc5 w5 (Below.refl _ _));
                        clear hc5 hb5))
                    | (go_at_call 29; (with_reducible refine (unhide HI5).mono ?_); rintro e w6 ⟨rfl, rfl⟩))
                  go_ret2
                  have hbad := tok_bad (by rw [str_length]; exact hlt) (unhide HG0) (unhide HS) (by rw [unhide HFI])
                  refine ⟨fun ts h => ?_, fun _ => rfl, unhide HB5⟩
                  rw [hbad] at h
                  cases h
                · have HFI := hide (first_one (unhide HR0) (.inl (by rw [← e2]; exact hin)) (by rw [← e1]; exact hin1))
                  rw [hin1] at HIN1
                  clear hin1
                  go_wp2_with (first
                    | (go_at_call 23; (with_reducible refine (rsigns_lie _).mono ?_); rintro e w5 ⟨b5, rfl, hc5, hb5⟩; go_loud (
                        have HB5 := hide (below_on (unhide HB2) hb5);
                        have HR5 := hide ((unhide HR2).below hb5);
                        have HI5 := HIN1 w5 b5 (hc5 w5 (Below.refl _ _));
                        clear hc5 hb5))
                    | (go_at_call 29; (with_reducible refine (unhide HI5).mono ?_); rintro e w6 ⟨rfl, rfl⟩)
                    | (at_builtin; refine wpList_append_own _ rfl _ _ 28 rfl w.heap.size 33 i0 (.agg #[.int .u8 0, .string ⟨#[]⟩, .int .i64 0]) 3 32 Tryd.underlying28 HI.out H0.out H1.out H2.out rfl (by decide) _ _ _ rfl (World.ownsRow.alloc (unhide HR5) _) ⟨_, 0, none⟩ 1 1 [.int .u8 4, .string (s.extract k (k + 1)), .int .i64 (k : Int)] rfl rfl ?c1 ?c2 ?c3 ?c4 ?c5 ?_))
                  case c1 => exact cell_three_new _ _ _ _
                  case c2 => simp [Value.oneCell']
                  case c3 => unfold maxLen; omega
                  case c4 => omega
                  case c5 => exact (((unhide HB5).alloc (unhide HB5).size _).size)
                  intro v' w4 hown1 hg1 _
                  have hbel := ((unhide HB5).alloc (unhide HB5).size _).grown hg1 (by have := (unhide HB5).size; simp; omega) (fun g hg => (World.ownsRow.lt (unhide HR5) g hg).1)
                  have HO := hide hown1
                  have HB4 := hide hbel
                  clear hown1 hbel hg1
                  go_wp2
                  go_roundw
                  case rel =>
                    refine ⟨k + 1, acc ++ [⟨4, ((str s).drop k).take (1), k⟩], by omega, by go_num, ?_, by rw [List.length_append, List.length_singleton]; omega, unhide HB4, ?_⟩
                    · have h := unhide HO
                      unfold TRow
                      have e : toksC [⟨4, ((str s).drop k).take (1), k⟩] = [.int .u8 4, .string (s.extract k (k + 1)), .int .i64 (k : Int)] := by
                        show [Value.int .u8 ((4 : Nat) : Int), .string (ba (((str s).drop k).take (1))), .int .i64 (k : Int)] = _
                        rw [ba_piece, show k + (1) = k + 1 by omega]
                        rfl
                      rw [toksC_append, List.length_append, e]
                      exact h
                    · have h := tok_next (by rw [str_length]; exact hlt) (unhide HG0) (unhide HS) (by rw [unhide HFI]; simp)
                      rw [unhide HFI] at h
                      simp only [] at h
                      rw [show k + (1) = k + 1 by omega] at h
                      exact h
                  case measure => simp [intOf]; omega
              · have HFI := hide (first_two (unhide HR0) (by rw [List.length_drop, str_length]; omega) (by rw [← e2]; exact hin))
                rw [hin] at HIN2
                go_wp2_with (go_at_call 28; (with_reducible refine (unhide (HC _ _ HBK.out)).mono ?_); rintro e w1 ⟨rfl, rfl⟩)
                go_region_held3 (fun x => Below wr.heap.size wr x)
                  ((repeat (with_reducible (first | exact Below.refl _ _ | assumption | refine ride_alloc ?_ _ | refine ride_drew ?_ | refine below_drewN ?_ _ | refine ride_call (by assumption) ?_))))
                  (first
                    | (go_at_call 23; (with_reducible refine (rsigns_lie _).mono ?_); rintro e w2 ⟨b2, rfl, hc2, hb2⟩)
                    | (go_at_call 29; (with_reducible refine (unhide (HIN2 _ _ (hc2 _ (by repeat (with_reducible (first | exact Below.refl _ _ | assumption | refine ride_alloc ?_ _ | refine ride_drew ?_ | refine below_drewN ?_ _)))))).mono ?_); rintro e w3 ⟨rfl, rfl⟩))
                have hbx : Below wr.heap.size wr w2 := ride_call hb2 (by repeat (with_reducible (first | exact Below.refl _ _ | assumption | refine ride_alloc ?_ _ | refine ride_drew ?_ | refine below_drewN ?_ _)))
                have HB2 := hide (below_on (unhide HB) hbx)
                have HR2 := hide ((unhide HR).below hbx)
                clear hb2 hbx hc2
                clear hin HIN1
                go_wp2_with (first
                  | (go_at_call 23; (with_reducible refine (rsigns_lie _).mono ?_); rintro e w5 ⟨b5, rfl, hc5, hb5⟩; go_loud (
                      have HB5 := hide (below_on (unhide HB2) hb5);
                      have HR5 := hide ((unhide HR2).below hb5);
                      have HI5 := HIN2 w5 b5 (hc5 w5 (Below.refl _ _));
                      clear hc5 hb5))
                  | (go_at_call 29; (with_reducible refine (unhide HI5).mono ?_); rintro e w6 ⟨rfl, rfl⟩)
                  | (at_builtin; refine wpList_append_own _ rfl _ _ 28 rfl w.heap.size 33 i0 (.agg #[.int .u8 0, .string ⟨#[]⟩, .int .i64 0]) 3 32 Tryd.underlying28 HI.out H0.out H1.out H2.out rfl (by decide) _ _ _ rfl (World.ownsRow.alloc (unhide HR5) _) ⟨_, 0, none⟩ 1 1 [.int .u8 4, .string (s.extract k (k + 2)), .int .i64 (k : Int)] rfl rfl ?c1 ?c2 ?c3 ?c4 ?c5 ?_))
                case c1 => exact cell_three_new _ _ _ _
                case c2 => simp [Value.oneCell']
                case c3 => unfold maxLen; omega
                case c4 => omega
                case c5 => exact (((unhide HB5).alloc (unhide HB5).size _).size)
                intro v' w4 hown1 hg1 _
                have hbel := ((unhide HB5).alloc (unhide HB5).size _).grown hg1 (by have := (unhide HB5).size; simp; omega) (fun g hg => (World.ownsRow.lt (unhide HR5) g hg).1)
                have HO := hide hown1
                have HB4 := hide hbel
                clear hown1 hbel hg1
                go_wp2
                go_roundw
                case rel =>
                  refine ⟨k + 2, acc ++ [⟨4, ((str s).drop k).take (2), k⟩], by omega, by go_num, ?_, by rw [List.length_append, List.length_singleton]; omega, unhide HB4, ?_⟩
                  · have h := unhide HO
                    unfold TRow
                    have e : toksC [⟨4, ((str s).drop k).take (2), k⟩] = [.int .u8 4, .string (s.extract k (k + 2)), .int .i64 (k : Int)] := by
                      show [Value.int .u8 ((4 : Nat) : Int), .string (ba (((str s).drop k).take (2))), .int .i64 (k : Int)] = _
                      rw [ba_piece, show k + (2) = k + 2 by omega]
                      rfl
                    rw [toksC_append, List.length_append, e]
                    exact h
                  · have h := tok_next (by rw [str_length]; exact hlt) (unhide HG0) (unhide HS) (by rw [unhide HFI]; simp)
                    rw [unhide HFI] at h
                    simp only [] at h
                    rw [show k + (2) = k + 2 by omega] at h
                    exact h
                case measure => simp [intOf]; omega
            · have g1 : decide ((k : Int) + 1 < (s.size : Int)) = false := decide_eq_false (by omega)
              have g1n : decide (k + 1 < s.size) = false := decide_eq_false (by omega)
              go_wp2_with (go_at_call 28; (with_reducible refine (unhide (HC _ _ HBK.out)).mono ?_); rintro e w1 ⟨rfl, rfl⟩)
              go_quiet (fail)
              have HBq := fun (q : Nat) => hide (below_drewN (unhide HB) q)
              have HRq := fun (q : Nat) => hide ((unhide HR).below (below_drewN (Below.refl _ _) q))
              rcases hin1 : inL (str (s.extract k (k + 1))) signsL with _ | _
              · have HFI := hide (first_none (unhide HR0) (.inr (by rw [List.length_drop, str_length]; omega)) (by rw [← e1]; exact hin1))
                rw [hin1] at HIN1
                clear hin1
                go_wp2_with (first
                  | (go_at_call 23; (with_reducible refine (rsigns_lie _).mono ?_); rintro e w5 ⟨b5, rfl, hc5, hb5⟩; go_loud (
                      have HB5 := hide (below_on (unhide (HBq _)) hb5);
                      have HR5 := hide ((unhide (HRq _)).below hb5);
                      have HI5 := HIN1 w5 b5 (hc5 w5 (Below.refl _ _));
                      clear hc5 hb5))
                  | (go_at_call 29; (with_reducible refine (unhide HI5).mono ?_); rintro e w6 ⟨rfl, rfl⟩))
                go_ret2
                have hbad := tok_bad (by rw [str_length]; exact hlt) (unhide HG0) (unhide HS) (by rw [unhide HFI])
                refine ⟨fun ts h => ?_, fun _ => rfl, unhide HB5⟩
                rw [hbad] at h
                cases h
              · have HFI := hide (first_one (unhide HR0) (.inr (by rw [List.length_drop, str_length]; omega)) (by rw [← e1]; exact hin1))
                rw [hin1] at HIN1
                clear hin1
                go_wp2_with (first
                  | (go_at_call 23; (with_reducible refine (rsigns_lie _).mono ?_); rintro e w5 ⟨b5, rfl, hc5, hb5⟩; go_loud (
                      have HB5 := hide (below_on (unhide (HBq _)) hb5);
                      have HR5 := hide ((unhide (HRq _)).below hb5);
                      have HI5 := HIN1 w5 b5 (hc5 w5 (Below.refl _ _));
                      clear hc5 hb5))
                  | (go_at_call 29; (with_reducible refine (unhide HI5).mono ?_); rintro e w6 ⟨rfl, rfl⟩)
                  | (at_builtin; refine wpList_append_own _ rfl _ _ 28 rfl w.heap.size 33 i0 (.agg #[.int .u8 0, .string ⟨#[]⟩, .int .i64 0]) 3 32 Tryd.underlying28 HI.out H0.out H1.out H2.out rfl (by decide) _ _ _ rfl (World.ownsRow.alloc (unhide HR5) _) ⟨_, 0, none⟩ 1 1 [.int .u8 4, .string (s.extract k (k + 1)), .int .i64 (k : Int)] rfl rfl ?c1 ?c2 ?c3 ?c4 ?c5 ?_))
                case c1 => exact cell_three_new _ _ _ _
                case c2 => simp [Value.oneCell']
                case c3 => unfold maxLen; omega
                case c4 => omega
                case c5 => exact (((unhide HB5).alloc (unhide HB5).size _).size)
                intro v' w4 hown1 hg1 _
                have hbel := ((unhide HB5).alloc (unhide HB5).size _).grown hg1 (by have := (unhide HB5).size; simp; omega) (fun g hg => (World.ownsRow.lt (unhide HR5) g hg).1)
                have HO := hide hown1
                have HB4 := hide hbel
                clear hown1 hbel hg1
                go_wp2
                go_roundw
                case rel =>
                  refine ⟨k + 1, acc ++ [⟨4, ((str s).drop k).take (1), k⟩], by omega, by go_num, ?_, by rw [List.length_append, List.length_singleton]; omega, unhide HB4, ?_⟩
                  · have h := unhide HO
                    unfold TRow
                    have e : toksC [⟨4, ((str s).drop k).take (1), k⟩] = [.int .u8 4, .string (s.extract k (k + 1)), .int .i64 (k : Int)] := by
                      show [Value.int .u8 ((4 : Nat) : Int), .string (ba (((str s).drop k).take (1))), .int .i64 (k : Int)] = _
                      rw [ba_piece, show k + (1) = k + 1 by omega]
                      rfl
                    rw [toksC_append, List.length_append, e]
                    exact h
                  · have h := tok_next (by rw [str_length]; exact hlt) (unhide HG0) (unhide HS) (by rw [unhide HFI]; simp)
                    rw [unhide HFI] at h
                    simp only [] at h
                    rw [show k + (1) = k + 1 by omega] at h
                    exact h
                case measure => simp [intOf]; omega
          · have hc0 : decide (0 < clsL (s[k]'hlt).toNat) = true := decide_eq_true (by omega)
            have hlk : isLD (s[k]'hlt).toNat = true := cls_ld.1 (by have := cls_le (s[k]'hlt).toNat; have := unhide HV3; omega)
            have HLK := hide hlk
            have HRW := fun (x : World) => hide (rwords_any x)
            clear h12 hlk
            go_wp2_with (go_at_call 28; (with_reducible refine (unhide (HC _ _ HBK.out)).mono ?_); rintro e w1 ⟨rfl, rfl⟩)
            clear hc0 hc35 hc3
            go_loop [7] (fun i => LdR (str s) k i) (fun i => s.size - (intOf i).toNat)
            case atStart => exact ⟨k, rfl, by omega, by rw [str_length]; omega, by simp⟩
            case round =>
              obtain ⟨j, rfl, hkj, hj, hrun⟩ := hrel
              rw [str_length] at hj
              by_cases hjl : j < s.size
              · have HGJ := hide (str_get s j hjl)
                have HBJ := Lib.hid (UInt8.toNat_lt (s[j]'hjl))
                rcases hld : isLD (s[j]'hjl).toNat with _ | _
                · have hrz : runL ((str s).drop j) = 0 := by rw [runL_at (unhide HGJ), if_neg (by rw [hld]; simp)]
                  by_cases hcz : clsL (s[j]'hjl).toNat = 0
                  · have p1 : decide (0 < clsL (s[j]'hjl).toNat) = false := decide_eq_false (by omega)
                    clear hld hcz
                    obtain ⟨hstr, hsz, hne⟩ := ld_piece hkj (by omega) hrun hrz (unhide HGET) (unhide HLK)
                    have hfw := first_word hne
                    have hfn := first_name hne
                    have hfm := first_num hne
                    have hfb := first_bad hne
                    have hnn : runL ((str s).drop k) = j - k := by omega
                    have hjk : k < j := by omega
                    rw [hnn] at hstr hfw hfn hfm hfb
                    rw [← hstr] at hfw hfn hfm hfb
                    have HNM := fun (x : World) => hide (rname_any x (s.extract k j) (by omega))
                    have HNU := fun (x : World) => hide (number_any x (s.extract k j) (by omega))
                    clear hrun hrz hne hnn hstr hsz
                    rcases hw : inL (str (s.extract k j)) wordsL with _ | _
                    · rcases hnm : nameL (str (s.extract k j)) with _ | _
                      · rcases hnu : numL (str (s.extract k j)) with _ | _
                        · have HFI := hide (hfb hw hnm hnu)
                          have hv := numV_bad hnu
                          rw [hv] at HNU
                          rw [hnm] at HNM
                          clear hfw hfn hfm hfb hnm hnu hv
                          go_wp2_with (first
                            | (go_at_call 28; (with_reducible refine (unhide (HC _ _ HBJ.out)).mono ?_); rintro e w1 ⟨rfl, rfl⟩)
                            | (go_at_call 16; (with_reducible refine (unhide (HRW _)).mono ?_); rintro e w2 ⟨v2, rfl, hrow⟩; go_loud (
                                have HB2 := hide (below_on (unhide HB) (by obtain ⟨_, _, _, _, _, h⟩ := hrow; exact h));
                                have HR2 := hide ((unhide HR).below (by obtain ⟨_, _, _, _, _, h⟩ := hrow; exact h));
                                have HI2 := hide (inw_any _ w2 v2 wordsB (s.extract k j) (by decide) hrow);
                                rw [wordsB_str, hw] at HI2;
                                obtain ⟨b2, rfl, _⟩ := hrow))
                            | (go_at_call 29; (with_reducible refine (unhide HI2).mono ?_); rintro e w3 ⟨rfl, rfl⟩)
                            | (go_at_call 19; (with_reducible refine (unhide (HNM _)).mono ?_); rintro e w3 ⟨rfl, rfl⟩)
                            | (go_at_call 13; (with_reducible refine (unhide (HNU _)).mono ?_); rintro e w3 ⟨rfl, rfl⟩))
                          go_ret2
                          have hbad := tok_bad (by rw [str_length]; exact hlt) (unhide HG0) (unhide HS) (by rw [unhide HFI])
                          refine ⟨fun ts h => ?_, fun _ => rfl, unhide HB2⟩
                          rw [hbad] at h
                          cases h
                        · have HFI := hide (hfm hw hnm hnu)
                          have hv : numV (str (s.extract k j)) = ((valL (str (s.extract k j)) : Nat) : Int) := by unfold numV; rw [hnu]; rfl
                          obtain ⟨m, hm⟩ : ∃ m, m = valL (str (s.extract k j)) := ⟨_, rfl⟩
                          rw [hv, ← hm] at HNU
                          rw [hnm] at HNM
                          clear hfw hfn hfm hfb hnm hnu hv hm
                          have hm0 : decide (0 ≤ (m : Int)) = true := decide_eq_true (by omega)
                          go_wp2_with (first
                            | (go_at_call 28; (with_reducible refine (unhide (HC _ _ HBJ.out)).mono ?_); rintro e w1 ⟨rfl, rfl⟩)
                            | (go_at_call 16; (with_reducible refine (unhide (HRW _)).mono ?_); rintro e w2 ⟨v2, rfl, hrow⟩; go_loud (
                                have HB2 := hide (below_on (unhide HB) (by obtain ⟨_, _, _, _, _, h⟩ := hrow; exact h));
                                have HR2 := hide ((unhide HR).below (by obtain ⟨_, _, _, _, _, h⟩ := hrow; exact h));
                                have HI2 := hide (inw_any _ w2 v2 wordsB (s.extract k j) (by decide) hrow);
                                rw [wordsB_str, hw] at HI2;
                                obtain ⟨b2, rfl, _⟩ := hrow))
                            | (go_at_call 29; (with_reducible refine (unhide HI2).mono ?_); rintro e w3 ⟨rfl, rfl⟩)
                            | (go_at_call 19; (with_reducible refine (unhide (HNM _)).mono ?_); rintro e w3 ⟨rfl, rfl⟩)
                            | (go_at_call 13; (with_reducible refine (unhide (HNU _)).mono ?_); rintro e w3 ⟨rfl, rfl⟩)
                            | (at_builtin; refine wpList_append_own _ rfl _ _ 28 rfl w.heap.size 33 i0 (.agg #[.int .u8 0, .string ⟨#[]⟩, .int .i64 0]) 3 32 Tryd.underlying28 HI.out H0.out H1.out H2.out rfl (by decide) _ _ _ rfl (World.ownsRow.alloc (unhide HR2) _) ⟨_, 0, none⟩ 1 1 [.int .u8 2, .string (s.extract k j), .int .i64 (k : Int)] rfl rfl ?c1 ?c2 ?c3 ?c4 ?c5 ?_))
                          case c1 => exact cell_three_new _ _ _ _
                          case c2 => simp [Value.oneCell']
                          case c3 => unfold maxLen; omega
                          case c4 => omega
                          case c5 => exact (((unhide HB2).alloc (unhide HB2).size _).size)
                          intro v' w4 hown1 hg1 _
                          have hbel := ((unhide HB2).alloc (unhide HB2).size _).grown hg1 (by have := (unhide HB2).size; simp; omega) (fun g hg => (World.ownsRow.lt (unhide HR2) g hg).1)
                          have HO := hide hown1
                          have HB4 := hide hbel
                          clear hown1 hbel hg1
                          go_wp2
                          go_roundw
                          case rel =>
                            refine ⟨j, acc ++ [⟨2, ((str s).drop k).take (j - k), k⟩], by omega, by go_num, ?_, by rw [List.length_append, List.length_singleton]; omega, unhide HB4, ?_⟩
                            · have h := unhide HO
                              unfold TRow
                              have e : toksC [⟨2, ((str s).drop k).take (j - k), k⟩] = [.int .u8 2, .string (s.extract k j), .int .i64 (k : Int)] := by
                                show [Value.int .u8 ((2 : Nat) : Int), .string (ba (((str s).drop k).take (j - k))), .int .i64 (k : Int)] = _
                                rw [ba_piece, show k + (j - k) = j by omega]
                                rfl
                              rw [toksC_append, List.length_append, e]
                              exact h
                            · have h := tok_next (by rw [str_length]; exact hlt) (unhide HG0) (unhide HS) (by rw [unhide HFI]; simp)
                              rw [unhide HFI] at h
                              simp only [] at h
                              rw [show k + (j - k) = j by omega] at h
                              exact h
                          case measure => simp [intOf]; omega
                      · have HFI := hide (hfn hw hnm)
                        rw [hnm] at HNM
                        clear hfw hfn hfm hfb hnm HNU
                        go_wp2_with (first
                          | (go_at_call 28; (with_reducible refine (unhide (HC _ _ HBJ.out)).mono ?_); rintro e w1 ⟨rfl, rfl⟩)
                          | (go_at_call 16; (with_reducible refine (unhide (HRW _)).mono ?_); rintro e w2 ⟨v2, rfl, hrow⟩; go_loud (
                              have HB2 := hide (below_on (unhide HB) (by obtain ⟨_, _, _, _, _, h⟩ := hrow; exact h));
                              have HR2 := hide ((unhide HR).below (by obtain ⟨_, _, _, _, _, h⟩ := hrow; exact h));
                              have HI2 := hide (inw_any _ w2 v2 wordsB (s.extract k j) (by decide) hrow);
                              rw [wordsB_str, hw] at HI2;
                              obtain ⟨b2, rfl, _⟩ := hrow))
                          | (go_at_call 29; (with_reducible refine (unhide HI2).mono ?_); rintro e w3 ⟨rfl, rfl⟩)
                          | (go_at_call 19; (with_reducible refine (unhide (HNM _)).mono ?_); rintro e w3 ⟨rfl, rfl⟩)
                          | (at_builtin; refine wpList_append_own _ rfl _ _ 28 rfl w.heap.size 33 i0 (.agg #[.int .u8 0, .string ⟨#[]⟩, .int .i64 0]) 3 32 Tryd.underlying28 HI.out H0.out H1.out H2.out rfl (by decide) _ _ _ rfl (World.ownsRow.alloc (unhide HR2) _) ⟨_, 0, none⟩ 1 1 [.int .u8 1, .string (s.extract k j), .int .i64 (k : Int)] rfl rfl ?c1 ?c2 ?c3 ?c4 ?c5 ?_))
                        case c1 => exact cell_three_new _ _ _ _
                        case c2 => simp [Value.oneCell']
                        case c3 => unfold maxLen; omega
                        case c4 => omega
                        case c5 => exact (((unhide HB2).alloc (unhide HB2).size _).size)
                        intro v' w4 hown1 hg1 _
                        have hbel := ((unhide HB2).alloc (unhide HB2).size _).grown hg1 (by have := (unhide HB2).size; simp; omega) (fun g hg => (World.ownsRow.lt (unhide HR2) g hg).1)
                        have HO := hide hown1
                        have HB4 := hide hbel
                        clear hown1 hbel hg1
                        go_wp2
                        go_roundw
                        case rel =>
                          refine ⟨j, acc ++ [⟨1, ((str s).drop k).take (j - k), k⟩], by omega, by go_num, ?_, by rw [List.length_append, List.length_singleton]; omega, unhide HB4, ?_⟩
                          · have h := unhide HO
                            unfold TRow
                            have e : toksC [⟨1, ((str s).drop k).take (j - k), k⟩] = [.int .u8 1, .string (s.extract k j), .int .i64 (k : Int)] := by
                              show [Value.int .u8 ((1 : Nat) : Int), .string (ba (((str s).drop k).take (j - k))), .int .i64 (k : Int)] = _
                              rw [ba_piece, show k + (j - k) = j by omega]
                              rfl
                            rw [toksC_append, List.length_append, e]
                            exact h
                          · have h := tok_next (by rw [str_length]; exact hlt) (unhide HG0) (unhide HS) (by rw [unhide HFI]; simp)
                            rw [unhide HFI] at h
                            simp only [] at h
                            rw [show k + (j - k) = j by omega] at h
                            exact h
                        case measure => simp [intOf]; omega
                    · have HFI := hide (hfw hw)
                      clear hfw hfn hfm hfb HNM HNU
                      go_wp2_with (first
                        | (go_at_call 28; (with_reducible refine (unhide (HC _ _ HBJ.out)).mono ?_); rintro e w1 ⟨rfl, rfl⟩)
                        | (go_at_call 16; (with_reducible refine (unhide (HRW _)).mono ?_); rintro e w2 ⟨v2, rfl, hrow⟩; go_loud (
                            have HB2 := hide (below_on (unhide HB) (by obtain ⟨_, _, _, _, _, h⟩ := hrow; exact h));
                            have HR2 := hide ((unhide HR).below (by obtain ⟨_, _, _, _, _, h⟩ := hrow; exact h));
                            have HI2 := hide (inw_any _ w2 v2 wordsB (s.extract k j) (by decide) hrow);
                            rw [wordsB_str, hw] at HI2;
                            obtain ⟨b2, rfl, _⟩ := hrow))
                        | (go_at_call 29; (with_reducible refine (unhide HI2).mono ?_); rintro e w3 ⟨rfl, rfl⟩)
                        | (at_builtin; refine wpList_append_own _ rfl _ _ 28 rfl w.heap.size 33 i0 (.agg #[.int .u8 0, .string ⟨#[]⟩, .int .i64 0]) 3 32 Tryd.underlying28 HI.out H0.out H1.out H2.out rfl (by decide) _ _ _ rfl (World.ownsRow.alloc (unhide HR2) _) ⟨_, 0, none⟩ 1 1 [.int .u8 3, .string (s.extract k j), .int .i64 (k : Int)] rfl rfl ?c1 ?c2 ?c3 ?c4 ?c5 ?_))
                      case c1 => exact cell_three_new _ _ _ _
                      case c2 => simp [Value.oneCell']
                      case c3 => unfold maxLen; omega
                      case c4 => omega
                      case c5 => exact (((unhide HB2).alloc (unhide HB2).size _).size)
                      intro v' w4 hown1 hg1 _
                      have hbel := ((unhide HB2).alloc (unhide HB2).size _).grown hg1 (by have := (unhide HB2).size; simp; omega) (fun g hg => (World.ownsRow.lt (unhide HR2) g hg).1)
                      have HO := hide hown1
                      have HB4 := hide hbel
                      clear hown1 hbel hg1
                      go_wp2
                      go_roundw
                      case rel =>
                        refine ⟨j, acc ++ [⟨3, ((str s).drop k).take (j - k), k⟩], by omega, by go_num, ?_, by rw [List.length_append, List.length_singleton]; omega, unhide HB4, ?_⟩
                        · have h := unhide HO
                          unfold TRow
                          have e : toksC [⟨3, ((str s).drop k).take (j - k), k⟩] = [.int .u8 3, .string (s.extract k j), .int .i64 (k : Int)] := by
                            show [Value.int .u8 ((3 : Nat) : Int), .string (ba (((str s).drop k).take (j - k))), .int .i64 (k : Int)] = _
                            rw [ba_piece, show k + (j - k) = j by omega]
                            rfl
                          rw [toksC_append, List.length_append, e]
                          exact h
                        · have h := tok_next (by rw [str_length]; exact hlt) (unhide HG0) (unhide HS) (by rw [unhide HFI]; simp)
                          rw [unhide HFI] at h
                          simp only [] at h
                          rw [show k + (j - k) = j by omega] at h
                          exact h
                      case measure => simp [intOf]; omega
                  · have p1 : decide (0 < clsL (s[j]'hjl).toNat) = true := decide_eq_true (by omega)
                    have p2 : decide (clsL (s[j]'hjl).toNat < 3) = false := decide_eq_false (by
                      intro h
                      have := cls_ld.1 (show clsL (s[j]'hjl).toNat = 1 ∨ clsL (s[j]'hjl).toNat = 2 by omega)
                      rw [this] at hld
                      cases hld)
                    have p2' : decide ((clsL (s[j]'hjl).toNat : Int) < 3) = false := decide_eq_false (by have := of_decide_eq_false p2; omega)
                    clear hld hcz
                    obtain ⟨hstr, hsz, hne⟩ := ld_piece hkj (by omega) hrun hrz (unhide HGET) (unhide HLK)
                    have hfw := first_word hne
                    have hfn := first_name hne
                    have hfm := first_num hne
                    have hfb := first_bad hne
                    have hnn : runL ((str s).drop k) = j - k := by omega
                    have hjk : k < j := by omega
                    rw [hnn] at hstr hfw hfn hfm hfb
                    rw [← hstr] at hfw hfn hfm hfb
                    have HNM := fun (x : World) => hide (rname_any x (s.extract k j) (by omega))
                    have HNU := fun (x : World) => hide (number_any x (s.extract k j) (by omega))
                    clear hrun hrz hne hnn hstr hsz
                    rcases hw : inL (str (s.extract k j)) wordsL with _ | _
                    · rcases hnm : nameL (str (s.extract k j)) with _ | _
                      · rcases hnu : numL (str (s.extract k j)) with _ | _
                        · have HFI := hide (hfb hw hnm hnu)
                          have hv := numV_bad hnu
                          rw [hv] at HNU
                          rw [hnm] at HNM
                          clear hfw hfn hfm hfb hnm hnu hv
                          go_wp2_with (first
                            | (go_at_call 28; (with_reducible refine (unhide (HC _ _ HBJ.out)).mono ?_); rintro e w1 ⟨rfl, rfl⟩)
                            | (go_at_call 16; (with_reducible refine (unhide (HRW _)).mono ?_); rintro e w2 ⟨v2, rfl, hrow⟩; go_loud (
                                have HB2 := hide (below_on (unhide HB) (by obtain ⟨_, _, _, _, _, h⟩ := hrow; exact h));
                                have HR2 := hide ((unhide HR).below (by obtain ⟨_, _, _, _, _, h⟩ := hrow; exact h));
                                have HI2 := hide (inw_any _ w2 v2 wordsB (s.extract k j) (by decide) hrow);
                                rw [wordsB_str, hw] at HI2;
                                obtain ⟨b2, rfl, _⟩ := hrow))
                            | (go_at_call 29; (with_reducible refine (unhide HI2).mono ?_); rintro e w3 ⟨rfl, rfl⟩)
                            | (go_at_call 19; (with_reducible refine (unhide (HNM _)).mono ?_); rintro e w3 ⟨rfl, rfl⟩)
                            | (go_at_call 13; (with_reducible refine (unhide (HNU _)).mono ?_); rintro e w3 ⟨rfl, rfl⟩))
                          go_ret2
                          have hbad := tok_bad (by rw [str_length]; exact hlt) (unhide HG0) (unhide HS) (by rw [unhide HFI])
                          refine ⟨fun ts h => ?_, fun _ => rfl, unhide HB2⟩
                          rw [hbad] at h
                          cases h
                        · have HFI := hide (hfm hw hnm hnu)
                          have hv : numV (str (s.extract k j)) = ((valL (str (s.extract k j)) : Nat) : Int) := by unfold numV; rw [hnu]; rfl
                          obtain ⟨m, hm⟩ : ∃ m, m = valL (str (s.extract k j)) := ⟨_, rfl⟩
                          rw [hv, ← hm] at HNU
                          rw [hnm] at HNM
                          clear hfw hfn hfm hfb hnm hnu hv hm
                          have hm0 : decide (0 ≤ (m : Int)) = true := decide_eq_true (by omega)
                          go_wp2_with (first
                            | (go_at_call 28; (with_reducible refine (unhide (HC _ _ HBJ.out)).mono ?_); rintro e w1 ⟨rfl, rfl⟩)
                            | (go_at_call 16; (with_reducible refine (unhide (HRW _)).mono ?_); rintro e w2 ⟨v2, rfl, hrow⟩; go_loud (
                                have HB2 := hide (below_on (unhide HB) (by obtain ⟨_, _, _, _, _, h⟩ := hrow; exact h));
                                have HR2 := hide ((unhide HR).below (by obtain ⟨_, _, _, _, _, h⟩ := hrow; exact h));
                                have HI2 := hide (inw_any _ w2 v2 wordsB (s.extract k j) (by decide) hrow);
                                rw [wordsB_str, hw] at HI2;
                                obtain ⟨b2, rfl, _⟩ := hrow))
                            | (go_at_call 29; (with_reducible refine (unhide HI2).mono ?_); rintro e w3 ⟨rfl, rfl⟩)
                            | (go_at_call 19; (with_reducible refine (unhide (HNM _)).mono ?_); rintro e w3 ⟨rfl, rfl⟩)
                            | (go_at_call 13; (with_reducible refine (unhide (HNU _)).mono ?_); rintro e w3 ⟨rfl, rfl⟩)
                            | (at_builtin; refine wpList_append_own _ rfl _ _ 28 rfl w.heap.size 33 i0 (.agg #[.int .u8 0, .string ⟨#[]⟩, .int .i64 0]) 3 32 Tryd.underlying28 HI.out H0.out H1.out H2.out rfl (by decide) _ _ _ rfl (World.ownsRow.alloc (unhide HR2) _) ⟨_, 0, none⟩ 1 1 [.int .u8 2, .string (s.extract k j), .int .i64 (k : Int)] rfl rfl ?c1 ?c2 ?c3 ?c4 ?c5 ?_))
                          case c1 => exact cell_three_new _ _ _ _
                          case c2 => simp [Value.oneCell']
                          case c3 => unfold maxLen; omega
                          case c4 => omega
                          case c5 => exact (((unhide HB2).alloc (unhide HB2).size _).size)
                          intro v' w4 hown1 hg1 _
                          have hbel := ((unhide HB2).alloc (unhide HB2).size _).grown hg1 (by have := (unhide HB2).size; simp; omega) (fun g hg => (World.ownsRow.lt (unhide HR2) g hg).1)
                          have HO := hide hown1
                          have HB4 := hide hbel
                          clear hown1 hbel hg1
                          go_wp2
                          go_roundw
                          case rel =>
                            refine ⟨j, acc ++ [⟨2, ((str s).drop k).take (j - k), k⟩], by omega, by go_num, ?_, by rw [List.length_append, List.length_singleton]; omega, unhide HB4, ?_⟩
                            · have h := unhide HO
                              unfold TRow
                              have e : toksC [⟨2, ((str s).drop k).take (j - k), k⟩] = [.int .u8 2, .string (s.extract k j), .int .i64 (k : Int)] := by
                                show [Value.int .u8 ((2 : Nat) : Int), .string (ba (((str s).drop k).take (j - k))), .int .i64 (k : Int)] = _
                                rw [ba_piece, show k + (j - k) = j by omega]
                                rfl
                              rw [toksC_append, List.length_append, e]
                              exact h
                            · have h := tok_next (by rw [str_length]; exact hlt) (unhide HG0) (unhide HS) (by rw [unhide HFI]; simp)
                              rw [unhide HFI] at h
                              simp only [] at h
                              rw [show k + (j - k) = j by omega] at h
                              exact h
                          case measure => simp [intOf]; omega
                      · have HFI := hide (hfn hw hnm)
                        rw [hnm] at HNM
                        clear hfw hfn hfm hfb hnm HNU
                        go_wp2_with (first
                          | (go_at_call 28; (with_reducible refine (unhide (HC _ _ HBJ.out)).mono ?_); rintro e w1 ⟨rfl, rfl⟩)
                          | (go_at_call 16; (with_reducible refine (unhide (HRW _)).mono ?_); rintro e w2 ⟨v2, rfl, hrow⟩; go_loud (
                              have HB2 := hide (below_on (unhide HB) (by obtain ⟨_, _, _, _, _, h⟩ := hrow; exact h));
                              have HR2 := hide ((unhide HR).below (by obtain ⟨_, _, _, _, _, h⟩ := hrow; exact h));
                              have HI2 := hide (inw_any _ w2 v2 wordsB (s.extract k j) (by decide) hrow);
                              rw [wordsB_str, hw] at HI2;
                              obtain ⟨b2, rfl, _⟩ := hrow))
                          | (go_at_call 29; (with_reducible refine (unhide HI2).mono ?_); rintro e w3 ⟨rfl, rfl⟩)
                          | (go_at_call 19; (with_reducible refine (unhide (HNM _)).mono ?_); rintro e w3 ⟨rfl, rfl⟩)
                          | (at_builtin; refine wpList_append_own _ rfl _ _ 28 rfl w.heap.size 33 i0 (.agg #[.int .u8 0, .string ⟨#[]⟩, .int .i64 0]) 3 32 Tryd.underlying28 HI.out H0.out H1.out H2.out rfl (by decide) _ _ _ rfl (World.ownsRow.alloc (unhide HR2) _) ⟨_, 0, none⟩ 1 1 [.int .u8 1, .string (s.extract k j), .int .i64 (k : Int)] rfl rfl ?c1 ?c2 ?c3 ?c4 ?c5 ?_))
                        case c1 => exact cell_three_new _ _ _ _
                        case c2 => simp [Value.oneCell']
                        case c3 => unfold maxLen; omega
                        case c4 => omega
                        case c5 => exact (((unhide HB2).alloc (unhide HB2).size _).size)
                        intro v' w4 hown1 hg1 _
                        have hbel := ((unhide HB2).alloc (unhide HB2).size _).grown hg1 (by have := (unhide HB2).size; simp; omega) (fun g hg => (World.ownsRow.lt (unhide HR2) g hg).1)
                        have HO := hide hown1
                        have HB4 := hide hbel
                        clear hown1 hbel hg1
                        go_wp2
                        go_roundw
                        case rel =>
                          refine ⟨j, acc ++ [⟨1, ((str s).drop k).take (j - k), k⟩], by omega, by go_num, ?_, by rw [List.length_append, List.length_singleton]; omega, unhide HB4, ?_⟩
                          · have h := unhide HO
                            unfold TRow
                            have e : toksC [⟨1, ((str s).drop k).take (j - k), k⟩] = [.int .u8 1, .string (s.extract k j), .int .i64 (k : Int)] := by
                              show [Value.int .u8 ((1 : Nat) : Int), .string (ba (((str s).drop k).take (j - k))), .int .i64 (k : Int)] = _
                              rw [ba_piece, show k + (j - k) = j by omega]
                              rfl
                            rw [toksC_append, List.length_append, e]
                            exact h
                          · have h := tok_next (by rw [str_length]; exact hlt) (unhide HG0) (unhide HS) (by rw [unhide HFI]; simp)
                            rw [unhide HFI] at h
                            simp only [] at h
                            rw [show k + (j - k) = j by omega] at h
                            exact h
                        case measure => simp [intOf]; omega
                    · have HFI := hide (hfw hw)
                      clear hfw hfn hfm hfb HNM HNU
                      go_wp2_with (first
                        | (go_at_call 28; (with_reducible refine (unhide (HC _ _ HBJ.out)).mono ?_); rintro e w1 ⟨rfl, rfl⟩)
                        | (go_at_call 16; (with_reducible refine (unhide (HRW _)).mono ?_); rintro e w2 ⟨v2, rfl, hrow⟩; go_loud (
                            have HB2 := hide (below_on (unhide HB) (by obtain ⟨_, _, _, _, _, h⟩ := hrow; exact h));
                            have HR2 := hide ((unhide HR).below (by obtain ⟨_, _, _, _, _, h⟩ := hrow; exact h));
                            have HI2 := hide (inw_any _ w2 v2 wordsB (s.extract k j) (by decide) hrow);
                            rw [wordsB_str, hw] at HI2;
                            obtain ⟨b2, rfl, _⟩ := hrow))
                        | (go_at_call 29; (with_reducible refine (unhide HI2).mono ?_); rintro e w3 ⟨rfl, rfl⟩)
                        | (at_builtin; refine wpList_append_own _ rfl _ _ 28 rfl w.heap.size 33 i0 (.agg #[.int .u8 0, .string ⟨#[]⟩, .int .i64 0]) 3 32 Tryd.underlying28 HI.out H0.out H1.out H2.out rfl (by decide) _ _ _ rfl (World.ownsRow.alloc (unhide HR2) _) ⟨_, 0, none⟩ 1 1 [.int .u8 3, .string (s.extract k j), .int .i64 (k : Int)] rfl rfl ?c1 ?c2 ?c3 ?c4 ?c5 ?_))
                      case c1 => exact cell_three_new _ _ _ _
                      case c2 => simp [Value.oneCell']
                      case c3 => unfold maxLen; omega
                      case c4 => omega
                      case c5 => exact (((unhide HB2).alloc (unhide HB2).size _).size)
                      intro v' w4 hown1 hg1 _
                      have hbel := ((unhide HB2).alloc (unhide HB2).size _).grown hg1 (by have := (unhide HB2).size; simp; omega) (fun g hg => (World.ownsRow.lt (unhide HR2) g hg).1)
                      have HO := hide hown1
                      have HB4 := hide hbel
                      clear hown1 hbel hg1
                      go_wp2
                      go_roundw
                      case rel =>
                        refine ⟨j, acc ++ [⟨3, ((str s).drop k).take (j - k), k⟩], by omega, by go_num, ?_, by rw [List.length_append, List.length_singleton]; omega, unhide HB4, ?_⟩
                        · have h := unhide HO
                          unfold TRow
                          have e : toksC [⟨3, ((str s).drop k).take (j - k), k⟩] = [.int .u8 3, .string (s.extract k j), .int .i64 (k : Int)] := by
                            show [Value.int .u8 ((3 : Nat) : Int), .string (ba (((str s).drop k).take (j - k))), .int .i64 (k : Int)] = _
                            rw [ba_piece, show k + (j - k) = j by omega]
                            rfl
                          rw [toksC_append, List.length_append, e]
                          exact h
                        · have h := tok_next (by rw [str_length]; exact hlt) (unhide HG0) (unhide HS) (by rw [unhide HFI]; simp)
                          rw [unhide HFI] at h
                          simp only [] at h
                          rw [show k + (j - k) = j by omega] at h
                          exact h
                      case measure => simp [intOf]; omega
                · have hcl := cls_ld.2 hld
                  have p1 : decide (0 < clsL (s[j]'hjl).toNat) = true := decide_eq_true (by omega)
                  have p2 : decide (clsL (s[j]'hjl).toNat < 3) = true := decide_eq_true (by omega)
                  have p2' : decide ((clsL (s[j]'hjl).toNat : Int) < 3) = true := decide_eq_true (by omega)
                  have HLD := hide hld
                  have HRUN := hide hrun
                  clear hld hcl hrun
                  go_wp2_with (go_at_call 28; (with_reducible refine (unhide (HC _ _ HBJ.out)).mono ?_); rintro e w1 ⟨rfl, rfl⟩)
                  go_round
                  case rel =>
                    refine ⟨j + 1, by go_num, by omega, by rw [str_length]; omega, ?_⟩
                    have h := runL_at (unhide HGJ)
                    rw [if_pos (unhide HLD)] at h
                    rw [unhide HRUN, h]
                    omega
                  case measure => simp [intOf]; omega
              · have hrz : runL ((str s).drop j) = 0 := by rw [List.drop_eq_nil_of_le (by rw [str_length]; omega)]; rfl
                obtain ⟨hstr, hsz, hne⟩ := ld_piece hkj (by omega) hrun hrz (unhide HGET) (unhide HLK)
                have hfw := first_word hne
                have hfn := first_name hne
                have hfm := first_num hne
                have hfb := first_bad hne
                have hnn : runL ((str s).drop k) = j - k := by omega
                have hjk : k < j := by omega
                rw [hnn] at hstr hfw hfn hfm hfb
                rw [← hstr] at hfw hfn hfm hfb
                have HNM := fun (x : World) => hide (rname_any x (s.extract k j) (by omega))
                have HNU := fun (x : World) => hide (number_any x (s.extract k j) (by omega))
                clear hrun hrz hne hnn hstr hsz
                rcases hw : inL (str (s.extract k j)) wordsL with _ | _
                · rcases hnm : nameL (str (s.extract k j)) with _ | _
                  · rcases hnu : numL (str (s.extract k j)) with _ | _
                    · have HFI := hide (hfb hw hnm hnu)
                      have hv := numV_bad hnu
                      rw [hv] at HNU
                      rw [hnm] at HNM
                      clear hfw hfn hfm hfb hnm hnu hv
                      go_wp2_with (first
                        | (go_at_call 16; (with_reducible refine (unhide (HRW _)).mono ?_); rintro e w2 ⟨v2, rfl, hrow⟩; go_loud (
                            have HB2 := hide (below_on (unhide HB) (by obtain ⟨_, _, _, _, _, h⟩ := hrow; exact h));
                            have HR2 := hide ((unhide HR).below (by obtain ⟨_, _, _, _, _, h⟩ := hrow; exact h));
                            have HI2 := hide (inw_any _ w2 v2 wordsB (s.extract k j) (by decide) hrow);
                            rw [wordsB_str, hw] at HI2;
                            obtain ⟨b2, rfl, _⟩ := hrow))
                        | (go_at_call 29; (with_reducible refine (unhide HI2).mono ?_); rintro e w3 ⟨rfl, rfl⟩)
                        | (go_at_call 19; (with_reducible refine (unhide (HNM _)).mono ?_); rintro e w3 ⟨rfl, rfl⟩)
                        | (go_at_call 13; (with_reducible refine (unhide (HNU _)).mono ?_); rintro e w3 ⟨rfl, rfl⟩))
                      go_ret2
                      have hbad := tok_bad (by rw [str_length]; exact hlt) (unhide HG0) (unhide HS) (by rw [unhide HFI])
                      refine ⟨fun ts h => ?_, fun _ => rfl, unhide HB2⟩
                      rw [hbad] at h
                      cases h
                    · have HFI := hide (hfm hw hnm hnu)
                      have hv : numV (str (s.extract k j)) = ((valL (str (s.extract k j)) : Nat) : Int) := by unfold numV; rw [hnu]; rfl
                      obtain ⟨m, hm⟩ : ∃ m, m = valL (str (s.extract k j)) := ⟨_, rfl⟩
                      rw [hv, ← hm] at HNU
                      rw [hnm] at HNM
                      clear hfw hfn hfm hfb hnm hnu hv hm
                      have hm0 : decide (0 ≤ (m : Int)) = true := decide_eq_true (by omega)
                      go_wp2_with (first
                        | (go_at_call 16; (with_reducible refine (unhide (HRW _)).mono ?_); rintro e w2 ⟨v2, rfl, hrow⟩; go_loud (
                            have HB2 := hide (below_on (unhide HB) (by obtain ⟨_, _, _, _, _, h⟩ := hrow; exact h));
                            have HR2 := hide ((unhide HR).below (by obtain ⟨_, _, _, _, _, h⟩ := hrow; exact h));
                            have HI2 := hide (inw_any _ w2 v2 wordsB (s.extract k j) (by decide) hrow);
                            rw [wordsB_str, hw] at HI2;
                            obtain ⟨b2, rfl, _⟩ := hrow))
                        | (go_at_call 29; (with_reducible refine (unhide HI2).mono ?_); rintro e w3 ⟨rfl, rfl⟩)
                        | (go_at_call 19; (with_reducible refine (unhide (HNM _)).mono ?_); rintro e w3 ⟨rfl, rfl⟩)
                        | (go_at_call 13; (with_reducible refine (unhide (HNU _)).mono ?_); rintro e w3 ⟨rfl, rfl⟩)
                        | (at_builtin; refine wpList_append_own _ rfl _ _ 28 rfl w.heap.size 33 i0 (.agg #[.int .u8 0, .string ⟨#[]⟩, .int .i64 0]) 3 32 Tryd.underlying28 HI.out H0.out H1.out H2.out rfl (by decide) _ _ _ rfl (World.ownsRow.alloc (unhide HR2) _) ⟨_, 0, none⟩ 1 1 [.int .u8 2, .string (s.extract k j), .int .i64 (k : Int)] rfl rfl ?c1 ?c2 ?c3 ?c4 ?c5 ?_))
                      case c1 => exact cell_three_new _ _ _ _
                      case c2 => simp [Value.oneCell']
                      case c3 => unfold maxLen; omega
                      case c4 => omega
                      case c5 => exact (((unhide HB2).alloc (unhide HB2).size _).size)
                      intro v' w4 hown1 hg1 _
                      have hbel := ((unhide HB2).alloc (unhide HB2).size _).grown hg1 (by have := (unhide HB2).size; simp; omega) (fun g hg => (World.ownsRow.lt (unhide HR2) g hg).1)
                      have HO := hide hown1
                      have HB4 := hide hbel
                      clear hown1 hbel hg1
                      go_wp2
                      go_roundw
                      case rel =>
                        refine ⟨j, acc ++ [⟨2, ((str s).drop k).take (j - k), k⟩], by omega, by go_num, ?_, by rw [List.length_append, List.length_singleton]; omega, unhide HB4, ?_⟩
                        · have h := unhide HO
                          unfold TRow
                          have e : toksC [⟨2, ((str s).drop k).take (j - k), k⟩] = [.int .u8 2, .string (s.extract k j), .int .i64 (k : Int)] := by
                            show [Value.int .u8 ((2 : Nat) : Int), .string (ba (((str s).drop k).take (j - k))), .int .i64 (k : Int)] = _
                            rw [ba_piece, show k + (j - k) = j by omega]
                            rfl
                          rw [toksC_append, List.length_append, e]
                          exact h
                        · have h := tok_next (by rw [str_length]; exact hlt) (unhide HG0) (unhide HS) (by rw [unhide HFI]; simp)
                          rw [unhide HFI] at h
                          simp only [] at h
                          rw [show k + (j - k) = j by omega] at h
                          exact h
                      case measure => simp [intOf]; omega
                  · have HFI := hide (hfn hw hnm)
                    rw [hnm] at HNM
                    clear hfw hfn hfm hfb hnm HNU
                    go_wp2_with (first
                      | (go_at_call 16; (with_reducible refine (unhide (HRW _)).mono ?_); rintro e w2 ⟨v2, rfl, hrow⟩; go_loud (
                          have HB2 := hide (below_on (unhide HB) (by obtain ⟨_, _, _, _, _, h⟩ := hrow; exact h));
                          have HR2 := hide ((unhide HR).below (by obtain ⟨_, _, _, _, _, h⟩ := hrow; exact h));
                          have HI2 := hide (inw_any _ w2 v2 wordsB (s.extract k j) (by decide) hrow);
                          rw [wordsB_str, hw] at HI2;
                          obtain ⟨b2, rfl, _⟩ := hrow))
                      | (go_at_call 29; (with_reducible refine (unhide HI2).mono ?_); rintro e w3 ⟨rfl, rfl⟩)
                      | (go_at_call 19; (with_reducible refine (unhide (HNM _)).mono ?_); rintro e w3 ⟨rfl, rfl⟩)
                      | (at_builtin; refine wpList_append_own _ rfl _ _ 28 rfl w.heap.size 33 i0 (.agg #[.int .u8 0, .string ⟨#[]⟩, .int .i64 0]) 3 32 Tryd.underlying28 HI.out H0.out H1.out H2.out rfl (by decide) _ _ _ rfl (World.ownsRow.alloc (unhide HR2) _) ⟨_, 0, none⟩ 1 1 [.int .u8 1, .string (s.extract k j), .int .i64 (k : Int)] rfl rfl ?c1 ?c2 ?c3 ?c4 ?c5 ?_))
                    case c1 => exact cell_three_new _ _ _ _
                    case c2 => simp [Value.oneCell']
                    case c3 => unfold maxLen; omega
                    case c4 => omega
                    case c5 => exact (((unhide HB2).alloc (unhide HB2).size _).size)
                    intro v' w4 hown1 hg1 _
                    have hbel := ((unhide HB2).alloc (unhide HB2).size _).grown hg1 (by have := (unhide HB2).size; simp; omega) (fun g hg => (World.ownsRow.lt (unhide HR2) g hg).1)
                    have HO := hide hown1
                    have HB4 := hide hbel
                    clear hown1 hbel hg1
                    go_wp2
                    go_roundw
                    case rel =>
                      refine ⟨j, acc ++ [⟨1, ((str s).drop k).take (j - k), k⟩], by omega, by go_num, ?_, by rw [List.length_append, List.length_singleton]; omega, unhide HB4, ?_⟩
                      · have h := unhide HO
                        unfold TRow
                        have e : toksC [⟨1, ((str s).drop k).take (j - k), k⟩] = [.int .u8 1, .string (s.extract k j), .int .i64 (k : Int)] := by
                          show [Value.int .u8 ((1 : Nat) : Int), .string (ba (((str s).drop k).take (j - k))), .int .i64 (k : Int)] = _
                          rw [ba_piece, show k + (j - k) = j by omega]
                          rfl
                        rw [toksC_append, List.length_append, e]
                        exact h
                      · have h := tok_next (by rw [str_length]; exact hlt) (unhide HG0) (unhide HS) (by rw [unhide HFI]; simp)
                        rw [unhide HFI] at h
                        simp only [] at h
                        rw [show k + (j - k) = j by omega] at h
                        exact h
                    case measure => simp [intOf]; omega
                · have HFI := hide (hfw hw)
                  clear hfw hfn hfm hfb HNM HNU
                  go_wp2_with (first
                    | (go_at_call 16; (with_reducible refine (unhide (HRW _)).mono ?_); rintro e w2 ⟨v2, rfl, hrow⟩; go_loud (
                        have HB2 := hide (below_on (unhide HB) (by obtain ⟨_, _, _, _, _, h⟩ := hrow; exact h));
                        have HR2 := hide ((unhide HR).below (by obtain ⟨_, _, _, _, _, h⟩ := hrow; exact h));
                        have HI2 := hide (inw_any _ w2 v2 wordsB (s.extract k j) (by decide) hrow);
                        rw [wordsB_str, hw] at HI2;
                        obtain ⟨b2, rfl, _⟩ := hrow))
                    | (go_at_call 29; (with_reducible refine (unhide HI2).mono ?_); rintro e w3 ⟨rfl, rfl⟩)
                    | (at_builtin; refine wpList_append_own _ rfl _ _ 28 rfl w.heap.size 33 i0 (.agg #[.int .u8 0, .string ⟨#[]⟩, .int .i64 0]) 3 32 Tryd.underlying28 HI.out H0.out H1.out H2.out rfl (by decide) _ _ _ rfl (World.ownsRow.alloc (unhide HR2) _) ⟨_, 0, none⟩ 1 1 [.int .u8 3, .string (s.extract k j), .int .i64 (k : Int)] rfl rfl ?c1 ?c2 ?c3 ?c4 ?c5 ?_))
                  case c1 => exact cell_three_new _ _ _ _
                  case c2 => simp [Value.oneCell']
                  case c3 => unfold maxLen; omega
                  case c4 => omega
                  case c5 => exact (((unhide HB2).alloc (unhide HB2).size _).size)
                  intro v' w4 hown1 hg1 _
                  have hbel := ((unhide HB2).alloc (unhide HB2).size _).grown hg1 (by have := (unhide HB2).size; simp; omega) (fun g hg => (World.ownsRow.lt (unhide HR2) g hg).1)
                  have HO := hide hown1
                  have HB4 := hide hbel
                  clear hown1 hbel hg1
                  go_wp2
                  go_roundw
                  case rel =>
                    refine ⟨j, acc ++ [⟨3, ((str s).drop k).take (j - k), k⟩], by omega, by go_num, ?_, by rw [List.length_append, List.length_singleton]; omega, unhide HB4, ?_⟩
                    · have h := unhide HO
                      unfold TRow
                      have e : toksC [⟨3, ((str s).drop k).take (j - k), k⟩] = [.int .u8 3, .string (s.extract k j), .int .i64 (k : Int)] := by
                        show [Value.int .u8 ((3 : Nat) : Int), .string (ba (((str s).drop k).take (j - k))), .int .i64 (k : Int)] = _
                        rw [ba_piece, show k + (j - k) = j by omega]
                        rfl
                      rw [toksC_append, List.length_append, e]
                      exact h
                    · have h := tok_next (by rw [str_length]; exact hlt) (unhide HG0) (unhide HS) (by rw [unhide HFI]; simp)
                      rw [unhide HFI] at h
                      simp only [] at h
                      rw [show k + (j - k) = j by omega] at h
                      exact h
                  case measure => simp [intOf]; omega
    · have hend : scan ((str s).drop k) k = some [] := scan_end (by rw [List.drop_eq_nil_of_le (by rw [str_length]; omega)]; simp)
      have hs2 := unhide HS
      rw [hend] at hs2
      have HS2 := hide hs2
      clear hs2 hend
      go_wp2
      go_ret2
      refine ⟨fun ts h => ⟨_, rfl, ?_⟩, fun h => ?_, unhide HB⟩
      · rw [unhide HS2] at h
        simp at h
        rw [← h]
        exact unhide HR
      · rw [unhide HS2] at h
        cases h
end Go.Proofs.YtiimkodgfhkbpaaDoor
