/- The walk of TokenPlaces. -/
import Derived.Test.YtiimkodgfhkbpaaDoorKSpace
import Derived.Deep.QuietTactic
import Derived.BigQuiet
namespace Go.Proofs.YtiimkodgfhkbpaaDoor
open Go.RowKit
set_option linter.unusedSimpArgs false
set_option linter.unusedVariables false
def PlacesI (W : World) (s : ByteArray) (ts : List Tok) (a i : Value) (w : World) : Prop :=
  ∃ j p : Nat, i = .int .i64 (j : Int) ∧ a = .int .i64 (p : Int) ∧ j ≤ ts.length ∧ p ≤ s.size ∧ Spaced (str s) p (ts.drop j) ∧ Below W.heap.size W w
set_option maxRecDepth 100000 in
set_option maxHeartbeats 2000000 in
theorem places_core (w : World) (s0 : ByteArray) (hs : s0.size ≤ 9223372036854775807) (hv : Vr w) :
    Calls Tryd.prog 7 #[.string s0] w fun e w' => e = .returned (.bool true) ∧ Below w.heap.size w w' := by
  have HV := hide hv
  have HAW := hide (awake_true w hv)
  have HT := fun (x : World) => hide (text_some x s0 600 hs)
  simp only [show ((600 : Nat) : Int) = 600 from rfl] at HT
  have HG := fun (x : World) (t : ByteArray) (ts : List Tok) (ht : t.size ≤ 200000) (hx : Vr x) (h : scan (str t) 0 = some ts) => hide (all_good x t ts ht hx h)
  have HBAD := fun (x : World) (t : ByteArray) (ht : t.size ≤ 200000) (hx : Vr x) (h : scan (str t) 0 = none) => hide (all_bad x t ht hx h)
  clear hv
  go_enter Tryd.func7, Tryd.ntmps7
  go_wp2_with (first
    | (go_at_call 8; (with_reducible refine (unhide HAW).mono ?_); rintro e w1 ⟨rfl, hb⟩; have HB1 := hide hb; clear hb)
    | (go_at_call 9; (with_reducible refine (unhide (HT _)).mono ?_); rintro e w2 ⟨⟨s, rfl, hsz⟩, rfl⟩)
    | (go_at_call 10; fail))
  rcases hsc : scan (str s) 0 with _ | ts
  · have HA := hide (HBAD _ s (by omega) ((unhide HV).below (unhide HB1)) hsc)
    go_wp2_with (go_at_call 10; (with_reducible refine (unhide (unhide HA)).mono ?_); rintro e w3 ⟨rfl, hb⟩; have HB3 := hide (below_on (unhide HB1) hb); clear hb)
    go_ret
    exact ⟨rfl, unhide HB3⟩
  · have HA := hide (HG _ s ts (by omega) ((unhide HV).below (unhide HB1)) hsc)
    have HSP := hide (spaced_of ts (str s) 0 (by omega) (by rw [List.drop_zero]; exact hsc))
    have htl := scan_len ts _ _ hsc
    rw [str_length] at htl
    clear hsc
    go_wp2_with (go_at_call 10; (with_reducible refine (unhide (unhide HA)).mono ?_); rintro e w3 ⟨A, c, rfl, hc, hC, hb⟩; go_loud (
      have HB3 := hide (below_on (unhide HB1) hb);
      have HC3 := hide hC;
      clear hb hC))
    go_loopw [5, 26] (fun a i wr => PlacesI w3 s ts a i wr) (fun _ i _ => ts.length - (intOf i).toNat)
    case atStart => exact ⟨0, 0, rfl, rfl, by omega, by omega, by rw [List.drop_zero]; exact unhide HSP, Below.refl _ _⟩
    case round =>
      obtain ⟨j, p, rfl, rfl, hj, hp, hsp, hbr⟩ := hrel
      have HBR := hide hbr
      have HSPR := hide hsp
      clear hbr hsp
      by_cases hlt : j < ts.length
      · have hC := (unhide HC3).below (unhide HBR)
        have hd : ts.drop j = ts[j]'hlt :: ts.drop (j + 1) := List.drop_eq_getElem_cons hlt
        have hsp := unhide HSPR
        rw [hd] at hsp
        obtain ⟨hp1, hp2, hp3, hp4, hp5, hp6⟩ := hsp
        obtain ⟨g, hA, hg, a0, a1, a2⟩ := hC j _ (List.getElem?_eq_getElem hlt)
        rw [Nat.mul_comm 3 j] at a0 a1 a2
        obtain ⟨t, ht⟩ : ∃ t, t = ts[j]'hlt := ⟨_, rfl⟩
        rw [← ht] at hp1 hp2 hp3 hp4 hp5 hp6 a0 a1 a2
        obtain ⟨kk, tx, ta⟩ := t
        simp only [] at hp1 hp2 hp3 hp4 hp5 hp6 a0 a1 a2
        obtain ⟨n, hn⟩ : ∃ n, n = tx.length := ⟨_, rfl⟩
        rw [← hn] at hp2 hp3 hp4 hp6
        rw [str_length] at hp2
        have htx : ba tx = s.extract ta (ta + n) := by rw [hp3, ba_piece]
        have hxs : (s.extract ta (ta + n)).size = n := by rw [← str_length, str_extract, List.length_take, List.length_drop, str_length]; omega
        rw [htx] at a1
        have HP5 := hide hp5
        have HP6 := hide hp6
        subst hA
        clear ht hn hp3 htx hp5 hp6 hd hC
        have g1 : decide ((ta : Int) < (p : Int)) = false := decide_eq_false (by omega)
        have g1n : decide (ta < p) = false := decide_eq_false (by omega)
        have g2 : decide ((s.size : Int) < (ta : Int) + (n : Int)) = false := decide_eq_false (by omega)
        have g3 : IntKind.i64.wrap ((ta : Int) + (n : Int)) = (ta : Int) + (n : Int) := IntWalk.i64_in _ (by omega)
        have g4 : ((n : Int) == 0) = false := by rw [beq_eq_false_iff_ne]; omega
        have q1 : 0 ≤ (ta : Int) + (n : Int) := by omega
        have q2 : ((ta : Int) + (n : Int)).toNat = ta + n := by omega
        have q3 : (ta : Int) + (n : Int) ≤ (s.size : Int) := by omega
        have q4 : (ta : Int) ≤ (ta : Int) + (n : Int) := by omega
        go_wp2_with fail
        go_quiet (fail)
        have HBw := hide (below_on (unhide HB3) (unhide HBR))
        have hmid : str (s.extract p ta) = ((str s).drop p).take (ta - p) := str_extract s p ta
        have HA2 := fun (x : World) (hx : Below wr.heap.size wr x) => hide (all_empty x (s.extract p ta) (by rw [← str_length, hmid, List.length_take, List.length_drop, str_length]; omega) ((unhide HV).below (below_on (unhide HBw) hx)) (by rw [hmid]; exact unhide HP5))
        have u1 : ta ≤ s.size := by omega
        have u2 : (ta : Int) ≤ (s.size : Int) := by omega
        have u3 : (p : Int) ≤ (ta : Int) := by omega
        clear hmid g1 g1n g2 g4
        go_wp2_with (go_at_call 10; (with_reducible refine (unhide (HA2 _ ?_)).mono ?_); rotate_left 1; rintro e w5 ⟨A2, c2, rfl, hb5⟩; go_loud (
          obtain ⟨b0, b1, b2⟩ := box_stays_q hb5;
          have HB5 := hide hb5;
          clear hb5))
        · go_roundw
          case rel => exact ⟨j + 1, ta + n, by go_num, by go_num, by omega, by omega, unhide HP6, below_on (unhide HBR) (ride_call (unhide HB5) (below_drewN (ride_alloc (Below.refl _ _) _) _))⟩
          case measure => simp [intOf]; omega
        · exact below_drewN (ride_alloc (Below.refl _ _) _) _
      · go_wp2
        go_ret
        exact ⟨rfl, below_on (unhide HB3) (unhide HBR)⟩
end Go.Proofs.YtiimkodgfhkbpaaDoor
