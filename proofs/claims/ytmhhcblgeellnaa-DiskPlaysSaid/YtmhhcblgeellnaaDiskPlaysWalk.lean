/- The walk of the law DiskPlays: it answers true for every script of calls, and writes nothing that was there. -/
import Derived.Test.YtmhhcblgeellnaaPlE
import Derived.ChangeAlike
import Derived.OpenShut
namespace Go.Proofs.Ytmhhcblgeellnaa
open Go.RowKit
set_option linter.unusedSimpArgs false
set_option linter.unusedVariables false

/-- At the head of each round: both disks, so many writes, so many calls done. -/
def PlaR (W : World) (N : Nat) (dv xv nv iv : Value) (x : World) : Prop :=
  ∃ (k gs gx : Nat) (b : DB) (sv av wv : Value) (ss ws : List Value) (dur : List (List Nat)) (pend : List (Nat × List Nat)) (nw bud : Int), k ≤ N ∧ k ≤ 30 ∧ iv = .int .i64 (k : Int) ∧ dv = .pointer (some ⟨gs, 0, none⟩) ∧ xv = .pointer (some ⟨gx, 0, none⟩) ∧ nv = .int .i64 nw ∧
    Play W x gs b gx sv av wv ss ws dur pend nw bud ∧ 0 ≤ nw ∧ nw ≤ (k : Int) ∧ pend.length ≤ k
/-- What the law asks at its end, of a copy. -/
def Tail (x : World) (gs gx : Nat) : Prop := ∀ y, Below x.heap.size x y → Calls Try.prog 16 #[.pointer (some ⟨gs, 0, none⟩)] y fun e z => ∃ g2, e = .returned (.pointer (some ⟨g2, 0, none⟩)) ∧ Below x.heap.size x z ∧
    (Calls Try.prog 14 #[.pointer (some ⟨g2, 0, none⟩), .pointer (some ⟨gx, 0, none⟩)] z fun e z2 => e = .returned (.bool true) ∧ Below x.heap.size x z2) ∧
    (Calls Try.prog 15 #[.pointer (some ⟨g2, 0, none⟩)] z fun e z2 => e = .returned (.int .i64 0) ∧ z = z2)
theorem play_tail {W x : World} {gs gx : Nat} {b : DB} {sv av wv : Value} {ss ws : List Value} {dur : List (List Nat)} {pend : List (Nat × List Nat)} {nw bud : Int} (h : Play W x gs b gx sv av wv ss ws dur pend nw bud) (hmany : pend.length ≤ 1000) : Tail x gs gx := fun y hy =>
  (copy_any (h.D.below hy) h.pv).mono fun e z hz => by
    obtain ⟨g2, b2, he, hD2, _, _, _, _, _, hb⟩ := hz
    have hxz : Below x.heap.size x z := hy.trans (hb.mono hy.size)
    refine ⟨g2, he, hxz, ?_, writes_any hD2⟩
    exact (like_any hD2 (h.R.below hxz) (Nat.le_trans h.B.size hxz.size) hmany).mono fun e z2 h2 => ⟨h2.1, hxz.trans (h2.2.mono hxz.size)⟩
theorem box8a {x : World} {g : Nat} {v0 v1 v2 v3 v4 v5 v6 v7 : Value} {t : TypeId} {f : Nat × Nat} (h : x.heap[g]? = some (.cells #[v0, v1, v2, v3, v4, v5, v6, v7] t f)) :
    x.cell? ⟨g, 0, none⟩ = some v0 ∧ x.cell? ⟨g, 1, none⟩ = some v1 ∧ x.cell? ⟨g, 2, none⟩ = some v2 ∧ x.cell? ⟨g, 3, none⟩ = some v3 ∧ x.cell? ⟨g, 4, none⟩ = some v4 ∧ x.cell? ⟨g, 5, none⟩ = some v5 ∧ x.cell? ⟨g, 6, none⟩ = some v6 ∧ x.cell? ⟨g, 7, none⟩ = some v7 := by
  refine ⟨?_, ?_, ?_, ?_, ?_, ?_, ?_, ?_⟩
  all_goals (rw [cell_of_row x g _ _ _ _ h]; rfl)
set_option maxRecDepth 100000 in
set_option maxHeartbeats 8000000 in
theorem plays_core (w : World) (m : Nat) (hm : m < 256) (A : Option Addr) (N c : Nat) (l : List Ac) (hl : Acts w (.slice A N c) l) :
    Calls Try.prog 3 #[.int .u8 (m : Int), .slice A N c] w fun e w' => e = .returned (.bool true) ∧ Below w.heap.size w w' := by
  have hlong := hl.long
  unfold maxLen at hlong
  have hN : N = l.length := by obtain ⟨A', c', hv, _⟩ := hl.form; injection hv
  rw [← hN] at hlong
  have HL := Lib.hid hl
  have HN := Lib.hid hN
  obtain ⟨r, hr⟩ : ∃ r, r = m % 6 := ⟨_, rfl⟩
  have hr6 : r < 6 := by omega
  have hm6 : (m : Int).tmod 6 = (r : Int) := by rw [Int.tmod_eq_emod_of_nonneg (by omega)]; omega
  have hm6' : (m : Int) % 6 = (r : Int) := by omega
  have hwr : IntKind.i64.wrap (r : Int) = (r : Int) := IntWalk.i64_in _ (by omega)
  have hwu : IntKind.u8.wrap (r : Int) = (r : Int) := IntWalk.u8_in _ (by omega)
  have h1r : ((1 + r : Nat) : Int) = 1 + (r : Int) := by omega
  have hnw := fun x : World => new_good x (1 + r) (by omega) (by omega)
  have hrf := fun x : World => newref_any x (1 + r) (by omega)
  simp only [h1r] at hnw hrf
  have HNW0 := fun x : World => hide (hnw x)
  have HRF0 := fun x : World => hide (hrf x)
  clear hnw hrf h1r
  clear hl hN hr
  have HA := hide (awake_true w)
  go_enter Try.func3, Try.ntmps3
  go_wp2_with (first
    | (go_at_call 9; (with_reducible refine (unhide HA).mono ?_); rintro e w1 ⟨rfl, hb1⟩; have HNW := HNW0 w1)
    | (go_at_call 10; (with_reducible refine (unhide HNW).mono ?_); rintro e w2 ⟨gs, b, rfl, hD2, hgs, hgd, hgl, hpv, hb2⟩; have HRF := HRF0 w2)
    | (go_at_call 11; (with_reducible refine (unhide HRF).mono ?_); rintro e w3 ⟨sv, ss, rfl, hR3, hb3⟩))
  have hP : Play w w3 gs b w2.heap.size sv (.slice none 0 0) (.slice none 0 0) ss [] (List.replicate (1 + r) noughts) [] 0 (-1) := by
    have s1 := hb1.size
    have s2 := hb2.size
    exact ⟨hD2.below hb3, hR3.lower (Nat.le_trans s1 s2), fun _ => hpv, ⟨Nat.le_trans s1 hgs, Nat.le_trans s1 hgd, Nat.le_trans s1 hgl, fun g hg => by rw [hpv] at hg; cases hg⟩, fun e => by simp [Value.ownBlock] at e, by omega, (hb1.trans (hb2.mono s1)).trans (hb3.mono (Nat.le_trans s1 s2))⟩
  have HP := Lib.hid hP
  clear hP hD2 hgs hgd hgl hpv hb2 hR3 hb3 hb1 HA HNW HRF HNW0 HRF0 hm6 hm6' hwr hwu hm hr6
  go_loopw [6, 8, 9, 35] (fun dv xv nv iv x => PlaR w N dv xv nv iv x) (fun _ _ _ iv _ => N - (intOf iv).toNat)
  case atStart => exact ⟨0, gs, _, b, _, _, _, _, _, _, _, 0, -1, by omega, by omega, rfl, rfl, rfl, rfl, HP.out, by omega, by omega, by simp⟩
  case round =>
    clear HP
    obtain ⟨k, gs, gx, b, sv, av, wv, ss, ws, dur, pend, nw, bud, hkN, hk30, rfl, rfl, rfl, rfl, hP, hnw0, hnwk, hpk⟩ := hrel
    have ht := play_tail hP (by omega)
    unfold Tail at ht
    have HT := hide ht
    clear ht
    have HPL := Lib.hid hP
    clear hP
    by_cases hlt : k < N
    · obtain ⟨a, ha⟩ : ∃ a, l[k]? = some a := ⟨_, List.getElem?_eq_getElem (by rw [← HN.out]; exact hlt)⟩
      obtain ⟨ad, hA, d0, d1, d2, d3, d4, d5, d6, d7⟩ := HL.out.load ha HPL.out.B
      subst hA
      by_cases h30 : k < 30
      · have hok := HL.out.ok a (List.mem_of_getElem? ha)
        have hk30' : decide ((k : Int) ≥ 30) = false := decide_eq_false (by omega)
        have hk31 : decide (30 ≤ (k : Int)) = false := decide_eq_false (by omega)
        have h0 := HPL.out.below ((Below.refl _ _).alloc (Nat.le_refl _) (.cells (acell a).toArray 34))
        obtain ⟨dur2, pend2, bud2, err, herr, hp2, hdo⟩ := play_do (g0 := wr.heap.size) hok h0 (by omega) (by omega) (Go.heap_alloc_new wr _)
        have hd256 := hok.d
        obtain ⟨d, i, PA, pn, pc, p, odd, bit, n, mask, KA, kn, kc, ks⟩ := a
        dsimp only [BoxOf, acell] at hdo
        clear hok h0 ha
        obtain ⟨q, hq⟩ : ∃ q, q = d % 7 := ⟨_, rfl⟩
        rw [← hq] at hdo
        have hd7 : (d : Int).tmod 7 = (q : Int) := by rw [Int.tmod_eq_emod_of_nonneg (by omega)]; omega
        have hd7' : (d : Int) % 7 = (q : Int) := by omega
        clear hq hd256
        by_cases c5 : q = 5
        · subst c5
          have hw : nwAt 5 err nw = 0 := rfl
          rw [hw] at hdo
          have HDO := hide hdo
          clear hdo hw
          go_wp2_with (first
            | (go_at_call 12; (with_reducible refine (unhide HDO).mono ?_); rintro e w1 ⟨gx2, sv2, av2, wv2, ss2, ws2, rfl, hg1, hdo⟩; go_loud (
                have HDD := hide hdo;
                obtain ⟨q0, q1, q2, q3, q4, q5, q6, q7⟩ := box8a hg1;
                clear hdo hg1))
            | (go_at_call 13; (with_reducible refine (unhide HDD).mono ?_); rintro e w2 ⟨gs2, b2, rfl, hg2, hP2⟩; go_loud (
                have HLK := hide (like_any hP2.D hP2.R hP2.B.size (by omega));
                have HP2 := Lib.hid hP2;
                have HG2 := Lib.hid hg2;
                clear hP2 hg2))
            | (go_at_call 14; (with_reducible refine (unhide HLK).mono ?_); rintro e w3 ⟨rfl, hb3⟩; go_loud (
                have HP3 := Lib.hid (HP2.out.below hb3);
                have HWW := hide (writes_any HP3.out.D);
                obtain ⟨p0, -, -, -, -, -, -, -⟩ := box8a ((hb3.block _ (Array.getElem?_eq_some_iff.1 HG2.out).1).trans HG2.out);
                clear hb3))
            | (go_at_call 15; (with_reducible refine (unhide HWW).mono ?_); rintro e w4 ⟨rfl, rfl⟩))
          go_roundw
          case rel => exact ⟨k + 1, gs2, gx2, b2, sv2, av2, wv2, ss2, ws2, dur2, pend2, _, bud2, by omega, by omega, by go_num, rfl, rfl, rfl, HP3.out, by omega, by omega, by omega⟩
          case measure => simp [intOf]; omega
        · have e5 : ((q : Int) == 5) = false := by rw [beq_eq_false_iff_ne]; omega
          by_cases c3 : q < 3
          · have e3 : decide ((q : Int) < 3) = true := decide_eq_true (by omega)
            by_cases c0 : err = 0
            · subst c0
              have hw : nwAt q 0 nw = nw + 1 := by unfold nwAt; rw [if_neg c5, if_pos ⟨c3, rfl⟩]
              rw [hw] at hdo
              have HDO := hide hdo
              clear hdo hw c5 c3
              go_wp2_with (first
                | (go_at_call 12; (with_reducible refine (unhide HDO).mono ?_); rintro e w1 ⟨gx2, sv2, av2, wv2, ss2, ws2, rfl, hg1, hdo⟩; go_loud (
                    have HDD := hide hdo;
                    obtain ⟨q0, q1, q2, q3, q4, q5, q6, q7⟩ := box8a hg1;
                    clear hdo hg1))
                | (go_at_call 13; (with_reducible refine (unhide HDD).mono ?_); rintro e w2 ⟨gs2, b2, rfl, hg2, hP2⟩; go_loud (
                    have HLK := hide (like_any hP2.D hP2.R hP2.B.size (by omega));
                    have HP2 := Lib.hid hP2;
                    have HG2 := Lib.hid hg2;
                    clear hP2 hg2))
                | (go_at_call 14; (with_reducible refine (unhide HLK).mono ?_); rintro e w3 ⟨rfl, hb3⟩; go_loud (
                    have HP3 := Lib.hid (HP2.out.below hb3);
                    have HWW := hide (writes_any HP3.out.D);
                    obtain ⟨p0, -, -, -, -, -, -, -⟩ := box8a ((hb3.block _ (Array.getElem?_eq_some_iff.1 HG2.out).1).trans HG2.out);
                    clear hb3))
                | (go_at_call 15; (with_reducible refine (unhide HWW).mono ?_); rintro e w4 ⟨rfl, rfl⟩))
              go_roundw
              case rel => exact ⟨k + 1, gs2, gx2, b2, sv2, av2, wv2, ss2, ws2, dur2, pend2, _, bud2, by omega, by omega, by go_num, rfl, rfl, rfl, HP3.out, by omega, by omega, by omega⟩
              case measure => simp [intOf]; omega
            · have hw : nwAt q err nw = nw := by unfold nwAt; rw [if_neg c5, if_neg (fun e => c0 e.2)]
              have e0 : (err == 0) = false := by rw [beq_eq_false_iff_ne]; exact c0
              rw [hw] at hdo
              have HDO := hide hdo
              clear hdo hw c5 c3 c0
              go_wp2_with (first
                | (go_at_call 12; (with_reducible refine (unhide HDO).mono ?_); rintro e w1 ⟨gx2, sv2, av2, wv2, ss2, ws2, rfl, hg1, hdo⟩; go_loud (
                    have HDD := hide hdo;
                    obtain ⟨q0, q1, q2, q3, q4, q5, q6, q7⟩ := box8a hg1;
                    clear hdo hg1))
                | (go_at_call 13; (with_reducible refine (unhide HDD).mono ?_); rintro e w2 ⟨gs2, b2, rfl, hg2, hP2⟩; go_loud (
                    have HLK := hide (like_any hP2.D hP2.R hP2.B.size (by omega));
                    have HP2 := Lib.hid hP2;
                    have HG2 := Lib.hid hg2;
                    clear hP2 hg2))
                | (go_at_call 14; (with_reducible refine (unhide HLK).mono ?_); rintro e w3 ⟨rfl, hb3⟩; go_loud (
                    have HP3 := Lib.hid (HP2.out.below hb3);
                    have HWW := hide (writes_any HP3.out.D);
                    obtain ⟨p0, -, -, -, -, -, -, -⟩ := box8a ((hb3.block _ (Array.getElem?_eq_some_iff.1 HG2.out).1).trans HG2.out);
                    clear hb3))
                | (go_at_call 15; (with_reducible refine (unhide HWW).mono ?_); rintro e w4 ⟨rfl, rfl⟩))
              go_roundw
              case rel => exact ⟨k + 1, gs2, gx2, b2, sv2, av2, wv2, ss2, ws2, dur2, pend2, _, bud2, by omega, by omega, by go_num, rfl, rfl, rfl, HP3.out, by omega, by omega, by omega⟩
              case measure => simp [intOf]; omega
          · have e3 : decide ((q : Int) < 3) = false := decide_eq_false (by omega)
            have hw : nwAt q err nw = nw := by unfold nwAt; rw [if_neg c5, if_neg (fun e => c3 e.1)]
            rw [hw] at hdo
            have HDO := hide hdo
            clear hdo hw c5 c3
            go_wp2_with (first
              | (go_at_call 12; (with_reducible refine (unhide HDO).mono ?_); rintro e w1 ⟨gx2, sv2, av2, wv2, ss2, ws2, rfl, hg1, hdo⟩; go_loud (
                  have HDD := hide hdo;
                  obtain ⟨q0, q1, q2, q3, q4, q5, q6, q7⟩ := box8a hg1;
                  clear hdo hg1))
              | (go_at_call 13; (with_reducible refine (unhide HDD).mono ?_); rintro e w2 ⟨gs2, b2, rfl, hg2, hP2⟩; go_loud (
                  have HLK := hide (like_any hP2.D hP2.R hP2.B.size (by omega));
                  have HP2 := Lib.hid hP2;
                  have HG2 := Lib.hid hg2;
                  clear hP2 hg2))
              | (go_at_call 14; (with_reducible refine (unhide HLK).mono ?_); rintro e w3 ⟨rfl, hb3⟩; go_loud (
                  have HP3 := Lib.hid (HP2.out.below hb3);
                  have HWW := hide (writes_any HP3.out.D);
                  obtain ⟨p0, -, -, -, -, -, -, -⟩ := box8a ((hb3.block _ (Array.getElem?_eq_some_iff.1 HG2.out).1).trans HG2.out);
                  clear hb3))
              | (go_at_call 15; (with_reducible refine (unhide HWW).mono ?_); rintro e w4 ⟨rfl, rfl⟩))
            go_roundw
            case rel => exact ⟨k + 1, gs2, gx2, b2, sv2, av2, wv2, ss2, ws2, dur2, pend2, _, bud2, by omega, by omega, by go_num, rfl, rfl, rfl, HP3.out, by omega, by omega, by omega⟩
            case measure => simp [intOf]; omega
      · have hk30' : decide ((k : Int) ≥ 30) = true := decide_eq_true (by omega)
        have hk31 : decide (30 ≤ (k : Int)) = true := decide_eq_true (by omega)
        clear ha
        go_wp2_with (first
          | (go_at_call 16; (with_reducible refine (unhide HT _ ?_).mono ?_); (· repeat (first | assumption | exact Below.refl _ _ | refine Below.drew ?_ | refine below_drewN ?_ _ | refine bel_alloc ?_ _)); rintro e z ⟨g2, rfl, hz, hlk, hww⟩; have HLT := hide hlk; have HWT := hide hww; clear hlk hww)
          | (go_at_call 14; (with_reducible refine (unhide HLT).mono ?_); rintro e z2 ⟨rfl, hz2⟩)
          | (go_at_call 15; (with_reducible refine (unhide HWT).mono ?_); rintro e z3 ⟨rfl, rfl⟩))
        go_ret
        exact ⟨rfl, HPL.out.B.trans (hz.mono HPL.out.B.size)⟩
    · obtain rfl : k = N := by omega
      go_wp2_with (first
        | (go_at_call 16; (with_reducible refine (unhide HT _ ?_).mono ?_); (· repeat (first | assumption | exact Below.refl _ _ | refine Below.drew ?_ | refine below_drewN ?_ _ | refine bel_alloc ?_ _)); rintro e z ⟨g2, rfl, hz, hlk, hww⟩; have HLT := hide hlk; have HWT := hide hww; clear hlk hww)
        | (go_at_call 14; (with_reducible refine (unhide HLT).mono ?_); rintro e z2 ⟨rfl, hz2⟩)
        | (go_at_call 15; (with_reducible refine (unhide HWT).mono ?_); rintro e z3 ⟨rfl, rfl⟩))
      go_ret
      exact ⟨rfl, HPL.out.B.trans (hz.mono HPL.out.B.size)⟩
end Go.Proofs.Ytmhhcblgeellnaa
