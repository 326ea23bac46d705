/- GrammarSigns, walked. -/
import Derived.Test.YtecbaceinifjiaaGreatDoorZ30
namespace Go.Proofs.YtecbaceinifjiaaGreatDoor
open Go.RowKit
set_option linter.unusedSimpArgs false
set_option linter.unusedVariables false
set_option maxRecDepth 100000
attribute [local go_sem] Oper.semAt_some undef
theorem beq_selfL (s : ByteArray) : (s.toList == s.toList) = true := beq_self_eq_true _
set_option maxHeartbeats 8000000 in
theorem grammarSigns_walk (w : World) (z : Int) (s : ByteArray) (k : Nat) (hz : -9223372036854775808 ≤ z) (hz2 : z ≤ 9223372036854775807) (hk : k < 18446744073709551616) (hv : Vs w) (gb : GB w.heap.size) :
    Calls Tryz.prog 4 #[.int .i64 z, .string s, .int .u64 (k : Int)] w fun e w' => e = .returned (.bool true) ∧ Below w.heap.size w w' := by
  have HAW := Lib.hid (gawake w hv gb)
  have HV := Lib.hid hv
  have HGB := Lib.hid gb
  have hm : ∀ W, (Builtin.max_ #[30, 30] 30 #[.int .u64 (k : Int), .int .u64 1]).run Tryz.prog W = .ok (.int .u64 ((max k 1 : Nat) : Int)) W := fun W => by
    rcases Nat.eq_zero_or_pos k with h | h
    · subst h; rfl
    · rw [show max k 1 = k by omega]
      have h1 : ¬ (k : Int) < 1 := by omega
      simp [Builtin.max_, Builtin.max2, go_sem, h1]
  obtain ⟨km, hkm⟩ : ∃ km : Nat, km = max k 1 := ⟨_, rfl⟩
  have HLE := Lib.hid (fun W => least_any W k hk)
  rw [← hkm] at HLE
  rw [← hkm] at hm
  clear hkm hv gb hk
  obtain ⟨sg, hsg⟩ : ∃ sg, sg = ba (signG z) := ⟨_, rfl⟩
  have hbs := beq_selfL sg
  obtain ⟨ov, hov⟩ : ∃ ov : Nat, ov = opG (str s) := ⟨_, rfl⟩
  have HSG := Lib.hid (fun W (hW : Vg W) => signg_any W z hz hz2 hW)
  rw [← hsg] at HSG
  have HOP := Lib.hid (fun W (hW : Vg W) => op_any W s hW)
  have HRO := Lib.hid (fun W => rop_any W s)
  rw [← hov] at HOP HRO
  clear hov
  have HSGE := Lib.hid hsg
  clear hsg
  have HOPS := Lib.hid rops_any
  by_cases h : 1 ≤ z ∧ z ≤ 13
  · obtain ⟨h1, h2⟩ := h
    obtain ⟨j, rfl⟩ : ∃ j : Nat, z = (j : Int) + 1 := ⟨(z - 1).toNat, by omega⟩
    have hj : j < 13 := by omega
    have d1 : decide ((1 : Int) ≤ (j : Int) + 1) = true := decide_eq_true (by omega)
    have d2 : decide ((j : Int) + 1 ≤ 13) = true := decide_eq_true (by omega)
    have hsj : Hid (sg = ba (sgK j)) := Lib.hid (by rw [HSGE.out]; unfold signG; rw [if_pos ⟨h1, h2⟩, show ((j : Int) + 1 - 1).toNat = j by omega])
    have hjI : (j : Int) < 13 := by omega
    go_enter Tryz.func4, Tryz.ntmps4
    go_wp2_with (first
      | (go_at_call 6; (with_reducible refine (HAW.out).mono ?_); rintro e w1 ⟨rfl, hb1⟩; go_loud (have HB1 := Lib.hid hb1; clear hb1))
      | (go_at_call 8; (with_reducible refine (HOPS.out _).mono ?_); rintro e w2 ⟨g, rfl, hc, hg, hb2⟩; go_loud (
          have q := hc j hj;
          rw [← hsj.out] at q;
          have HB2 := Lib.hid (HB1.out.trans (hb2.mono HB1.out.size));
          clear hc hg hb2))
      | (go_at_call 9; (with_reducible refine (HSG.out _ (HV.out.on HB2.out HGB.out).vg).mono ?_); rintro e w3 ⟨rfl, hw3⟩; go_loud (obtain rfl : w2 = w3 := hw3.symm; clear hw3))
      | (go_at_call 10; (with_reducible refine (HOP.out _ (HV.out.on HB2.out HGB.out).vg).mono ?_); rintro e w4 ⟨rfl, hw4⟩; go_loud (obtain rfl : w2 = w4 := hw4.symm; clear hw4))
      | (go_at_call 11; (with_reducible refine (HRO.out _).mono ?_); rintro e w5 ⟨rfl, hb5⟩; go_loud (have HB5 := Lib.hid (HB2.out.trans (hb5.mono HB2.out.size)); clear hb5))
      | (go_at_call 12; (with_reducible refine (HLE.out _).mono ?_); rintro e w6 ⟨rfl, hw6⟩; go_loud (obtain rfl : w5 = w6 := hw6.symm; clear hw6)))
    go_ret
    exact ⟨rfl, HB5.out⟩
  · have hsj : sg = ⟨#[]⟩ := by rw [HSGE.out]; unfold signG; rw [if_neg h]; rfl
    subst hsj
    by_cases h1 : 1 ≤ z
    · have d1 : decide ((1 : Int) ≤ z) = true := decide_eq_true h1
      have hz13 : ¬ z ≤ 13 := fun h2 => h ⟨h1, h2⟩
      have d2 : decide (z ≤ 13) = false := decide_eq_false hz13
      go_enter Tryz.func4, Tryz.ntmps4
      go_wp2_with (first
        | (go_at_call 6; (with_reducible refine (HAW.out).mono ?_); rintro e w1 ⟨rfl, hb1⟩; go_loud (have HB1 := Lib.hid hb1; clear hb1))
        | (go_at_call 9; (with_reducible refine (HSG.out _ (HV.out.on HB1.out HGB.out).vg).mono ?_); rintro e w3 ⟨rfl, hw3⟩; go_loud (obtain rfl : w1 = w3 := hw3.symm; clear hw3))
        | (go_at_call 10; (with_reducible refine (HOP.out _ (HV.out.on HB1.out HGB.out).vg).mono ?_); rintro e w4 ⟨rfl, hw4⟩; go_loud (obtain rfl : w1 = w4 := hw4.symm; clear hw4))
        | (go_at_call 11; (with_reducible refine (HRO.out _).mono ?_); rintro e w5 ⟨rfl, hb5⟩; go_loud (have HB5 := Lib.hid (HB1.out.trans (hb5.mono HB1.out.size)); clear hb5))
        | (go_at_call 12; (with_reducible refine (HLE.out _).mono ?_); rintro e w6 ⟨rfl, hw6⟩; go_loud (obtain rfl : w5 = w6 := hw6.symm; clear hw6)))
      go_ret
      exact ⟨rfl, HB5.out⟩
    · have d1 : decide ((1 : Int) ≤ z) = false := decide_eq_false h1
      go_enter Tryz.func4, Tryz.ntmps4
      go_wp2_with (first
        | (go_at_call 6; (with_reducible refine (HAW.out).mono ?_); rintro e w1 ⟨rfl, hb1⟩; go_loud (have HB1 := Lib.hid hb1; clear hb1))
        | (go_at_call 9; (with_reducible refine (HSG.out _ (HV.out.on HB1.out HGB.out).vg).mono ?_); rintro e w3 ⟨rfl, hw3⟩; go_loud (obtain rfl : w1 = w3 := hw3.symm; clear hw3))
        | (go_at_call 10; (with_reducible refine (HOP.out _ (HV.out.on HB1.out HGB.out).vg).mono ?_); rintro e w4 ⟨rfl, hw4⟩; go_loud (obtain rfl : w1 = w4 := hw4.symm; clear hw4))
        | (go_at_call 11; (with_reducible refine (HRO.out _).mono ?_); rintro e w5 ⟨rfl, hb5⟩; go_loud (have HB5 := Lib.hid (HB1.out.trans (hb5.mono HB1.out.size)); clear hb5))
        | (go_at_call 12; (with_reducible refine (HLE.out _).mono ?_); rintro e w6 ⟨rfl, hw6⟩; go_loud (obtain rfl : w5 = w6 := hw6.symm; clear hw6)))
      go_ret
      exact ⟨rfl, HB5.out⟩
end Go.Proofs.YtecbaceinifjiaaGreatDoor
