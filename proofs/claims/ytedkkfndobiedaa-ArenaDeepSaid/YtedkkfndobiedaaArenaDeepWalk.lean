/- The law ArenaDeep, walked. -/
import Derived.Test.YtedkkfndobiedaaADeepM
namespace Go.Proofs.Ytedkkfndobiedaa
open Go.RowKit Go.Shelf
set_option linter.unusedSimpArgs false
set_option linter.unusedVariables false
set_option maxRecDepth 100000
attribute [local go_sem] Oper.semAt_some undef
/-- The nodes that are there ahead of round k + 1. -/
def dAt (S k : Nat) : List (Nat × Nd) := if k = 0 then [(1, progNd)] else dRow S k
theorem dAt_put {S k : Nat} : putL' (dAt S k) (k + 1) (dNode S (k + 1)) = dAt S (k + 1) := by
  unfold dAt
  rw [if_neg (show ¬ k + 1 = 0 by omega)]
  by_cases h : k = 0
  · subst h; rfl
  · rw [if_neg h]
    exact rowL_put (dNode S) k
theorem dAt_old {S k : Nat} : ((getL (dAt S k) (k + 1)).getD zeroNd).kids.length = 0 := by
  unfold dAt
  by_cases h : k = 0
  · subst h; rfl
  · rw [if_neg h]
    unfold dRow
    rw [getL_row, if_neg (by omega)]
    rfl
theorem dAt_len {S k : Nat} : (dAt S k).length ≤ k + 1 := by
  unfold dAt
  by_cases h : k = 0
  · subst h; simp
  · rw [if_neg h]
    unfold dRow
    rw [rowL_length]
    omega
def PutQ (wr : World) (base ga gm gp : Nat) (ns : List (Nat × Nd)) (N : Nat) (e : Ending) (w' : World) : Prop := e = .returned (.int .i64 0) ∧ Below base wr w' ∧ ∃ F vs, AR w' base ga gm gp F vs ns N
theorem put_deep {wr y : World} {base ga gm gp S j : Nat} {F : PF} {vs : List (Nat × Value)} (hA : AR wr base ga gm gp F vs (dAt S j) j) (hS : j + 1 ≤ S) (hS2 : S ≤ 209) (hy : Below wr.heap.size wr y) {A : Option Addr} {c : Nat} (hs : IdSl y y.heap.size (.slice A (dNode S (j + 1)).kids.length c) (dNode S (j + 1)).kids) :
    Calls Try.prog 27 #[.pointer (some ⟨ga, 0, none⟩), .int .u64 ((j + 1 : Nat) : Int), ndV (dNode S (j + 1)) (.slice A (dNode S (j + 1)).kids.length c)] y (PutQ wr base ga gm gp (dAt S (j + 1)) (j + 1)) := by
  have hk : (dNode S (j + 1)).kids.length ≤ 1 := by rw [dKids]; split <;> simp
  have hok : NdOk (dNode S (j + 1)) := ⟨by unfold dNode; dsimp only; split <;> omega, by show 0 ≤ _; omega, ⟨by show (_ : Int) ≤ 0; omega, by show (0 : Int) ≤ _; omega⟩, by show 0 < 256; omega, by show 0 < 18446744073709551616; omega⟩
  have h := put_good y base ga gm gp (j + 1) j F vs (dAt S j) (dNode S (j + 1)) A c (hA.below hy) (by omega) (by omega) (.inr (by have := dAt_len (S := S) (k := j); omega)) ⟨⟨A, c, rfl, hs⟩, hok⟩ hs (by rw [dAt_old]; omega) (by have := dAt_len (S := S) (k := j); omega)
  refine h.mono fun e w' ⟨h1, F', vs', h2, h3, _⟩ => ⟨h1, ?_, F', vs', ?_⟩
  · exact (hy.mono hA.hb).trans (h3.below (Nat.le_trans hA.hb hy.size) fun i hi => (hA.below hy).low hi)
  · rw [dAt_put, dAt_old] at h2
    exact h2.more (by omega)
theorem put_inner {wr : World} {base ga gm gp S j kd : Nat} {F : PF} {vs : List (Nat × Value)} (hA : AR wr base ga gm gp F vs (dAt S j) j) (hS : j + 1 < S) (hS2 : S ≤ 209) (hkd : kd = if j + 1 = 1 then 1 else 2) :
    Calls Try.prog 27 #[.pointer (some ⟨ga, 0, none⟩), .int .u64 ((j + 1 : Nat) : Int), .agg #[.int .u8 (kd : Int), .string ⟨#[]⟩, .int .i64 0, .int .u8 0, .int .u64 0, .slice (some ⟨wr.heap.size + 1, 0, none⟩) 1 1]]
      ((wr.alloc (.cells #[.int .u8 (kd : Int), .string ⟨#[]⟩, .int .i64 0, .int .u8 0, .int .u64 0, .slice (some ⟨wr.heap.size + 1, 0, none⟩) 1 1] 33)).alloc (.cells #[.int .u64 (((j + 1 : Nat) : Int) + 1)] 24)) (PutQ wr base ga gm gp (dAt S (j + 1)) (j + 1)) := by
  obtain ⟨y, hy⟩ : ∃ y, y = (wr.alloc (.cells #[.int .u8 (kd : Int), .string ⟨#[]⟩, .int .i64 0, .int .u8 0, .int .u64 0, .slice (some ⟨wr.heap.size + 1, 0, none⟩) 1 1] 33)).alloc (.cells #[.int .u64 (((j + 1 : Nat) : Int) + 1)] 24) := ⟨_, rfl⟩
  have hb : Below wr.heap.size wr y := by rw [hy]; exact ((Below.refl _ _).alloc (Nat.le_refl _) _).alloc (by simp) _
  have hrow : y.heap[wr.heap.size + 1]? = some (.cells #[.int .u64 (((j + 1 : Nat) : Int) + 1)] 24 (0, 0)) := by rw [hy]; exact alloc2 _ _ _ _ _
  rw [← hy]
  have hnd : dNode S (j + 1) = ⟨kd, ⟨#[]⟩, 0, 0, 0, [j + 1 + 1]⟩ := by unfold dNode; rw [if_pos hS, hkd]
  have hids : IdSl y y.heap.size (.slice (some ⟨wr.heap.size + 1, 0, none⟩) 1 1) [j + 1 + 1] := IdSl.of_own (base := 0) ⟨rfl, .inr ⟨wr.heap.size + 1, 1, #[.int .u64 (((j + 1 : Nat) : Int) + 1)], rfl, Nat.zero_le _, hrow, Nat.le_refl _, by unfold maxLen; omega, rfl, rfl⟩⟩ (fun z hz => by simp at hz; omega) (by simp)
  have h := put_deep hA (Nat.le_of_lt hS) hS2 hb (A := some ⟨wr.heap.size + 1, 0, none⟩) (c := 1) (by rw [hnd]; exact hids)
  rw [hnd] at h
  exact h
theorem put_leaf {wr : World} {base ga gm gp S j : Nat} {F : PF} {vs : List (Nat × Value)} (hA : AR wr base ga gm gp F vs (dAt S j) j) (hS : j + 1 = S) (h1 : 1 ≤ j) (hS2 : S ≤ 209) :
    Calls Try.prog 27 #[.pointer (some ⟨ga, 0, none⟩), .int .u64 ((j + 1 : Nat) : Int), .agg #[.int .u8 2, .string ⟨#[]⟩, .int .i64 0, .int .u8 0, .int .u64 0, .slice none 0 0]]
      (wr.alloc (.cells #[.int .u8 2, .string ⟨#[]⟩, .int .i64 0, .int .u8 0, .int .u64 0, .slice none 0 0] 33)) (PutQ wr base ga gm gp (dAt S (j + 1)) (j + 1)) := by
  have hnd : dNode S (j + 1) = ⟨2, ⟨#[]⟩, 0, 0, 0, []⟩ := by unfold dNode; rw [if_neg (by omega : ¬ j + 1 < S), if_neg (by omega : ¬ j + 1 = 1)]
  have h := put_deep hA (Nat.le_of_eq hS) hS2 ((Below.refl _ _).alloc (Nat.le_refl _) (.cells #[.int .u8 2, .string ⟨#[]⟩, .int .i64 0, .int .u8 0, .int .u64 0, .slice none 0 0] 33)) (A := none) (c := 0) (by rw [hnd]; exact IdSl.nil _ _)
  rw [hnd] at h
  exact h
set_option maxHeartbeats 4000000 in
theorem arenaDeep_walk (a0 a1 : Int) (w0 : (Lit.int .u8 a0).wf = true) (w1 : (Lit.int .u8 a1).wf = true) (w : World) :
    Calls Try.prog 7 #[.int .u8 a0, .int .u8 a1] w fun e w' => e = .returned (.bool true) ∧ Below w.heap.size w w' := by
  obtain ⟨n, hn, rfl⟩ : ∃ n : Nat, n < 256 ∧ a0 = (n : Int) := by
    simp [Lit.wf, IntKind.min, IntKind.max, IntKind.signed, IntKind.bits] at w0
    exact ⟨a0.toNat, by omega, by omega⟩
  obtain ⟨k, hk, rfl⟩ : ∃ n : Nat, n < 256 ∧ a1 = (n : Int) := by
    simp [Lit.wf, IntKind.min, IntKind.max, IntKind.signed, IntKind.bits] at w1
    exact ⟨a1.toNat, by omega, by omega⟩
  clear w0 w1
  have HAW := Lib.hid (awake_true w)
  have HNW := Lib.hid new_any
  go_enter Try.func7, Try.ntmps7
  go_wp2_with (first
    | (go_at_call 8; (with_reducible refine (HAW.out).mono ?_); rintro e wa ⟨rfl, hba⟩; go_loud (
        have HBA := Lib.hid hba;
        clear hba))
    | (go_at_call 36; (with_reducible refine (HNW.out _).mono ?_); rintro e w1 ⟨ga, gm, gp, F, vs, rfl, hA, hb1⟩; go_loud (
        have HA := Lib.hid hA;
        have HB1 := Lib.hid hb1;
        clear hA hb1)))
  obtain ⟨S, hS⟩ : ∃ S : Nat, (S : Int) = 190 + (n : Int) % 20 := ⟨190 + n % 20, by omega⟩
  rw [← hS]
  have hS1 : 190 ≤ S := by omega
  have hS2 : S ≤ 209 := by omega
  clear hS hn
  go_loopw [7] (fun i wr => ∃ j : Nat, j ≤ S ∧ i = .int .i64 ((j + 1 : Nat) : Int) ∧ Below w.heap.size w wr ∧ ∃ F vs, AR wr wa.heap.size ga gm gp F vs (dAt S j) j) (fun i _ => S + 1 - (intOf i).toNat)
  case atStart => exact ⟨0, Nat.zero_le _, rfl, HBA.out.trans (HB1.out.mono HBA.out.size), F, vs, HA.out⟩
  case round =>
    obtain ⟨j, hj, rfl, hb, F1, vs1, hA1⟩ := hrel
    obtain ⟨i, hi⟩ : ∃ i, i = j + 1 := ⟨_, rfl⟩
    rw [← hi]
    have HI := Lib.hid hi
    have HB := Lib.hid hb
    have HA1 := Lib.hid hA1
    have HJB := Lib.hid hj
    have hi1 : 1 ≤ i := by omega
    have hi2 : i ≤ 210 := by omega
    clear hb hA1 hi hj
    by_cases hlt : i ≤ S
    · have hltI : (i : Int) ≤ (S : Int) := by omega
      by_cases h1 : i = 1
      · obtain rfl : j = 0 := by have := HI.out; omega
        subst h1
        have hltS : (1 : Int) < (S : Int) := by omega
        go_wp2_with (go_at_call 27; go_loud (
          refine (put_inner (kd := 1) HA1.out (show 0 + 1 < S by omega) hS2 rfl).mono ?_;
          rintro e w2 ⟨rfl, hb2, F2, vs2, hA2⟩;
          have HB2 := Lib.hid (HB.out.trans (hb2.mono HBA.out.size));
          have HA2 := Lib.hid hA2;
          clear hb2 hA2))
        go_roundw
        case rel => exact ⟨1, by omega, by first | rfl | (congr 1; omega), HB2.out, F2, vs2, by first | exact HA2.out | (rw [HI.out]; exact HA2.out)⟩
        case measure =>
          simp [intOf]
          omega
      · have HJ : Hid ((j + 1 : Nat) = i) := Lib.hid HI.out.symm
        by_cases h2 : i = 2
        · obtain rfl : j = 1 := by have := HI.out; omega
          subst h2
          have hltS : (2 : Int) < (S : Int) := by omega
          go_wp2_with (go_at_call 27; go_loud (
            refine (put_inner (kd := 2) HA1.out (show 1 + 1 < S by omega) hS2 rfl).mono ?_;
            rintro e w2 ⟨rfl, hb2, F2, vs2, hA2⟩;
            have HB2 := Lib.hid (HB.out.trans (hb2.mono HBA.out.size));
            have HA2 := Lib.hid hA2;
            clear hb2 hA2))
          go_roundw
          case rel => exact ⟨2, by omega, by first | rfl | (congr 1; omega), HB2.out, F2, vs2, by first | exact HA2.out | (rw [HI.out]; exact HA2.out)⟩
          case measure =>
            simp [intOf]
            omega
        · have hmin : ¬ (i : Int) - 1 ≤ 1 := by omega
          by_cases hl : i < S
          · have hltS : (i : Int) < (S : Int) := by omega
            have hp := put_inner (kd := 2) HA1.out (show j + 1 < S by rw [HJ.out]; exact hl) hS2 (by rw [HJ.out, if_neg h1])
            rw [HJ.out] at hp
            have HP := Lib.hid hp
            clear hp
            go_wp2_with (go_at_call 27; go_loud (
              refine (HP.out).mono ?_;
              rintro e w2 ⟨rfl, hb2, F2, vs2, hA2⟩;
              have HB2 := Lib.hid (HB.out.trans (hb2.mono HBA.out.size));
              have HA2 := Lib.hid hA2;
              clear hb2 hA2))
            go_roundw
            case rel => exact ⟨i, by omega, by first | rfl | (congr 1; omega), HB2.out, F2, vs2, by first | exact HA2.out | (rw [HI.out]; exact HA2.out)⟩
            case measure =>
              simp [intOf]
              omega
          · have hltS : ¬ (i : Int) < (S : Int) := by omega
            have hp := put_leaf HA1.out (show j + 1 = S by rw [HJ.out]; omega) (by have := HI.out; omega) hS2
            rw [HJ.out] at hp
            have HP := Lib.hid hp
            clear hp
            go_wp2_with (go_at_call 27; go_loud (
              refine (HP.out).mono ?_;
              rintro e w2 ⟨rfl, hb2, F2, vs2, hA2⟩;
              have HB2 := Lib.hid (HB.out.trans (hb2.mono HBA.out.size));
              have HA2 := Lib.hid hA2;
              clear hb2 hA2))
            go_roundw
            case rel => exact ⟨i, by omega, by first | rfl | (congr 1; omega), HB2.out, F2, vs2, by first | exact HA2.out | (rw [HI.out]; exact HA2.out)⟩
            case measure =>
              simp [intOf]
              omega
    · have hltI : ¬ (i : Int) ≤ (S : Int) := by omega
      have hjS : j = S := by have := HI.out; have := HJB.out; omega
      subst hjS
      have hS0 : ¬ (j : Int) = 0 := by omega
      have hSb : ((j : Int) == 0) = false := by rw [beq_eq_false_iff_ne]; exact hS0
      obtain ⟨d, hd⟩ : ∃ d : Nat, d = 1 + k % j := ⟨_, rfl⟩
      have hmod : k % j < j := Nat.mod_lt _ (by omega)
      have hd1 : 1 ≤ d := by omega
      have hd2 : d ≤ j := by omega
      have hwr : IntKind.u64.wrap (wrap64 (1 + (k : Int) % (j : Int))) = (d : Int) := by
        have h1 : (k : Int) % (j : Int) = ((k % j : Nat) : Int) := by omega
        rw [h1, show wrap64 (1 + ((k % j : Nat) : Int)) = ((1 + k % j : Nat) : Int) by unfold wrap64; omega, ← hd]
        simp [IntKind.wrap, IntKind.min, IntKind.max, IntKind.signed, IntKind.bits]
        omega
      have hdat : dAt j j = dRow j j := by unfold dAt; rw [if_neg (by omega)]
      have hA := HA1.out
      rw [hdat] at hA
      have hlen : (dRow j j).length = j := by unfold dRow; rw [rowL_length]
      have hsum : sumU (dRow j j) [] ≤ 209 := by rw [dSum]; omega
      have hwalk : ((walkL (dRow j j) d).length : Int) = (j : Int) - (d : Int) + 1 := by rw [walkL_deep hd1 hd2, segL_length]; omega
      have HPAR := Lib.hid (parent_any wr _ ga gm gp d j F1 vs1 _ hA (by omega))
      have hpd : (parentL (dRow j j) d : Int) = (d : Int) - 1 := by rw [parent_deep hd1 hd2]; omega
      have HWR := Lib.hid hwr
      have HPD := Lib.hid hpd
      have HAD := Lib.hid hA
      have HWK := Lib.hid hwalk
      have HSM := Lib.hid hsum
      have HLN := Lib.hid hlen
      clear hwr hA hdat hlen hsum hwalk hpd hmod hd
      by_cases h200 : j ≤ 200
      · have h2I : (j : Int) ≤ 200 := by omega
        have hbb : decide (j ≤ 200) = true := decide_eq_true h200
        have HBBT := Lib.hid hbb
        clear hbb
        go_wp2_with (first
          | (go_at_call 25; go_loud (
            rw [HWR.out];
            refine (HPAR.out).mono ?_;
            rintro e w2 ⟨⟨i0, rfl, hi0, hi1⟩, hb2⟩;
            have hz : i0 = 0 := by
              by_cases hp0 : parentL (dRow j j) d = 0
              · exact hi0 hp0
              · have h3 := hi1 hp0
                rw [parent_deep hd1 hd2] at h3 hp0
                exact kids_deep (S := j) (x := d - 1) (by omega) (by omega) (by rw [show d - 1 + 1 = d by omega]; exact h3)
            subst hz;
            rw [HPD.out];
            have HB2 := Lib.hid (HB.out.trans (hb2.mono HB.out.size));
            have HA2 := Lib.hid (HAD.out.below hb2);
            have ht := tree_any w2 _ ga gm gp j F1 vs1 _ HA2.out (Nat.le_trans HSM.out (by omega)) (by rw [HLN.out]; omega);
            rw [tree_deep (by omega), HBBT.out] at ht;
            have HT := Lib.hid ht;
            clear ht hi0 hi1 hb2))
          | (go_at_call 32; (with_reducible refine (HT.out).mono ?_); rintro e w3 ⟨rfl, hb3⟩; go_loud (
            have HB3 := Lib.hid (HB2.out.trans (hb3.mono HB2.out.size));
            have HA3 := Lib.hid (HA2.out.below hb3);
            have hab := above_any w3 _ ga gm gp d 1 j F1 vs1 _ HA3.out (by omega) (by rw [HLN.out]; omega);
            rw [HLN.out, above_deep d j hd1 hd2 hd2] at hab;
            have HAB := Lib.hid hab;
            clear hab hb3))
          | (go_at_call 31; go_loud (
            refine (HAB.out).mono ?_;
            rintro e w4 ⟨rfl, hb4⟩;
            have HB4 := Lib.hid (HB3.out.trans (hb4.mono HB3.out.size));
            have HA4 := Lib.hid (HA3.out.below hb4);
            have HCP := Lib.hid (copy_any w4 _ ga gm gp j F1 vs1 _ HA4.out (Nat.le_trans HSM.out (by omega)) (by rw [HLN.out]; omega));
            clear hb4))
          | (go_at_call 10; (with_reducible refine (HCP.out).mono ?_); rintro e w5 ⟨gc, gcm, gcp, Fc, vsc, rfl, hAc, hb5⟩; go_loud (
            have HB5 := Lib.hid (HB4.out.trans (hb5.mono HB4.out.size));
            have HAC := Lib.hid hAc;
            have HDR := Lib.hid (drop_any w5 _ gc gcm gcp d _ Fc vsc _ hAc (by omega) (by have := HSM.out; omega) (by rw [HLN.out]; omega));
            clear hAc hb5))
          | (go_at_call 13; (with_reducible refine (HDR.out).mono ?_); rintro e w6 ⟨rfl, F6, vs6, hA6, hT6, hO6⟩; go_loud (
            rw [HWK.out];
            have HB6 := Lib.hid (HB5.out.trans (hT6.below HB5.out.size fun i hi => Nat.le_trans HB4.out.size (HAC.out.low hi)));
            clear hA6 hT6 hO6)))
        go_ret
        first
          | exact ⟨rfl, HB6.out⟩
          | (refine ⟨?_, HB6.out⟩; show Ending.returned (.bool (!decide ((j : Int) ≤ 200))) = _; rw [decide_eq_false (by omega)]; rfl)
      · have h2I : ¬ (j : Int) ≤ 200 := by omega
        have hbb : decide (j ≤ 200) = false := decide_eq_false h200
        have HBBT := Lib.hid hbb
        clear hbb
        go_wp2_with (first
          | (go_at_call 25; go_loud (
            rw [HWR.out];
            refine (HPAR.out).mono ?_;
            rintro e w2 ⟨⟨i0, rfl, hi0, hi1⟩, hb2⟩;
            have hz : i0 = 0 := by
              by_cases hp0 : parentL (dRow j j) d = 0
              · exact hi0 hp0
              · have h3 := hi1 hp0
                rw [parent_deep hd1 hd2] at h3 hp0
                exact kids_deep (S := j) (x := d - 1) (by omega) (by omega) (by rw [show d - 1 + 1 = d by omega]; exact h3)
            subst hz;
            rw [HPD.out];
            have HB2 := Lib.hid (HB.out.trans (hb2.mono HB.out.size));
            have HA2 := Lib.hid (HAD.out.below hb2);
            have ht := tree_any w2 _ ga gm gp j F1 vs1 _ HA2.out (Nat.le_trans HSM.out (by omega)) (by rw [HLN.out]; omega);
            rw [tree_deep (by omega), HBBT.out] at ht;
            have HT := Lib.hid ht;
            clear ht hi0 hi1 hb2))
          | (go_at_call 32; (with_reducible refine (HT.out).mono ?_); rintro e w3 ⟨rfl, hb3⟩; go_loud (
            have HB3 := Lib.hid (HB2.out.trans (hb3.mono HB2.out.size));
            have HA3 := Lib.hid (HA2.out.below hb3);
            have hab := above_any w3 _ ga gm gp d 1 j F1 vs1 _ HA3.out (by omega) (by rw [HLN.out]; omega);
            rw [HLN.out, above_deep d j hd1 hd2 hd2] at hab;
            have HAB := Lib.hid hab;
            clear hab hb3))
          | (go_at_call 31; go_loud (
            refine (HAB.out).mono ?_;
            rintro e w4 ⟨rfl, hb4⟩;
            have HB4 := Lib.hid (HB3.out.trans (hb4.mono HB3.out.size));
            have HA4 := Lib.hid (HA3.out.below hb4);
            have HCP := Lib.hid (copy_any w4 _ ga gm gp j F1 vs1 _ HA4.out (Nat.le_trans HSM.out (by omega)) (by rw [HLN.out]; omega));
            clear hb4))
          | (go_at_call 10; (with_reducible refine (HCP.out).mono ?_); rintro e w5 ⟨gc, gcm, gcp, Fc, vsc, rfl, hAc, hb5⟩; go_loud (
            have HB5 := Lib.hid (HB4.out.trans (hb5.mono HB4.out.size));
            have HAC := Lib.hid hAc;
            have HDR := Lib.hid (drop_any w5 _ gc gcm gcp d _ Fc vsc _ hAc (by omega) (by have := HSM.out; omega) (by rw [HLN.out]; omega));
            clear hAc hb5))
          | (go_at_call 13; (with_reducible refine (HDR.out).mono ?_); rintro e w6 ⟨rfl, F6, vs6, hA6, hT6, hO6⟩; go_loud (
            rw [HWK.out];
            have HB6 := Lib.hid (HB5.out.trans (hT6.below HB5.out.size fun i hi => Nat.le_trans HB4.out.size (HAC.out.low hi)));
            clear hA6 hT6 hO6)))
        go_ret
        first
          | exact ⟨rfl, HB6.out⟩
          | (refine ⟨?_, HB6.out⟩; show Ending.returned (.bool (!decide ((j : Int) ≤ 200))) = _; rw [decide_eq_false (by omega)]; rfl)
end Go.Proofs.Ytedkkfndobiedaa
