/- The law ArenaForms, walked. -/
import Derived.Test.YtdphpjlhkamadaaZ47
import Derived.Test.YtdphpjlhkamadaaARBytes
namespace Go.Proofs.Ytdphpjlhkamadaa
open Go.RowKit Go.Shelf
set_option linter.unusedSimpArgs false
set_option linter.unusedVariables false
set_option maxRecDepth 100000
attribute [local go_sem] Oper.semAt_some undef
def FoI (wl : World) (i : Value) (wr : World) : Prop := ∃ k : Nat, k ≤ 3 ∧ i = .int .i64 (k : Int) ∧ Below wl.heap.size wl wr
theorem FoI.mk {wl wr : World} (k : Nat) (h1 : k ≤ 3) (h2 : Below wl.heap.size wl wr) : FoI wl (.int .i64 (k : Int)) wr := ⟨k, h1, rfl, h2⟩
set_option maxHeartbeats 16000000 in
theorem arenaForms_walk (w : World) (A Ar : Option Addr) (N c nr cr : Nat) (rs : List (Nat × Nd)) (raw : List Nat) (att tu : Nat) (hat : att < 65536) (htu : tu < 256) (h : RowsIn w w.heap.size A N rs) (hrw : Bytes w w.heap.size (.slice Ar nr cr) raw) :
    Calls Try.prog 4 #[.slice A N c, .slice Ar nr cr, .int .u16 (att : Int), .int .u8 (tu : Int)] w (fun e w' => e = .returned (.bool true) ∧ Below w.heap.size w w') := by
  have HAW := Lib.hid (awake_true w)
  have HH := Lib.hid h
  have HRW := Lib.hid hrw
  have HTU := Lib.hid htu
  obtain ⟨ns, hnsd⟩ : ∃ ns, ns = layL rs := ⟨_, rfl⟩
  have hok : ∀ p ∈ ns, LaidOk p := by rw [hnsd]; exact layL_fit (rows_good h)
  have HOK := Lib.hid hok
  have HNSD := Lib.hid hnsd
  obtain ⟨R, hR⟩ : ∃ R, R = raw.take 60 := ⟨_, rfl⟩
  have hRl : R.length ≤ 60 := by rw [hR, List.length_take]; omega
  have HR := Lib.hid hR
  have HRL := Lib.hid hRl
  obtain ⟨L, hL⟩ : ∃ L, L = (arenaB ns).length := ⟨_, rfl⟩
  have HL := Lib.hid hL
  obtain ⟨i, hi⟩ : ∃ i, i = att % L := ⟨_, rfl⟩
  have HI := Lib.hid hi
  clear h hrw htu hnsd hok hR hRl hL hi
  go_enter Try.func4, Try.ntmps4
  go_wp2_with (first
    | (go_at_call 8; (with_reducible refine (HAW.out).mono ?_); rintro e w1 ⟨rfl, hb1⟩; go_loud (
        have HCUT := Lib.hid (cut_mine w1 _ raw 60 60 rfl (HRW.out.along hb1) (by omega));
        rw [← HR.out] at HCUT;
        have HB1 := Lib.hid hb1;
        clear hb1))
    | (go_at_call 18; (with_reducible refine (HCUT.out).mono ?_); rintro e w2 ⟨A2, n2, c2, rfl, hM2, hb2⟩; go_loud (
        have hbb := HB1.out.trans (hb2.mono HB1.out.size);
        have HLAY := Lib.hid (lay_any w2 A N c rs ((HH.out.below hbb).up2 hbb.size));
        have HM2 := Lib.hid hM2.bytes;
        have HN2 := Lib.hid hM2.len;
        have HB2 := Lib.hid hbb;
        clear hM2 hb2 hbb))
    | (go_at_call 9; (with_reducible refine (HLAY.out).mono ?_); rintro e w3 ⟨b0, ga, gm, gp, xv, xs, F, vs, rfl, hb0, hxs, hns, hA, hfw, hb3⟩; go_loud (
        obtain ⟨Ax, cx, rfl⟩ := row_form hxs.own;
        obtain ⟨nx, hnx⟩ : ∃ nx, nx = xs.length := ⟨_, rfl⟩;
        rw [← hnx] at hxs ⊢;
        rw [← HNSD.out] at hns hA hfw;
        have hal := arena_len HOK.out hfw;
        have hlen := hfw.len;
        have hnl : nx = ns.length := (by rw [hnx, ← xNs_size, hns]);
        have HBYT := Lib.hid (bytes_any w3 _ ga gm gp _ F vs ns hA (by omega) (by omega));
        have HXS := Lib.hid hxs;
        have HNX := Lib.hid hnx;
        have HNS := Lib.hid hns;
        have HA3 := Lib.hid hA;
        have HFW := Lib.hid hfw;
        have HAL := Lib.hid hal;
        have HNL := Lib.hid hnl;
        have HR3 := Lib.hid (HM2.out.along hb3);
        have HB3 := Lib.hid (HB2.out.trans (hb3.mono HB2.out.size));
        clear hxs hnx hns hA hfw hal hlen hnl hb3 hb0))
    | (go_at_call 19; (with_reducible refine (HBYT.out).mono ?_); rintro e w4 ⟨A4, n4, c4, rfl, hM4, hb4⟩; go_loud (
        obtain rfl : n4 = L := hM4.len.trans HL.out.symm;
        have HPAR := Lib.hid (parse_some w4 _ (arenaB ns) ns hM4.bytes (by have := HAL.out; omega) (laid_again HOK.out HFW.out));
        have HM4 := Lib.hid hM4.bytes;
        have HA4 := Lib.hid (HA3.out.below hb4);
        have HXS4 := Lib.hid (HXS.out.below hb4);
        have HR4 := Lib.hid (HR3.out.along hb4);
        have HB4 := Lib.hid (HB3.out.trans (hb4.mono HB3.out.size));
        clear hM4 hb4))
    | (go_at_call 20; (with_reducible refine (HPAR.out).mono ?_); rintro e w5 ⟨b5, ga5, gm5, gp5, F5, vs5, N5, rfl, hA5, hb5⟩; go_loud (
        have HRBY := Lib.hid (rbytes_any w5 _ nx cx Ax xs (HXS4.out.below hb5) HNX.out (by have := HNL.out; have := HFW.out.len; omega) (by rw [HNS.out]; exact HFW.out.rise) (by rw [HNS.out]; have := HAL.out; omega));
        have HA5 := Lib.hid (HA4.out.below hb5);
        have HP5 := Lib.hid hA5;
        have HXS5 := Lib.hid (HXS4.out.below hb5);
        have HR5 := Lib.hid (HR4.out.along hb5);
        have HM5 := Lib.hid (HM4.out.along hb5);
        have HB5 := Lib.hid (HB4.out.trans (hb5.mono HB4.out.size));
        clear hA5 hb5))
    | (go_at_call 22; (with_reducible refine (HRBY.out).mono ?_); rintro e w6 ⟨A6, n6, c6, rfl, hM6, hb6⟩; go_loud (
        rw [HNS.out] at hM6;
        have HSA6 := Lib.hid (same_bytes w6 (.slice A4 n4 c4) (.slice A6 n6 c6) _ _ (HM5.out.along hb6) hM6.bytes true (by simp));
        have HA6 := Lib.hid (HA5.out.below hb6);
        have HP6 := Lib.hid (HP5.out.below hb6);
        have HXS6 := Lib.hid (HXS5.out.below hb6);
        have HR6 := Lib.hid (HR5.out.along hb6);
        have HM6 := Lib.hid (HM5.out.along hb6);
        have HB6 := Lib.hid (HB5.out.trans (hb6.mono HB5.out.size));
        clear hM6 hb6))
    | (go_at_call 21; (with_reducible refine (HSA6.out).mono ?_); rintro e w7 ⟨rfl, hb7⟩; go_loud (
        have HSA7 := Lib.hid (same_any w7 (HA6.out.below hb7) (HP6.out.below hb7) (by have := HFW.out.len; omega));
        have HP7 := Lib.hid (HP6.out.below hb7);
        have HXS7 := Lib.hid (HXS6.out.below hb7);
        have HR7 := Lib.hid (HR6.out.along hb7);
        have HM7 := Lib.hid (HM6.out.along hb7);
        have HB7 := Lib.hid (HB6.out.trans (hb7.mono HB6.out.size));
        clear hb7))
    | (go_at_call 23; (with_reducible refine (HSA7.out).mono ?_); rintro e w8 ⟨⟨bs, rfl, hbs⟩, hb8⟩; go_loud (
        obtain rfl : bs = true := hbs.2 trivial;
        have HRO8 := Lib.hid (rows_any w8 _ ga5 gm5 gp5 _ F5 vs5 ns (HP7.out.below hb8) (by have := HFW.out.len; omega));
        have HXS8 := Lib.hid (HXS7.out.below hb8);
        have HR8 := Lib.hid (HR7.out.along hb8);
        have HM8 := Lib.hid (HM7.out.along hb8);
        have HB8 := Lib.hid (HB7.out.trans (hb8.mono HB7.out.size));
        clear hbs hb8))
    | (go_at_call 15; (with_reducible refine (HRO8.out).mono ?_); rintro e w9 ⟨yv, ys, rfl, hys, hyn, hb9⟩; go_loud (
        obtain ⟨Ay, cy, rfl⟩ := row_form hys.own;
        obtain ⟨ny, hny⟩ : ∃ ny, ny = ys.length := ⟨_, rfl⟩;
        rw [← hny] at hys ⊢;
        have HEQ9 := Lib.hid (requal_any w9 _ _ ny nx cy cx Ay Ax ys xs hys (HXS8.out.below hb9) hny HNX.out (by rw [hny, ← xNs_size, hyn]; have := HFW.out.len; omega));
        rw [hyn, HNS.out] at HEQ9;
        have HR9 := Lib.hid (HR8.out.along hb9);
        have HM9 := Lib.hid (HM8.out.along hb9);
        have HB9 := Lib.hid (HB8.out.trans (hb9.mono HB8.out.size));
        clear hys hyn hb9 hny))
    | (go_at_call 14; (with_reducible refine (HEQ9.out).mono ?_); rintro e w10 ⟨⟨bs2, rfl, hbs2⟩, hb10⟩; go_loud (
        obtain rfl : bs2 = true := hbs2.2 trivial;
        have HJ1 := Lib.hid (join_one w10 _ _ (HM9.out.along hb10) (by have := HAL.out; omega));
        have HR10 := Lib.hid (HR9.out.along hb10);
        have HM10 := Lib.hid (HM9.out.along hb10);
        have HB10 := Lib.hid (HB9.out.trans (hb10.mono HB9.out.size));
        clear hbs2 hb10))
    | (go_at_call 24; (with_reducible refine (HJ1.out).mono ?_); rintro e w11 ⟨A11, n11, c11, rfl, hM11, hb11⟩; go_loud (
        obtain rfl : n11 = n4 := hM11.len.trans HL.out.symm;
        have hal2 := HAL.out;
        rw [← HL.out] at hal2;
        have hilt : i < n11 := (by rw [HI.out]; exact Nat.mod_lt _ hal2.1);
        have hiltI : (i : Int) < (n11 : Int) := (by omega);
        have hi1 : (att : Int) % (n11 : Int) = (i : Int) := (by rw [HI.out]; omega);
        have hi2 : (att : Int).tmod (n11 : Int) = (i : Int) := (by rw [Int.tmod_eq_emod_of_nonneg (by omega)]; exact hi1);
        have hpos : ¬ (n11 : Int) = 0 := (by omega);
        have hpos2 : ((n11 : Int) == 0) = false := (by rw [beq_eq_false_iff_ne]; exact hpos);
        obtain ⟨g11, b11, rfl, hg11, hbb11, hs11, kc11, fz11⟩ := mine_at hM11 (k := i) hilt;
        have hx11 : bits .xor .u8 (b11 : Int) (tu : Int) = ((b11 ^^^ tu : Nat) : Int) := u8_xor_nat b11 tu hs11 HTU.out;
        have hMs := mine_set (i := i) hM11 (Nat.xor_lt_two_pow (n := 8) (x := b11) (y := tu) (by omega) (by have := HTU.out; omega));
        have hBs : Below w10.heap.size w10 (w11.setCell ⟨g11, i, none⟩ (.int .u8 ((b11 ^^^ tu : Nat) : Int))) := hb11.setCell (p := ⟨g11, i, none⟩) hg11 _;
        have hsz : (w11.setCell ⟨g11, i, none⟩ (.int .u8 ((b11 ^^^ tu : Nat) : Int))).heap.size = w11.heap.size := (by simp);
        have hj2 := join_two (w11.setCell ⟨g11, i, none⟩ (.int .u8 ((b11 ^^^ tu : Nat) : Int))) _ _ _ _ (HM10.out.along hBs) (HR10.out.along hBs) (by have := HAL.out; have := HRL.out; omega);
        rw [hsz] at hj2;
        have HJ2 := Lib.hid hj2;
        have HSZ := Lib.hid hsz;
        have HMS := Lib.hid hMs;
        have HBS := Lib.hid hBs;
        clear hM11 hb11 hal2 hMs hBs hbb11 hsz hj2))
    | (go_at_call 24; (with_reducible refine (HJ2.out).mono ?_); rintro e w13 ⟨A13, n13, c13, rfl, hM13, hb13⟩; go_loud (
        have hbx : Below (w11.setCell ⟨g11, i, none⟩ (.int .u8 ((b11 ^^^ tu : Nat) : Int))).heap.size (w11.setCell ⟨g11, i, none⟩ (.int .u8 ((b11 ^^^ tu : Nat) : Int))) w13 := (by rw [HSZ.out]; exact hb13);
        have hby := HBS.out.trans (hbx.mono HBS.out.size);
        have HQ0 := Lib.hid (HMS.out.below hbx).bytes;
        have HQ0L := Lib.hid HMS.out.len;
        have HQ1 := Lib.hid (HR10.out.along hby);
        have HQ2 := Lib.hid hM13.bytes;
        have HQ2L := Lib.hid hM13.len;
        have HP13 := Lib.hid (HM10.out.along hby);
        have HB13 := Lib.hid (HB10.out.trans (hby.mono HB10.out.size));
        clear hM13 hb13 hbx hby)))
  obtain ⟨wl, hwl⟩ : ∃ wl, wl = w13.alloc (.cells #[.slice (some ⟨g11, 0, none⟩) n11 c11, .slice A2 n2 c2, .slice A13 n13 c13] 42) := ⟨_, rfl⟩
  rw [← hwl]
  have hb13l : Below w13.heap.size w13 wl := by rw [hwl]; exact (Below.refl _ _).alloc (Nat.le_refl _) _
  have hrow : wl.heap[w13.heap.size]? = some (.cells #[.slice (some ⟨g11, 0, none⟩) n11 c11, .slice A2 n2 c2, .slice A13 n13 c13] 42 (0, 0)) := by rw [hwl]; exact Go.heap_alloc_new _ _
  have HROW := Lib.hid hrow
  have hal3 := HAL.out
  rw [← HL.out] at hal3
  have HW0 : Hid (Row3 wl (.slice (some ⟨g11, 0, none⟩) n11 c11)) := Lib.hid ⟨_, _, _, _, rfl, HQ0.out.along hb13l, by rw [← HQ0L.out]; omega⟩
  have HW1 : Hid (Row3 wl (.slice A2 n2 c2)) := Lib.hid ⟨_, _, _, _, rfl, HQ1.out.along hb13l, Nat.le_trans HRL.out (by omega)⟩
  have HW2 : Hid (Row3 wl (.slice A13 n13 c13)) := Lib.hid ⟨_, _, _, _, rfl, HQ2.out.along hb13l, by rw [List.length_append, ← HL.out]; have := HRL.out; omega⟩
  have HPL := Lib.hid (HP13.out.along hb13l)
  have HRL2 := Lib.hid (HQ1.out.along hb13l)
  have HBL := Lib.hid (HB13.out.trans (hb13l.mono HB13.out.size))
  have HAL3 := Lib.hid hal3
  obtain ⟨G, hG⟩ : ∃ G, G = w13.heap.size := ⟨_, rfl⟩
  rw [← hG] at HROW ⊢
  clear hwl hb13l hrow hal3 hG kc11 fz11 hx11 hi1 hi2 hpos hpos2 hilt hiltI
  have hn11b : n11 ≤ 10000 := HAL3.out.2
  have hn2b : n2 ≤ 60 := by rw [HN2.out]; exact HRL.out
  go_loopw [79] (fun iv wr => FoI wl iv wr) (fun iv _ => 3 - (intOf iv).toNat)
  case atStart => exact FoI.mk 0 (by omega) (Below.refl _ _)
  case round =>
    obtain ⟨k, hk, rfl, hb⟩ := hrel
    have HB := Lib.hid hb
    by_cases hlt : k < 3
    · have hltI : (k : Int) < 3 := by omega
      obtain ⟨Aq, nq, cq, lq, hcq, hbq, hnq, hnqb⟩ := three_at HROW.out HW0.out HW1.out HW2.out hb hlt
      have HBQ := Lib.hid hbq
      have HNQ := Lib.hid hnq
      have HPR := Lib.hid (HPL.out.along hb)
      have HRR := Lib.hid (HRL2.out.along hb)
      have hlq : lq.length ≤ 1048576 := by omega
      have HLQ := Lib.hid hlq
      clear hb hbq hnq hlq
      cases hpl : parseL lq with
      | none =>
        have HPN := Lib.hid (parse_none wr _ lq HBQ.out HLQ.out hpl)
        clear hpl
        by_cases hr0 : n2 = 0
        · subst hr0
          go_wp2_with (go_at_call 20; (with_reducible refine (HPN.out).mono ?_); rintro e w20 ⟨rfl, hb20⟩; go_loud (
              have HBF := Lib.hid (HB.out.trans (hb20.mono HB.out.size));
              clear hb20))
          have hfin := FoI.mk (wl := wl) (k + 1) (by omega) HBF.out
          first
            | (go_roundw; (case rel => exact hfin); (case measure => simp [intOf]; omega))
            | (refine ⟨⟨_, _, _, _, _, _, _, _, _, _, _, _, _, _, _, _, _, hfin, rfl⟩, ?measure⟩; (case measure => simp [intOf]; omega))
            | (refine ⟨hfin, ?measure⟩; (case measure => simp [intOf]; omega))
        · have hr1 : 0 < n2 := by omega
          have hr2 : (0 : Int) < (n2 : Int) := by omega
          clear hr0
          go_wp2_with (go_at_call 20; (with_reducible refine (HPN.out).mono ?_); rintro e w20 ⟨rfl, hb20⟩; go_loud (
              have HBF := Lib.hid (HB.out.trans (hb20.mono HB.out.size));
              clear hb20))
          have hfin := FoI.mk (wl := wl) (k + 1) (by omega) HBF.out
          first
            | (go_roundw; (case rel => exact hfin); (case measure => simp [intOf]; omega))
            | (refine ⟨⟨_, _, _, _, _, _, _, _, _, _, _, _, _, _, _, _, _, hfin, rfl⟩, ?measure⟩; (case measure => simp [intOf]; omega))
            | (refine ⟨hfin, ?measure⟩; (case measure => simp [intOf]; omega))
      | some ns2 =>
        have HPS := Lib.hid (parse_some wr _ lq ns2 HBQ.out HLQ.out hpl)
        obtain ⟨hback, hrise, hbd, hlen2⟩ := arena_back HBQ.out.small HLQ.out hpl
        have HBACK := Lib.hid hback
        have HLEN2 := Lib.hid hlen2
        have hne : n2 ≠ 0 → lq ≠ arenaB ns ++ R := fun h0 e => by
          have h1 := arena_more (r := R) HFW.out.rise HOK.out (by have := HFW.out.len; omega) (fun e => by rw [HN2.out, e] at h0; exact h0 rfl)
          rw [← e, hpl] at h1
          cases h1
        have HNE := Lib.hid hne
        clear hpl hback hrise hbd hlen2 hne
        by_cases hr0 : n2 = 0
        · subst hr0
          go_wp2_with (first
            | (go_at_call 20; (with_reducible refine (HPS.out).mono ?_); rintro e w20 ⟨b20, ga20, gm20, gp20, F20, vs20, N20, rfl, hA20, hb20⟩; go_loud (
                have HBY2 := Lib.hid (bytes_any w20 _ ga20 gm20 gp20 _ F20 vs20 ns2 hA20 (by rw [HBACK.out]; exact HLQ.out) (by have := HLEN2.out; omega));
                rw [HBACK.out] at HBY2;
                have HQ20 := Lib.hid (HBQ.out.along hb20);
                have HP20 := Lib.hid (HPR.out.along hb20);
                have HR20 := Lib.hid (HRR.out.along hb20);
                have HB20 := Lib.hid (HB.out.trans (hb20.mono HB.out.size));
                clear hA20 hb20))
            | (go_at_call 19; (with_reducible refine (HBY2.out).mono ?_); rintro e w21 ⟨A21, n21, c21, rfl, hM21, hb21⟩; go_loud (
                have HS21 := Lib.hid (same_bytes w21 (.slice A21 n21 c21) (.slice Aq nq cq) _ _ hM21.bytes (HQ20.out.along hb21) true (by simp));
                have HQ21 := Lib.hid (HQ20.out.along hb21);
                have HP21 := Lib.hid (HP20.out.along hb21);
                have HR21 := Lib.hid (HR20.out.along hb21);
                have HB21 := Lib.hid (HB20.out.trans (hb21.mono HB20.out.size));
                clear hM21 hb21))
            | (go_at_call 21; (with_reducible refine (HS21.out).mono ?_); rintro e w22 ⟨rfl, hb22⟩; go_loud (
                have HJ22 := Lib.hid (join_two w22 _ _ _ _ ((HP21.out.along hb22)) (HR21.out.along hb22) (by rw [← HL.out]; have := HRL.out; omega));
                have HQ22 := Lib.hid (HQ21.out.along hb22);
                have HBF := Lib.hid (HB21.out.trans (hb22.mono HB21.out.size));
                clear hb22)))
          have hfin := FoI.mk (wl := wl) (k + 1) (by omega) HBF.out
          first
            | (go_roundw; (case rel => exact hfin); (case measure => simp [intOf]; omega))
            | (refine ⟨⟨_, _, _, _, _, _, _, _, _, _, _, _, _, _, _, _, _, hfin, rfl⟩, ?measure⟩; (case measure => simp [intOf]; omega))
            | (refine ⟨hfin, ?measure⟩; (case measure => simp [intOf]; omega))
        · have hr1 : 0 < n2 := by omega
          have hr2 : (0 : Int) < (n2 : Int) := by omega
          have HNE2 := Lib.hid (HNE.out hr0)
          clear hr0
          by_cases hql : n11 < nq
          · have hqI : (n11 : Int) < (nq : Int) := by omega
            go_wp2_with (first
              | (go_at_call 20; (with_reducible refine (HPS.out).mono ?_); rintro e w20 ⟨b20, ga20, gm20, gp20, F20, vs20, N20, rfl, hA20, hb20⟩; go_loud (
                  have HBY2 := Lib.hid (bytes_any w20 _ ga20 gm20 gp20 _ F20 vs20 ns2 hA20 (by rw [HBACK.out]; exact HLQ.out) (by have := HLEN2.out; omega));
                  rw [HBACK.out] at HBY2;
                  have HQ20 := Lib.hid (HBQ.out.along hb20);
                  have HP20 := Lib.hid (HPR.out.along hb20);
                  have HR20 := Lib.hid (HRR.out.along hb20);
                  have HB20 := Lib.hid (HB.out.trans (hb20.mono HB.out.size));
                  clear hA20 hb20))
              | (go_at_call 19; (with_reducible refine (HBY2.out).mono ?_); rintro e w21 ⟨A21, n21, c21, rfl, hM21, hb21⟩; go_loud (
                  have HS21 := Lib.hid (same_bytes w21 (.slice A21 n21 c21) (.slice Aq nq cq) _ _ hM21.bytes (HQ20.out.along hb21) true (by simp));
                  have HQ21 := Lib.hid (HQ20.out.along hb21);
                  have HP21 := Lib.hid (HP20.out.along hb21);
                  have HR21 := Lib.hid (HR20.out.along hb21);
                  have HB21 := Lib.hid (HB20.out.trans (hb21.mono HB20.out.size));
                  clear hM21 hb21))
              | (go_at_call 21; (with_reducible refine (HS21.out).mono ?_); rintro e w22 ⟨rfl, hb22⟩; go_loud (
                  have HJ22 := Lib.hid (join_two w22 _ _ _ _ ((HP21.out.along hb22)) (HR21.out.along hb22) (by rw [← HL.out]; have := HRL.out; omega));
                  have HQ22 := Lib.hid (HQ21.out.along hb22);
                  have HB22 := Lib.hid (HB21.out.trans (hb22.mono HB21.out.size));
                  clear hb22))
              | (go_at_call 24; (with_reducible refine (HJ22.out).mono ?_); rintro e w23 ⟨A23, n23, c23, rfl, hM23, hb23⟩; go_loud (
                  have HS23 := Lib.hid (same_bytes w23 (.slice Aq nq cq) (.slice A23 n23 c23) _ _ (HQ22.out.along hb23) hM23.bytes false (by simpa using HNE2.out));
                  have HB23 := Lib.hid (HB22.out.trans (hb23.mono HB22.out.size));
                  clear hM23 hb23))
              | (go_at_call 21; (with_reducible refine (HS23.out).mono ?_); rintro e w24 ⟨rfl, hb24⟩; go_loud (
                  have HBF := Lib.hid (HB23.out.trans (hb24.mono HB23.out.size));
                  clear hb24)))
            have hfin := FoI.mk (wl := wl) (k + 1) (by omega) HBF.out
            first
              | (go_roundw; (case rel => exact hfin); (case measure => simp [intOf]; omega))
              | (refine ⟨⟨_, _, _, _, _, _, _, _, _, _, _, _, _, _, _, _, _, hfin, rfl⟩, ?measure⟩; (case measure => simp [intOf]; omega))
              | (refine ⟨hfin, ?measure⟩; (case measure => simp [intOf]; omega))
          · have hqI : ¬ (n11 : Int) < (nq : Int) := by omega
            go_wp2_with (first
              | (go_at_call 20; (with_reducible refine (HPS.out).mono ?_); rintro e w20 ⟨b20, ga20, gm20, gp20, F20, vs20, N20, rfl, hA20, hb20⟩; go_loud (
                  have HBY2 := Lib.hid (bytes_any w20 _ ga20 gm20 gp20 _ F20 vs20 ns2 hA20 (by rw [HBACK.out]; exact HLQ.out) (by have := HLEN2.out; omega));
                  rw [HBACK.out] at HBY2;
                  have HQ20 := Lib.hid (HBQ.out.along hb20);
                  have HP20 := Lib.hid (HPR.out.along hb20);
                  have HR20 := Lib.hid (HRR.out.along hb20);
                  have HB20 := Lib.hid (HB.out.trans (hb20.mono HB.out.size));
                  clear hA20 hb20))
              | (go_at_call 19; (with_reducible refine (HBY2.out).mono ?_); rintro e w21 ⟨A21, n21, c21, rfl, hM21, hb21⟩; go_loud (
                  have HS21 := Lib.hid (same_bytes w21 (.slice A21 n21 c21) (.slice Aq nq cq) _ _ hM21.bytes (HQ20.out.along hb21) true (by simp));
                  have HQ21 := Lib.hid (HQ20.out.along hb21);
                  have HP21 := Lib.hid (HP20.out.along hb21);
                  have HR21 := Lib.hid (HR20.out.along hb21);
                  have HB21 := Lib.hid (HB20.out.trans (hb21.mono HB20.out.size));
                  clear hM21 hb21))
              | (go_at_call 21; (with_reducible refine (HS21.out).mono ?_); rintro e w22 ⟨rfl, hb22⟩; go_loud (
                  have HJ22 := Lib.hid (join_two w22 _ _ _ _ ((HP21.out.along hb22)) (HR21.out.along hb22) (by rw [← HL.out]; have := HRL.out; omega));
                  have HQ22 := Lib.hid (HQ21.out.along hb22);
                  have HBF := Lib.hid (HB21.out.trans (hb22.mono HB21.out.size));
                  clear hb22)))
            have hfin := FoI.mk (wl := wl) (k + 1) (by omega) HBF.out
            first
              | (go_roundw; (case rel => exact hfin); (case measure => simp [intOf]; omega))
              | (refine ⟨⟨_, _, _, _, _, _, _, _, _, _, _, _, _, _, _, _, _, hfin, rfl⟩, ?measure⟩; (case measure => simp [intOf]; omega))
              | (refine ⟨hfin, ?measure⟩; (case measure => simp [intOf]; omega))
    · have hltI : ¬ (k : Int) < 3 := by omega
      go_wp2_with fail
      go_ret
      exact ⟨rfl, HBL.out.trans (HB.out.mono HBL.out.size)⟩
end Go.Proofs.Ytdphpjlhkamadaa
