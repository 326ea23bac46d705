/- The walk of the law PageForms: it answers true for every page and every bytes, and writes nothing that was there. -/
import Derived.Test.YtkfpbjkpkbfbbaaPForms
import Derived.Deep.CutBlock
import Derived.Deep.DeepCutAuto
namespace Go.Proofs.Ytkfpbjkpkbfbbaa
open Go.RowKit
set_option linter.unusedSimpArgs false
set_option linter.unusedVariables false
set_option maxRecDepth 100000 in
set_option maxHeartbeats 8000000 in
theorem pageForms_core (w : World) (x0 x1 x2 x3 att tu : Nat) (mend : Bool) (A B : Option Addr) (n c m k : Nat) (d lr : List Nat) (h0 : x0 < 4294967296) (h1 : x1 < 4294967296) (h2 : x2 < 4294967296) (h3 : x3 < 256) (hat : att < 65536) (htu : tu < 256) (hp : Bytes w w.heap.size (.slice A n c) d) (hq : Bytes w w.heap.size (.slice B m k) lr) :
    Calls Try.prog 3 #[.agg #[.int .u32 (x0 : Int), .int .u32 (x1 : Int), .int .u32 (x2 : Int), .int .u8 (x3 : Int), .slice A n c], .slice B m k, .int .u16 (att : Int), .int .u8 (tu : Int), .bool mend] w fun e w' => e = .returned (.bool true) ∧ Below w.heap.size w w' := by
  have HA := fun o => hide (awake_any (w.alloc o))
  have HP := Lib.hid hp
  have HQ := Lib.hid hq
  clear hp hq
  go_enter Try.func3, Try.ntmps3
  go_upto_region 4 with (first
    | (go_at_call 5; (with_reducible refine (unhide (HA _)).mono ?_); rintro e w1 ⟨rfl, hw1⟩; go_loud (
       have b1 := ((Below.refl w.heap.size w).alloc (Nat.le_refl _) _).trans (hw1.mono (by simp));
       have g1 : w1.heap[w.heap.size]? = _ := (hw1.block _ (by simp)).trans (Go.heap_alloc_new w _);
       have l1 : w.heap.size < w1.heap.size := by have := hw1.size; simp at this; omega;
       obtain ⟨a0, a1, a2, a3, a4, -, -, -, -, -⟩ := box_facts g1;
       have HC1 := hide (few_any w1 (x0 : Int) (x1 : Int) (x2 : Int) (x3 : Int) A n c d (HP.out.along b1));
       have HG1 := Lib.hid g1;
       have HB1 := Lib.hid b1;
       clear g1 b1))
    | (go_at_call 6; (with_reducible refine (unhide HC1).mono ?_); rintro e w2 ⟨A2, n2, c2, rfl, hM2, hb2⟩; go_loud (
       have g2 : w2.heap[w.heap.size]? = _ := (hb2.block _ l1).trans HG1.out;
       obtain ⟨k0, k1, k2, k3, k4, f0, f1, f2, f3, f4⟩ := box_facts g2;
       have HG2 := Lib.hid g2;
       have HM2 := Lib.hid hM2;
       have HB2 := Lib.hid (HB1.out.trans (hb2.mono HB1.out.size));
       clear g2 hM2 hb2)))
  have hX := set_box (v0 := .int .u32 (x0 : Int)) (v1 := .int .u32 (x1 : Int)) (v2 := .int .u32 (x2 : Int)) (v3 := .int .u8 (x3 : Int)) (v4 := .slice A2 n2 c2) HG2.out
  have hMX := mine_five (g := w.heap.size) (v0 := .int .u32 (x0 : Int)) (v1 := .int .u32 (x1 : Int)) (v2 := .int .u32 (x2 : Int)) (v3 := .int .u8 (x3 : Int)) (v4 := .slice A2 n2 c2) HM2.out l1
  have hBX := below_five (g := w.heap.size) (v0 := .int .u32 (x0 : Int)) (v1 := .int .u32 (x1 : Int)) (v2 := .int .u32 (x2 : Int)) (v3 := .int .u8 (x3 : Int)) (v4 := .slice A2 n2 c2) HB2.out (Nat.le_refl _)
  generalize ((((w2.setCell ⟨w.heap.size, 0, none⟩ (.int .u32 (x0 : Int))).setCell ⟨w.heap.size, 1, none⟩ (.int .u32 (x1 : Int))).setCell ⟨w.heap.size, 2, none⟩ (.int .u32 (x2 : Int))).setCell ⟨w.heap.size, 3, none⟩ (.int .u8 (x3 : Int))).setCell ⟨w.heap.size, 4, none⟩ (.slice A2 n2 c2) = X at hX hMX hBX ⊢
  obtain ⟨D, hD⟩ : ∃ D, D = d.take 520 := ⟨_, rfl⟩
  rw [← hD] at hMX
  have hn2 : n2 = D.length := hMX.len
  have hD520 : n2 ≤ 520 := by rw [hn2, hD, List.length_take]; omega
  obtain ⟨q0, q1, q2, q3, q4, -, -, -, -, -⟩ := box_facts hX
  have HN2 := Lib.hid hn2
  have HX := Lib.hid hX
  have HMX := Lib.hid hMX
  have HBX := Lib.hid hBX
  have lX := row_lt hX
  clear hX hMX hBX hD hn2 k0 k1 k2 k3 k4 f0 f1 f2 f3 f4 a0 a1 a2 a3 a4 hw1 HA HC1 HG1 HB1 HG2 HM2 HB2
  go_cut [11, 12] (fun v11 v12 wx => FormA w x0 x1 x2 x3 A2 n2 c2 D v11 v12 wx)
  case first =>
    by_cases hk0 : x3 = 0
    · have HB := hide (bytes_kind X (x0 : Int) (x1 : Int) (x2 : Int) A2 n2 c2)
      have HK := Lib.hid hk0
      subst hk0
      simp only [show ((0 : Nat) : Int) = 0 from rfl] at q3
      go_wp2_with (first
        | (go_at_call 7; (with_reducible refine (unhide HB).mono ?_); rintro e w3 ⟨rfl, hb3⟩))
      go_meet
      exact ⟨none, 0, 0, [], 1, rfl, rfl, Bytes.none_ _ _, Or.inl ⟨rfl, rfl, rfl⟩, (hb3.block _ lX).trans HX.out, HMX.out.bytes.along hb3, HBX.out.trans (hb3.mono HBX.out.size)⟩
    · by_cases hl : n2 ≤ 491
      · have HB := hide (bytes_good X x0 x1 x2 x3 A2 n2 c2 D h0 h1 h2 ⟨by omega, h3⟩ HMX.out.bytes hl)
        have HK := Lib.hid hk0
        have HLN := Lib.hid hl
        clear hk0
        go_wp2_with (first
          | (go_at_call 7; (with_reducible refine (unhide HB).mono ?_); rintro e w3 ⟨A6, n6, c6, rfl, hM6, hb3⟩))
        go_meet
        exact ⟨A6, n6, c6, _, 0, rfl, rfl, hM6.bytes, Or.inr (Or.inr ⟨rfl, HK.out, HLN.out, hM6.len.trans (page_length (by rw [← HN2.out]; exact HLN.out)), rfl⟩), (hb3.block _ lX).trans HX.out, HMX.out.bytes.along hb3, HBX.out.trans (hb3.mono HBX.out.size)⟩
      · have HB := hide (bytes_long X (x0 : Int) (x1 : Int) (x2 : Int) (x3 : Int) A2 n2 c2 (by omega) hl)
        have HK := Lib.hid hk0
        have HLN := Lib.hid hl
        clear hk0 hl
        go_wp2_with (first
          | (go_at_call 7; (with_reducible refine (unhide HB).mono ?_); rintro e w3 ⟨rfl, hb3⟩))
        go_meet
        exact ⟨none, 0, 0, [], 4, rfl, rfl, Bytes.none_ _ _, Or.inr (Or.inl ⟨rfl, HK.out, HLN.out, rfl⟩), (hb3.block _ lX).trans HX.out, HMX.out.bytes.along hb3, HBX.out.trans (hb3.mono HBX.out.size)⟩
  case rest =>
    obtain ⟨A6, n6, c6, lb, er, rfl, rfl, hb6, hout, hg6, hd6, hbw6⟩ := hcut
    generalize wc = wa at hb6 hg6 hd6 hbw6 ⊢
    clear lX q0 q1 q2 q3 q4 HX HMX HBX
    obtain ⟨q0, q1, q2, q3, q4, -, -, -, -, -⟩ := box_facts hg6
    have HOUT := Lib.hid hout
    have HB6 := Lib.hid hb6
    have HD6 := Lib.hid hd6
    have HG6 := Lib.hid hg6
    have HBW := Lib.hid hbw6
    have hn6 : n6 ≤ 512 ∧ lb.length = n6 := by
      have e : n6 = lb.length := by
        obtain ⟨⟨A1, c1, hv, _⟩, _, _⟩ := id hb6
        injection hv
      rcases hout with ⟨_, _, h⟩ | ⟨_, _, _, h⟩ | ⟨_, _, _, h, _⟩ <;> exact ⟨by omega, e.symm⟩
    have HN6 := Lib.hid hn6
    clear hb6 hout hg6 hd6 hbw6 hn6
    go_upto_block 0 with fail
    go_cut [13] (fun v13 wx => v13 = .int .i64 (er : Int) ∧ wx = wa)
    case first =>
      rcases HOUT.out with ⟨rfl, hk, -⟩ | ⟨rfl, hk, hl, -⟩ | ⟨rfl, hk, hl, -⟩
      · have hk1 : ((x3 : Int) == 0) = true := by rw [hk]; rfl
        have hk2 : (x3 : Int) = 0 := by omega
        clear hk
        go_wp2_with fail
        go_meet
        exact ⟨rfl, rfl⟩
      · have hk1 : ((x3 : Int) == 0) = false := by rw [beq_eq_false_iff_ne]; omega
        have hk2 : ¬ (x3 : Int) = 0 := by omega
        have hl1 : (n2 : Int) > 491 := by omega
        clear hk hl
        go_wp2_with fail
        go_meet
        exact ⟨rfl, rfl⟩
      · have hk1 : ((x3 : Int) == 0) = false := by rw [beq_eq_false_iff_ne]; omega
        have hk2 : ¬ (x3 : Int) = 0 := by omega
        have hl1 : ¬ (n2 : Int) > 491 := by omega
        have hl2 : (n2 : Int) ≤ 491 := by omega
        clear hk hl
        go_wp2_with fail
        go_meet
        exact ⟨rfl, rfl⟩
    case rest =>
    obtain ⟨rfl, rfl⟩ := hcut
    obtain ⟨wa, hwa⟩ : ∃ wa, wa = wc := ⟨_, rfl⟩
    subst hwa
    go_upto_region 10 with fail
    go_cut [62] (fun v62 wx => v62 = .bool false ∧ Below wa.heap.size wa wx)
    case first =>
      rcases HOUT.out with ⟨rfl, hk, rfl⟩ | ⟨rfl, hk, hl, rfl⟩ | ⟨rfl, hk, hl, hn, hq⟩
      · clear hk
        go_wp2_with fail
        go_meet
        exact ⟨rfl, Below.refl _ _⟩
      · clear hk hl
        go_wp2_with fail
        go_meet
        exact ⟨rfl, Below.refl _ _⟩
      · have HL := Lib.hid (show n2 ≤ 491 ∧ lb = page x0 x1 x2 x3 D from ⟨hl, hq⟩)
        clear hk hl hn hq
        go_wp2_with (first
          | (go_at_call 10; (with_reducible refine (own_any _ (x0 : Int) (x1 : Int) (x2 : Int) (x3 : Int) A2 n2 c2).mono ?_); rintro e w7 ⟨rfl, hb7⟩)
          | (go_at_call 9; (with_reducible refine (refPage_any _ x0 x1 x2 x3 A2 n2 c2 D h0 h1 h2 h3 (HD6.out.along hb7) HL.out.1 HN2.out HD6.out.small).mono ?_); rintro e w8 ⟨A8, n8, c8, rfl, hM8, hb8⟩; go_loud (
               have hb78 := hb7.trans (hb8.mono hb7.size);
               have hs := same_yes w8 (.slice A6 n6 c6) (.slice A8 n8 c8) (page x0 x1 x2 x3 D) (by have h := HB6.out.along hb78; rw [HL.out.2] at h; exact h) hM8.bytes;
               have HSM := hide hs;
               clear hs))
          | (go_at_call 8; (with_reducible refine (unhide HSM).mono ?_); rintro e w9 ⟨rfl, nq, rfl⟩))
        go_meet
        exact ⟨rfl, below_drewN hb78 nq⟩
    case rest =>
    obtain ⟨rfl, hb10⟩ := hcut
    obtain ⟨wb, hwb⟩ : ∃ wb, wb = wc := ⟨_, rfl⟩
    subst hwb
    have HBWb := Lib.hid (HBW.out.trans (hb10.mono HBW.out.size))
    have HB6b := Lib.hid (HB6.out.along hb10)
    have HG6b := Lib.hid ((hb10.block _ (row_lt HG6.out)).trans HG6.out)
    have HFu := hide (full_any wb (.slice B m k) lr (HQ.out.along HBWb.out))
    clear hb10 q0 q1 q2 q3 q4
    go_upto_if 66 with (first
      | (go_at_call 11; (with_reducible refine (unhide HFu).mono ?_); rintro e w12 ⟨A12, n12, c12, rfl, hM12, hb12⟩; go_loud (
           have HM12 := Lib.hid hM12;
           have HB12 := Lib.hid (HBWb.out.trans (hb12.mono HBWb.out.size));
           have HB6c := Lib.hid (HB6b.out.along hb12);
           have HG6c := Lib.hid ((hb12.block _ (row_lt HG6b.out)).trans HG6b.out);
           clear hM12 hb12)))
    go_cut [14] (fun v14 wx => BentR w12 v14 wx)
    case first =>
      rcases HOUT.out with ⟨rfl, -, -⟩ | ⟨rfl, -, -, -⟩ | ⟨rfl, hk, hl, rfl, hq⟩
      · go_wp2_with fail
        go_meet
        exact ⟨A12, n12, c12, full lr, rfl, HM12.out.bytes, by rw [full_length]; omega, Below.refl _ _⟩
      · go_wp2_with fail
        go_meet
        exact ⟨A12, n12, c12, full lr, rfl, HM12.out.bytes, by rw [full_length]; omega, Below.refl _ _⟩
      · have hJ := join_mine _ (.slice (some ⟨w12.heap.size, 0, none⟩) 1 1) [lb] (pparts_one (Go.heap_alloc_new w12 (.cells #[.slice A6 512 c6] 23)) (HB6c.out.along ((Below.refl w12.heap.size w12).alloc (Nat.le_refl _) (.cells #[.slice A6 512 c6] 23))) (Nat.le_refl _)) (by simpa using HB6c.out.small) (by have := HN6.out.2; simp [this])
        rw [show [lb].flatten = lb by simp] at hJ
        have HJ := hide hJ
        obtain ⟨i, hi⟩ : ∃ i, i = att % 512 := ⟨_, rfl⟩
        have hi1 : (att : Int) % 512 = (i : Int) := by omega
        have hi2 : (att : Int).tmod 512 = (i : Int) := by rw [Int.tmod_eq_emod_of_nonneg (by omega)]; omega
        have hi3 : i < 512 := by omega
        have hi4 : (i : Int) < 512 := by omega
        clear hJ hk hl hq hi
        cases mend
        all_goals go_wp2_with (first
          | (go_at_call 12; (with_reducible refine (unhide HJ).mono ?_); rintro e w13 ⟨A13, n13, c13, rfl, hM13, hb13⟩; go_loud (
               obtain rfl : n13 = 512 := hM13.len.trans HN6.out.2;
               obtain ⟨g13, b13, rfl, hg13, hbb13, hs13, kc13, fz13⟩ := hM13.at_ (k := i) hi3;
               have hx13 := u8_xor b13 tu hs13 htu;
               have hM14 := mine_set (i := i) hM13 (xor_small hs13 htu);
               have hb14 : Below w12.heap.size w12 (w13.setCell ⟨g13, i, none⟩ (.int .u8 ((b13 ^^^ tu : Nat) : Int))) := ((ride_call hb13 (ride_alloc (Below.refl _ _) _))).setCell (p := ⟨g13, i, none⟩) (Nat.le_trans (by simp) hg13) _;
               have hc13 : (508 : Int) ≤ (c13 : Int) := (by have := hM13.bytes.cap; omega);
               have hSl := refSeal_any _ (some ⟨g13, 0, none⟩) 508 c13 _ (hM14.bytes.first (k := 508) (by decide)) (by rw [List.length_take]; omega);
               have HSl := hide hSl;
               have HM14 := Lib.hid hM14;
               have HB14 := Lib.hid hb14;
               clear hSl hM14 hb14 hM13 hb13 hbb13))
          | (go_at_call 13; (with_reducible refine (unhide HSl).mono ?_); rintro e w15 ⟨A15, n15, c15, rfl, hM15, hb15⟩))
        · go_meet
          exact ⟨_, _, _, _, rfl, HM14.out.bytes, by have := HM14.out.len; omega, HB14.out⟩
        · go_meet
          exact ⟨_, _, _, _, rfl, hM15.bytes, by rw [List.length_append, le4_length, List.length_take]; omega, HB14.out.trans (hb15.mono HB14.out.size)⟩
    case rest =>
    obtain ⟨A14, n14, c14, l14, rfl, hb14, hl14, hbb14⟩ := hcut
    obtain ⟨wd, hwd⟩ : ∃ wd, wd = wc := ⟨_, rfl⟩
    subst hwd
    have HBWd := Lib.hid (HB12.out.trans (hbb14.mono HB12.out.size))
    have HB6d := Lib.hid (HB6c.out.along hbb14)
    have HG6d := Lib.hid ((hbb14.block _ (row_lt HG6c.out)).trans HG6c.out)
    have HB14 := Lib.hid hb14
    have HL14 := Lib.hid hl14
    clear hb14 hl14 hbb14 HFu
    go_upto_region 18 with fail
    go_cut [90, 91, 92] (fun v90 v91 v92 wx => FiveR wd v90 v91 v92 wx)
    case first =>
      have hmk := fun w => run_make_n w 512 (by omega)
      simp only [show ((512 : Nat) : Int) = 512 from rfl] at hmk
      have hzn := fun w g hg => zeros_of w 512 g (by omega) hg
      obtain ⟨Z, hZ⟩ : ∃ Z, Z = byt (List.replicate 512 0) := ⟨_, rfl⟩
      rw [← hZ] at hmk hzn
      have HZN := Lib.hid hzn
      clear hZ hzn
      go_region_held3 (fun x => Below wd.heap.size wd x)
        ((repeat (with_reducible (first | exact Below.refl _ _ | assumption | refine ride_alloc ?_ _ | refine ride_drew ?_ | refine below_drewN ?_ _ | refine ride_call (by assumption) ?_))))
        (first
          | (go_at_call 11; (with_reducible refine (full_any _ (.slice B m k) lr (HQ.out.along (HBWd.out.trans (Below.mono (by repeat (with_reducible (first | exact Below.refl _ _ | assumption | refine ride_alloc ?_ _ | refine ride_drew ?_ | refine below_drewN ?_ _ | refine ride_call (by assumption) ?_))) HBWd.out.size)))).mono ?_); rintro e w16 ⟨A16, n16, c16, rfl, hM16, hb16⟩)
          | (go_at_call 14; (with_reducible refine (cut_mine _ (.slice B m k) lr 600 600 rfl (HQ.out.along (HBWd.out.trans (Below.mono (by repeat (with_reducible (first | exact Below.refl _ _ | assumption | refine ride_alloc ?_ _ | refine ride_drew ?_ | refine below_drewN ?_ _ | refine ride_call (by assumption) ?_))) HBWd.out.size))) (by omega)).mono ?_); rintro e w17 ⟨A17, n17, c17, rfl, hM17, hb17⟩))
      all_goals go_wp2_with fail
      all_goals go_meet
      all_goals refine ⟨_, _, _, _, _, _, rfl, rfl, rfl, (by first | exact Go.heap_alloc_new _ _ | exact row_at _ _ _ (by simp)), ?_, (by repeat (with_reducible (first | exact Below.refl _ _ | assumption | refine ride_alloc ?_ _ | refine ride_drew ?_ | refine below_drewN ?_ _ | refine ride_call (by assumption) ?_)))⟩
      all_goals
        intro s hs
        simp only [List.mem_cons, List.not_mem_nil, or_false] at hs
        rcases hs with rfl | rfl | rfl | rfl | rfl
        · exact ⟨_, _, _, lb, rfl, HB6d.out.along (by repeat (with_reducible (first | exact Below.refl _ _ | assumption | refine ride_alloc ?_ _ | refine ride_drew ?_ | refine below_drewN ?_ _ | refine ride_call (by assumption) ?_))), by have := HN6.out; omega⟩
        · exact ⟨_, _, _, l14, rfl, HB14.out.along (by repeat (with_reducible (first | exact Below.refl _ _ | assumption | refine ride_alloc ?_ _ | refine ride_drew ?_ | refine below_drewN ?_ _ | refine ride_call (by assumption) ?_))), by have := HL14.out; omega⟩
        · exact ⟨_, _, _, full lr, rfl, by repeat (with_reducible (first | exact hM16.bytes | refine go_alloc ?_ _ | refine go_drew ?_ | refine go_call hb17 ?_)), by rw [full_length]; omega⟩
        · exact ⟨_, _, _, lr.take 600, rfl, by repeat (with_reducible (first | exact hM17.bytes | refine go_alloc ?_ _ | refine go_drew ?_)), by rw [List.length_take]; omega⟩
        · exact ⟨_, _, _, List.replicate 512 0, rfl, by repeat (with_reducible (first | exact HZN.out _ _ rfl | exact HZN.out _ _ (by simp) | refine go_alloc ?_ _ | refine go_drew ?_ | refine go_call hb17 ?_ | refine go_call hb16 ?_)), by rw [List.length_replicate]; omega⟩
    case rest =>
    obtain ⟨g5, s0, s1, s2, s3, s4, rfl, rfl, rfl, hrow, hall, hbe⟩ := hcut
    obtain ⟨we, hwe⟩ : ∃ we, we = wc := ⟨_, rfl⟩
    subst hwe
    have HROW := Lib.hid hrow
    have HALL := Lib.hid hall
    have HBWe := Lib.hid (HBWd.out.trans (hbe.mono HBWd.out.size))
    have HG6e := Lib.hid ((hbe.block _ (row_lt HG6d.out)).trans HG6d.out)
    clear hrow hall hbe HB6d HB14 HL14 HG6d HBWd HB6c HG6c HB12 HM12 HB6b HG6b HBWb
    go_wp2_with fail
    go_loopw [92] (fun i wr => LoopF we i wr) (fun i _ => 5 - (intOf i).toNat)
    case atStart => exact ⟨0, by omega, rfl, Below.refl _ _⟩
    case round =>
      obtain ⟨kk, hkk, rfl, hBr⟩ := hrel
      by_cases hlt : kk < 5
      · obtain ⟨Ak, nk, ck, lk, hck, hbk, hnk, hn600⟩ := five_at HROW.out HALL.out hBr hlt
        have HPa := hide (parse_all wr Ak nk ck lk hbk)
        have HBk := Lib.hid hbk
        have HNK := Lib.hid hnk
        have HBr := Lib.hid hBr
        clear hbk hnk hBr
        go_upto_region 23 with (first
          | (go_at_call 15; (with_reducible refine (unhide HPa).mono ?_); rintro e w20 ⟨A20, n20, c20, rfl, hM20, hb20⟩; go_loud (
               have HRf := fun o => hide (refParse_all (w20.alloc o) Ak nk ck lk (HBk.out.along (ride_alloc hb20 o)));
               have HM20 := Lib.hid hM20;
               have HB20 := Lib.hid hb20;
               clear hM20 hb20))
          | (go_at_call 16; (with_reducible refine (unhide (HRf _)).mono ?_); rintro e w21 ⟨A21, n21, c21, rfl, hM21, hb21⟩))
        have hgx : (w21.alloc (.cells #[.int .u32 (genOf lk : Int), .int .u32 (serOf lk : Int), .int .u32 (numbOf lk : Int), .int .u8 (kinOf lk : Int), .slice A21 n21 c21] 34)).heap[w20.heap.size]? = some (.cells #[.int .u32 (genOf lk : Int), .int .u32 (serOf lk : Int), .int .u32 (numbOf lk : Int), .int .u8 (kinOf lk : Int), .slice A20 n20 c20] 25 (0, 0)) :=
          (((Below.refl w21.heap.size w21).alloc (Nat.le_refl _) _).block _ (Nat.lt_of_lt_of_le (by simp) hb21.size)).trans ((hb21.block _ (by simp)).trans (Go.heap_alloc_new w20 _))
        have hgy := Go.heap_alloc_new w21 (.cells #[.int .u32 (genOf lk : Int), .int .u32 (serOf lk : Int), .int .u32 (numbOf lk : Int), .int .u8 (kinOf lk : Int), .slice A21 n21 c21] 34)
        have hbR : Below wr.heap.size wr (w21.alloc (.cells #[.int .u32 (genOf lk : Int), .int .u32 (serOf lk : Int), .int .u32 (numbOf lk : Int), .int .u8 (kinOf lk : Int), .slice A21 n21 c21] 34)) := ride_alloc (ride_call hb21 (ride_alloc HB20.out _)) _
        have hxd := (HM20.out.bytes.along (ride_alloc (ride_call hb21 (ride_alloc (Below.refl _ _) _)) (.cells #[.int .u32 (genOf lk : Int), .int .u32 (serOf lk : Int), .int .u32 (numbOf lk : Int), .int .u8 (kinOf lk : Int), .slice A21 n21 c21] 34)))
        have hyd := hM21.bytes.along (ride_alloc (Below.refl _ _) (.cells #[.int .u32 (genOf lk : Int), .int .u32 (serOf lk : Int), .int .u32 (numbOf lk : Int), .int .u8 (kinOf lk : Int), .slice A21 n21 c21] 34))
        have hlen20 := HM20.out.len
        obtain ⟨gy, hgye⟩ : ∃ gy, gy = w21.heap.size := ⟨_, rfl⟩
        rw [← hgye] at hgy ⊢
        generalize w21.alloc (.cells #[.int .u32 (genOf lk : Int), .int .u32 (serOf lk : Int), .int .u32 (numbOf lk : Int), .int .u8 (kinOf lk : Int), .slice A21 n21 c21] 34) = wy at hgx hgy hbR hxd hyd ⊢
        have HS := Lib.hid (fun (x : World) (hx : Below wy.heap.size wy x) => (show x.cell? ⟨w20.heap.size, 0, none⟩ = some (.int .u32 (genOf lk : Int)) ∧ x.cell? ⟨w20.heap.size, 1, none⟩ = some (.int .u32 (serOf lk : Int)) ∧ x.cell? ⟨w20.heap.size, 2, none⟩ = some (.int .u32 (numbOf lk : Int)) ∧ x.cell? ⟨w20.heap.size, 3, none⟩ = some (.int .u8 (kinOf lk : Int)) ∧ x.cell? ⟨w20.heap.size, 4, none⟩ = some (.slice A20 n20 c20) ∧ x.cell? ⟨gy, 0, none⟩ = some (.int .u32 (genOf lk : Int)) ∧ x.cell? ⟨gy, 1, none⟩ = some (.int .u32 (serOf lk : Int)) ∧ x.cell? ⟨gy, 2, none⟩ = some (.int .u32 (numbOf lk : Int)) ∧ x.cell? ⟨gy, 3, none⟩ = some (.int .u8 (kinOf lk : Int)) ∧ x.cell? ⟨gy, 4, none⟩ = some (.slice A21 n21 c21) from
          have a := box_facts ((hx.block _ (row_lt hgx)).trans hgx)
          have c := rbox_facts ((hx.block _ (row_lt hgy)).trans hgy)
          ⟨a.1, a.2.1, a.2.2.1, a.2.2.2.1, a.2.2.2.2.1, c.1, c.2.1, c.2.2.1, c.2.2.2.1, c.2.2.2.2⟩))
        have HXD := Lib.hid hxd
        have HYD := Lib.hid hyd
        have HBR := Lib.hid hbR
        have HN20 := Lib.hid hlen20
        have hsm := HBk.out.small
        have HLK := Lib.hid (fun (h : errOf lk = 0) => parts_page hsm h)
        obtain ⟨bz, hbz⟩ : ∃ bz, bz = decide (∀ b ∈ lk, b = 0) := ⟨_, rfl⟩
        have hbl := fun x (hx : Below wy.heap.size wy x) => blank_any x (.slice Ak nk ck) lk (HBk.out.along (HBR.out.trans (hx.mono HBR.out.size)))
        rw [← hbz] at hbl
        have HBl := fun x hx => hide (hbl x hx)
        have hz2 : decide (lk = List.replicate nk 0) = bz := by rw [hbz, HNK.out]; exact decide_eq_decide.2 (zeros_all lk)
        have HZ2 := Lib.hid hz2
        have hmk := fun w => run_make_n w nk (by omega)
        have hzn := fun w g hg => zeros_of w nk g (by omega) hg
        have hs2 := fun x v (hx : Below wy.heap.size wy x) (hv : Bytes x x.heap.size v (List.replicate nk 0)) => same_any x (.slice Ak nk ck) v lk (List.replicate nk 0) (HBk.out.along (HBR.out.trans (hx.mono HBR.out.size))) hv
        rw [hz2] at hs2
        have HS2 := fun x v hx hv => hide (hs2 x v hx hv)
        obtain ⟨Z, hZ⟩ : ∃ Z, Z = byt (List.replicate nk 0) := ⟨_, rfl⟩
        rw [← hZ] at hmk hzn
        have HZN := Lib.hid hzn
        have hnk0 : (0 : Int) ≤ (nk : Int) := by omega
        clear hgx hgy hbR hxd hyd hlen20 hsm hbz hbl hz2 hzn hs2 hZ HRf HM20 HB20 hM21 hb21 HPa hgye
        generalize he0 : (errOf lk : Int) = e0
        have HE0 := Lib.hid he0
        clear he0
        go_cut [136] (fun v136 wx => v136 = .bool false ∧ Below wy.heap.size wy wx)
        case first =>
          by_cases he : errOf lk = 0
          · have HP := Lib.hid (HLK.out he)
            have he1 : (e0 == 0) = true := by rw [← HE0.out, he]; rfl
            have HW := fun x (hx : Below wy.heap.size wy x) => hide (refPage_any x (genOf lk) (serOf lk) (numbOf lk) (kinOf lk) A20 n20 c20 (dataOf lk) HP.out.2.2.2.1 HP.out.2.2.2.2.1 HP.out.2.2.2.2.2.1 HP.out.2.2.2.2.2.2.1 (HXD.out.along hx) (by rw [HN20.out]; exact HP.out.2.2.1) HN20.out HP.out.2.2.2.2.2.2.2)
            clear he
            go_region_held3 (fun x => x.cell? ⟨w20.heap.size, 0, none⟩ = some (.int .u32 (genOf lk : Int)) ∧ x.cell? ⟨w20.heap.size, 1, none⟩ = some (.int .u32 (serOf lk : Int)) ∧ x.cell? ⟨w20.heap.size, 2, none⟩ = some (.int .u32 (numbOf lk : Int)) ∧ x.cell? ⟨w20.heap.size, 3, none⟩ = some (.int .u8 (kinOf lk : Int)) ∧ x.cell? ⟨w20.heap.size, 4, none⟩ = some (.slice A20 n20 c20) ∧ x.cell? ⟨gy, 0, none⟩ = some (.int .u32 (genOf lk : Int)) ∧ x.cell? ⟨gy, 1, none⟩ = some (.int .u32 (serOf lk : Int)) ∧ x.cell? ⟨gy, 2, none⟩ = some (.int .u32 (numbOf lk : Int)) ∧ x.cell? ⟨gy, 3, none⟩ = some (.int .u8 (kinOf lk : Int)) ∧ x.cell? ⟨gy, 4, none⟩ = some (.slice A21 n21 c21))
              ((refine HS.out _ ?_; repeat (with_reducible (first | exact Below.refl _ _ | assumption | refine ride_alloc ?_ _ | refine ride_drew ?_ | refine below_drewN ?_ _ | refine ride_call (by assumption) ?_))))
              (first
                | (go_at_call 17; (with_reducible refine (like_true _ (genOf lk) (serOf lk) (numbOf lk) (kinOf lk) A20 A21 n20 n21 c20 c21 (dataOf lk) (HXD.out.along (by repeat (with_reducible (first | exact Below.refl _ _ | assumption | refine ride_alloc ?_ _ | refine ride_drew ?_ | refine below_drewN ?_ _ | refine ride_call (by assumption) ?_)))) (HYD.out.along (by repeat (with_reducible (first | exact Below.refl _ _ | assumption | refine ride_alloc ?_ _ | refine ride_drew ?_ | refine below_drewN ?_ _ | refine ride_call (by assumption) ?_))))).mono ?_); rintro e w30 ⟨rfl, hb30⟩)
                | (go_at_call 10; (with_reducible refine (own_any _ (genOf lk : Int) (serOf lk : Int) (numbOf lk : Int) (kinOf lk : Int) A20 n20 c20).mono ?_); rintro e w31 ⟨rfl, hb31⟩)
                | (go_at_call 9; (with_reducible refine (unhide (HW _ (by repeat (with_reducible (first | exact Below.refl _ _ | assumption | refine ride_alloc ?_ _ | refine ride_drew ?_ | refine below_drewN ?_ _ | refine ride_call (by assumption) ?_))))).mono ?_); rintro e w32 ⟨A32, n32, c32, rfl, hM32, hb32⟩; go_loud (
                     have hm32 := hM32.bytes;
                     rw [HP.out.1] at hm32))
                | (go_at_call 18; (with_reducible refine (unhide (HBl _ (by repeat (with_reducible (first | exact Below.refl _ _ | assumption | refine ride_alloc ?_ _ | refine ride_drew ?_ | refine below_drewN ?_ _ | refine ride_call (by assumption) ?_))))).mono ?_); rintro e w33 ⟨rfl, rfl⟩)
                | (go_at_call 8; (first
                     | (with_reducible refine (same_yes _ (.slice A32 n32 c32) (.slice Ak nk ck) lk (by repeat (with_reducible (first | exact hm32 | refine go_drew ?_ | refine go_alloc ?_ _))) (HBk.out.along (HBR.out.trans (Below.mono (by repeat (with_reducible (first | exact Below.refl _ _ | assumption | refine ride_alloc ?_ _ | refine ride_drew ?_ | refine below_drewN ?_ _ | refine ride_call (by assumption) ?_))) HBR.out.size)))).mono ?_)
                     | (with_reducible refine (unhide (HS2 _ _ (by repeat (with_reducible (first | exact Below.refl _ _ | assumption | refine ride_alloc ?_ _ | refine ride_drew ?_ | refine below_drewN ?_ _ | refine ride_call (by assumption) ?_))) (by repeat (with_reducible (first | exact HZN.out _ _ rfl | exact HZN.out _ _ (by simp) | refine go_drew ?_ | refine go_alloc ?_ _ | exact Bytes.quiet ?_ _))))).mono ?_)); rintro e w34 ⟨rfl, nq, rfl⟩))
            all_goals go_wp2_with fail
            all_goals go_meet
            all_goals exact ⟨rfl, by repeat (with_reducible (first | exact Below.refl _ _ | assumption | refine ride_alloc ?_ _ | refine ride_drew ?_ | refine below_drewN ?_ _ | refine ride_call (by assumption) ?_))⟩
          · have he1 : (e0 == 0) = false := by rw [beq_eq_false_iff_ne]; have := HE0.out; omega
            have he2 : ¬ e0 = 0 := by have := HE0.out; omega
            clear he
            have HSK := Lib.hid (fun (x : World) (hx : Below wy.heap.size wy x) => (show Below wy.heap.size wy x ∧ x.cell? ⟨w20.heap.size, 0, none⟩ = some (.int .u32 (genOf lk : Int)) ∧ x.cell? ⟨w20.heap.size, 1, none⟩ = some (.int .u32 (serOf lk : Int)) ∧ x.cell? ⟨w20.heap.size, 2, none⟩ = some (.int .u32 (numbOf lk : Int)) ∧ x.cell? ⟨w20.heap.size, 3, none⟩ = some (.int .u8 (kinOf lk : Int)) ∧ x.cell? ⟨w20.heap.size, 4, none⟩ = some (.slice A20 n20 c20) ∧ x.cell? ⟨gy, 0, none⟩ = some (.int .u32 (genOf lk : Int)) ∧ x.cell? ⟨gy, 1, none⟩ = some (.int .u32 (serOf lk : Int)) ∧ x.cell? ⟨gy, 2, none⟩ = some (.int .u32 (numbOf lk : Int)) ∧ x.cell? ⟨gy, 3, none⟩ = some (.int .u8 (kinOf lk : Int)) ∧ x.cell? ⟨gy, 4, none⟩ = some (.slice A21 n21 c21) from ⟨hx, HS.out x hx⟩))
            refine wp_region_noPanic ?_
            refine wp_region_held_drew (S := fun x => Below wy.heap.size wy x ∧ x.cell? ⟨w20.heap.size, 0, none⟩ = some (.int .u32 (genOf lk : Int)) ∧ x.cell? ⟨w20.heap.size, 1, none⟩ = some (.int .u32 (serOf lk : Int)) ∧ x.cell? ⟨w20.heap.size, 2, none⟩ = some (.int .u32 (numbOf lk : Int)) ∧ x.cell? ⟨w20.heap.size, 3, none⟩ = some (.int .u8 (kinOf lk : Int)) ∧ x.cell? ⟨w20.heap.size, 4, none⟩ = some (.slice A20 n20 c20) ∧ x.cell? ⟨gy, 0, none⟩ = some (.int .u32 (genOf lk : Int)) ∧ x.cell? ⟨gy, 1, none⟩ = some (.int .u32 (serOf lk : Int)) ∧ x.cell? ⟨gy, 2, none⟩ = some (.int .u32 (numbOf lk : Int)) ∧ x.cell? ⟨gy, 3, none⟩ = some (.int .u8 (kinOf lk : Int)) ∧ x.cell? ⟨gy, 4, none⟩ = some (.slice A21 n21 c21)) (by kernel_rfl) (HSK.out _ (ride_drew (Below.refl _ _))) (fun hHeld => ?_)
            refine take_at (i := 0) (v := ?_) (some 106) rfl rfl (by kernel_rfl) (by kernel_rfl) (by kernel_rfl) (fun _ _ _ h => h) (Or.inl ⟨by rfl, ?_⟩) (by assumption) ?_
            rotate_left
            · intro w hSw
              obtain ⟨hSb, z0, z1, z2, z3, z4, z5, z6, z7, z8, z9⟩ := hSw
              first | (go_simp; done) | (go_simp; with_reducible rfl)
            try simp only [Act.put, List.setIfInBounds_toArray, List.set_cons_zero, List.set_cons_succ]
            refine take_at (i := 1) (v := ?_) (some 107) rfl rfl (by kernel_rfl) (by kernel_rfl) (by kernel_rfl) (fun _ _ _ h => h) (Or.inl ⟨by rfl, ?_⟩) (by assumption) ?_
            rotate_left
            · intro w hSw
              obtain ⟨hSb, z0, z1, z2, z3, z4, z5, z6, z7, z8, z9⟩ := hSw
              first | (go_simp; done) | (go_simp; with_reducible rfl)
            try simp only [Act.put, List.setIfInBounds_toArray, List.set_cons_zero, List.set_cons_succ]
            refine take_at (i := 2) (v := ?_) (some 108) rfl rfl (by kernel_rfl) (by kernel_rfl) (by kernel_rfl) (fun _ _ _ h => h) (Or.inl ⟨by rfl, ?_⟩) (by assumption) ?_
            rotate_left
            · intro w hSw
              obtain ⟨hSb, z0, z1, z2, z3, z4, z5, z6, z7, z8, z9⟩ := hSw
              first | (go_simp; done) | (go_simp; with_reducible rfl)
            try simp only [Act.put, List.setIfInBounds_toArray, List.set_cons_zero, List.set_cons_succ]
            refine take_at (i := 3) (v := ?_) (some 109) rfl rfl (by kernel_rfl) (by kernel_rfl) (by kernel_rfl) (fun _ _ _ h => h) (Or.inl ⟨by rfl, ?_⟩) (by assumption) ?_
            rotate_left
            · intro w hSw
              obtain ⟨hSb, z0, z1, z2, z3, z4, z5, z6, z7, z8, z9⟩ := hSw
              first | (go_simp; done) | (go_simp; with_reducible rfl)
            try simp only [Act.put, List.setIfInBounds_toArray, List.set_cons_zero, List.set_cons_succ]
            refine take_at (i := 4) (v := ?_) (some 110) rfl rfl (by kernel_rfl) (by kernel_rfl) (by kernel_rfl) (fun _ _ _ h => h) (Or.inl ⟨by rfl, ?_⟩) (by assumption) ?_
            rotate_left
            · intro w hSw
              obtain ⟨hSb, z0, z1, z2, z3, z4, z5, z6, z7, z8, z9⟩ := hSw
              first | (go_simp; done) | (go_simp; with_reducible rfl)
            try simp only [Act.put, List.setIfInBounds_toArray, List.set_cons_zero, List.set_cons_succ]
            refine take_at (i := 5) (v := ?_) (some 111) rfl rfl (by kernel_rfl) (by kernel_rfl) (by kernel_rfl) (fun _ _ _ h => h) (Or.inl ⟨by rfl, ?_⟩) (by assumption) ?_
            rotate_left
            · intro w hSw
              obtain ⟨hSb, z0, z1, z2, z3, z4, z5, z6, z7, z8, z9⟩ := hSw
              first | (go_simp; done) | (go_simp; with_reducible rfl)
            try simp only [Act.put, List.setIfInBounds_toArray, List.set_cons_zero, List.set_cons_succ]
            refine wpAnyH_ready (rs := [6]) (by kernel_rfl) (by simp) ?_
            refine AllReadyH.cons rfl (fun K hK => ?_) AllReadyH.nil
            go_simp
            refine (like_true _ (genOf lk) (serOf lk) (numbOf lk) (kinOf lk) A20 A21 n20 n21 c20 c21 (dataOf lk) (HXD.out.along hHeld.1) (HYD.out.along hHeld.1)).mono ?_
            rintro e w30 ⟨rfl, hb30⟩
            refine hK.out _ _ ?_ (fun hHeld2 => ?_)
            · exact HSK.out _ (ride_call hb30 hHeld.1)
            clear hK K hHeld
            have hHeld := hHeld2
            clear hHeld2
            try simp only [Act.put, List.setIfInBounds_toArray, List.set_cons_zero, List.set_cons_succ]
            refine take_at (i := 7) (v := ?_) (some 113) rfl rfl (by kernel_rfl) (by kernel_rfl) (by kernel_rfl) (fun _ _ _ h => h) (Or.inl ⟨by rfl, ?_⟩) (by assumption) ?_
            rotate_left
            · intro w hSw
              obtain ⟨hSb, z0, z1, z2, z3, z4, z5, z6, z7, z8, z9⟩ := hSw
              first | (go_simp; done) | (go_simp; with_reducible rfl)
            try simp only [Act.put, List.setIfInBounds_toArray, List.set_cons_zero, List.set_cons_succ]
            refine take_at (i := 8) (v := ?_) (some 114) rfl rfl (by kernel_rfl) (by kernel_rfl) (by kernel_rfl) (fun _ _ _ h => h) (Or.inl ⟨by rfl, ?_⟩) (by assumption) ?_
            rotate_left
            · intro w hSw
              obtain ⟨hSb, z0, z1, z2, z3, z4, z5, z6, z7, z8, z9⟩ := hSw
              first | (go_simp; done) | (go_simp; with_reducible rfl)
            try simp only [Act.put, List.setIfInBounds_toArray, List.set_cons_zero, List.set_cons_succ]
            refine take_at (i := 9) (v := ?_) (some 115) rfl rfl (by kernel_rfl) (by kernel_rfl) (by kernel_rfl) (fun _ _ _ h => h) (Or.inl ⟨by rfl, ?_⟩) (by assumption) ?_
            rotate_left
            · intro w hSw
              obtain ⟨hSb, z0, z1, z2, z3, z4, z5, z6, z7, z8, z9⟩ := hSw
              first | (go_simp; done) | (go_simp; with_reducible rfl)
            try simp only [Act.put, List.setIfInBounds_toArray, List.set_cons_zero, List.set_cons_succ]
            refine take_at (i := 10) (v := ?_) (some 116) rfl rfl (by kernel_rfl) (by kernel_rfl) (by kernel_rfl) (fun _ _ _ h => h) (Or.inl ⟨by rfl, ?_⟩) (by assumption) ?_
            rotate_left
            · intro w hSw
              obtain ⟨hSb, z0, z1, z2, z3, z4, z5, z6, z7, z8, z9⟩ := hSw
              first | (go_simp; done) | (go_simp; with_reducible rfl)
            try simp only [Act.put, List.setIfInBounds_toArray, List.set_cons_zero, List.set_cons_succ]
            refine take_at (i := 11) (v := ?_) (some 117) rfl rfl (by kernel_rfl) (by kernel_rfl) (by kernel_rfl) (fun _ _ _ h => h) (Or.inl ⟨by rfl, ?_⟩) (by assumption) ?_
            rotate_left
            · intro w hSw
              obtain ⟨hSb, z0, z1, z2, z3, z4, z5, z6, z7, z8, z9⟩ := hSw
              first | (go_simp; done) | (go_simp; with_reducible rfl)
            try simp only [Act.put, List.setIfInBounds_toArray, List.set_cons_zero, List.set_cons_succ]
            refine take_at (i := 12) (v := ?_) (some 118) rfl rfl (by kernel_rfl) (by kernel_rfl) (by kernel_rfl) (fun _ _ _ h => h) (Or.inl ⟨by rfl, ?_⟩) (by assumption) ?_
            rotate_left
            · intro w hSw
              obtain ⟨hSb, z0, z1, z2, z3, z4, z5, z6, z7, z8, z9⟩ := hSw
              first | (go_simp; done) | (go_simp; with_reducible rfl)
            try simp only [Act.put, List.setIfInBounds_toArray, List.set_cons_zero, List.set_cons_succ]
            refine take_at (i := 13) (v := undef) (some 119) rfl rfl (by kernel_rfl) (by kernel_rfl) (by kernel_rfl) (fun _ _ _ h => h) (Or.inr ⟨by rfl, rfl⟩) (by assumption) ?_
            try simp only [Act.put, List.setIfInBounds_toArray, List.set_cons_zero, List.set_cons_succ]
            refine take_at (i := 14) (v := undef) (some 120) rfl rfl (by kernel_rfl) (by kernel_rfl) (by kernel_rfl) (fun _ _ _ h => h) (Or.inr ⟨by rfl, rfl⟩) (by assumption) ?_
            try simp only [Act.put, List.setIfInBounds_toArray, List.set_cons_zero, List.set_cons_succ]
            refine take_at (i := 15) (v := undef) (some 121) rfl rfl (by kernel_rfl) (by kernel_rfl) (by kernel_rfl) (fun _ _ _ h => h) (Or.inr ⟨by rfl, rfl⟩) (by assumption) ?_
            try simp only [Act.put, List.setIfInBounds_toArray, List.set_cons_zero, List.set_cons_succ]
            refine take_at (i := 16) (v := undef) (some 122) rfl rfl (by kernel_rfl) (by kernel_rfl) (by kernel_rfl) (fun _ _ _ h => h) (Or.inr ⟨by rfl, rfl⟩) (by assumption) ?_
            try simp only [Act.put, List.setIfInBounds_toArray, List.set_cons_zero, List.set_cons_succ]
            refine take_at (i := 17) (v := undef) (some 123) rfl rfl (by kernel_rfl) (by kernel_rfl) (by kernel_rfl) (fun _ _ _ h => h) (Or.inr ⟨by rfl, rfl⟩) (by assumption) ?_
            try simp only [Act.put, List.setIfInBounds_toArray, List.set_cons_zero, List.set_cons_succ]
            refine take_at (i := 18) (v := undef) (some 124) rfl rfl (by kernel_rfl) (by kernel_rfl) (by kernel_rfl) (fun _ _ _ h => h) (Or.inr ⟨by rfl, rfl⟩) (by assumption) ?_
            try simp only [Act.put, List.setIfInBounds_toArray, List.set_cons_zero, List.set_cons_succ]
            refine take_at (i := 19) (v := ?_) (some 125) rfl rfl (by kernel_rfl) (by kernel_rfl) (by kernel_rfl) (fun _ _ _ h => h) (Or.inl ⟨by rfl, ?_⟩) (by assumption) ?_
            rotate_left
            · intro w hSw
              obtain ⟨hSb, z0, z1, z2, z3, z4, z5, z6, z7, z8, z9⟩ := hSw
              first | (go_simp; done) | (go_simp; with_reducible rfl)
            try simp only [Act.put, List.setIfInBounds_toArray, List.set_cons_zero, List.set_cons_succ]
            refine take_at (i := 20) (v := ?_) (some 126) rfl rfl (by kernel_rfl) (by kernel_rfl) (by kernel_rfl) (fun _ _ _ h => h) (Or.inl ⟨by rfl, ?_⟩) (by assumption) ?_
            rotate_left
            · intro w hSw
              obtain ⟨hSb, z0, z1, z2, z3, z4, z5, z6, z7, z8, z9⟩ := hSw
              first | (go_simp; done) | (go_simp; with_reducible rfl)
            try simp only [Act.put, List.setIfInBounds_toArray, List.set_cons_zero, List.set_cons_succ]
            refine take_at (i := 21) (v := ?_) (some 127) rfl rfl (by kernel_rfl) (by kernel_rfl) (by kernel_rfl) (fun _ _ _ h => h) (Or.inl ⟨by rfl, ?_⟩) (by assumption) ?_
            rotate_left
            · intro w hSw
              obtain ⟨hSb, z0, z1, z2, z3, z4, z5, z6, z7, z8, z9⟩ := hSw
              first | (go_simp; done) | (go_simp; with_reducible rfl)
            try simp only [Act.put, List.setIfInBounds_toArray, List.set_cons_zero, List.set_cons_succ]
            refine take_at (i := 22) (v := ?_) (some 128) rfl rfl (by kernel_rfl) (by kernel_rfl) (by kernel_rfl) (fun _ _ _ h => h) (Or.inl ⟨by rfl, ?_⟩) (by assumption) ?_
            rotate_left
            · intro w hSw
              obtain ⟨hSb, z0, z1, z2, z3, z4, z5, z6, z7, z8, z9⟩ := hSw
              first | (go_simp; done) | (go_simp; with_reducible rfl)
            try simp only [Act.put, List.setIfInBounds_toArray, List.set_cons_zero, List.set_cons_succ]
            refine take_at (i := 24) (v := ?_) (some 130) rfl rfl (by kernel_rfl) (by kernel_rfl) (by kernel_rfl) (fun _ _ _ h => h) (Or.inl ⟨by rfl, ?_⟩) (by assumption) ?_
            rotate_left
            · intro w hSw
              obtain ⟨hSb, z0, z1, z2, z3, z4, z5, z6, z7, z8, z9⟩ := hSw
              first | (go_simp; done) | (go_simp; with_reducible rfl)
            try simp only [Act.put, List.setIfInBounds_toArray, List.set_cons_zero, List.set_cons_succ]
            refine take_at (i := 25) (v := ?_) (some 131) rfl rfl (by kernel_rfl) (by kernel_rfl) (by kernel_rfl) (fun _ _ _ h => h) (Or.inl ⟨by rfl, ?_⟩) (by assumption) ?_
            rotate_left
            · intro w hSw
              obtain ⟨hSb, z0, z1, z2, z3, z4, z5, z6, z7, z8, z9⟩ := hSw
              first | (go_simp; done) | (go_simp; with_reducible rfl)
            try simp only [Act.put, List.setIfInBounds_toArray, List.set_cons_zero, List.set_cons_succ]
            refine take_at (i := 26) (v := ?_) (some 132) rfl rfl (by kernel_rfl) (by kernel_rfl) (by kernel_rfl) (fun _ _ _ h => h) (Or.inl ⟨by rfl, ?_⟩) (by assumption) ?_
            rotate_left
            · intro w hSw
              obtain ⟨hSb, z0, z1, z2, z3, z4, z5, z6, z7, z8, z9⟩ := hSw
              first | (go_simp; done) | (go_simp; with_reducible rfl)
            try simp only [Act.put, List.setIfInBounds_toArray, List.set_cons_zero, List.set_cons_succ]
            refine wpAnyH_ready (rs := [23, 27]) (by kernel_rfl) (by simp) ?_
            refine (AllReadyH.cons rfl (fun K hK => ?_) (AllReadyH.cons rfl (fun K hK => ?_) AllReadyH.nil))
            · go_simp
              refine (unhide (HBl _ hHeld.1)).mono ?_
              rintro e w' ⟨rfl, rfl⟩
              refine hK.out _ _ ?_ (fun hHeld2 => ?_)
              · exact hHeld
              clear hK K hHeld
              have hHeld := hHeld2
              clear hHeld2
              try simp only [Act.put, List.setIfInBounds_toArray, List.set_cons_zero, List.set_cons_succ]
              refine wpAnyH_ready (rs := [27]) (by kernel_rfl) (by simp) ?_
              refine AllReadyH.cons rfl (fun K hK => ?_) AllReadyH.nil
              go_simp
              refine hK.out _ _ ?_ (fun hHeld2 => ?_)
              · exact HSK.out _ (ride_alloc hHeld.1 _)
              clear hK K hHeld
              have hHeld := hHeld2
              clear hHeld2
              try simp only [Act.put, List.setIfInBounds_toArray, List.set_cons_zero, List.set_cons_succ]
              refine wpAnyH_ready (rs := [28]) (by kernel_rfl) (by simp) ?_
              refine AllReadyH.cons rfl (fun K hK => ?_) AllReadyH.nil
              go_simp
              refine (unhide (HS2 _ _ hHeld.1 (HZN.out _ _ (by first | rfl | simp)))).mono ?_
              rintro e w34 ⟨rfl, nq, rfl⟩
              refine hK.out _ _ ?_ (fun hHeld2 => ?_)
              · exact HSK.out _ (below_drewN hHeld.1 nq)
              clear hK K hHeld
              have hHeld := hHeld2
              clear hHeld2
              try simp only [Act.put, List.setIfInBounds_toArray, List.set_cons_zero, List.set_cons_succ]
              refine take_at (i := 29) (v := ?_) (some 135) rfl rfl (by kernel_rfl) (by kernel_rfl) (by kernel_rfl) (fun _ _ _ h => h) (Or.inl ⟨by rfl, ?_⟩) (by assumption) ?_
              rotate_left
              · intro w hSw
                obtain ⟨hSb, z0, z1, z2, z3, z4, z5, z6, z7, z8, z9⟩ := hSw
                first | (go_simp; done) | (go_simp; with_reducible rfl)
              try simp only [Act.put, List.setIfInBounds_toArray, List.set_cons_zero, List.set_cons_succ]
              refine take_at (i := 30) (v := ?_) (some 136) rfl rfl (by kernel_rfl) (by kernel_rfl) (by kernel_rfl) (fun _ _ _ h => h) (Or.inl ⟨by rfl, ?_⟩) (by assumption) ?_
              rotate_left
              · intro w hSw
                obtain ⟨hSb, z0, z1, z2, z3, z4, z5, z6, z7, z8, z9⟩ := hSw
                first | (go_simp; done) | (go_simp; with_reducible rfl)
              try simp only [Act.put, List.setIfInBounds_toArray, List.set_cons_zero, List.set_cons_succ]
              refine wpAnyH_done (by kernel_rfl) ?_ _
              refine NoPanic.normal ?_
              have hfin := hHeld.1
              go_wp2_with fail
              go_meet
              exact ⟨rfl, hfin⟩
            · go_simp
              refine hK.out _ _ ?_ (fun hHeld2 => ?_)
              · exact HSK.out _ (ride_alloc hHeld.1 _)
              clear hK K hHeld
              have hHeld := hHeld2
              clear hHeld2
              try simp only [Act.put, List.setIfInBounds_toArray, List.set_cons_zero, List.set_cons_succ]
              refine wpAnyH_ready (rs := [23]) (by kernel_rfl) (by simp) ?_
              refine AllReadyH.cons rfl (fun K hK => ?_) AllReadyH.nil
              go_simp
              refine (unhide (HBl _ hHeld.1)).mono ?_
              rintro e w' ⟨rfl, rfl⟩
              refine hK.out _ _ ?_ (fun hHeld2 => ?_)
              · exact hHeld
              clear hK K hHeld
              have hHeld := hHeld2
              clear hHeld2
              try simp only [Act.put, List.setIfInBounds_toArray, List.set_cons_zero, List.set_cons_succ]
              refine wpAnyH_ready (rs := [28]) (by kernel_rfl) (by simp) ?_
              refine AllReadyH.cons rfl (fun K hK => ?_) AllReadyH.nil
              go_simp
              refine (unhide (HS2 _ _ hHeld.1 (HZN.out _ _ (by first | rfl | simp)))).mono ?_
              rintro e w34 ⟨rfl, nq, rfl⟩
              refine hK.out _ _ ?_ (fun hHeld2 => ?_)
              · exact HSK.out _ (below_drewN hHeld.1 nq)
              clear hK K hHeld
              have hHeld := hHeld2
              clear hHeld2
              try simp only [Act.put, List.setIfInBounds_toArray, List.set_cons_zero, List.set_cons_succ]
              refine take_at (i := 29) (v := ?_) (some 135) rfl rfl (by kernel_rfl) (by kernel_rfl) (by kernel_rfl) (fun _ _ _ h => h) (Or.inl ⟨by rfl, ?_⟩) (by assumption) ?_
              rotate_left
              · intro w hSw
                obtain ⟨hSb, z0, z1, z2, z3, z4, z5, z6, z7, z8, z9⟩ := hSw
                first | (go_simp; done) | (go_simp; with_reducible rfl)
              try simp only [Act.put, List.setIfInBounds_toArray, List.set_cons_zero, List.set_cons_succ]
              refine take_at (i := 30) (v := ?_) (some 136) rfl rfl (by kernel_rfl) (by kernel_rfl) (by kernel_rfl) (fun _ _ _ h => h) (Or.inl ⟨by rfl, ?_⟩) (by assumption) ?_
              rotate_left
              · intro w hSw
                obtain ⟨hSb, z0, z1, z2, z3, z4, z5, z6, z7, z8, z9⟩ := hSw
                first | (go_simp; done) | (go_simp; with_reducible rfl)
              try simp only [Act.put, List.setIfInBounds_toArray, List.set_cons_zero, List.set_cons_succ]
              refine wpAnyH_done (by kernel_rfl) ?_ _
              refine NoPanic.normal ?_
              have hfin := hHeld.1
              go_wp2_with fail
              go_meet
              exact ⟨rfl, hfin⟩
        case rest =>
          obtain ⟨rfl, hb23⟩ := hcut
          clear hmk
          go_wp2_with fail
          go_roundw
          case rel => first | exact ⟨kk + 1, by omega, by go_num, HBr.out.trans (Below.mono (HBR.out.trans (hb23.mono HBR.out.size)) HBr.out.size)⟩ | ((repeat apply Exists.intro); exact ⟨⟨kk + 1, by omega, by go_num, HBr.out.trans (Below.mono (HBR.out.trans (hb23.mono HBR.out.size)) HBr.out.size)⟩, rfl⟩)
          case measure => simp [intOf]; omega
      · have hG := (hBr.block _ (row_lt HG6e.out)).trans HG6e.out
        have hBw := HBWe.out.trans (hBr.mono HBWe.out.size)
        obtain ⟨r, hr⟩ : ∃ r, r = decide (n2 = 491) := ⟨_, rfl⟩
        have hfu := fun x => pageFull_any x (x0 : Int) (x1 : Int) (x2 : Int) (x3 : Int) A2 n2 c2
        rw [← hr] at hfu
        have HFl := fun x => hide (hfu x)
        have hr2 : ((n2 : Int) == 491) = r := by
          rw [hr]
          by_cases h : n2 = 491
          · rw [decide_eq_true h, h]; rfl
          · rw [decide_eq_false h, beq_eq_false_iff_ne]; omega
        have HS := Lib.hid (fun (x : World) (hx : Below wr.heap.size wr x) => (show x.cell? ⟨w.heap.size, 0, none⟩ = some (.int .u32 (x0 : Int)) ∧ x.cell? ⟨w.heap.size, 1, none⟩ = some (.int .u32 (x1 : Int)) ∧ x.cell? ⟨w.heap.size, 2, none⟩ = some (.int .u32 (x2 : Int)) ∧ x.cell? ⟨w.heap.size, 3, none⟩ = some (.int .u8 (x3 : Int)) ∧ x.cell? ⟨w.heap.size, 4, none⟩ = some (.slice A2 n2 c2) from
          have a := box_facts ((hx.block _ (row_lt hG)).trans hG)
          ⟨a.1, a.2.1, a.2.2.1, a.2.2.2.1, a.2.2.2.2.1⟩))
        have HBw := Lib.hid hBw
        clear hG hBw hr hfu hBr
        go_upto_region 26 with fail
        go_region_held3 (fun x => x.cell? ⟨w.heap.size, 0, none⟩ = some (.int .u32 (x0 : Int)) ∧ x.cell? ⟨w.heap.size, 1, none⟩ = some (.int .u32 (x1 : Int)) ∧ x.cell? ⟨w.heap.size, 2, none⟩ = some (.int .u32 (x2 : Int)) ∧ x.cell? ⟨w.heap.size, 3, none⟩ = some (.int .u8 (x3 : Int)) ∧ x.cell? ⟨w.heap.size, 4, none⟩ = some (.slice A2 n2 c2))
          ((refine HS.out _ ?_; repeat (with_reducible (first | exact Below.refl _ _ | assumption | refine ride_alloc ?_ _ | refine ride_drew ?_ | refine below_drewN ?_ _ | refine ride_call (by assumption) ?_))))
          (first
            | (go_at_call 19; (with_reducible refine (unhide (HFl _)).mono ?_); rintro e w40 ⟨rfl, hb40⟩))
        all_goals
          have hb41 : Below w.heap.size w w40 := HBw.out.trans (Below.mono (by repeat (with_reducible (first | exact Below.refl _ _ | assumption | refine ride_alloc ?_ _ | refine ride_drew ?_ | refine below_drewN ?_ _ | refine ride_call (by assumption) ?_))) HBw.out.size)
          go_wp2_with fail
          go_ret
          exact ⟨by simp, hb41⟩
end Go.Proofs.Ytkfpbjkpkbfbbaa
