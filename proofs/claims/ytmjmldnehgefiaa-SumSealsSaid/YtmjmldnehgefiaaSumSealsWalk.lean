/- The walk of the law SumSeals: it answers true for every two texts, and writes nothing that was there. -/
import Derived.Test.YtmjmldnehgefiaaRefSeal
namespace Go.Proofs.Ytmjmldnehgefiaa
open Go.RowKit

set_option maxRecDepth 100000 in
set_option maxHeartbeats 4000000 in
theorem sumSeals_walk (a0 : Option Addr) (len0 cap0 : Nat) (z0 : List Int) (a1 : Option Addr) (len1 cap1 : Nat) (z1 : List Int) (w : World)
    (w0 : (a0 = none ∧ len0 = 0 ∧ cap0 = 0 ∧ z0 = []) ∨ ∃ x, a0 = some x ∧ len0 ≤ cap0 ∧ cap0 ≤ maxLen ∧ z0.length = cap0 ∧ (∀ i, i < z0.length → w.cell? (x.add i) = some (.int .u8 (z0.getD i 0))) ∧ ∀ n ∈ z0, (Lit.int .u8 n).wf = true)
    (w1 : (a1 = none ∧ len1 = 0 ∧ cap1 = 0 ∧ z1 = []) ∨ ∃ x, a1 = some x ∧ len1 ≤ cap1 ∧ cap1 ≤ maxLen ∧ z1.length = cap1 ∧ (∀ i, i < z1.length → w.cell? (x.add i) = some (.int .u8 (z1.getD i 0))) ∧ ∀ n ∈ z1, (Lit.int .u8 n).wf = true) :
    Calls Try.prog 4 #[.slice a0 len0 cap0, .slice a1 len1 cap1] w fun e w' => e = .returned (.bool true) ∧ Below w.heap.size w w' := by
  obtain ⟨l0, hp0, -⟩ := bytes_of_row w0
  obtain ⟨l1, hp1, -⟩ := bytes_of_row w1
  clear w0 w1
  have HP := Lib.hid hp0
  have HP1 := Lib.hid hp1
  clear hp0 hp1
  have zv := zero_tab
  go_enter Try.func4, Try.ntmps4
  go_wp2_with (first
    | (go_at_call 7; (with_reducible refine (awake_any _).mono ?_); rintro e w1 ⟨rfl, hb1⟩)
    | (go_at_call 8; (with_reducible refine (cut_mine w1 _ l0 200 200 rfl (HP.out.along hb1) (by omega)).mono ?_); rintro e w2 ⟨A, m, c, rfl, hown, hb2⟩)
    | (go_at_call 8; (with_reducible refine (cut_mine w2 _ l1 20 20 rfl ((HP1.out.along hb1).along hb2) (by omega)).mono ?_); rintro e w3 ⟨A1, m1, c1, rfl, hown1, hb3⟩)
    | (go_at_call 9; (with_reducible refine (make_list _).mono ?_); rintro e w4 ⟨C, hC, rfl, hb4⟩)
    | (refine wpList_store_new rfl 28 _ _ rfl (tabTo 0) C rfl rfl 28 hC.info (by rw [tabTo_size, hC.length]) hC.one ?_)
    | (refine wpList_load_mid rfl 28 _ rfl w4.heap.size 0 rfl C _ (range_new w4 C 28) tabL_under rfl hC.info ?_)
    | (go_at_call 13; fail))
  clear zv
  have hb5 : Below w4.heap.size w4 (w4.alloc (.cells C.toArray 28)) := (Below.refl _ _).alloc (Nat.le_refl _) _
  have hbW := below_on (below_on (below_on (below_on hb1 hb2) hb3) hb4) hb5
  have hM := ((hown.bytes.along hb3).along hb4).along hb5
  have hM1 := (hown1.bytes.along hb4).along hb5
  have hR := range_new w4 C 28
  have hgl : w4.heap.size < (w4.alloc (.cells C.toArray 28)).heap.size := by simp
  obtain ⟨q, hq⟩ : ∃ q, q = l0.take 200 := ⟨_, rfl⟩
  obtain ⟨r, hr⟩ : ∃ r, r = l1.take 20 := ⟨_, rfl⟩
  rw [← hq] at hM
  rw [← hr] at hM1
  have hq3 : q.length ≤ 200 := by rw [hq, List.length_take]; omega
  have hr3 : r.length ≤ 20 := by rw [hr, List.length_take]; omega
  have hm1 : m1 = r.length := by rw [hr]; exact hown1.len
  clear hq hr hown hown1 hb1 hb2 hb3 hb4 hb5 HP HP1
  obtain ⟨g, hg⟩ : ∃ g, g = w4.heap.size := ⟨_, rfl⟩
  rw [← hg] at hR hgl ⊢
  clear hg
  obtain ⟨W, hW⟩ : ∃ W, W = w4.alloc (.cells C.toArray 28) := ⟨_, rfl⟩
  rw [← hW] at hbW hM hM1 hR hgl ⊢
  clear hW
  have HM := Lib.hid hM
  have HM1 := Lib.hid hM1
  have HR := Lib.hid hR
  have hm20 : m1 ≤ 20 := by omega
  have Hm1 := Lib.hid hm1
  clear hM hM1 hR hm1
  have hC2 := hC
  have hund := Lib.hid tabL_under
  have hq9 : q.length ≤ 1048000 := by omega
  have hq10 : q.length ≤ 1048576 := by omega
  by_cases hs : m1 < 4
  · have hlt4 : (m1 : Int) < 4 := by omega
    go_wp2_with (first
      | (go_at_call 13; (with_reducible refine (seal_any hC2 W A m c q HM.out hq10).mono ?_); rintro e w5 ⟨A5, n5, c5, rfl, hM5, hb5⟩; have HM5 := Lib.hid hM5.bytes; have hn5 : n5 ≤ 1048576 := (by rw [hM5.len, List.length_append, le4_length]; omega); clear hM5)
      | refine wpList_load_mid rfl 28 _ rfl g 0 rfl C _ (range_below HR.out hb5 hgl) hund.out rfl hC2.info ?_
      | (go_at_call 14; (with_reducible refine (open_good hC2 w5 A5 n5 c5 q HM5.out hn5).mono ?_); rintro e w6 ⟨A6, n6, c6, rfl, hM6, hb6⟩; have HM6 := Lib.hid hM6.bytes; clear hM6)
      | refine wpList_load_mid rfl 28 _ rfl g 0 rfl C _ (range_below HR.out (below_on hb5 hb6) hgl) hund.out rfl hC2.info ?_
      | (go_at_call 14; (with_reducible refine (open_short w6 A1 m1 c1 hs).mono ?_); rintro e w7 ⟨rfl, hb7⟩)
      | (go_at_call 17; (with_reducible refine (refSeal_any w7 A m c q (((HM.out.along hb5).along hb6).along hb7) hq9).mono ?_); rintro e w8 ⟨A8, n8, c8, rfl, hM8, hb8⟩; have HM8 := Lib.hid hM8.bytes; clear hM8)
      | (go_at_call 16; (with_reducible refine (same_yes _ _ _ (q ++ le4 (crc q)) (((HM5.out.along hb6).along hb7).along hb8) HM8.out).mono ?_); rintro e w9 ⟨rfl, k1, rfl⟩)
      | (go_at_call 16; (with_reducible refine (same_yes _ _ _ q (((HM6.out.along hb7).along hb8).quiet _) (((((HM.out.along hb5).along hb6).along hb7).along hb8).quiet _)).mono ?_); rintro e w9 ⟨rfl, k2, rfl⟩))
    all_goals
      go_ret
      exact ⟨rfl, below_drewN (below_on (below_on (below_on (below_on hbW hb5) hb6) hb7) hb8) _⟩
  · obtain ⟨mm, hmm⟩ : ∃ mm, m1 = mm + 4 := ⟨m1 - 4, by omega⟩
    have hge4 : ¬ (m1 : Int) < 4 := by omega
    have hsub : (m1 : Int) - 4 = (mm : Int) := by omega
    have h0mm : (0 : Int) ≤ (mm : Int) := by omega
    have hmc : m1 ≤ c1 := HM1.out.cap
    have hmmc : (mm : Int) ≤ (c1 : Int) := by omega
    have hlr : r.length = mm + 4 := by rw [← Hm1.out]; exact hmm
    have hd4 : (r.drop mm).length = 4 := by rw [List.length_drop]; omega
    have hds : ∀ b ∈ r.drop mm, b < 256 := fun b hb => HM1.out.small b (List.mem_of_mem_drop hb)
    have HF := Lib.hid (HM1.out.first (k := mm) (by omega))
    have Hmm := Lib.hid hmm
    clear hmm hlr
    by_cases hgood : val (r.drop mm) = crc (r.take mm)
    · have hopen : decide (r.drop mm = le4 (crc (r.take mm))) = true := decide_eq_true (val_four _ hd4 hds _ hgood).symm
      have Hopen := Lib.hid hopen
      have hdec : decide (val (r.drop mm) = crc (r.take mm)) = true := decide_eq_true hgood
      have Hdec := Lib.hid hdec
      clear hopen hgood hdec hd4 hds
      obtain ⟨body, hbody⟩ : ∃ body, body = r.take mm := ⟨_, rfl⟩
      rw [← hbody] at HF
      have Hbody := Lib.hid hbody
      clear hbody
      go_wp2_with (first
        | (go_at_call 13; (with_reducible refine (seal_any hC2 W A m c q HM.out hq10).mono ?_); rintro e w5 ⟨A5, n5, c5, rfl, hM5, hb5⟩; have HM5 := Lib.hid hM5.bytes; have hn5 : n5 ≤ 1048576 := (by rw [hM5.len, List.length_append, le4_length]; omega); clear hM5)
        | refine wpList_load_mid rfl 28 _ rfl g 0 rfl C _ (range_below HR.out hb5 hgl) hund.out rfl hC2.info ?_
        | (go_at_call 14; (with_reducible refine (open_good hC2 w5 A5 n5 c5 q HM5.out hn5).mono ?_); rintro e w6 ⟨A6, n6, c6, rfl, hM6, hb6⟩; have HM6 := Lib.hid hM6.bytes; clear hM6)
        | refine wpList_load_mid rfl 28 _ rfl g 0 rfl C _ (range_below HR.out (below_on hb5 hb6) hgl) hund.out rfl hC2.info ?_
        | (go_at_call 14; (with_reducible refine (open_core hC2 w6 A1 m1 mm c1 r ((HM1.out.along hb5).along hb6) Hmm.out (by omega) true Hdec.out).mono ?_); rintro e w7 ⟨hb7, A7, n7, c7, rfl, hM7⟩; rw [← Hbody.out] at hM7; have HM7 := Lib.hid hM7.bytes; clear hM7)
        | (go_at_call 15; (with_reducible refine (refOpen_core w7 A1 m1 mm c1 r (((HM1.out.along hb5).along hb6).along hb7) Hmm.out (by omega)).mono ?_); rintro e w8 ⟨he, hb8⟩; rw [Hopen.out] at he; subst he)
        | (go_at_call 17; (with_reducible refine (refSeal_any w8 A m c q ((((HM.out.along hb5).along hb6).along hb7).along hb8) hq9).mono ?_); rintro e w9 ⟨A9, n9, c9, rfl, hM9, hb9⟩; have HM9 := Lib.hid hM9.bytes; clear hM9)
        | (go_at_call 16; (with_reducible refine (same_yes _ _ _ (q ++ le4 (crc q)) ((((HM5.out.along hb6).along hb7).along hb8).along hb9) HM9.out).mono ?_); rintro e w10 ⟨rfl, k1, rfl⟩)
        | (go_at_call 16; (with_reducible refine (same_yes _ _ _ q ((((HM6.out.along hb7).along hb8).along hb9).quiet _) ((((((HM.out.along hb5).along hb6).along hb7).along hb8).along hb9).quiet _)).mono ?_); rintro e w10 ⟨rfl, k2, rfl⟩)
        | (go_at_call 16; (with_reducible refine (same_yes _ _ _ body (((HM7.out.along hb8).along hb9).quiet _) ((((((HF.out.along hb5).along hb6).along hb7).along hb8).along hb9).quiet _)).mono ?_); rintro e w10 ⟨rfl, k3, rfl⟩))
      all_goals
        go_ret
        exact ⟨rfl, below_drewN (below_on (below_on (below_on (below_on (below_on hbW hb5) hb6) hb7) hb8) hb9) _⟩
    · have hopen : decide (r.drop mm = le4 (crc (r.take mm))) = false := decide_eq_false (fun h => hgood (by rw [h]; exact val_le4 _ (crc_lt _)))
      have Hopen := Lib.hid hopen
      have hdec : decide (val (r.drop mm) = crc (r.take mm)) = false := decide_eq_false hgood
      have Hdec := Lib.hid hdec
      clear hopen hgood hdec hd4 hds
      go_wp2_with (first
        | (go_at_call 13; (with_reducible refine (seal_any hC2 W A m c q HM.out hq10).mono ?_); rintro e w5 ⟨A5, n5, c5, rfl, hM5, hb5⟩; have HM5 := Lib.hid hM5.bytes; have hn5 : n5 ≤ 1048576 := (by rw [hM5.len, List.length_append, le4_length]; omega); clear hM5)
        | refine wpList_load_mid rfl 28 _ rfl g 0 rfl C _ (range_below HR.out hb5 hgl) hund.out rfl hC2.info ?_
        | (go_at_call 14; (with_reducible refine (open_good hC2 w5 A5 n5 c5 q HM5.out hn5).mono ?_); rintro e w6 ⟨A6, n6, c6, rfl, hM6, hb6⟩; have HM6 := Lib.hid hM6.bytes; clear hM6)
        | refine wpList_load_mid rfl 28 _ rfl g 0 rfl C _ (range_below HR.out (below_on hb5 hb6) hgl) hund.out rfl hC2.info ?_
        | (go_at_call 14; (with_reducible refine (open_core hC2 w6 A1 m1 mm c1 r ((HM1.out.along hb5).along hb6) Hmm.out (by omega) false Hdec.out).mono ?_); rintro e w7 ⟨hb7, rfl⟩)
        | (go_at_call 15; (with_reducible refine (refOpen_core w7 A1 m1 mm c1 r (((HM1.out.along hb5).along hb6).along hb7) Hmm.out (by omega)).mono ?_); rintro e w8 ⟨he, hb8⟩; rw [Hopen.out] at he; subst he)
        | (go_at_call 17; (with_reducible refine (refSeal_any w8 A m c q ((((HM.out.along hb5).along hb6).along hb7).along hb8) hq9).mono ?_); rintro e w9 ⟨A9, n9, c9, rfl, hM9, hb9⟩; have HM9 := Lib.hid hM9.bytes; clear hM9)
        | (go_at_call 16; (with_reducible refine (same_yes _ _ _ (q ++ le4 (crc q)) ((((HM5.out.along hb6).along hb7).along hb8).along hb9) HM9.out).mono ?_); rintro e w10 ⟨rfl, k1, rfl⟩)
        | (go_at_call 16; (with_reducible refine (same_yes _ _ _ q ((((HM6.out.along hb7).along hb8).along hb9).quiet _) ((((((HM.out.along hb5).along hb6).along hb7).along hb8).along hb9).quiet _)).mono ?_); rintro e w10 ⟨rfl, k2, rfl⟩))
      all_goals
        go_ret
        exact ⟨rfl, below_drewN (below_on (below_on (below_on (below_on (below_on hbW hb5) hb6) hb7) hb8) hb9) _⟩
end Go.Proofs.Ytmjmldnehgefiaa
