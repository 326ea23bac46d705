/- The law ReelRows, walked. -/
import Derived.Test.YtpmgihfdiahfdaaZ42
namespace Go.Proofs.Ytpmgihfdiahfdaa
open Go.RowKit Go.Shelf
set_option linter.unusedSimpArgs false
set_option linter.unusedVariables false
def os8 (ls : List (List Nat)) (k : Nat) : List (List Nat) := (ls.take (min k 8)).map (·.take 300)
theorem os8_next {ls : List (List Nat)} {k : Nat} {l : List Nat} (hk : k < 8) (hl : ls[k]? = some l) : os8 ls (k + 1) = os8 ls k ++ [l.take 300] := by
  unfold os8
  rw [Nat.min_eq_left (by omega), Nat.min_eq_left (by omega), List.take_add_one, hl, List.map_append]
  rfl
theorem os8_far {ls : List (List Nat)} {k : Nat} (hk : 8 ≤ k) : os8 ls (k + 1) = os8 ls k := by
  unfold os8
  rw [Nat.min_eq_right hk, Nat.min_eq_right (by omega)]
theorem os8_fit (ls : List (List Nat)) (k : Nat) : ∀ r ∈ os8 ls k, r.length ≤ 300 := fun r hr => by
  unfold os8 at hr
  obtain ⟨x, _, rfl⟩ := List.mem_map.1 hr
  rw [List.length_take]
  omega
theorem os8_few (ls : List (List Nat)) (k : Nat) : (os8 ls k).length ≤ 8 := by
  unfold os8
  rw [List.length_map, List.length_take]
  omega
theorem os8_small {ls : List (List Nat)} (h : ∀ r ∈ ls, ∀ b ∈ r, b < 256) (k : Nat) : ∀ r ∈ os8 ls k, ∀ b ∈ r, b < 256 := fun r hr b hb => by
  unfold os8 at hr
  obtain ⟨x, hx, rfl⟩ := List.mem_map.1 hr
  exact h x (List.mem_of_mem_take hx) b (List.mem_of_mem_take hb)
def RowsI (w1 : World) (n : Nat) (ls : List (List Nat)) (own i : Value) (wr : World) : Prop := ∃ k : Nat, k ≤ n ∧ i = .int .i64 (k : Int) ∧ Rows3 wr w1.heap.size own (os8 ls k) ∧ Below w1.heap.size w1 wr
set_option maxRecDepth 100000 in
set_option maxHeartbeats 16000000 in
theorem reelRows_walk (A : Option Addr) (n c : Nat) (ls : List (List Nat)) (A1 : Option Addr) (n1 c1 : Nat) (l1 : List Nat) (cut : Nat) (w : World) (hp : Parts w w.heap.size (.slice A n c) ls) (hp1 : Bytes w w.heap.size (.slice A1 n1 c1) l1) (hcut : cut < 65536) :
    Calls Try.prog 6 #[.slice A n c, .slice A1 n1 c1, .int .u16 (cut : Int)] w fun e w' => e = .returned (.bool true) ∧ Below w.heap.size w w' := by
  have hlong := hp.long
  unfold maxLen at hlong
  have hnl : n = ls.length := by
    obtain ⟨⟨A', c', vs, hv, _⟩, _⟩ := hp
    injection hv
  have hsm : ∀ r ∈ ls, ∀ b ∈ r, b < 256 := fun r hr => by
    obtain ⟨⟨A', c', vs, hv, hvl, hL, hB⟩, _⟩ := hp
    obtain ⟨j, hj⟩ := List.mem_iff_getElem?.1 hr
    have hjl := (List.getElem?_eq_some_iff.1 hj).1
    exact (hB j _ r (List.getElem?_eq_getElem (by rw [hvl]; exact hjl)) hj).small
  rw [← hnl] at hlong
  obtain ⟨i0, hi0, hz0, hz1, hz2⟩ := info_parts infoSlice
  have HI := Lib.hid hi0
  have H0 := Lib.hid hz0
  have H1 := Lib.hid hz1
  have H2 := Lib.hid hz2
  have HNL := Lib.hid hnl
  have HSM := Lib.hid hsm
  have HPP := Lib.hid hp
  have HP1 := Lib.hid hp1
  clear hnl hsm hp hp1 hi0 hz0 hz1 hz2
  go_enter Try.func6, Try.ntmps6
  go_wp2_with (go_at_call 10; (with_reducible refine (awake_true _).mono ?_); rintro e w1 ⟨rfl, hw1⟩)
  have HPW := Lib.hid (HPP.out.along hw1)
  have HP1W := Lib.hid (HP1.out.along hw1)
  have HW1 := Lib.hid hw1
  clear hw1
  go_loopw [7, 24] (fun own i wr => RowsI w1 n ls own i wr) (fun _ i _ => n - (intOf i).toNat)
  case atStart => exact ⟨0, Nat.zero_le _, rfl, Rows3.nil _ _, Below.refl _ _⟩
  case round =>
    obtain ⟨k, hk, rfl, hR, hb⟩ := hrel
    by_cases hlt : k < n
    · obtain ⟨l, hl⟩ : ∃ l, ls[k]? = some l := ⟨_, List.getElem?_eq_getElem (by rw [← HNL.out]; exact hlt)⟩
      obtain ⟨⟨A', c', us, hv, hvl, hlies, hby⟩, _⟩ := HPW.out
      injection hv with e1 e2 e3
      subst e1
      obtain ⟨u, hu⟩ : ∃ u, us[k]? = some u := ⟨_, List.getElem?_eq_getElem (by rw [hvl, ← HNL.out]; exact hlt)⟩
      have hB0 := (hby k u l hu hl).along hb
      obtain ⟨ad, hA, hbb, hc0⟩ := hlies k _ hu
      subst hA
      have hc := (hb.cell (p := ad.add k) (by rw [addr_add_block]; exact hbb)).trans hc0
      have HCU : Hid (Calls Try.prog 29 #[u, .int .i64 300] wr fun e w' => ∃ v, e = .returned v ∧ Own w' wr.heap.size v (l.take 300) ∧ Below wr.heap.size wr w') := Lib.hid (cut_any wr u l 300 hB0 (by omega))
      obtain ⟨vs, hv1, hv2, hv3⟩ := id hR
      obtain ⟨Ao, co, rfl⟩ := hR.len
      obtain ⟨dn, hdn⟩ : ∃ x, x = (os8 ls k).length := ⟨_, rfl⟩
      rw [← hdn] at hv2 ⊢
      have hdl : dn ≤ 8 := by rw [hdn]; exact os8_few ls k
      have hls : ∀ b ∈ l.take 300, b < 256 := fun b hb => hB0.small b (List.mem_of_mem_take hb)
      have HLS := Lib.hid hls
      have Hl := Lib.hid hl
      have HDN := Lib.hid hdn
      have HV1 := Lib.hid hv1
      have HV2 := Lib.hid hv2
      have HV3 := Lib.hid hv3
      have HRR := Lib.hid hR
      clear hls hl hB0 hc0 hbb hu hby hlies hvl hdn hv1 hv2 hv3 hR e2 e3
      by_cases h8 : k < 8
      · have h8i : (k : Int) < 8 := by omega
        go_wp2_with (first
          | (go_at_call 29; (with_reducible refine (HCU.out).mono ?_); rintro e w2 ⟨v2, rfl, hO2, hb2⟩; go_loud (
              obtain ⟨A2, c2, rfl, _⟩ := hO2.form;
              obtain ⟨t2, ht2⟩ : ∃ t, t = (l.take 300).length := ⟨_, rfl⟩;
              rw [← ht2];
              have HO2 := Lib.hid hO2;
              have HT2 := Lib.hid ht2;
              have HB2 := Lib.hid hb2;
              clear hO2 ht2 hb2))
          | (at_builtin; go_loud (refine wpList_append_lies _ (by rfl) (.tmp 31) (.tmp 34) 34 (by rfl) w1.heap.size 43 i0 (.slice none 0 0) 1 24 Try.underlying34 HI.out H0.out H1.out H2.out (by rfl) (by omega) (.slice Ao dn co) dn _ (by rfl) (ownsRow_below HV2.out (HB2.out.alloc HB2.out.size _)) ⟨w2.heap.size, 0, none⟩ 1 1 [.slice A2 t2 c2] (by rfl) (by rfl) (World.news_of_block (heap_new_at rfl)) (by intro u hu; simp at hu; rcases hu with rfl; rfl) (by omega) (by unfold maxLen; omega) (by omega) (Nat.le_trans hb.size (Nat.le_trans HB2.out.size (by simp))) _ rfl ?_; intro g6 k6 w6 hown6 hg6 hat6 hlt6)))
        have HBL := Lib.hid (rows3_more hg6 hown6 HDN.out HV1.out HV2.out HV3.out hb hb.size (HB2.out.alloc HB2.out.size _) (by have h := TBytes.of_own HO2.out HLS.out; rw [← HT2.out] at h; exact h.keep (.of_below ((Below.refl _ _).alloc (Nat.le_refl _) _))))
        clear hown6 hg6 hat6
        go_wp2
        go_roundw
        case rel => exact ⟨k + 1, by omega, by go_num, by rw [os8_next h8 Hl.out]; exact HBL.out.1, HBL.out.2⟩
        case measure => simp [intOf]; omega
      · have h8i : ¬ (k : Int) < 8 := by omega
        go_wp2
        go_roundw
        case rel => exact ⟨k + 1, by omega, by go_num, by rw [os8_far (by omega), HDN.out]; exact HRR.out, hb⟩
        case measure => simp [intOf]; omega
    · obtain rfl : k = n := by omega
      obtain ⟨os, hos⟩ : ∃ os, os = os8 ls k := ⟨_, rfl⟩
      have hfit300 : ∀ r ∈ os, r.length ≤ 300 := by rw [hos]; exact os8_fit ls k
      have hfew : os.length ≤ 8 := by rw [hos]; exact os8_few ls k
      have hosm : ∀ r ∈ os, ∀ b ∈ r, b < 256 := by rw [hos]; exact os8_small HSM.out k
      rw [← hos] at hR
      have hfit : Fit os := fun r hr => by have := hfit300 r hr; omega
      have hLle : (layR os).length ≤ 1048576 := by
        have h1 := layR_le hfit300 (by omega)
        have h2 : os.length * (300 + 5) ≤ 8 * 305 := Nat.mul_le_mul_right _ hfew
        omega
      obtain ⟨L, hL⟩ : ∃ L, L = (layR os).length := ⟨_, rfl⟩
      obtain ⟨s, hs⟩ : ∃ s, s = lesser cut L := ⟨_, rfl⟩
      have hsL : s ≤ L := by rw [hs]; unfold lesser; split <;> omega
      obtain ⟨j, hj, hcb⟩ := cut_begins os s hfit hosm
      obtain ⟨m5, hm5⟩ : ∃ m, m = (layR (os.take j)).length := ⟨_, rfl⟩
      have hm5s : m5 ≤ s := by
        have hss : ∀ b ∈ (layR os).take s, b < 256 := fun b hb => layR_small hosm b (List.mem_of_mem_take hb)
        obtain ⟨rest, e1, _, _⟩ := cutL_parts hss
        have e2 := congrArg List.length e1
        rw [hcb, List.length_append, List.length_take, ← hm5] at e2
        omega
      have hm5L : m5 ≤ 1048576 := by omega
      obtain ⟨rw_, hrw⟩ : ∃ l, l = l1.take 60 := ⟨_, rfl⟩
      have hrws : ∀ b ∈ rw_, b < 256 := by rw [hrw]; exact fun b hb => HP1W.out.small b (List.mem_of_mem_take hb)
      have hrwl : rw_.length ≤ 60 := by rw [hrw, List.length_take]; omega
      obtain ⟨K6, hK6⟩ : ∃ m, m = (layR (cutL rw_)).length := ⟨_, rfl⟩
      have hraw := HP1W.out.along hb
      have hown := hR.two.parts (Nat.le_refl _) (by unfold maxLen; omega)
      obtain ⟨Ao, co, rfl⟩ := hR.len
      have hcapo : os.length ≤ co := by
        obtain ⟨vs, _, ho, _⟩ := hR
        rcases ho.2 with ⟨hv, hn⟩ | ⟨gg, cap, cur, hv, _, _, hc, _⟩
        · omega
        · injection hv with _ _ h3; omega
      obtain ⟨on, hon⟩ : ∃ m, m = os.length := ⟨_, rfl⟩
      rw [← hon] at hown hcapo ⊢
      have HC0 : Hid (Car wr [(.slice Ao on co, os)] [(.slice A1 n1 c1, l1)]) := Lib.hid ⟨fun p hp => by rw [List.mem_singleton] at hp; rw [hp]; exact hown, fun p hp => by rw [List.mem_singleton] at hp; rw [hp]; exact hraw⟩
      have HBB : Hid (Below w.heap.size w wr) := Lib.hid (HW1.out.trans (hb.mono HW1.out.size))
      have KCUT : Hid (∀ (y : World) (v : Value), Bytes y y.heap.size v l1 → Calls Try.prog 29 #[v, .int .i64 60] y fun e w' => ∃ A n c, e = .returned (.slice A n c) ∧ Bytes w' w'.heap.size (.slice A n c) rw_ ∧ Below y.heap.size y w') := Lib.hid fun y v h => (cut_any y v l1 60 h (by omega)).mono fun e w' ⟨u, he, hO, hb⟩ => by
        rw [← hrw] at hO
        obtain ⟨A, c, rfl, _⟩ := hO.form
        exact ⟨A, _, c, he, hO.bytes hrws, hb⟩
      have KLAY : Hid (∀ (y : World) (v : Value), Parts y y.heap.size v os → Calls Try.prog 40 #[v] y fun e w' => ∃ A c, e = .returned (.slice A L c) ∧ Bytes w' w'.heap.size (.slice A L c) (layR os) ∧ L ≤ c ∧ Below y.heap.size y w') := Lib.hid fun y v h => (lay_any y v os h hLle).mono fun e w' ⟨A, n, c, he, hM, hb⟩ => by
        obtain rfl : n = L := by rw [hL]; exact hM.len
        exact ⟨A, c, he, hM.bytes, mine_cap hM, hb⟩
      have KCA : Hid (∀ (y : World) (v : Value), Bytes y y.heap.size v (layR os) → Calls Try.prog 41 #[v] y fun e w' => ∃ u, e = .returned (.tuple #[u, .int .i64 (L : Int)]) ∧ Parts w' w'.heap.size u os ∧ Below y.heap.size y w') := Lib.hid fun y v h => (cut_recs y v _ h hLle).mono fun e w' ⟨u, he, hR, hb⟩ => by
        rw [cutL_lay hfit] at he hR
        exact ⟨u, by rw [he, hL], hR.parts (Nat.le_refl _) (by unfold maxLen; omega), hb⟩
      have KCB : Hid (∀ (y : World) (v : Value), Bytes y y.heap.size v ((layR os).take s) → Calls Try.prog 41 #[v] y fun e w' => ∃ u, e = .returned (.tuple #[u, .int .i64 (m5 : Int)]) ∧ Parts w' w'.heap.size u (os.take j) ∧ Below y.heap.size y w') := Lib.hid fun y v h => (cut_recs y v _ h (by rw [List.length_take]; omega)).mono fun e w' ⟨u, he, hR, hb⟩ => by
        rw [hcb] at he hR
        exact ⟨u, by rw [he, hm5], hR.parts (Nat.le_refl _) (by rw [List.length_take]; unfold maxLen; omega), hb⟩
      have hcl : (cutL rw_).length ≤ 60 := by
        obtain ⟨rest, e1, _, _⟩ := cutL_parts hrws
        have e2 := congrArg List.length e1
        have e3 := layR_count (cutL rw_)
        rw [List.length_append] at e2
        omega
      have KCC : Hid (∀ (y : World) (v : Value), Bytes y y.heap.size v rw_ → Calls Try.prog 41 #[v] y fun e w' => ∃ u, e = .returned (.tuple #[u, .int .i64 (K6 : Int)]) ∧ Parts w' w'.heap.size u (cutL rw_) ∧ Below y.heap.size y w') := Lib.hid fun y v h => (cut_recs y v _ h (by omega)).mono fun e w' ⟨u, he, hR, hb⟩ =>
        ⟨u, by rw [he, hK6], hR.parts (Nat.le_refl _) (by unfold maxLen; omega), hb⟩
      have KCD : Hid (∀ (y : World) (v : Value), Bytes y y.heap.size v rw_ → Calls Try.prog 42 #[v] y fun e w' => ∃ u, e = .returned (.tuple #[u, .int .i64 (K6 : Int)]) ∧ Parts w' w'.heap.size u (cutL rw_) ∧ Below y.heap.size y w') := Lib.hid fun y v h => (refCut_any y v _ h (by omega)).mono fun e w' ⟨u, he, hR, hb⟩ =>
        ⟨u, by rw [he, hK6], hR.parts (Nat.le_refl _) (by unfold maxLen; omega), hb⟩
      have KL1 : Hid (∀ (y : World) (v : Value), Parts y y.heap.size v os → Calls Try.prog 21 #[v] y fun e w' => ∃ A c, e = .returned (.slice A L c) ∧ Bytes w' w'.heap.size (.slice A L c) (layR os) ∧ Below y.heap.size y w') := Lib.hid fun y v h => (refLayR_any y v os h hLle).mono fun e w' ⟨u, he, hO, hb⟩ => by
        have hB := hO.bytes (layR_small hosm)
        obtain ⟨A, c, rfl, _⟩ := hO.form
        rw [← hL] at he hB
        exact ⟨A, c, he, hB, hb⟩
      have KL2 : Hid (∀ (y : World) (v : Value), Parts y y.heap.size v (os.take j) → Calls Try.prog 21 #[v] y fun e w' => ∃ A c, e = .returned (.slice A m5 c) ∧ Below y.heap.size y w') := Lib.hid fun y v h => (refLayR_any y v _ h (by omega)).mono fun e w' ⟨u, he, hO, hb⟩ => by
        obtain ⟨A, c, rfl, _⟩ := hO.form
        rw [← hm5] at he
        exact ⟨A, c, he, hb⟩
      have KSA : Hid (∀ (y : World) (v u : Value), Bytes y y.heap.size v (layR os) → Bytes y y.heap.size u (layR os) → Calls Try.prog 39 #[v, u] y fun e w' => e = .returned (.bool true) ∧ Below y.heap.size y w') := Lib.hid fun y v u h1 h2 => (same_any y v u _ _ h1 h2).mono fun e w' ⟨he, q, hw⟩ => by
        subst hw
        exact ⟨by rw [he, decide_eq_true rfl], below_drewN (Below.refl _ _) q⟩
      have KSR : Hid (∀ (y : World) (v u : Value) (l : List (List Nat)), Parts y y.heap.size v l → Parts y y.heap.size u l → Calls Try.prog 22 #[v, u] y fun e w' => e = .returned (.bool true) ∧ Below y.heap.size y w') := Lib.hid fun y v u l h1 h2 => (same_rows y v u _ _ h1 h2).mono fun e w' ⟨he, q, hw⟩ => by
        subst hw
        exact ⟨by rw [he, decide_eq_true rfl], below_drewN (Below.refl _ _) q⟩
      have KBE : Hid (∀ (y : World) (v : Value), Parts y y.heap.size v (os.take j) → Parts y y.heap.size (.slice Ao on co) os → Calls Try.prog 16 #[v, .slice Ao on co] y fun e w' => e = .returned (.bool true) ∧ Below y.heap.size y w') := Lib.hid fun y v h1 h2 => (begins_any y v _ _ _ h1 h2 (fun A n c e => by injection e with _ e2 e3; omega)).mono fun e w' ⟨he, q, hw⟩ => by
        subst hw
        refine ⟨by rw [he]; congr 2; unfold beginsB; rw [decide_eq_true (by rw [List.length_take]; omega), Bool.true_and, decide_eq_true (by rw [List.length_take, Nat.min_eq_left hj])], below_drewN (Below.refl _ _) q⟩
      have hmin := run_lesser
      have HS := Lib.hid hs
      have HLL := Lib.hid hL
      clear hos hfit300 hfew hosm hR hfit hLle hL hs hj hcb hm5 hm5L hrw hrws hrwl hK6 hraw hown hcapo hon hcl hb
      go_wp2_with (first
        | (go_at_call 29; go_loud (with_reducible refine (KCUT.out _ _ (Car.b HC0.out _ (l1) (by simp))).mono ?_); rintro e w2 ⟨A2, n2, c2, rfl, hB2, hb2⟩; go_loud (
            have HC1 := Lib.hid ((HC0.out.along hb2).addB hB2);
            have HBB := Lib.hid (HBB.out.trans (hb2.mono HBB.out.size));
            clear hB2 hb2))
        | (go_at_call 40; (with_reducible refine (KLAY.out _ _ (Car.p HC1.out _ (os) (by simp))).mono ?_); rintro e w3 ⟨A3, c3, rfl, hB3, hLc3, hb3⟩; go_loud (
            have HC2 := Lib.hid ((HC1.out.along hb3).addB hB3);
            have HBB := Lib.hid (HBB.out.trans (hb3.mono HBB.out.size));
            clear HC1 hB3 hb3))
        | (go_at_call 41; (with_reducible refine (KCA.out _ _ (Car.b HC2.out _ (layR os) (by simp))).mono ?_); rintro e w4 ⟨u4, rfl, hP4, hb4⟩; go_loud (
            have HC3 := Lib.hid ((HC2.out.along hb4).addP hP4);
            have HBB := Lib.hid (HBB.out.trans (hb4.mono HBB.out.size));
            have hsc3 : lesser cut L ≤ c3 := (by rw [← HS.out]; omega);
            have hsc4 : ((lesser cut L : Nat) : Int) ≤ (c3 : Int) := (by omega);
            have HC4 := Lib.hid ((HC2.out.along hb4).addP hP4);
            clear HC2 hP4 hb4))
        | (go_at_call 41; (with_reducible refine (KCB.out _ _ (by rw [HS.out]; exact (Car.b HC3.out (.slice A3 L c3) (layR os) (by simp)).first (by rw [← HS.out]; exact hsL))).mono ?_); rintro e w5 ⟨u5, rfl, hP5, hb5⟩; go_loud (
            have HC5 := Lib.hid ((HC3.out.along hb5).addP hP5);
            have HBB := Lib.hid (HBB.out.trans (hb5.mono HBB.out.size));
            clear HC3 hP5 hb5))
        | (go_at_call 42; (with_reducible refine (KCD.out _ _ (Car.b HC5.out _ (rw_) (by simp))).mono ?_); rintro e w6 ⟨u6, rfl, hP6, hb6⟩; go_loud (
            have HC6 := Lib.hid ((HC5.out.along hb6).addP hP6);
            have HBB := Lib.hid (HBB.out.trans (hb6.mono HBB.out.size));
            clear HC5 hP6 hb6))
        | (go_at_call 41; (with_reducible refine (KCC.out _ _ (Car.b HC6.out _ (rw_) (by simp))).mono ?_); rintro e w7 ⟨u7, rfl, hP7, hb7⟩; go_loud (
            have HC7 := Lib.hid ((HC6.out.along hb7).addP hP7);
            have HBB := Lib.hid (HBB.out.trans (hb7.mono HBB.out.size));
            clear HC6 hP7 hb7))
        | (go_at_call 21; (with_reducible refine (KL1.out _ _ (Car.p HC7.out _ (os) (by simp))).mono ?_); rintro e w8 ⟨A8, c8, rfl, hB8, hb8⟩; go_loud (
            have HC8 := Lib.hid ((HC7.out.along hb8).addB hB8);
            have HBB := Lib.hid (HBB.out.trans (hb8.mono HBB.out.size));
            clear HC7 hB8 hb8))
        | (go_at_call 39; (with_reducible refine (KSA.out _ _ _ (Car.b HC8.out _ (layR os) (by simp)) (Car.b HC8.out _ (layR os) (by simp))).mono ?_); rintro e w9 ⟨rfl, hb9⟩; go_loud (
            have HC9 := Lib.hid (HC8.out.along hb9);
            have HBB := Lib.hid (HBB.out.trans (hb9.mono HBB.out.size));
            clear HC8 hb9))
        | (go_at_call 22; (with_reducible refine (KSR.out _ _ _ os (Car.p HC9.out _ (os) (by simp)) (Car.p HC9.out _ (os) (by simp))).mono ?_); rintro e w10 ⟨rfl, hb10⟩; go_loud (
            have HC10 := Lib.hid (HC9.out.along hb10);
            have HBB := Lib.hid (HBB.out.trans (hb10.mono HBB.out.size));
            clear HC9 hb10))
        | (go_at_call 16; (with_reducible refine (KBE.out _ _ (Car.p HC10.out _ (os.take j) (by simp)) (Car.p HC10.out _ (os) (by simp))).mono ?_); rintro e w11 ⟨rfl, hb11⟩; go_loud (
            have HC11 := Lib.hid (HC10.out.along hb11);
            have HBB := Lib.hid (HBB.out.trans (hb11.mono HBB.out.size));
            have hm5s2 : m5 ≤ lesser cut L := (by rw [← HS.out]; exact hm5s);
            clear HC10 hb11))
        | (go_at_call 21; (with_reducible refine (KL2.out _ _ (Car.p HC11.out _ (os.take j) (by simp))).mono ?_); rintro e w12 ⟨A12, c12, rfl, hb12⟩; go_loud (
            have HC12 := Lib.hid (HC11.out.along hb12);
            have HBB := Lib.hid (HBB.out.trans (hb12.mono HBB.out.size));
            clear HC11 hb12))
        | (go_at_call 22; (with_reducible refine (KSR.out _ _ _ (cutL rw_) (Car.p HC12.out _ (cutL rw_) (by simp)) (Car.p HC12.out _ (cutL rw_) (by simp))).mono ?_); rintro e w13 ⟨rfl, hb13⟩; go_loud (
            have HBB := Lib.hid (HBB.out.trans (hb13.mono HBB.out.size));
            clear HC12 hb13)))
      go_ret
      exact ⟨rfl, HBB.out⟩
end Go.Proofs.Ytpmgihfdiahfdaa
