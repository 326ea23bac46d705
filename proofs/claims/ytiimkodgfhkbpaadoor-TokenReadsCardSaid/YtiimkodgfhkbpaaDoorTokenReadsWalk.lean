/- The walk of TokenReads. -/
import Derived.Test.YtiimkodgfhkbpaaDoorKReads
import Derived.Deep.RegionHeld3
import Derived.Laws.StructEq
namespace Go.Proofs.YtiimkodgfhkbpaaDoor
open Go.RowKit
set_option linter.unusedSimpArgs false
set_option linter.unusedVariables false
def ReadsI (W : World) (n : Nat) (i : Value) (w : World) : Prop := ∃ j : Nat, i = .int .i64 (j : Int) ∧ j ≤ n ∧ Below W.heap.size W w
set_option maxRecDepth 100000 in
set_option maxHeartbeats 4000000 in
theorem reads_core (w : World) (s0 : ByteArray) (hs : s0.size ≤ 9223372036854775807) (hv : Vr w) :
    Calls Tryd.prog 3 #[.string s0] w fun e w' => e = .returned (.bool true) ∧ Below w.heap.size w w' := by
  have HV := hide hv
  have HAW := hide (awake_true w hv)
  have HT := fun (x : World) => hide (text_some x s0 800 hs)
  simp only [show ((800 : Nat) : Int) = 800 from rfl] at HT
  clear hv
  go_enter Tryd.func3, Tryd.ntmps3
  go_wp2_with (first
    | (go_at_call 8; (with_reducible refine (unhide HAW).mono ?_); rintro e w1 ⟨rfl, hb⟩; have HB1 := hide hb; clear hb)
    | (go_at_call 9; (with_reducible refine (unhide (HT _)).mono ?_); rintro e w2 ⟨⟨s, rfl, hsz⟩, rfl⟩)
    | (go_at_call 10; fail))
  rcases hsc : scan (str s) 0 with _ | ts
  · have HA := hide (all_bad _ s (by omega) ((unhide HV).below (unhide HB1)) hsc)
    have HR := fun (x : World) => hide (rall_bad x s (by omega) hsc)
    go_wp2_with (first
      | (go_at_call 10; (with_reducible refine (unhide HA).mono ?_); rintro e w3 ⟨rfl, hb⟩; have HB3 := hide (below_on (unhide HB1) hb); clear hb)
      | (go_at_call 11; (with_reducible refine (unhide (HR _)).mono ?_); rintro e w4 ⟨rfl, hb⟩; have HB4 := hide (below_on (unhide HB3) hb); clear hb))
    go_loopw [35] (fun i wr => ReadsI w4 0 i wr) (fun _ _ => 0)
    case atStart => exact ⟨0, rfl, by omega, Below.refl _ _⟩
    case round =>
      obtain ⟨j, rfl, hj, hbr⟩ := hrel
      obtain rfl : j = 0 := by omega
      have HBR := hide hbr
      clear hbr
      go_wp2
      go_ret
      exact ⟨rfl, below_on (unhide HB4) (unhide HBR)⟩
  · have HA := hide (all_good _ s ts (by omega) ((unhide HV).below (unhide HB1)) hsc)
    have HR := fun (x : World) => hide (rall_good x s ts (by omega) hsc)
    have HTK := hide (toks_num ts _ _ (str_small s) hsc)
    have htl := scan_len ts _ _ hsc
    rw [str_length] at htl
    clear hsc
    go_wp2_with (first
      | (go_at_call 10; (with_reducible refine (unhide HA).mono ?_); rintro e w3 ⟨A, c, rfl, hc, hC, hb⟩; go_loud (
          have HB3 := hide (below_on (unhide HB1) hb);
          have HC3 := hide hC;
          clear hb hC))
      | (go_at_call 11; (with_reducible refine (unhide (HR _)).mono ?_); rintro e w4 ⟨A2, c2, rfl, hc2, hC2, hb⟩; go_loud (
          have HB4 := hide (below_on (unhide HB3) hb);
          have HC4 := hide ((unhide HC3).below hb);
          have HX4 := hide hC2;
          clear hb hC2)))
    go_loopw [35] (fun i wr => ReadsI w4 ts.length i wr) (fun i _ => ts.length - (intOf i).toNat)
    case atStart => exact ⟨0, rfl, by omega, Below.refl _ _⟩
    case round =>
      obtain ⟨j, rfl, hj, hbr⟩ := hrel
      have HBR := hide hbr
      have HBW := hide (below_on (unhide HB4) hbr)
      clear hbr
      by_cases hlt : j < ts.length
      · obtain ⟨hsm, htlen, hnum⟩ := unhide HTK _ (List.getElem_mem hlt)
        obtain ⟨g, hA, hg, a0, a1, a2⟩ := (unhide HC4).below (unhide HBR) j _ (List.getElem?_eq_getElem hlt)
        obtain ⟨g2, hA2, hg2, c0, c1, c2'⟩ := (unhide HX4).below (unhide HBR) j _ (List.getElem?_eq_getElem hlt)
        rw [Nat.mul_comm 3 j] at a0 a1 a2 c0 c1 c2'
        obtain ⟨t, ht⟩ : ∃ t, t = ts[j]'hlt := ⟨_, rfl⟩
        rw [← ht] at hsm htlen hnum a0 a1 a2 c0 c1 c2'
        obtain ⟨kk, tx, ta⟩ := t
        simp only [] at hsm htlen hnum a0 a1 a2 c0 c1 c2'
        rw [str_length] at htlen
        subst hA hA2
        clear ht
        by_cases hk2 : kk = 2
        · subst hk2
          simp only [show ((2 : Nat) : Int) = 2 from rfl] at a0 c0
          obtain ⟨hn1, hn2⟩ := hnum rfl
          have hstr := str_ba hsm
          have hbsz : (ba tx).size = tx.length := by rw [← str_length, hstr]
          have HV1 := fun (x : World) (hx : Vr x) => hide (value_num x (ba tx) (ta : Int) (by omega) hx (by rw [hstr, hbsz]; exact hn2) (by rw [hstr]; exact hn1))
          have HN1 := fun (x : World) => hide (number_any x (ba tx) (by omega))
          have hnv : numV (str (ba tx)) = (valL (str (ba tx)) : Int) := by unfold numV; rw [hstr, hn1]; rfl
          rw [hnv] at HN1
          obtain ⟨vv, hvv⟩ : ∃ vv, vv = valL (str (ba tx)) := ⟨_, rfl⟩
          rw [← hvv] at HV1 HN1
          clear hnv hvv hnum hn1 hn2 hstr hbsz
          go_wp2_with fail
          obtain ⟨wk, hwk⟩ : ∃ wk, wk = wr.alloc (.cells #[.int .u8 2, .string (ba tx), .int .i64 (ta : Int)] 32) := ⟨_, rfl⟩
          rw [← hwk]
          have hwb : Below wr.heap.size wr wk := by rw [hwk]; exact ride_alloc (Below.refl _ _) _
          have hbx : ∀ x, Below wk.heap.size wk x → Below wk.heap.size wk x ∧ x.cell? ⟨wr.heap.size, 0, none⟩ = some (.int .u8 2) ∧ x.cell? ⟨wr.heap.size, 1, none⟩ = some (.string (ba tx)) ∧ x.cell? ⟨wr.heap.size, 2, none⟩ = some (.int .i64 (ta : Int)) ∧ x.cell? ⟨g2, j * 3, none⟩ = some (.int .u8 2) ∧ x.cell? ⟨g2, j * 3 + 1, none⟩ = some (.string (ba tx)) ∧ x.cell? ⟨g2, j * 3 + 2, none⟩ = some (.int .i64 (ta : Int)) := fun x hx => by
            rw [hwk] at hx
            obtain ⟨z0, z1, z2⟩ := box_stays hx
            have hx2 := ride_call hx (ride_alloc (Below.refl wr.heap.size wr) _)
            exact ⟨by rw [hwk]; exact hx, z0, z1, z2, (hx2.cell (p := ⟨g2, j * 3, none⟩) hg2).trans c0, (hx2.cell (p := ⟨g2, j * 3 + 1, none⟩) hg2).trans c1, (hx2.cell (p := ⟨g2, j * 3 + 2, none⟩) hg2).trans c2'⟩
          have HSK := Lib.hid hbx
          have HBK := hide (below_on (unhide HBW) hwb)
          have HBRK := hide (below_on (unhide HBR) hwb)
          clear hbx hwb hwk c0 c1 c2' a0 a1 a2
          refine wp_region_noPanic ?_
          refine wp_region_held_drew (S := fun x => Below wk.heap.size wk x ∧ x.cell? ⟨wr.heap.size, 0, none⟩ = some (.int .u8 2) ∧ x.cell? ⟨wr.heap.size, 1, none⟩ = some (.string (ba tx)) ∧ x.cell? ⟨wr.heap.size, 2, none⟩ = some (.int .i64 (ta : Int)) ∧ x.cell? ⟨g2, j * 3, none⟩ = some (.int .u8 2) ∧ x.cell? ⟨g2, j * 3 + 1, none⟩ = some (.string (ba tx)) ∧ x.cell? ⟨g2, j * 3 + 2, none⟩ = some (.int .i64 (ta : Int))) (by kernel_rfl) (HSK.out _ (ride_drew (Below.refl _ _))) (fun hHeld => ?_)
          refine take_at (i := 0) (v := ?_) (some 40) rfl rfl (by kernel_rfl) (by kernel_rfl) (by kernel_rfl) (fun _ _ _ h => h) (Or.inl ⟨by rfl, ?_⟩) (by assumption) ?_
          rotate_left
          · intro w hSw
            obtain ⟨hSb, z0, z1, z2, z3, z4, z5⟩ := hSw
            first | (go_simp; done) | (go_simp; with_reducible rfl)
          try simp only [Act.put, List.setIfInBounds_toArray, List.set_cons_zero, List.set_cons_succ]
          refine take_at (i := 1) (v := ?_) (some 41) rfl rfl (by kernel_rfl) (by kernel_rfl) (by kernel_rfl) (fun _ _ _ h => h) (Or.inl ⟨by rfl, ?_⟩) (by assumption) ?_
          rotate_left
          · intro w hSw
            obtain ⟨hSb, z0, z1, z2, z3, z4, z5⟩ := hSw
            first | (go_simp; done) | (go_simp; with_reducible rfl)
          try simp only [Act.put, List.setIfInBounds_toArray, List.set_cons_zero, List.set_cons_succ]
          refine take_at (i := 2) (v := ?_) (some 42) rfl rfl (by kernel_rfl) (by kernel_rfl) (by kernel_rfl) (fun _ _ _ h => h) (Or.inl ⟨by rfl, ?_⟩) (by assumption) ?_
          rotate_left
          · intro w hSw
            obtain ⟨hSb, z0, z1, z2, z3, z4, z5⟩ := hSw
            first | (go_simp; done) | (go_simp; with_reducible rfl)
          try simp only [Act.put, List.setIfInBounds_toArray, List.set_cons_zero, List.set_cons_succ]
          refine take_at (i := 3) (v := ?_) (some 43) rfl rfl (by kernel_rfl) (by kernel_rfl) (by kernel_rfl) (fun _ _ _ h => h) (Or.inl ⟨by rfl, ?_⟩) (by assumption) ?_
          rotate_left
          · intro w hSw
            obtain ⟨hSb, z0, z1, z2, z3, z4, z5⟩ := hSw
            first | (go_simp; done) | (go_simp; with_reducible rfl)
          try simp only [Act.put, List.setIfInBounds_toArray, List.set_cons_zero, List.set_cons_succ]
          refine take_at (i := 4) (v := ?_) (some 44) rfl rfl (by kernel_rfl) (by kernel_rfl) (by kernel_rfl) (fun _ _ _ h => h) (Or.inl ⟨by rfl, ?_⟩) (by assumption) ?_
          rotate_left
          · intro w hSw
            obtain ⟨hSb, z0, z1, z2, z3, z4, z5⟩ := hSw
            first | (go_simp; done) | (go_simp; with_reducible rfl)
          try simp only [Act.put, List.setIfInBounds_toArray, List.set_cons_zero, List.set_cons_succ]
          refine take_at (i := 5) (v := ?_) (some 45) rfl rfl (by kernel_rfl) (by kernel_rfl) (by kernel_rfl) (fun _ _ _ h => h) (Or.inl ⟨by rfl, ?_⟩) (by assumption) ?_
          rotate_left
          · intro w hSw
            obtain ⟨hSb, z0, z1, z2, z3, z4, z5⟩ := hSw
            first | (go_simp; done) | (go_simp; with_reducible rfl)
          try simp only [Act.put, List.setIfInBounds_toArray, List.set_cons_zero, List.set_cons_succ]
          refine take_at (i := 6) (v := ?_) (some 46) rfl rfl (by kernel_rfl) (by kernel_rfl) (by kernel_rfl) (fun _ _ _ h => h) (Or.inl ⟨by rfl, ?_⟩) (by assumption) ?_
          rotate_left
          · intro w hSw
            obtain ⟨hSb, z0, z1, z2, z3, z4, z5⟩ := hSw
            first | (go_simp; done) | (go_simp; with_reducible rfl)
          try simp only [Act.put, List.setIfInBounds_toArray, List.set_cons_zero, List.set_cons_succ]
          refine take_at (i := 7) (v := ?_) (some 47) rfl rfl (by kernel_rfl) (by kernel_rfl) (by kernel_rfl) (fun _ _ _ h => h) (Or.inl ⟨by rfl, ?_⟩) (by assumption) ?_
          rotate_left
          · intro w hSw
            obtain ⟨hSb, z0, z1, z2, z3, z4, z5⟩ := hSw
            first | (go_simp; done) | (go_simp; with_reducible rfl)
          try simp only [Act.put, List.setIfInBounds_toArray, List.set_cons_zero, List.set_cons_succ]
          refine take_at (i := 8) (v := ?_) (some 48) rfl rfl (by kernel_rfl) (by kernel_rfl) (by kernel_rfl) (fun _ _ _ h => h) (Or.inl ⟨by rfl, ?_⟩) (by assumption) ?_
          rotate_left
          · intro w hSw
            obtain ⟨hSb, z0, z1, z2, z3, z4, z5⟩ := hSw
            first | (go_simp; done) | (go_simp; with_reducible rfl)
          try simp only [Act.put, List.setIfInBounds_toArray, List.set_cons_zero, List.set_cons_succ]
          refine take_at (i := 9) (v := ?_) (some 49) rfl rfl (by kernel_rfl) (by kernel_rfl) (by kernel_rfl) (fun _ _ _ h => h) (Or.inl ⟨by rfl, ?_⟩) (by assumption) ?_
          rotate_left
          · intro w hSw
            obtain ⟨hSb, z0, z1, z2, z3, z4, z5⟩ := hSw
            first | (go_simp; done) | (go_simp; with_reducible rfl)
          try simp only [Act.put, List.setIfInBounds_toArray, List.set_cons_zero, List.set_cons_succ]
          refine take_at (i := 10) (v := ?_) (some 50) rfl rfl (by kernel_rfl) (by kernel_rfl) (by kernel_rfl) (fun _ _ _ h => h) (Or.inl ⟨by rfl, ?_⟩) (by assumption) ?_
          rotate_left
          · intro w hSw
            obtain ⟨hSb, z0, z1, z2, z3, z4, z5⟩ := hSw
            first | (go_simp; done) | (go_simp; with_reducible rfl)
          try simp only [Act.put, List.setIfInBounds_toArray, List.set_cons_zero, List.set_cons_succ]
          refine take_at (i := 11) (v := ?_) (some 51) rfl rfl (by kernel_rfl) (by kernel_rfl) (by kernel_rfl) (fun _ _ _ h => h) (Or.inl ⟨by rfl, ?_⟩) (by assumption) ?_
          rotate_left
          · intro w hSw
            obtain ⟨hSb, z0, z1, z2, z3, z4, z5⟩ := hSw
            first | (go_simp; done) | (go_simp; with_reducible rfl)
          try simp only [Act.put, List.setIfInBounds_toArray, List.set_cons_zero, List.set_cons_succ]
          refine take_at (i := 13) (v := ?_) (some 53) rfl rfl (by kernel_rfl) (by kernel_rfl) (by kernel_rfl) (fun _ _ _ h => h) (Or.inl ⟨by rfl, ?_⟩) (by assumption) ?_
          rotate_left
          · intro w hSw
            obtain ⟨hSb, z0, z1, z2, z3, z4, z5⟩ := hSw
            first | (go_simp; done) | (go_simp; with_reducible rfl)
          try simp only [Act.put, List.setIfInBounds_toArray, List.set_cons_zero, List.set_cons_succ]
          refine take_at (i := 14) (v := ?_) (some 54) rfl rfl (by kernel_rfl) (by kernel_rfl) (by kernel_rfl) (fun _ _ _ h => h) (Or.inl ⟨by rfl, ?_⟩) (by assumption) ?_
          rotate_left
          · intro w hSw
            obtain ⟨hSb, z0, z1, z2, z3, z4, z5⟩ := hSw
            first | (go_simp; done) | (go_simp; with_reducible rfl)
          try simp only [Act.put, List.setIfInBounds_toArray, List.set_cons_zero, List.set_cons_succ]
          refine wpAnyH_ready (rs := [12]) (by kernel_rfl) (by simp) ?_
          refine AllReadyH.cons rfl (fun K hK => ?_) AllReadyH.nil
          go_simp
          refine (unhide (HV1 _ ((unhide HV).below (below_on (unhide HBK) hHeld.1)))).mono ?_
          rintro e w12 ⟨rfl, hb12⟩
          refine hK.out _ _ ?_ (fun hHeld2 => ?_)
          · exact HSK.out _ (ride_call hb12 hHeld.1)
          clear hK K hHeld
          have hHeld := hHeld2
          clear hHeld2
          try simp only [Act.put, List.setIfInBounds_toArray, List.set_cons_zero, List.set_cons_succ]
          refine wpAnyH_ready (rs := [15]) (by kernel_rfl) (by simp) ?_
          refine AllReadyH.cons rfl (fun K hK => ?_) AllReadyH.nil
          go_simp
          refine (unhide (HN1 _)).mono ?_
          rintro e w' ⟨rfl, rfl⟩
          refine hK.out _ _ ?_ (fun hHeld2 => ?_)
          · exact hHeld
          clear hK K hHeld
          have hHeld := hHeld2
          clear hHeld2
          try simp only [Act.put, List.setIfInBounds_toArray, List.set_cons_zero, List.set_cons_succ]
          refine take_at (i := 16) (v := ?_) (some 56) rfl rfl (by kernel_rfl) (by kernel_rfl) (by kernel_rfl) (fun _ _ _ h => h) (Or.inl ⟨by rfl, ?_⟩) (by assumption) ?_
          rotate_left
          · intro w hSw
            obtain ⟨hSb, z0, z1, z2, z3, z4, z5⟩ := hSw
            first | (go_simp; done) | (go_simp; with_reducible rfl)
          try simp only [Act.put, List.setIfInBounds_toArray, List.set_cons_zero, List.set_cons_succ]
          refine take_at (i := 17) (v := ?_) (some 57) rfl rfl (by kernel_rfl) (by kernel_rfl) (by kernel_rfl) (fun _ _ _ h => h) (Or.inl ⟨by rfl, ?_⟩) (by assumption) ?_
          rotate_left
          · intro w hSw
            obtain ⟨hSb, z0, z1, z2, z3, z4, z5⟩ := hSw
            first | (go_simp; done) | (go_simp; with_reducible rfl)
          try simp only [Act.put, List.setIfInBounds_toArray, List.set_cons_zero, List.set_cons_succ]
          refine take_at (i := 18) (v := ?_) (some 58) rfl rfl (by kernel_rfl) (by kernel_rfl) (by kernel_rfl) (fun _ _ _ h => h) (Or.inl ⟨by rfl, ?_⟩) (by assumption) ?_
          rotate_left
          · intro w hSw
            obtain ⟨hSb, z0, z1, z2, z3, z4, z5⟩ := hSw
            first | (go_simp; done) | (go_simp; with_reducible rfl)
          try simp only [Act.put, List.setIfInBounds_toArray, List.set_cons_zero, List.set_cons_succ]
          refine take_at (i := 19) (v := ?_) (some 59) rfl rfl (by kernel_rfl) (by kernel_rfl) (by kernel_rfl) (fun _ _ _ h => h) (Or.inl ⟨by rfl, ?_⟩) (by assumption) ?_
          rotate_left
          · intro w hSw
            obtain ⟨hSb, z0, z1, z2, z3, z4, z5⟩ := hSw
            first | (go_simp; done) | (go_simp; with_reducible rfl)
          try simp only [Act.put, List.setIfInBounds_toArray, List.set_cons_zero, List.set_cons_succ]
          refine take_at (i := 20) (v := ?_) (some 60) rfl rfl (by kernel_rfl) (by kernel_rfl) (by kernel_rfl) (fun _ _ _ h => h) (Or.inl ⟨by rfl, ?_⟩) (by assumption) ?_
          rotate_left
          · intro w hSw
            obtain ⟨hSb, z0, z1, z2, z3, z4, z5⟩ := hSw
            first | (go_simp; done) | (go_simp; with_reducible rfl)
          try simp only [Act.put, List.setIfInBounds_toArray, List.set_cons_zero, List.set_cons_succ]
          refine take_at (i := 21) (v := ?_) (some 61) rfl rfl (by kernel_rfl) (by kernel_rfl) (by kernel_rfl) (fun _ _ _ h => h) (Or.inl ⟨by rfl, ?_⟩) (by assumption) ?_
          rotate_left
          · intro w hSw
            obtain ⟨hSb, z0, z1, z2, z3, z4, z5⟩ := hSw
            first | (go_simp; done) | (go_simp; with_reducible rfl)
          try simp only [Act.put, List.setIfInBounds_toArray, List.set_cons_zero, List.set_cons_succ]
          refine take_at (i := 22) (v := ?_) (some 62) rfl rfl (by kernel_rfl) (by kernel_rfl) (by kernel_rfl) (fun _ _ _ h => h) (Or.inl ⟨by rfl, ?_⟩) (by assumption) ?_
          rotate_left
          · intro w hSw
            obtain ⟨hSb, z0, z1, z2, z3, z4, z5⟩ := hSw
            first | (go_simp; done) | (go_simp; with_reducible rfl)
          try simp only [Act.put, List.setIfInBounds_toArray, List.set_cons_zero, List.set_cons_succ]
          refine take_at (i := 23) (v := ?_) (some 63) rfl rfl (by kernel_rfl) (by kernel_rfl) (by kernel_rfl) (fun _ _ _ h => h) (Or.inl ⟨by rfl, ?_⟩) (by assumption) ?_
          rotate_left
          · intro w hSw
            obtain ⟨hSb, z0, z1, z2, z3, z4, z5⟩ := hSw
            first | (go_simp; done) | (go_simp; with_reducible rfl)
          try simp only [Act.put, List.setIfInBounds_toArray, List.set_cons_zero, List.set_cons_succ]
          refine take_at (i := 24) (v := undef) (some 64) rfl rfl (by kernel_rfl) (by kernel_rfl) (by kernel_rfl) (fun _ _ _ h => h) (Or.inr ⟨by rfl, rfl⟩) (by assumption) ?_
          try simp only [Act.put, List.setIfInBounds_toArray, List.set_cons_zero, List.set_cons_succ]
          refine take_at (i := 25) (v := undef) (some 65) rfl rfl (by kernel_rfl) (by kernel_rfl) (by kernel_rfl) (fun _ _ _ h => h) (Or.inr ⟨by rfl, rfl⟩) (by assumption) ?_
          try simp only [Act.put, List.setIfInBounds_toArray, List.set_cons_zero, List.set_cons_succ]
          refine take_at (i := 26) (v := undef) (some 66) rfl rfl (by kernel_rfl) (by kernel_rfl) (by kernel_rfl) (fun _ _ _ h => h) (Or.inr ⟨by rfl, rfl⟩) (by assumption) ?_
          try simp only [Act.put, List.setIfInBounds_toArray, List.set_cons_zero, List.set_cons_succ]
          refine take_at (i := 27) (v := ?_) (some 67) rfl rfl (by kernel_rfl) (by kernel_rfl) (by kernel_rfl) (fun _ _ _ h => h) (Or.inl ⟨by rfl, ?_⟩) (by assumption) ?_
          rotate_left
          · intro w hSw
            obtain ⟨hSb, z0, z1, z2, z3, z4, z5⟩ := hSw
            first | (go_simp; done) | (go_simp; with_reducible rfl)
          try simp only [Act.put, List.setIfInBounds_toArray, List.set_cons_zero, List.set_cons_succ]
          refine take_at (i := 28) (v := ?_) (some 68) rfl rfl (by kernel_rfl) (by kernel_rfl) (by kernel_rfl) (fun _ _ _ h => h) (Or.inl ⟨by rfl, ?_⟩) (by assumption) ?_
          rotate_left
          · intro w hSw
            obtain ⟨hSb, z0, z1, z2, z3, z4, z5⟩ := hSw
            first | (go_simp; done) | (go_simp; with_reducible rfl)
          try simp only [Act.put, List.setIfInBounds_toArray, List.set_cons_zero, List.set_cons_succ]
          refine wpAnyH_done (by kernel_rfl) ?_ _
          refine NoPanic.normal ?_
          have hfin := hide (below_on (unhide HBRK) hHeld.1)
          clear hHeld
          go_wp2
          go_roundw
          case rel => exact ⟨j + 1, by go_num, by omega, unhide hfin⟩
          case measure => simp [intOf]; omega
        · have HV1 := fun (x : World) (hx : Vr x) => hide (value_other x kk (ba tx) (ta : Int) hk2)
          have hk : ((kk : Int) == 2) = false := by rw [beq_eq_false_iff_ne]; omega
          have hkn : ((kk : Int) != 2) = true := by rw [bne, hk]; rfl
          clear hnum
          go_wp2_with fail
          obtain ⟨wk, hwk⟩ : ∃ wk, wk = wr.alloc (.cells #[.int .u8 (kk : Int), .string (ba tx), .int .i64 (ta : Int)] 32) := ⟨_, rfl⟩
          rw [← hwk]
          have hwb : Below wr.heap.size wr wk := by rw [hwk]; exact ride_alloc (Below.refl _ _) _
          have hbx : ∀ x, Below wk.heap.size wk x → Below wk.heap.size wk x ∧ x.cell? ⟨wr.heap.size, 0, none⟩ = some (.int .u8 (kk : Int)) ∧ x.cell? ⟨wr.heap.size, 1, none⟩ = some (.string (ba tx)) ∧ x.cell? ⟨wr.heap.size, 2, none⟩ = some (.int .i64 (ta : Int)) ∧ x.cell? ⟨g2, j * 3, none⟩ = some (.int .u8 (kk : Int)) ∧ x.cell? ⟨g2, j * 3 + 1, none⟩ = some (.string (ba tx)) ∧ x.cell? ⟨g2, j * 3 + 2, none⟩ = some (.int .i64 (ta : Int)) := fun x hx => by
            rw [hwk] at hx
            obtain ⟨z0, z1, z2⟩ := box_stays hx
            have hx2 := ride_call hx (ride_alloc (Below.refl wr.heap.size wr) _)
            exact ⟨by rw [hwk]; exact hx, z0, z1, z2, (hx2.cell (p := ⟨g2, j * 3, none⟩) hg2).trans c0, (hx2.cell (p := ⟨g2, j * 3 + 1, none⟩) hg2).trans c1, (hx2.cell (p := ⟨g2, j * 3 + 2, none⟩) hg2).trans c2'⟩
          have HSK := Lib.hid hbx
          have HBK := hide (below_on (unhide HBW) hwb)
          have HBRK := hide (below_on (unhide HBR) hwb)
          clear hbx hwb hwk c0 c1 c2' a0 a1 a2
          refine wp_region_noPanic ?_
          refine wp_region_held_drew (S := fun x => Below wk.heap.size wk x ∧ x.cell? ⟨wr.heap.size, 0, none⟩ = some (.int .u8 (kk : Int)) ∧ x.cell? ⟨wr.heap.size, 1, none⟩ = some (.string (ba tx)) ∧ x.cell? ⟨wr.heap.size, 2, none⟩ = some (.int .i64 (ta : Int)) ∧ x.cell? ⟨g2, j * 3, none⟩ = some (.int .u8 (kk : Int)) ∧ x.cell? ⟨g2, j * 3 + 1, none⟩ = some (.string (ba tx)) ∧ x.cell? ⟨g2, j * 3 + 2, none⟩ = some (.int .i64 (ta : Int))) (by kernel_rfl) (HSK.out _ (ride_drew (Below.refl _ _))) (fun hHeld => ?_)
          refine take_at (i := 0) (v := ?_) (some 40) rfl rfl (by kernel_rfl) (by kernel_rfl) (by kernel_rfl) (fun _ _ _ h => h) (Or.inl ⟨by rfl, ?_⟩) (by assumption) ?_
          rotate_left
          · intro w hSw
            obtain ⟨hSb, z0, z1, z2, z3, z4, z5⟩ := hSw
            first | (go_simp; done) | (go_simp; with_reducible rfl)
          try simp only [Act.put, List.setIfInBounds_toArray, List.set_cons_zero, List.set_cons_succ]
          refine take_at (i := 1) (v := ?_) (some 41) rfl rfl (by kernel_rfl) (by kernel_rfl) (by kernel_rfl) (fun _ _ _ h => h) (Or.inl ⟨by rfl, ?_⟩) (by assumption) ?_
          rotate_left
          · intro w hSw
            obtain ⟨hSb, z0, z1, z2, z3, z4, z5⟩ := hSw
            first | (go_simp; done) | (go_simp; with_reducible rfl)
          try simp only [Act.put, List.setIfInBounds_toArray, List.set_cons_zero, List.set_cons_succ]
          refine take_at (i := 2) (v := ?_) (some 42) rfl rfl (by kernel_rfl) (by kernel_rfl) (by kernel_rfl) (fun _ _ _ h => h) (Or.inl ⟨by rfl, ?_⟩) (by assumption) ?_
          rotate_left
          · intro w hSw
            obtain ⟨hSb, z0, z1, z2, z3, z4, z5⟩ := hSw
            first | (go_simp; done) | (go_simp; with_reducible rfl)
          try simp only [Act.put, List.setIfInBounds_toArray, List.set_cons_zero, List.set_cons_succ]
          refine take_at (i := 3) (v := ?_) (some 43) rfl rfl (by kernel_rfl) (by kernel_rfl) (by kernel_rfl) (fun _ _ _ h => h) (Or.inl ⟨by rfl, ?_⟩) (by assumption) ?_
          rotate_left
          · intro w hSw
            obtain ⟨hSb, z0, z1, z2, z3, z4, z5⟩ := hSw
            first | (go_simp; done) | (go_simp; with_reducible rfl)
          try simp only [Act.put, List.setIfInBounds_toArray, List.set_cons_zero, List.set_cons_succ]
          refine take_at (i := 4) (v := ?_) (some 44) rfl rfl (by kernel_rfl) (by kernel_rfl) (by kernel_rfl) (fun _ _ _ h => h) (Or.inl ⟨by rfl, ?_⟩) (by assumption) ?_
          rotate_left
          · intro w hSw
            obtain ⟨hSb, z0, z1, z2, z3, z4, z5⟩ := hSw
            first | (go_simp; done) | (go_simp; with_reducible rfl)
          try simp only [Act.put, List.setIfInBounds_toArray, List.set_cons_zero, List.set_cons_succ]
          refine take_at (i := 5) (v := ?_) (some 45) rfl rfl (by kernel_rfl) (by kernel_rfl) (by kernel_rfl) (fun _ _ _ h => h) (Or.inl ⟨by rfl, ?_⟩) (by assumption) ?_
          rotate_left
          · intro w hSw
            obtain ⟨hSb, z0, z1, z2, z3, z4, z5⟩ := hSw
            first | (go_simp; done) | (go_simp; with_reducible rfl)
          try simp only [Act.put, List.setIfInBounds_toArray, List.set_cons_zero, List.set_cons_succ]
          refine take_at (i := 6) (v := ?_) (some 46) rfl rfl (by kernel_rfl) (by kernel_rfl) (by kernel_rfl) (fun _ _ _ h => h) (Or.inl ⟨by rfl, ?_⟩) (by assumption) ?_
          rotate_left
          · intro w hSw
            obtain ⟨hSb, z0, z1, z2, z3, z4, z5⟩ := hSw
            first | (go_simp; done) | (go_simp; with_reducible rfl)
          try simp only [Act.put, List.setIfInBounds_toArray, List.set_cons_zero, List.set_cons_succ]
          refine take_at (i := 7) (v := ?_) (some 47) rfl rfl (by kernel_rfl) (by kernel_rfl) (by kernel_rfl) (fun _ _ _ h => h) (Or.inl ⟨by rfl, ?_⟩) (by assumption) ?_
          rotate_left
          · intro w hSw
            obtain ⟨hSb, z0, z1, z2, z3, z4, z5⟩ := hSw
            first | (go_simp; done) | (go_simp; with_reducible rfl)
          try simp only [Act.put, List.setIfInBounds_toArray, List.set_cons_zero, List.set_cons_succ]
          refine take_at (i := 8) (v := ?_) (some 48) rfl rfl (by kernel_rfl) (by kernel_rfl) (by kernel_rfl) (fun _ _ _ h => h) (Or.inl ⟨by rfl, ?_⟩) (by assumption) ?_
          rotate_left
          · intro w hSw
            obtain ⟨hSb, z0, z1, z2, z3, z4, z5⟩ := hSw
            first | (go_simp; done) | (go_simp; with_reducible rfl)
          try simp only [Act.put, List.setIfInBounds_toArray, List.set_cons_zero, List.set_cons_succ]
          refine take_at (i := 9) (v := ?_) (some 49) rfl rfl (by kernel_rfl) (by kernel_rfl) (by kernel_rfl) (fun _ _ _ h => h) (Or.inl ⟨by rfl, ?_⟩) (by assumption) ?_
          rotate_left
          · intro w hSw
            obtain ⟨hSb, z0, z1, z2, z3, z4, z5⟩ := hSw
            first | (go_simp; done) | (go_simp; with_reducible rfl)
          try simp only [Act.put, List.setIfInBounds_toArray, List.set_cons_zero, List.set_cons_succ]
          refine take_at (i := 10) (v := ?_) (some 50) rfl rfl (by kernel_rfl) (by kernel_rfl) (by kernel_rfl) (fun _ _ _ h => h) (Or.inl ⟨by rfl, ?_⟩) (by assumption) ?_
          rotate_left
          · intro w hSw
            obtain ⟨hSb, z0, z1, z2, z3, z4, z5⟩ := hSw
            first | (go_simp; done) | (go_simp; with_reducible rfl)
          try simp only [Act.put, List.setIfInBounds_toArray, List.set_cons_zero, List.set_cons_succ]
          refine take_at (i := 11) (v := undef) (some 51) rfl rfl (by kernel_rfl) (by kernel_rfl) (by kernel_rfl) (fun _ _ _ h => h) (Or.inr ⟨by rfl, rfl⟩) (by assumption) ?_
          try simp only [Act.put, List.setIfInBounds_toArray, List.set_cons_zero, List.set_cons_succ]
          refine take_at (i := 12) (v := undef) (some 52) rfl rfl (by kernel_rfl) (by kernel_rfl) (by kernel_rfl) (fun _ _ _ h => h) (Or.inr ⟨by rfl, rfl⟩) (by assumption) ?_
          try simp only [Act.put, List.setIfInBounds_toArray, List.set_cons_zero, List.set_cons_succ]
          refine take_at (i := 13) (v := undef) (some 53) rfl rfl (by kernel_rfl) (by kernel_rfl) (by kernel_rfl) (fun _ _ _ h => h) (Or.inr ⟨by rfl, rfl⟩) (by assumption) ?_
          try simp only [Act.put, List.setIfInBounds_toArray, List.set_cons_zero, List.set_cons_succ]
          refine take_at (i := 14) (v := undef) (some 54) rfl rfl (by kernel_rfl) (by kernel_rfl) (by kernel_rfl) (fun _ _ _ h => h) (Or.inr ⟨by rfl, rfl⟩) (by assumption) ?_
          try simp only [Act.put, List.setIfInBounds_toArray, List.set_cons_zero, List.set_cons_succ]
          refine take_at (i := 15) (v := undef) (some 55) rfl rfl (by kernel_rfl) (by kernel_rfl) (by kernel_rfl) (fun _ _ _ h => h) (Or.inr ⟨by rfl, rfl⟩) (by assumption) ?_
          try simp only [Act.put, List.setIfInBounds_toArray, List.set_cons_zero, List.set_cons_succ]
          refine take_at (i := 16) (v := undef) (some 56) rfl rfl (by kernel_rfl) (by kernel_rfl) (by kernel_rfl) (fun _ _ _ h => h) (Or.inr ⟨by rfl, rfl⟩) (by assumption) ?_
          try simp only [Act.put, List.setIfInBounds_toArray, List.set_cons_zero, List.set_cons_succ]
          refine take_at (i := 17) (v := ?_) (some 57) rfl rfl (by kernel_rfl) (by kernel_rfl) (by kernel_rfl) (fun _ _ _ h => h) (Or.inl ⟨by rfl, ?_⟩) (by assumption) ?_
          rotate_left
          · intro w hSw
            obtain ⟨hSb, z0, z1, z2, z3, z4, z5⟩ := hSw
            first | (go_simp; done) | (go_simp; with_reducible rfl)
          try simp only [Act.put, List.setIfInBounds_toArray, List.set_cons_zero, List.set_cons_succ]
          refine take_at (i := 18) (v := ?_) (some 58) rfl rfl (by kernel_rfl) (by kernel_rfl) (by kernel_rfl) (fun _ _ _ h => h) (Or.inl ⟨by rfl, ?_⟩) (by assumption) ?_
          rotate_left
          · intro w hSw
            obtain ⟨hSb, z0, z1, z2, z3, z4, z5⟩ := hSw
            first | (go_simp; done) | (go_simp; with_reducible rfl)
          try simp only [Act.put, List.setIfInBounds_toArray, List.set_cons_zero, List.set_cons_succ]
          refine take_at (i := 19) (v := ?_) (some 59) rfl rfl (by kernel_rfl) (by kernel_rfl) (by kernel_rfl) (fun _ _ _ h => h) (Or.inl ⟨by rfl, ?_⟩) (by assumption) ?_
          rotate_left
          · intro w hSw
            obtain ⟨hSb, z0, z1, z2, z3, z4, z5⟩ := hSw
            first | (go_simp; done) | (go_simp; with_reducible rfl)
          try simp only [Act.put, List.setIfInBounds_toArray, List.set_cons_zero, List.set_cons_succ]
          refine take_at (i := 20) (v := ?_) (some 60) rfl rfl (by kernel_rfl) (by kernel_rfl) (by kernel_rfl) (fun _ _ _ h => h) (Or.inl ⟨by rfl, ?_⟩) (by assumption) ?_
          rotate_left
          · intro w hSw
            obtain ⟨hSb, z0, z1, z2, z3, z4, z5⟩ := hSw
            first | (go_simp; done) | (go_simp; with_reducible rfl)
          try simp only [Act.put, List.setIfInBounds_toArray, List.set_cons_zero, List.set_cons_succ]
          refine take_at (i := 21) (v := ?_) (some 61) rfl rfl (by kernel_rfl) (by kernel_rfl) (by kernel_rfl) (fun _ _ _ h => h) (Or.inl ⟨by rfl, ?_⟩) (by assumption) ?_
          rotate_left
          · intro w hSw
            obtain ⟨hSb, z0, z1, z2, z3, z4, z5⟩ := hSw
            first | (go_simp; done) | (go_simp; with_reducible rfl)
          try simp only [Act.put, List.setIfInBounds_toArray, List.set_cons_zero, List.set_cons_succ]
          refine take_at (i := 22) (v := ?_) (some 62) rfl rfl (by kernel_rfl) (by kernel_rfl) (by kernel_rfl) (fun _ _ _ h => h) (Or.inl ⟨by rfl, ?_⟩) (by assumption) ?_
          rotate_left
          · intro w hSw
            obtain ⟨hSb, z0, z1, z2, z3, z4, z5⟩ := hSw
            first | (go_simp; done) | (go_simp; with_reducible rfl)
          try simp only [Act.put, List.setIfInBounds_toArray, List.set_cons_zero, List.set_cons_succ]
          refine take_at (i := 23) (v := ?_) (some 63) rfl rfl (by kernel_rfl) (by kernel_rfl) (by kernel_rfl) (fun _ _ _ h => h) (Or.inl ⟨by rfl, ?_⟩) (by assumption) ?_
          rotate_left
          · intro w hSw
            obtain ⟨hSb, z0, z1, z2, z3, z4, z5⟩ := hSw
            first | (go_simp; done) | (go_simp; with_reducible rfl)
          try simp only [Act.put, List.setIfInBounds_toArray, List.set_cons_zero, List.set_cons_succ]
          refine take_at (i := 24) (v := ?_) (some 64) rfl rfl (by kernel_rfl) (by kernel_rfl) (by kernel_rfl) (fun _ _ _ h => h) (Or.inl ⟨by rfl, ?_⟩) (by assumption) ?_
          rotate_left
          · intro w hSw
            obtain ⟨hSb, z0, z1, z2, z3, z4, z5⟩ := hSw
            first | (go_simp; done) | (go_simp; with_reducible rfl)
          try simp only [Act.put, List.setIfInBounds_toArray, List.set_cons_zero, List.set_cons_succ]
          refine wpAnyH_ready (rs := [25]) (by kernel_rfl) (by simp) ?_
          refine AllReadyH.cons rfl (fun K hK => ?_) AllReadyH.nil
          go_simp
          refine (unhide (HV1 _ ((unhide HV).below (below_on (unhide HBK) hHeld.1)))).mono ?_
          rintro e w12 ⟨rfl, hb12⟩
          refine hK.out _ _ ?_ (fun hHeld2 => ?_)
          · exact HSK.out _ (ride_call hb12 hHeld.1)
          clear hK K hHeld
          have hHeld := hHeld2
          clear hHeld2
          try simp only [Act.put, List.setIfInBounds_toArray, List.set_cons_zero, List.set_cons_succ]
          refine take_at (i := 26) (v := ?_) (some 66) rfl rfl (by kernel_rfl) (by kernel_rfl) (by kernel_rfl) (fun _ _ _ h => h) (Or.inl ⟨by rfl, ?_⟩) (by assumption) ?_
          rotate_left
          · intro w hSw
            obtain ⟨hSb, z0, z1, z2, z3, z4, z5⟩ := hSw
            first | (go_simp; done) | (go_simp; with_reducible rfl)
          try simp only [Act.put, List.setIfInBounds_toArray, List.set_cons_zero, List.set_cons_succ]
          refine take_at (i := 27) (v := ?_) (some 67) rfl rfl (by kernel_rfl) (by kernel_rfl) (by kernel_rfl) (fun _ _ _ h => h) (Or.inl ⟨by rfl, ?_⟩) (by assumption) ?_
          rotate_left
          · intro w hSw
            obtain ⟨hSb, z0, z1, z2, z3, z4, z5⟩ := hSw
            first | (go_simp; done) | (go_simp; with_reducible rfl)
          try simp only [Act.put, List.setIfInBounds_toArray, List.set_cons_zero, List.set_cons_succ]
          refine take_at (i := 28) (v := ?_) (some 68) rfl rfl (by kernel_rfl) (by kernel_rfl) (by kernel_rfl) (fun _ _ _ h => h) (Or.inl ⟨by rfl, ?_⟩) (by assumption) ?_
          rotate_left
          · intro w hSw
            obtain ⟨hSb, z0, z1, z2, z3, z4, z5⟩ := hSw
            first | (go_simp; done) | (go_simp; with_reducible rfl)
          try simp only [Act.put, List.setIfInBounds_toArray, List.set_cons_zero, List.set_cons_succ]
          refine wpAnyH_done (by kernel_rfl) ?_ _
          refine NoPanic.normal ?_
          have hfin := hide (below_on (unhide HBRK) hHeld.1)
          clear hHeld
          go_wp2
          go_roundw
          case rel => exact ⟨j + 1, by go_num, by omega, unhide hfin⟩
          case measure => simp [intOf]; omega
      · go_wp2
        go_ret
        exact ⟨rfl, below_on (unhide HB4) (unhide HBR)⟩
end Go.Proofs.YtiimkodgfhkbpaaDoor
