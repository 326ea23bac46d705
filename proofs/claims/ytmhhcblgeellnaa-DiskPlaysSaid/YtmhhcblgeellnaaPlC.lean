/- Contracts: what the law's like answers of a disk and its reference. -/
import Derived.Test.YtmhhcblgeellnaaRdC
import Derived.Test.YtmhhcblgeellnaaPlA
import Derived.Test.YtmhhcblgeellnaaApart
namespace Go.Proofs.Ytmhhcblgeellnaa
open Go.RowKit
set_option linter.unusedSimpArgs false
set_option linter.unusedVariables false

theorem bel_alloc {a x : World} (h : Below a.heap.size a x) (o : Obj) : Below a.heap.size a (x.alloc o) := h.alloc h.size o
def LikR (w1 : World) (n : Nat) (t : Value) (x : World) : Prop := ∃ k : Nat, k ≤ n ∧ t = .int .i64 (k : Int) ∧ Below w1.heap.size w1 x
set_option maxRecDepth 100000 in
set_option maxHeartbeats 4000000 in
theorem like_any {w : World} {gs : Nat} {b : DB} {dur : List (List Nat)} {pend : List (Nat × List Nat)} {nw bud : Int} (h : Disk w gs b dur pend nw bud) {base gx : Nat} {sv av wv : Value} {ss ws : List Value} {left : Int} (hr : RD w base gx sv av wv ss ws dur pend left) (hbase : base ≤ w.heap.size) (hmany : pend.length ≤ 1000) :
    Calls Try.prog 14 #[.pointer (some ⟨gs, 0, none⟩), .pointer (some ⟨gx, 0, none⟩)] w fun e w' => e = .returned (.bool true) ∧ Below w.heap.size w w' := by
  have HWT := hide (waiting_any h)
  have HD := Lib.hid h
  have HR := Lib.hid hr
  have hfew := h.few
  have HZ0 : Hid (∀ w : World, Mine (w.alloc (.cells (byt noughts).toArray 5)) w.heap.size (some ⟨w.heap.size, 0, none⟩) 512 512 noughts) := sec_made
  have hmk : ∀ w : World, (Instr.makeSlice 30 (.int .i64 512) (.int .i64 512)).run Try.prog w = .ok (.slice (some ⟨w.heap.size, 0, none⟩) 512 512) (w.alloc (.cells (byt noughts).toArray 5)) := run_make512
  obtain ⟨Z, hZ⟩ : ∃ Z, Z = byt noughts := ⟨_, rfl⟩
  rw [← hZ] at hmk HZ0
  have HZ := HZ0
  obtain ⟨NO, hNO⟩ : ∃ NO, NO = noughts := ⟨_, rfl⟩
  rw [← hNO] at HZ
  clear hZ h hr HZ0
  obtain ⟨n, hn⟩ : ∃ n, n = pend.length := ⟨_, rfl⟩
  obtain ⟨N, hN⟩ : ∃ N, N = dur.length := ⟨_, rfl⟩
  have HN := Lib.hid hn
  have HNN := Lib.hid hN
  rw [← hN] at hfew
  rw [← hn] at hmany
  clear hn hN
  go_enter Try.func14, Try.ntmps14
  go_wp2_with (go_at_call 23; (with_reducible refine (unhide HWT).mono ?_); rintro e w1 ⟨g, c, he1, hown1, hb1⟩; go_loud (
    rw [← HN.out] at he1;
    subst he1;
    rw [← HN.out] at hown1;
    have hD1 := HD.out.below hb1;
    have hR1 := HR.out.below hb1;
    have hse : ∀ q, Calls Try.prog 27 #[.pointer (some ⟨gs, 0, none⟩)] (w1.drewN q) fun e w' => e = .returned (.int .i64 (N : Int)) ∧ w' = w1.drewN q := (fun q => by
      have h9 := sectors_any (hD1.drewN q)
      rw [← HNN.out] at h9
      exact h9.mono fun e w' h => ⟨h.1, h.2.symm⟩);
    have HSE := hide hse;
    have c0 := hR1.c0;
    have c1 := hR1.c1;
    obtain ⟨SA, sc, hsv⟩ := pv_form hR1.safe.row;
    obtain ⟨AA, ac, hav⟩ := pv_form hR1.at_;
    rw [← HNN.out] at hsv;
    rw [← HN.out] at hav;
    rw [hsv] at c0;
    rw [hav] at c1))
  go_quiet ((go_at_call 27; exact Calls.quiet_of_same (unhide HSE _)))
  have HOWN := Lib.hid hown1
  have HB1 := Lib.hid hb1
  have HR1 := Lib.hid hR1
  have HSV := Lib.hid hsv
  have HAV := Lib.hid hav
  clear HWT HSE hse hown1 hD1 hR1 hb1 hsv hav
  go_wp2_with fail
  go_loopw [33] (fun t x => LikR w1 n t x) (fun t _ => n - (intOf t).toNat)
  case atStart => exact ⟨0, Nat.zero_le _, rfl, by repeat (first | assumption | exact Below.refl _ _ | refine Below.drew ?_ | refine below_drewN ?_ _ | refine bel_alloc ?_ _)⟩
  case round =>
    obtain ⟨k, hk, rfl, hB⟩ := hrel
    have HB := Lib.hid hB
    by_cases hlt : k < n
    · obtain ⟨p, hp⟩ : ∃ p, pend[k]? = some p := ⟨_, List.getElem?_eq_getElem (by rw [← HN.out]; exact hlt)⟩
      have hpi : (ints (pend.map (·.1)))[k]? = some (.int .i64 (p.1 : Int)) := by unfold ints; rw [List.getElem?_map, List.getElem?_map, hp]; rfl
      obtain ⟨hcw, -⟩ := row_cell (ownsRow_below HOWN.out hB) hpi
      have hRk := HR1.out.below hB
      obtain ⟨ga, acap, -, hav, -, -, -⟩ := row_place hRk.at_ (by rw [← HN.out]; omega)
      rw [← HN.out] at hav
      have hA : AA = some ⟨ga, 0, none⟩ := by
        have h9 := HAV.out.symm.trans hav
        injection h9
      subst hA
      have hrow := hRk.at_
      rw [hav, ← HN.out] at hrow
      obtain ⟨hca, -⟩ := row_cell hrow hpi
      have ck1 := hRk.c1
      rw [HAV.out] at ck1
      have k0 : (0 : Int) ≤ (k : Int) := by omega
      have k1 : (k : Int) < (n : Int) := by omega
      clear hB hp hpi hRk hrow hav
      go_wp2_with fail
      go_quiet (fail)
      go_wp2_with fail
      go_roundw
      case rel => exact ⟨k + 1, by omega, by go_num, by have HB9 := HB.out; repeat (first | assumption | exact Below.refl _ _ | refine Below.drew ?_ | refine below_drewN ?_ _ | refine bel_alloc ?_ _)⟩
      case measure => simp [intOf]; omega
    · obtain rfl : k = n := by omega
      have ck0 := (HR1.out.below hB).c0
      rw [HSV.out] at ck0
      clear hB
      go_wp2_with fail
      go_loopw [54] (fun t x => LikR w1 N t x) (fun t _ => N - (intOf t).toNat)
      case atStart => exact ⟨0, Nat.zero_le _, rfl, by have HB9 := HB.out; repeat (first | assumption | exact Below.refl _ _ | refine Below.drew ?_ | refine below_drewN ?_ _ | refine bel_alloc ?_ _)⟩
      case round =>
        obtain ⟨k2, hk2, rfl, hB2⟩ := hrel
        by_cases hlt2 : k2 < N
        · have hDk := HD.out.below (HB1.out.trans (hB2.mono HB1.out.size))
          obtain ⟨s, hs⟩ : ∃ s, (applied pend dur)[k2]? = some s := ⟨_, List.getElem?_eq_getElem (by rw [applied_length, ← HNN.out]; exact hlt2)⟩
          have HRD := hide (read_any hDk k2 (by rw [← HNN.out]; exact hlt2) s hs)
          have HDK := Lib.hid hDk
          have HRK := Lib.hid (HR1.out.below hB2)
          have HS := Lib.hid hs
          have HB2 := Lib.hid hB2
          clear hDk hs hB2
          go_wp2_with (first
            | (go_at_call 21; (with_reducible refine (unhide HRD).mono ?_); rintro e w3 ⟨g3, rfl, hM3, hb3⟩; go_loud (
                have hD3 := HDK.out.below hb3;
                have hR3 := HRK.out.below hb3;
                have HRR := hide (rread_any hR3 (by rw [← HNN.out]; omega) (by rw [← HN.out]; omega) k2 (by rw [← HNN.out]; exact hlt2))))
            | (go_at_call 31; (with_reducible refine (unhide HRR).mono ?_); rintro e w' ⟨⟨s2, A4, c4, rfl, hM4, hs2⟩, rfl⟩))
          obtain rfl : s = s2 := Option.some.inj (HS.out.symm.trans hs2)
          have hsa : ∀ x, Below w3.heap.size w3 x → Calls Try.prog 22 #[.slice (some ⟨g3, 0, none⟩) 512 512, .slice A4 512 c4] x (Quietly x (.bool true)) := fun x hx => by
            have h9 := same_any x _ _ s s ((hM3.below hx).bytes) ((hM4.below hx).bytes)
            rw [show decide (s = s) = true from decide_eq_true rfl] at h9
            exact h9
          have hsb : ∀ x g9, Below w3.heap.size w3 x → Mine x 0 (some ⟨g9, 0, none⟩) 512 512 NO → Calls Try.prog 22 #[.slice A4 512 c4, .slice (some ⟨g9, 0, none⟩) 512 512] x (Quietly x (.bool (decide (s = NO)))) := fun x g9 hx hm =>
            same_any x _ _ s NO ((hM4.below hx).bytes) hm.bytes
          have hbl : ∀ x, Below w3.heap.size w3 x → Calls Try.prog 25 #[.pointer (some ⟨gs, 0, none⟩), .int .i64 (k2 : Int)] x fun e w' => e = .returned (.bool (decide (s = NO))) ∧ x = w' := fun x hx => by
            rw [hNO]
            exact blank_any (hD3.below hx) k2 (by rw [← HNN.out]; exact hlt2) s HS.out
          have HSA := Lib.hid hsa
          have HSB := Lib.hid hsb
          have HBL := Lib.hid hbl
          have HB13 : Hid (Below w1.heap.size w1 w3) := HB2.out.trans (hb3.mono HB2.out.size)
          clear hsa hsb hbl hM3 hM4 hD3 hR3 hb3 hs2 HRD HRR
          generalize decide (s = NO) = bl at HSB HBL
          refine wp_region_noPanic ?_
          refine region_till [16] (fun _ _ => True) (by kernel_rfl) (fun _ => trivial) (fun hHeld => ?_)
          refine till_take 16 (i := 0) (v := ?_) (some 66) rfl rfl (by kernel_rfl) (by kernel_rfl) (by kernel_rfl) (by kernel_rfl) (fun _ _ _ h => h) (Or.inl ⟨by rfl, ?_⟩) (by assumption) (fun hHeld2 => ?_)
          rotate_left
          · intro w hSw
            skip
            first | (go_simp; done) | (go_simp; with_reducible rfl)
          clear hHeld
          have hHeld := hHeld2
          clear hHeld2
          try simp only [Act.put, List.setIfInBounds_toArray, List.set_cons_zero, List.set_cons_succ]
          refine till_take 16 (i := 1) (v := ?_) (some 67) rfl rfl (by kernel_rfl) (by kernel_rfl) (by kernel_rfl) (by kernel_rfl) (fun _ _ _ h => h) (Or.inl ⟨by rfl, ?_⟩) (by assumption) (fun hHeld2 => ?_)
          rotate_left
          · intro w hSw
            skip
            first | (go_simp; done) | (go_simp; with_reducible rfl)
          clear hHeld
          have hHeld := hHeld2
          clear hHeld2
          try simp only [Act.put, List.setIfInBounds_toArray, List.set_cons_zero, List.set_cons_succ]
          refine till_take 16 (i := 2) (v := ?_) (some 68) rfl rfl (by kernel_rfl) (by kernel_rfl) (by kernel_rfl) (by kernel_rfl) (fun _ _ _ h => h) (Or.inl ⟨by rfl, ?_⟩) (by assumption) (fun hHeld2 => ?_)
          rotate_left
          · intro w hSw
            skip
            first | (go_simp; done) | (go_simp; with_reducible rfl)
          clear hHeld
          have hHeld := hHeld2
          clear hHeld2
          try simp only [Act.put, List.setIfInBounds_toArray, List.set_cons_zero, List.set_cons_succ]
          refine till_take 16 (i := 3) (v := ?_) (some 69) rfl rfl (by kernel_rfl) (by kernel_rfl) (by kernel_rfl) (by kernel_rfl) (fun _ _ _ h => h) (Or.inl ⟨by rfl, ?_⟩) (by assumption) (fun hHeld2 => ?_)
          rotate_left
          · intro w hSw
            skip
            first | (go_simp; done) | (go_simp; with_reducible rfl)
          clear hHeld
          have hHeld := hHeld2
          clear hHeld2
          try simp only [Act.put, List.setIfInBounds_toArray, List.set_cons_zero, List.set_cons_succ]
          refine till_take 16 (i := 4) (v := ?_) (some 70) rfl rfl (by kernel_rfl) (by kernel_rfl) (by kernel_rfl) (by kernel_rfl) (fun _ _ _ h => h) (Or.inl ⟨by rfl, ?_⟩) (by assumption) (fun hHeld2 => ?_)
          rotate_left
          · intro w hSw
            skip
            first | (go_simp; done) | (go_simp; with_reducible rfl)
          clear hHeld
          have hHeld := hHeld2
          clear hHeld2
          try simp only [Act.put, List.setIfInBounds_toArray, List.set_cons_zero, List.set_cons_succ]
          refine till_ready (rs := [5]) (by kernel_rfl) (by simp) ?_
          refine (AllTill.cons rfl (fun K hK => ?_) AllTill.nil)
          go_simp
          refine (HSA.out _ ?_).mono ?_
          · repeat (first | assumption | exact Below.refl _ _ | refine Below.drew ?_ | refine below_drewN ?_ _ | refine bel_alloc ?_ _)
          rintro e w8 ⟨rfl, q8, hw8⟩
          have b8 : Below w3.heap.size w3 w8 := by
            rw [hw8]
            refine below_drewN ?_ q8
            repeat (first | assumption | exact Below.refl _ _ | refine Below.drew ?_ | refine below_drewN ?_ _ | refine bel_alloc ?_ _)
          clear hw8
          refine hK.out _ _ ?_ (fun hHeld2 => ?_)
          · exact fun _ _ _ => trivial
          clear hK K
          clear hHeld
          have hHeld := hHeld2
          clear hHeld2
          try simp only [Act.put, List.setIfInBounds_toArray, List.set_cons_zero, List.set_cons_succ]
          refine till_take 16 (i := 6) (v := ?_) (some 72) rfl rfl (by kernel_rfl) (by kernel_rfl) (by kernel_rfl) (by kernel_rfl) (fun _ _ _ h => h) (Or.inl ⟨by rfl, ?_⟩) (by assumption) (fun hHeld2 => ?_)
          rotate_left
          · intro w hSw
            skip
            first | (go_simp; done) | (go_simp; with_reducible rfl)
          clear hHeld
          have hHeld := hHeld2
          clear hHeld2
          try simp only [Act.put, List.setIfInBounds_toArray, List.set_cons_zero, List.set_cons_succ]
          refine till_take 16 (i := 7) (v := ?_) (some 73) rfl rfl (by kernel_rfl) (by kernel_rfl) (by kernel_rfl) (by kernel_rfl) (fun _ _ _ h => h) (Or.inl ⟨by rfl, ?_⟩) (by assumption) (fun hHeld2 => ?_)
          rotate_left
          · intro w hSw
            skip
            first | (go_simp; done) | (go_simp; with_reducible rfl)
          clear hHeld
          have hHeld := hHeld2
          clear hHeld2
          try simp only [Act.put, List.setIfInBounds_toArray, List.set_cons_zero, List.set_cons_succ]
          refine till_take 16 (i := 8) (v := ?_) (some 74) rfl rfl (by kernel_rfl) (by kernel_rfl) (by kernel_rfl) (by kernel_rfl) (fun _ _ _ h => h) (Or.inl ⟨by rfl, ?_⟩) (by assumption) (fun hHeld2 => ?_)
          rotate_left
          · intro w hSw
            skip
            first | (go_simp; done) | (go_simp; with_reducible rfl)
          clear hHeld
          have hHeld := hHeld2
          clear hHeld2
          try simp only [Act.put, List.setIfInBounds_toArray, List.set_cons_zero, List.set_cons_succ]
          refine till_take 16 (i := 9) (v := ?_) (some 75) rfl rfl (by kernel_rfl) (by kernel_rfl) (by kernel_rfl) (by kernel_rfl) (fun _ _ _ h => h) (Or.inl ⟨by rfl, ?_⟩) (by assumption) (fun hHeld2 => ?_)
          rotate_left
          · intro w hSw
            skip
            first | (go_simp; done) | (go_simp; with_reducible rfl)
          clear hHeld
          have hHeld := hHeld2
          clear hHeld2
          try simp only [Act.put, List.setIfInBounds_toArray, List.set_cons_zero, List.set_cons_succ]
          refine till_take 16 (i := 10) (v := ?_) (some 76) rfl rfl (by kernel_rfl) (by kernel_rfl) (by kernel_rfl) (by kernel_rfl) (fun _ _ _ h => h) (Or.inl ⟨by rfl, ?_⟩) (by assumption) (fun hHeld2 => ?_)
          rotate_left
          · intro w hSw
            skip
            first | (go_simp; done) | (go_simp; with_reducible rfl)
          clear hHeld
          have hHeld := hHeld2
          clear hHeld2
          try simp only [Act.put, List.setIfInBounds_toArray, List.set_cons_zero, List.set_cons_succ]
          refine till_take 16 (i := 12) (v := ?_) (some 78) rfl rfl (by kernel_rfl) (by kernel_rfl) (by kernel_rfl) (by kernel_rfl) (fun _ _ _ h => h) (Or.inl ⟨by rfl, ?_⟩) (by assumption) (fun hHeld2 => ?_)
          rotate_left
          · intro w hSw
            skip
            first | (go_simp; done) | (go_simp; with_reducible rfl)
          clear hHeld
          have hHeld := hHeld2
          clear hHeld2
          try simp only [Act.put, List.setIfInBounds_toArray, List.set_cons_zero, List.set_cons_succ]
          refine till_ready (rs := [11, 13]) (by kernel_rfl) (by simp) ?_
          refine (AllTill.cons rfl (fun K hK => ?_) (AllTill.cons rfl (fun K hK => ?_) AllTill.nil))
          · go_simp
            refine (HBL.out _ ?_).mono ?_
            · repeat (first | assumption | exact Below.refl _ _ | refine Below.drew ?_ | refine below_drewN ?_ _ | refine bel_alloc ?_ _)
            rintro e w9 ⟨rfl, rfl⟩
            refine hK.out _ _ ?_ (fun hHeld2 => ?_)
            · exact fun _ _ _ => trivial
            clear hK K
            clear hHeld
            have hHeld := hHeld2
            clear hHeld2
            try simp only [Act.put, List.setIfInBounds_toArray, List.set_cons_zero, List.set_cons_succ]
            refine till_ready (rs := [13]) (by kernel_rfl) (by simp) ?_
            refine (AllTill.cons rfl (fun K hK => ?_) AllTill.nil)
            go_simp
            refine hK.out _ _ ?_ (fun hHeld2 => ?_)
            · exact fun _ _ _ => trivial
            clear hK K
            clear hHeld
            have hHeld := hHeld2
            clear hHeld2
            try simp only [Act.put, List.setIfInBounds_toArray, List.set_cons_zero, List.set_cons_succ]
            refine till_ready (rs := [14]) (by kernel_rfl) (by simp) ?_
            refine (AllTill.cons rfl (fun K hK => ?_) AllTill.nil)
            go_simp
            refine (HSB.out _ _ ?_ ?_).mono ?_
            · repeat (first | assumption | exact Below.refl _ _ | refine Below.drew ?_ | refine below_drewN ?_ _ | refine bel_alloc ?_ _)
            · refine ((HZ.out _).lower (Nat.zero_le _)).below ?_
              repeat (first | assumption | exact Below.refl _ _ | refine Below.drew ?_ | refine below_drewN ?_ _ | refine bel_alloc ?_ _)
            rintro e w10 ⟨rfl, q10, hw10⟩
            have b10 : Below w3.heap.size w3 w10 := by
              rw [hw10]
              refine below_drewN ?_ q10
              repeat (first | assumption | exact Below.refl _ _ | refine Below.drew ?_ | refine below_drewN ?_ _ | refine bel_alloc ?_ _)
            clear hw10
            refine hK.out _ _ ?_ (fun hHeld2 => ?_)
            · exact fun _ _ _ => trivial
            clear hK K
            clear hHeld
            have hHeld := hHeld2
            clear hHeld2
            try simp only [Act.put, List.setIfInBounds_toArray, List.set_cons_zero, List.set_cons_succ]
            refine till_take 16 (i := 15) (v := ?_) (some 81) rfl rfl (by kernel_rfl) (by kernel_rfl) (by kernel_rfl) (by kernel_rfl) (fun _ _ _ h => h) (Or.inl ⟨by rfl, ?_⟩) (by assumption) (fun hHeld2 => ?_)
            rotate_left
            · intro w hSw
              skip
              first | (go_simp; done) | (go_simp; with_reducible rfl)
            clear hHeld
            have hHeld := hHeld2
            clear hHeld2
            try simp only [Act.put, List.setIfInBounds_toArray, List.set_cons_zero, List.set_cons_succ]
            refine till_ready (rs := [16]) (by kernel_rfl) (by simp) ?_
            refine (AllTill.cons rfl (fun K hK => ?_) AllTill.nil)
            go_simp
            refine hK.out _ _ ?_ (fun hHeld2 => ?_)
            · exact held_late rfl
            clear hK K
            clear hHeld
            have hHeld := hHeld2
            clear hHeld2
            try simp only [Act.put, List.setIfInBounds_toArray, List.set_cons_zero, List.set_cons_succ]
            refine till_done (by kernel_rfl) ?_ _
            refine NoPanic.normal ?_
            go_wp2
            go_roundw
            case rel =>
              refine ⟨k2 + 1, by omega, by go_num, HB13.out.trans (Below.mono ?_ HB13.out.size)⟩
              repeat (first | assumption | exact Below.refl _ _ | refine Below.drew ?_ | refine below_drewN ?_ _ | refine bel_alloc ?_ _)
            case measure => simp [intOf]; omega
          · go_simp
            refine hK.out _ _ ?_ (fun hHeld2 => ?_)
            · exact fun _ _ _ => trivial
            clear hK K
            clear hHeld
            have hHeld := hHeld2
            clear hHeld2
            try simp only [Act.put, List.setIfInBounds_toArray, List.set_cons_zero, List.set_cons_succ]
            refine till_ready (rs := [11]) (by kernel_rfl) (by simp) ?_
            refine (AllTill.cons rfl (fun K hK => ?_) AllTill.nil)
            go_simp
            refine (HBL.out _ ?_).mono ?_
            · repeat (first | assumption | exact Below.refl _ _ | refine Below.drew ?_ | refine below_drewN ?_ _ | refine bel_alloc ?_ _)
            rintro e w9 ⟨rfl, rfl⟩
            refine hK.out _ _ ?_ (fun hHeld2 => ?_)
            · exact fun _ _ _ => trivial
            clear hK K
            clear hHeld
            have hHeld := hHeld2
            clear hHeld2
            try simp only [Act.put, List.setIfInBounds_toArray, List.set_cons_zero, List.set_cons_succ]
            refine till_ready (rs := [14]) (by kernel_rfl) (by simp) ?_
            refine (AllTill.cons rfl (fun K hK => ?_) AllTill.nil)
            go_simp
            refine (HSB.out _ _ ?_ ?_).mono ?_
            · repeat (first | assumption | exact Below.refl _ _ | refine Below.drew ?_ | refine below_drewN ?_ _ | refine bel_alloc ?_ _)
            · refine ((HZ.out _).lower (Nat.zero_le _)).below ?_
              repeat (first | assumption | exact Below.refl _ _ | refine Below.drew ?_ | refine below_drewN ?_ _ | refine bel_alloc ?_ _)
            rintro e w10 ⟨rfl, q10, hw10⟩
            have b10 : Below w3.heap.size w3 w10 := by
              rw [hw10]
              refine below_drewN ?_ q10
              repeat (first | assumption | exact Below.refl _ _ | refine Below.drew ?_ | refine below_drewN ?_ _ | refine bel_alloc ?_ _)
            clear hw10
            refine hK.out _ _ ?_ (fun hHeld2 => ?_)
            · exact fun _ _ _ => trivial
            clear hK K
            clear hHeld
            have hHeld := hHeld2
            clear hHeld2
            try simp only [Act.put, List.setIfInBounds_toArray, List.set_cons_zero, List.set_cons_succ]
            refine till_take 16 (i := 15) (v := ?_) (some 81) rfl rfl (by kernel_rfl) (by kernel_rfl) (by kernel_rfl) (by kernel_rfl) (fun _ _ _ h => h) (Or.inl ⟨by rfl, ?_⟩) (by assumption) (fun hHeld2 => ?_)
            rotate_left
            · intro w hSw
              skip
              first | (go_simp; done) | (go_simp; with_reducible rfl)
            clear hHeld
            have hHeld := hHeld2
            clear hHeld2
            try simp only [Act.put, List.setIfInBounds_toArray, List.set_cons_zero, List.set_cons_succ]
            refine till_ready (rs := [16]) (by kernel_rfl) (by simp) ?_
            refine (AllTill.cons rfl (fun K hK => ?_) AllTill.nil)
            go_simp
            refine hK.out _ _ ?_ (fun hHeld2 => ?_)
            · exact held_late rfl
            clear hK K
            clear hHeld
            have hHeld := hHeld2
            clear hHeld2
            try simp only [Act.put, List.setIfInBounds_toArray, List.set_cons_zero, List.set_cons_succ]
            refine till_done (by kernel_rfl) ?_ _
            refine NoPanic.normal ?_
            go_wp2
            go_roundw
            case rel =>
              refine ⟨k2 + 1, by omega, by go_num, HB13.out.trans (Below.mono ?_ HB13.out.size)⟩
              repeat (first | assumption | exact Below.refl _ _ | refine Below.drew ?_ | refine below_drewN ?_ _ | refine bel_alloc ?_ _)
            case measure => simp [intOf]; omega
        · obtain rfl : k2 = N := by omega
          go_wp2_with fail
          go_ret
          exact ⟨rfl, HB1.out.trans (hB2.mono HB1.out.size)⟩
end Go.Proofs.Ytmhhcblgeellnaa
