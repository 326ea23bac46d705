/- Contracts: what the reference's Do answers: a sync. (Its drawn regions are typed by program: tools/gendisk.py.) -/
import Derived.Test.YtmhhcblgeellnaaRdD
namespace Go.Proofs.Ytmhhcblgeellnaa
open Go.RowKit
set_option linter.unusedSimpArgs false
set_option linter.unusedVariables false

def SynR (w : World) (base gx : Nat) (sv av wv : Value) (ws : List Value) (dur : List (List Nat)) (pend : List (Nat × List Nat)) (left : Int) (n : Nat) (t : Value) (x : World) : Prop :=
  ∃ (k : Nat) (ss : List Value), k ≤ n ∧ t = .int .i64 (k : Int) ∧ RD x base gx sv av wv ss ws (applied (pend.take k) dur) pend left ∧ OnlyAt w x (RP gx sv av wv)
set_option maxRecDepth 100000 in
set_option maxHeartbeats 4000000 in
theorem rdo_sync {w : World} {base gx : Nat} {sv av wv : Value} {ss ws : List Value} {dur : List (List Nat)} {pend : List (Nat × List Nat)} {left : Int} (h : RD w base gx sv av wv ss ws dur pend left) (hbase : base ≤ w.heap.size) (hfew : 1 ≤ dur.length ∧ dur.length ≤ 4096) (hmany : pend.length ≤ 1000) (hleft : -1 ≤ left ∧ left ≤ 9223372036854775807)
    (d : Nat) (i bit n : Int) (PA KA : Option Addr) (pn pc kn kc : Nat) (odd : Bool) (mask : Nat) (hd : d % 7 = 3) (hl : left ≠ 0) (hwri : ∀ p ∈ pend, p.1 < dur.length) :
    Calls Try.prog 12 #[.pointer (some ⟨gx, 0, none⟩), .agg #[.int .u8 (d : Int), .int .i64 i, .slice PA pn pc, .bool odd, .int .i64 bit, .int .i64 n, .int .u32 (mask : Int), .slice KA kn kc]] w (Done w base gx sv av wv (applied pend dur) [] (less left) 0) := by
  have HWR := Lib.hid hwri
  clear hwri
  obtain ⟨g0, scap, -, hsv, -, -, -⟩ := row_place h.safe.row (by omega)
  subst hsv
  have c0 := h.c0
  have hd1 : (d : Int) % 7 = 3 := by omega
  have hd2 : (d : Int).tmod 7 = 3 := by rw [Int.tmod_eq_emod_of_nonneg (by omega)]; exact hd1
  have HH := Lib.hid h
  have HBS := Lib.hid hbase
  obtain ⟨th, hth⟩ : ∃ th : Bool, th = decide (0 ≤ i ∧ i < (dur.length : Int)) := ⟨_, rfl⟩
  have HT := Lib.hid hth
  clear h hth hbase
  have HD1 := Lib.hid hd1
  have HD2 := Lib.hid hd2
  clear hd1 hd2
  go_enter Try.func12, Try.ntmps12
  go_wp2
  go_cut [6] (fun v6 wx => v6 = .bool th ∧ Below w.heap.size w wx ∧ wx.heap[w.heap.size]? = some (.cells #[.int .u8 (d : Int), .int .i64 i, .slice PA pn pc, .bool odd, .int .i64 bit, .int .i64 n, .int .u32 (mask : Int), .slice KA kn kc] 34 (0, 0)))
  case first =>
    have hfin : ∀ q, Below w.heap.size w ((w.alloc (.cells #[.int .u8 (d : Int), .int .i64 i, .slice PA pn pc, .bool odd, .int .i64 bit, .int .i64 n, .int .u32 (mask : Int), .slice KA kn kc] 34)).drewN q) ∧ ((w.alloc (.cells #[.int .u8 (d : Int), .int .i64 i, .slice PA pn pc, .bool odd, .int .i64 bit, .int .i64 n, .int .u32 (mask : Int), .slice KA kn kc] 34)).drewN q).heap[w.heap.size]? = some (.cells #[.int .u8 (d : Int), .int .i64 i, .slice PA pn pc, .bool odd, .int .i64 bit, .int .i64 n, .int .u32 (mask : Int), .slice KA kn kc] 34 (0, 0)) := fun q => ⟨below_drewN ((Below.refl _ _).alloc (Nat.le_refl _) _) q, Go.heap_alloc_new w _⟩
    have HFIN := Lib.hid hfin
    clear hfin
    have c0a : (w.alloc (.cells #[.int .u8 (d : Int), .int .i64 i, .slice PA pn pc, .bool odd, .int .i64 bit, .int .i64 n, .int .u32 (mask : Int), .slice KA kn kc] 34)).cell? ⟨gx, 0, none⟩ = some (.slice (some ⟨g0, 0, none⟩) dur.length scap) := (((Below.refl w.heap.size w).alloc (Nat.le_refl _) _).cell (p := ⟨gx, 0, none⟩) HH.out.lt).trans c0
    by_cases h0 : 0 ≤ i
    · by_cases h1 : i < (dur.length : Int)
      · have ht : th = true := by rw [HT.out]; exact decide_eq_true ⟨h0, h1⟩
        subst ht
        go_quiet (fail)
        go_wp2_with fail
        go_meet
        exact ⟨rfl, HFIN.out _⟩
      · have ht : th = false := by rw [HT.out]; exact decide_eq_false (fun e => h1 e.2)
        subst ht
        have hx : decide (i < (dur.length : Int)) = false := decide_eq_false h1
        go_quiet (fail)
        go_wp2_with fail
        go_meet
        exact ⟨rfl, HFIN.out _⟩
    · have ht : th = false := by rw [HT.out]; exact decide_eq_false (fun e => h0 e.1)
      subst ht
      have hx : decide (0 ≤ i) = false := decide_eq_false h0
      have hx2 : decide (i ≥ 0) = false := decide_eq_false h0
      go_quiet (fail)
      go_wp2_with fail
      go_meet
      exact ⟨rfl, HFIN.out _⟩
  case rest =>
  obtain ⟨wa, hwa⟩ : ∃ wa, wa = wc := ⟨_, rfl⟩
  subst hwa
  obtain ⟨rfl, hbx, hgx⟩ := hcut
  have hlx : w.heap.size < wa.heap.size := (Array.getElem?_eq_some_iff.1 hgx).1
  obtain ⟨q0, q1, q2, q3, q4, q5, q6, q7⟩ := box8 hgx
  have h := HH.out.below hbx
  have HX := Lib.hid h
  have HBX := Lib.hid hbx
  have HGX := Lib.hid hgx
  have hd1 := HD1.out
  have hd2 := HD2.out
  clear c0 hgx hbx
  have c3 := h.c3
  have f3 := h.fz 3
  have hl0 : (left == 0) = false := by rw [beq_eq_false_iff_ne]; exact hl
  clear h
  go_upto_if 102 with fail
  go_cut [] (fun wx => RD wx base gx (.slice (some ⟨g0, 0, none⟩) dur.length scap) av wv ss ws dur pend (less left) ∧ OnlyAt w wx (RP gx (.slice (some ⟨g0, 0, none⟩) dur.length scap) av wv))
  case first =>
    by_cases hp : 0 < left
    · have hp2 : decide (left > 0) = true := decide_eq_true hp
      go_wp2_with fail
      go_meet
      exact ⟨by rw [show less left = left - 1 from if_pos hp]; exact HX.out.lim _, (RP_of_below HBX.out).trans RP_set⟩
    · have hp2 : decide (left > 0) = false := decide_eq_false hp
      have hp3 : decide (0 < left) = false := decide_eq_false hp
      go_wp2_with fail
      go_meet
      exact ⟨by rw [show less left = left from if_neg (by omega)]; exact HX.out, RP_of_below HBX.out⟩
  case rest =>
  obtain ⟨hR, hO⟩ := hcut
  clear c3 f3 q0 q1 q2 q3 q4 q5 q6 q7 hlx HH HX HBX HGX
  obtain ⟨n2, hn⟩ : ∃ n2, n2 = pend.length := ⟨_, rfl⟩
  obtain ⟨AA, ac, rfl⟩ := pv_form hR.at_
  have c1 := hR.c1
  rw [← hn] at c1 hmany
  have HN := Lib.hid hn
  have HR := Lib.hid hR
  have HO := Lib.hid hO
  clear hn hR hO
  go_wp2
  go_loopw [115] (fun t x => SynR w base gx (.slice (some ⟨g0, 0, none⟩) dur.length scap) (.slice AA pend.length ac) wv ws dur pend (less left) n2 t x) (fun t _ => n2 - (intOf t).toNat)
  case atStart => exact ⟨0, ss, Nat.zero_le _, rfl, by simpa [applied] using HR.out, HO.out⟩
  case round =>
    obtain ⟨k, ss2, hk, rfl, hR, hO⟩ := hrel
    have HRk := Lib.hid hR
    have HOk := Lib.hid hO
    clear hO
    by_cases hlt : k < n2
    · obtain ⟨p, hp⟩ : ∃ p, pend[k]? = some p := ⟨_, List.getElem?_eq_getElem (by rw [← HN.out]; exact hlt)⟩
      obtain ⟨ga, acap, -, hav, -, -, -⟩ := row_place HRk.out.at_ (by rw [← HN.out]; omega)
      have hA : AA = some ⟨ga, 0, none⟩ := by injection hav
      subst hA
      have hrow := hR.at_
      obtain ⟨hca, -⟩ := row_cell (u := .int .i64 (p.1 : Int)) hrow (by unfold ints; rw [List.getElem?_map, List.getElem?_map, hp]; rfl)
      obtain ⟨gw, wcap, -, hwv, -, -, -⟩ := row_place hR.wait.row (by rw [List.length_map, ← HN.out]; omega)
      rw [List.length_map, ← HN.out] at hwv
      have hrw := hR.wait.row
      rw [List.length_map, ← HN.out, hwv] at hrw
      obtain ⟨v, hv⟩ : ∃ v, ws[k]? = some v := ⟨_, List.getElem?_eq_getElem (by rw [hR.wait.len, List.length_map, ← HN.out]; exact hlt)⟩
      obtain ⟨A2, cc2, rfl, hM2⟩ := hR.wait.each k v p.2 hv (by rw [List.getElem?_map, hp]; rfl)
      obtain ⟨hcw, -⟩ := row_cell hrw hv
      have hp1 : p.1 < dur.length := HWR.out p (List.mem_of_getElem? hp)
      have hal : (applied (pend.take k) dur).length = dur.length := applied_length _ _
      obtain ⟨u, hu⟩ : ∃ u, ss2[p.1]? = some u := ⟨_, List.getElem?_eq_getElem (by rw [hR.safe.len, hal]; exact hp1)⟩
      have hrs := hR.safe.row
      rw [hal] at hrs
      obtain ⟨hcs, hfs⟩ := row_cell hrs hu
      have c0 := hR.c0
      have c2 := hR.c2
      rw [hwv] at c2
      have k0 : (0 : Int) ≤ (k : Int) := by omega
      have k1 : (k : Int) < (n2 : Int) := by omega
      have j0 : (0 : Int) ≤ (p.1 : Int) := by omega
      have j1 : (p.1 : Int) < (dur.length : Int) := by omega
      have HNX : Hid (RD (wr.setCell ⟨g0, p.1, none⟩ (.slice A2 512 cc2)).drew base gx (.slice (some ⟨g0, 0, none⟩) dur.length scap) (.slice (some ⟨ga, 0, none⟩) pend.length ac) wv (ss2.set p.1 (.slice A2 512 cc2)) ws (applied (pend.take (k + 1)) dur) pend (less left)) := by
        have h9 := (hR.sset (i := p.1) hM2).drew
        rw [← applied_next hp] at h9
        exact h9
      clear hav hp hrow hwv hrw hv hM2 hal hu hrs hR
      go_wp2
      refine wp_region_noPanic ?_
      refine region_till [13] (fun _ x => x.cell? ⟨gx, 0, none⟩ = some (.slice (some ⟨g0, 0, none⟩) dur.length scap) ∧ x.cell? ⟨gx, 2, none⟩ = some (.slice (some ⟨gw, 0, none⟩) n2 wcap) ∧ x.cell? ⟨gw, k, none⟩ = some (.slice A2 512 cc2)) (by kernel_rfl) (fun _ => ⟨c0, c2, hcw⟩) (fun hHeld => ?_)
      refine till_take 13 (i := 0) (v := ?_) (some 120) rfl rfl (by kernel_rfl) (by kernel_rfl) (by kernel_rfl) (by kernel_rfl) (fun _ _ _ h => h) (Or.inl ⟨by rfl, ?_⟩) (by assumption) (fun hHeld2 => ?_)
      rotate_left
      · intro w hSw
        obtain ⟨z0, z1, z2⟩ := hSw
        first | (go_simp; done) | (go_simp; with_reducible rfl)
      clear hHeld
      have hHeld := hHeld2
      clear hHeld2
      try simp only [Act.put, List.setIfInBounds_toArray, List.set_cons_zero, List.set_cons_succ]
      refine till_take 13 (i := 1) (v := ?_) (some 121) rfl rfl (by kernel_rfl) (by kernel_rfl) (by kernel_rfl) (by kernel_rfl) (fun _ _ _ h => h) (Or.inl ⟨by rfl, ?_⟩) (by assumption) (fun hHeld2 => ?_)
      rotate_left
      · intro w hSw
        obtain ⟨z0, z1, z2⟩ := hSw
        first | (go_simp; done) | (go_simp; with_reducible rfl)
      clear hHeld
      have hHeld := hHeld2
      clear hHeld2
      try simp only [Act.put, List.setIfInBounds_toArray, List.set_cons_zero, List.set_cons_succ]
      refine till_take 13 (i := 2) (v := ?_) (some 122) rfl rfl (by kernel_rfl) (by kernel_rfl) (by kernel_rfl) (by kernel_rfl) (fun _ _ _ h => h) (Or.inl ⟨by rfl, ?_⟩) (by assumption) (fun hHeld2 => ?_)
      rotate_left
      · intro w hSw
        obtain ⟨z0, z1, z2⟩ := hSw
        first | (go_simp; done) | (go_simp; with_reducible rfl)
      clear hHeld
      have hHeld := hHeld2
      clear hHeld2
      try simp only [Act.put, List.setIfInBounds_toArray, List.set_cons_zero, List.set_cons_succ]
      refine till_take 13 (i := 3) (v := ?_) (some 123) rfl rfl (by kernel_rfl) (by kernel_rfl) (by kernel_rfl) (by kernel_rfl) (fun _ _ _ h => h) (Or.inl ⟨by rfl, ?_⟩) (by assumption) (fun hHeld2 => ?_)
      rotate_left
      · intro w hSw
        obtain ⟨z0, z1, z2⟩ := hSw
        first | (go_simp; done) | (go_simp; with_reducible rfl)
      clear hHeld
      have hHeld := hHeld2
      clear hHeld2
      try simp only [Act.put, List.setIfInBounds_toArray, List.set_cons_zero, List.set_cons_succ]
      refine till_take 13 (i := 4) (v := ?_) (some 124) rfl rfl (by kernel_rfl) (by kernel_rfl) (by kernel_rfl) (by kernel_rfl) (fun _ _ _ h => h) (Or.inl ⟨by rfl, ?_⟩) (by assumption) (fun hHeld2 => ?_)
      rotate_left
      · intro w hSw
        obtain ⟨z0, z1, z2⟩ := hSw
        first | (go_simp; done) | (go_simp; with_reducible rfl)
      clear hHeld
      have hHeld := hHeld2
      clear hHeld2
      try simp only [Act.put, List.setIfInBounds_toArray, List.set_cons_zero, List.set_cons_succ]
      refine till_take 13 (i := 5) (v := ?_) (some 125) rfl rfl (by kernel_rfl) (by kernel_rfl) (by kernel_rfl) (by kernel_rfl) (fun _ _ _ h => h) (Or.inl ⟨by rfl, ?_⟩) (by assumption) (fun hHeld2 => ?_)
      rotate_left
      · intro w hSw
        obtain ⟨z0, z1, z2⟩ := hSw
        first | (go_simp; done) | (go_simp; with_reducible rfl)
      clear hHeld
      have hHeld := hHeld2
      clear hHeld2
      try simp only [Act.put, List.setIfInBounds_toArray, List.set_cons_zero, List.set_cons_succ]
      refine till_take 13 (i := 6) (v := ?_) (some 126) rfl rfl (by kernel_rfl) (by kernel_rfl) (by kernel_rfl) (by kernel_rfl) (fun _ _ _ h => h) (Or.inl ⟨by rfl, ?_⟩) (by assumption) (fun hHeld2 => ?_)
      rotate_left
      · intro w hSw
        obtain ⟨z0, z1, z2⟩ := hSw
        first | (go_simp; done) | (go_simp; with_reducible rfl)
      clear hHeld
      have hHeld := hHeld2
      clear hHeld2
      try simp only [Act.put, List.setIfInBounds_toArray, List.set_cons_zero, List.set_cons_succ]
      refine till_take 13 (i := 7) (v := ?_) (some 127) rfl rfl (by kernel_rfl) (by kernel_rfl) (by kernel_rfl) (by kernel_rfl) (fun _ _ _ h => h) (Or.inl ⟨by rfl, ?_⟩) (by assumption) (fun hHeld2 => ?_)
      rotate_left
      · intro w hSw
        obtain ⟨z0, z1, z2⟩ := hSw
        first | (go_simp; done) | (go_simp; with_reducible rfl)
      clear hHeld
      have hHeld := hHeld2
      clear hHeld2
      try simp only [Act.put, List.setIfInBounds_toArray, List.set_cons_zero, List.set_cons_succ]
      refine till_take 13 (i := 8) (v := ?_) (some 128) rfl rfl (by kernel_rfl) (by kernel_rfl) (by kernel_rfl) (by kernel_rfl) (fun _ _ _ h => h) (Or.inl ⟨by rfl, ?_⟩) (by assumption) (fun hHeld2 => ?_)
      rotate_left
      · intro w hSw
        obtain ⟨z0, z1, z2⟩ := hSw
        first | (go_simp; done) | (go_simp; with_reducible rfl)
      clear hHeld
      have hHeld := hHeld2
      clear hHeld2
      try simp only [Act.put, List.setIfInBounds_toArray, List.set_cons_zero, List.set_cons_succ]
      refine till_take 13 (i := 9) (v := ?_) (some 129) rfl rfl (by kernel_rfl) (by kernel_rfl) (by kernel_rfl) (by kernel_rfl) (fun _ _ _ h => h) (Or.inl ⟨by rfl, ?_⟩) (by assumption) (fun hHeld2 => ?_)
      rotate_left
      · intro w hSw
        obtain ⟨z0, z1, z2⟩ := hSw
        first | (go_simp; done) | (go_simp; with_reducible rfl)
      clear hHeld
      have hHeld := hHeld2
      clear hHeld2
      try simp only [Act.put, List.setIfInBounds_toArray, List.set_cons_zero, List.set_cons_succ]
      refine till_take 13 (i := 10) (v := ?_) (some 130) rfl rfl (by kernel_rfl) (by kernel_rfl) (by kernel_rfl) (by kernel_rfl) (fun _ _ _ h => h) (Or.inl ⟨by rfl, ?_⟩) (by assumption) (fun hHeld2 => ?_)
      rotate_left
      · intro w hSw
        obtain ⟨z0, z1, z2⟩ := hSw
        first | (go_simp; done) | (go_simp; with_reducible rfl)
      clear hHeld
      have hHeld := hHeld2
      clear hHeld2
      try simp only [Act.put, List.setIfInBounds_toArray, List.set_cons_zero, List.set_cons_succ]
      refine till_take 13 (i := 11) (v := ?_) (some 131) rfl rfl (by kernel_rfl) (by kernel_rfl) (by kernel_rfl) (by kernel_rfl) (fun _ _ _ h => h) (Or.inl ⟨by rfl, ?_⟩) (by assumption) (fun hHeld2 => ?_)
      rotate_left
      · intro w hSw
        obtain ⟨z0, z1, z2⟩ := hSw
        first | (go_simp; done) | (go_simp; with_reducible rfl)
      clear hHeld
      have hHeld := hHeld2
      clear hHeld2
      try simp only [Act.put, List.setIfInBounds_toArray, List.set_cons_zero, List.set_cons_succ]
      refine till_take 13 (i := 12) (v := ?_) (some 132) rfl rfl (by kernel_rfl) (by kernel_rfl) (by kernel_rfl) (by kernel_rfl) (fun _ _ _ h => h) (Or.inl ⟨by rfl, ?_⟩) (by assumption) (fun hHeld2 => ?_)
      rotate_left
      · intro w hSw
        obtain ⟨z0, z1, z2⟩ := hSw
        first | (go_simp; done) | (go_simp; with_reducible rfl)
      clear hHeld
      have hHeld := hHeld2
      clear hHeld2
      try simp only [Act.put, List.setIfInBounds_toArray, List.set_cons_zero, List.set_cons_succ]
      refine till_ready (rs := [13]) (by kernel_rfl) (by simp) ?_
      refine (AllTill.cons rfl (fun K hK => ?_) AllTill.nil)
      go_simp
      refine hK.out _ _ ?_ (fun hHeld2 => ?_)
      · exact held_late rfl
      clear hK K
      clear hHeld
      have hHeld := hHeld2
      clear hHeld2
      try simp only [Act.put, List.setIfInBounds_toArray, List.set_cons_zero, List.set_cons_succ]
      refine till_done (by kernel_rfl) ?_ _
      refine NoPanic.normal ?_
      go_wp2
      go_roundw
      case rel => exact ⟨k + 1, _, by omega, by go_num, HNX.out, (HOk.out.trans ((OnlyAt.setCell _ _ _ _).mono (fun k _ e => .inr (.inl (by rw [e]; rfl))))).drew⟩
      case measure => simp [intOf]; omega
    · obtain rfl : k = n2 := by omega
      have c1 := hR.c1
      have c2 := hR.c2
      have f1 := hR.fz 1
      have f2 := hR.fz 2
      clear hR
      go_wp2
      go_ret2
      have h9 := HRk.out.clear
      rw [HN.out, List.take_length] at h9
      exact ⟨gx, _, _, _, _, _, rfl, h9, fun g hg => by simp [Value.ownBlock] at hg, (HOk.out.trans RP_set).trans RP_set⟩
end Go.Proofs.Ytmhhcblgeellnaa
