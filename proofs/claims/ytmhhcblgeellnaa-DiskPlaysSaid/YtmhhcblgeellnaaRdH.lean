/- Contracts: what the reference's Do answers: a crash. (Its drawn regions are typed by program: tools/gendisk.py.) -/
import Derived.Test.YtmhhcblgeellnaaRdD
namespace Go.Proofs.Ytmhhcblgeellnaa
open Go.RowKit
set_option linter.unusedSimpArgs false
set_option linter.unusedVariables false

theorem rkept_snoc (ks : List Bool) (pend : List (Nat × List Nat)) (p : Nat × List Nat) (dur : List (List Nat)) : kept ks (pend ++ [p]) dur = if ks[pend.length]? = some true then (kept ks pend dur).set p.1 p.2 else kept ks pend dur := by
  induction pend generalizing ks dur with
  | nil =>
    rcases ks with _ | ⟨f, t⟩
    · simp [kept]
    · cases f <;> simp [kept]
  | cons q r ih =>
    rcases ks with _ | ⟨f, t⟩
    · simp [kept]
    · exact ih t _
theorem rkept_next {ks : List Bool} {pend : List (Nat × List Nat)} {dur : List (List Nat)} {k : Nat} {p : Nat × List Nat} (hp : pend[k]? = some p) :
    kept ks (pend.take (k + 1)) dur = if ks[k]? = some true then (kept ks (pend.take k) dur).set p.1 p.2 else kept ks (pend.take k) dur := by
  have hk : k < pend.length := (List.getElem?_eq_some_iff.1 hp).1
  rw [List.take_add_one, hp, Option.toList_some, rkept_snoc, List.length_take, Nat.min_eq_left (by omega)]
theorem rflag_cell {w : World} {ad : Addr} {n c k : Nat} {ks : List Bool} {f : Bool} (h : Flags w (.slice (some ad) n c) ks) (hf : ks[k]? = some f) : w.cell? (ad.add k) = some (.bool f) ∧ ad.block < w.heap.size := by
  obtain ⟨A, c2, hv, hl⟩ := h.form
  injection hv with h1 h2 h3
  obtain ⟨ad2, e, hb, hc⟩ := hl k (.bool f) (by rw [List.getElem?_map, hf]; rfl)
  rw [← h1] at e
  injection e with e
  subst e
  exact ⟨hc, hb⟩
def CrR (wa : World) (base gx2 : Nat) (sv1 : Value) (ks : List Bool) (dur : List (List Nat)) (pend : List (Nat × List Nat)) (n : Nat) (t : Value) (x : World) : Prop :=
  ∃ (k : Nat) (ss : List Value), k ≤ n ∧ t = .int .i64 (k : Int) ∧ RD x base gx2 sv1 (.slice none 0 0) (.slice none 0 0) ss [] (kept ks (pend.take k) dur) [] (-1) ∧ Below wa.heap.size wa x
set_option maxRecDepth 100000 in
set_option maxHeartbeats 4000000 in
theorem rdo_crash {w : World} {base gx : Nat} {sv av wv : Value} {ss ws : List Value} {dur : List (List Nat)} {pend : List (Nat × List Nat)} {left : Int} (h : RD w base gx sv av wv ss ws dur pend left) (hbase : base ≤ w.heap.size) (hfew : 1 ≤ dur.length ∧ dur.length ≤ 4096) (hmany : pend.length ≤ 1000) (hleft : -1 ≤ left ∧ left ≤ 9223372036854775807)
    (d : Nat) (i bit n : Int) (PA KA : Option Addr) (pn pc kn kc : Nat) (odd : Bool) (mask : Nat) (hd : d % 7 = 5) (ks : List Bool) (hks : Flags w (.slice KA kn kc) ks) (hkl : ks.length ≤ 9223372036854775807) (hwri : ∀ p ∈ pend, p.1 < dur.length) :
    Calls Try.prog 12 #[.pointer (some ⟨gx, 0, none⟩), .agg #[.int .u8 (d : Int), .int .i64 i, .slice PA pn pc, .bool odd, .int .i64 bit, .int .i64 n, .int .u32 (mask : Int), .slice KA kn kc]] w (Done w base gx sv av wv (kept ks pend dur) [] (-1) 0) := by
  obtain ⟨i0, hi0, hz0, hz1, hz2⟩ := info_parts infoRow
  have HI := Lib.hid hi0
  have H0 := Lib.hid hz0
  have H1 := Lib.hid hz1
  have H2 := Lib.hid hz2
  have HWR := Lib.hid hwri
  have HKS := Lib.hid hks
  have hkn : kn = ks.length := by
    obtain ⟨A, c, hv, _⟩ := hks.form
    injection hv
  rw [← hkn] at hkl
  have HKN := Lib.hid hkn
  clear hi0 hz0 hz1 hz2 hwri hks hkn
  obtain ⟨g0, scap, -, hsv, -, -, -⟩ := row_place h.safe.row (by omega)
  subst hsv
  have c0 := h.c0
  have hd1 : (d : Int) % 7 = 5 := by omega
  have hd2 : (d : Int).tmod 7 = 5 := by rw [Int.tmod_eq_emod_of_nonneg (by omega)]; exact hd1
  have HH := Lib.hid h
  have HBS := Lib.hid hbase
  obtain ⟨th, hth⟩ : ∃ th : Bool, th = decide (0 ≤ i ∧ i < (dur.length : Int)) := ⟨_, rfl⟩
  have HT := Lib.hid hth
  clear h hth hbase
  have HD1 := Lib.hid hd1
  have HD2 := Lib.hid hd2
  clear hd1 hd2
  go_enter Try.func12, Try.ntmps12
  go_wp2
  go_cut [6] (fun v6 wx => v6 = .bool th ∧ Below w.heap.size w wx ∧ wx.heap[w.heap.size]? = some (.cells #[.int .u8 (d : Int), .int .i64 i, .slice PA pn pc, .bool odd, .int .i64 bit, .int .i64 n, .int .u32 (mask : Int), .slice KA kn kc] 34 (0, 0)))
  case first =>
    have hfin : ∀ q, Below w.heap.size w ((w.alloc (.cells #[.int .u8 (d : Int), .int .i64 i, .slice PA pn pc, .bool odd, .int .i64 bit, .int .i64 n, .int .u32 (mask : Int), .slice KA kn kc] 34)).drewN q) ∧ ((w.alloc (.cells #[.int .u8 (d : Int), .int .i64 i, .slice PA pn pc, .bool odd, .int .i64 bit, .int .i64 n, .int .u32 (mask : Int), .slice KA kn kc] 34)).drewN q).heap[w.heap.size]? = some (.cells #[.int .u8 (d : Int), .int .i64 i, .slice PA pn pc, .bool odd, .int .i64 bit, .int .i64 n, .int .u32 (mask : Int), .slice KA kn kc] 34 (0, 0)) := fun q => ⟨below_drewN ((Below.refl _ _).alloc (Nat.le_refl _) _) q, Go.heap_alloc_new w _⟩
    have HFIN := Lib.hid hfin
    clear hfin
    have c0a : (w.alloc (.cells #[.int .u8 (d : Int), .int .i64 i, .slice PA pn pc, .bool odd, .int .i64 bit, .int .i64 n, .int .u32 (mask : Int), .slice KA kn kc] 34)).cell? ⟨gx, 0, none⟩ = some (.slice (some ⟨g0, 0, none⟩) dur.length scap) := (((Below.refl w.heap.size w).alloc (Nat.le_refl _) _).cell (p := ⟨gx, 0, none⟩) HH.out.lt).trans c0
    by_cases h0 : 0 ≤ i
    · by_cases h1 : i < (dur.length : Int)
      · have ht : th = true := by rw [HT.out]; exact decide_eq_true ⟨h0, h1⟩
        subst ht
        go_quiet (fail)
        go_wp2_with fail
        go_meet
        exact ⟨rfl, HFIN.out _⟩
      · have ht : th = false := by rw [HT.out]; exact decide_eq_false (fun e => h1 e.2)
        subst ht
        have hx : decide (i < (dur.length : Int)) = false := decide_eq_false h1
        go_quiet (fail)
        go_wp2_with fail
        go_meet
        exact ⟨rfl, HFIN.out _⟩
    · have ht : th = false := by rw [HT.out]; exact decide_eq_false (fun e => h0 e.1)
      subst ht
      have hx : decide (0 ≤ i) = false := decide_eq_false h0
      have hx2 : decide (i ≥ 0) = false := decide_eq_false h0
      go_quiet (fail)
      go_wp2_with fail
      go_meet
      exact ⟨rfl, HFIN.out _⟩
  case rest =>
  obtain ⟨wa, hwa⟩ : ∃ wa, wa = wc := ⟨_, rfl⟩
  subst hwa
  obtain ⟨rfl, hbx, hgx⟩ := hcut
  have hlx : w.heap.size < wa.heap.size := (Array.getElem?_eq_some_iff.1 hgx).1
  obtain ⟨q0, q1, q2, q3, q4, q5, q6, q7⟩ := box8 hgx
  have h := HH.out.below hbx
  have HX := Lib.hid h
  have HBX := Lib.hid hbx
  have HGX := Lib.hid hgx
  have hd1 := HD1.out
  have hd2 := HD2.out
  clear c0 hgx hbx
  obtain ⟨n2, hn⟩ : ∃ n2, n2 = pend.length := ⟨_, rfl⟩
  obtain ⟨AA, ac, rfl⟩ := pv_form h.at_
  have c0 := h.c0
  have c1 := h.c1
  rw [← hn] at c1 hmany
  have HN := Lib.hid hn
  have hc1 : ∀ o : Obj, (wa.alloc o).cell? ⟨gx, 0, none⟩ = some (.slice (some ⟨g0, 0, none⟩) dur.length scap) := fun o => (((Below.refl wa.heap.size wa).alloc (Nat.le_refl _) o).cell (p := ⟨gx, 0, none⟩) h.lt).trans c0
  have hO0 : (wa.alloc (.cells #[] 30)).ownsRow wa.heap.size 30 1 (.slice (some ⟨wa.heap.size, 0, none⟩) 0 0) 0 [] := ⟨rfl, .inr ⟨wa.heap.size, 0, #[], rfl, Nat.le_refl _, Go.heap_alloc_new wa _, by omega, by unfold maxLen; omega, rfl, rfl⟩⟩
  have HO0 := Lib.hid hO0
  have hlen : ss.length = dur.length := h.safe.len
  have HLEN := Lib.hid hlen
  have hcells : ∀ j u, ss[j]? = some u → (wa.alloc (.cells #[] 30)).cell? ((⟨g0, 0, none⟩ : Addr).add j) = some u := fun j u hj => ((h.safe.below ((Below.refl _ _).alloc (Nat.le_refl _) _)).row.cells (g := g0) rfl j u hj)
  have HCL := Lib.hid hcells
  have hone : ∀ u ∈ ss, u.oneCell' = true := fun u hu => by
    obtain ⟨j, hj⟩ := List.getElem?_of_mem hu
    obtain ⟨l, hl⟩ : ∃ l, dur[j]? = some l := ⟨_, List.getElem?_eq_getElem (by rw [← hlen]; exact (List.getElem?_eq_some_iff.1 hj).1)⟩
    obtain ⟨A, c, rfl, _⟩ := h.safe.each j u l hj hl
    rfl
  have HONE := Lib.hid hone
  clear hn h hO0 hlen hcells hone
  go_wp2_with (at_builtin; refine wpList_append_own _ rfl _ _ 58 rfl wa.heap.size 30 i0 (.slice none 0 0) 1 24 Try.underlying58 HI.out H0.out H1.out H2.out rfl (by decide) _ 0 [] rfl HO0.out ⟨g0, 0, none⟩ dur.length scap ss rfl ?a1 ?a2 ?a3 ?a4 ?a5 ?a6 ?_)
  case a1 => rw [HLEN.out]; omega
  case a2 => exact HCL.out
  case a3 => exact HONE.out
  case a4 => unfold maxLen; omega
  case a5 => omega
  case a6 => simp
  intro v' w1 hown1 hg1 _
  have hown1 : w1.ownsRow wa.heap.size 30 1 v' dur.length ss := by simpa using hown1
  have hb1 : Below wa.heap.size wa w1 := ((Below.refl _ _).alloc (Nat.le_refl _) _).grown hg1 (by simp) (fun g hg => by
    have h9 : wa.heap.size = g := by simpa [Value.ownBlock] using hg
    omega)
  obtain ⟨g1, cap1, cur1, rfl, hg1b, -, -⟩ := row_place hown1 (by omega)
  have hb2 : Below w1.heap.size w1 (w1.alloc (.cells #[.slice (some ⟨g1, 0, none⟩) dur.length cap1, .slice none 0 0, .slice none 0 0, .int .i64 (-1)] 63)) := (Below.refl _ _).alloc (Nat.le_refl _) _
  have hbase2 : base ≤ wa.heap.size := Nat.le_trans HBS.out HBX.out.size
  have hRD : RD (w1.alloc (.cells #[.slice (some ⟨g1, 0, none⟩) dur.length cap1, .slice none 0 0, .slice none 0 0, .int .i64 (-1)] 63)) base w1.heap.size (.slice (some ⟨g1, 0, none⟩) dur.length cap1) (.slice none 0 0) (.slice none 0 0) ss [] dur [] (-1) :=
    ⟨Go.heap_alloc_new w1 _, Nat.le_trans hbase2 hb1.size, ⟨own_lower (ownsRow_below hown1 hb2) hbase2, fun i u l h1 h2 => by
      obtain ⟨A, c, e, hm⟩ := HX.out.safe.each i u l h1 h2
      exact ⟨A, c, e, (hm.below hb1).below hb2⟩⟩, ⟨rfl, .inl ⟨rfl, rfl⟩⟩, ⟨⟨rfl, .inl ⟨rfl, rfl⟩⟩, by simp⟩, fun g _ e => by simp [Value.ownBlock] at e⟩
  have hbb : Below wa.heap.size wa (w1.alloc (.cells #[.slice (some ⟨g1, 0, none⟩) dur.length cap1, .slice none 0 0, .slice none 0 0, .int .i64 (-1)] 63)) := hb1.trans (hb2.mono hb1.size)
  have c1w : w1.cell? ⟨gx, 1, none⟩ = some (.slice AA n2 ac) := (hb1.cell (p := ⟨gx, 1, none⟩) HX.out.lt).trans c1
  have c1z : (w1.alloc (.cells #[.slice (some ⟨g1, 0, none⟩) dur.length cap1, .slice none 0 0, .slice none 0 0, .int .i64 (-1)] 63)).cell? ⟨gx, 1, none⟩ = some (.slice AA n2 ac) := (hbb.cell (p := ⟨gx, 1, none⟩) HX.out.lt).trans c1
  have HRD := Lib.hid hRD
  have HBB := Lib.hid hbb
  have hg1c : wa.heap.size ≤ g1 := hg1b
  have hgx2 : wa.heap.size ≤ w1.heap.size := hb1.size
  clear hown1 hg1 hb1 hb2 hRD hbb hc1 c0 hg1b
  go_wp2
  go_loopw [244] (fun t x => CrR wa base w1.heap.size (.slice (some ⟨g1, 0, none⟩) dur.length cap1) ks dur pend n2 t x) (fun t _ => n2 - (intOf t).toNat)
  case atStart => exact ⟨0, ss, Nat.zero_le _, rfl, by simpa [kept] using HRD.out, HBB.out⟩
  case round =>
    obtain ⟨k, ss2, hk, rfl, hR, hB⟩ := hrel
    have HRk := Lib.hid hR
    have HBk := Lib.hid hB
    by_cases hlt : k < n2
    · have hX := HX.out.below hB
      obtain ⟨p, hp⟩ : ∃ p, pend[k]? = some p := ⟨_, List.getElem?_eq_getElem (by rw [← HN.out]; exact hlt)⟩
      obtain ⟨ga, acap, -, hav, -, -, -⟩ := row_place hX.at_ (by rw [← HN.out]; omega)
      have hA : AA = some ⟨ga, 0, none⟩ := by injection hav
      subst hA
      have hrow := hX.at_
      obtain ⟨hca, -⟩ := row_cell (u := .int .i64 (p.1 : Int)) hrow (by unfold ints; rw [List.getElem?_map, List.getElem?_map, hp]; rfl)
      have k7 : wr.cell? ⟨w.heap.size, 7, none⟩ = some (.slice KA kn kc) := (hB.cell (p := ⟨w.heap.size, 7, none⟩) hlx).trans q7
      have k0 : (0 : Int) ≤ (k : Int) := by omega
      have k1 : (k : Int) < (n2 : Int) := by omega
      have hnx := rkept_next (ks := ks) (dur := dur) hp
      by_cases hkk : k < kn
      · obtain ⟨f, hf⟩ : ∃ f, ks[k]? = some f := ⟨_, List.getElem?_eq_getElem (by rw [← HKN.out]; exact hkk)⟩
        obtain ⟨ad, hKA⟩ : ∃ ad, KA = some ad := by
          obtain ⟨A, c, hv, hl⟩ := HKS.out.form
          obtain ⟨ad2, e, _⟩ := hl k (.bool f) (by rw [List.getElem?_map, hf]; rfl)
          injection hv with h1
          exact ⟨ad2, by rw [h1, e]⟩
        subst hKA
        obtain ⟨hfc, hfb⟩ := rflag_cell HKS.out hf
        have hfc2 : wr.cell? (ad.add k) = some (.bool f) := (hB.cell (p := ad.add k) (by rw [addr_add_block]; exact Nat.lt_of_lt_of_le hfb HBX.out.size)).trans ((HBX.out.cell (p := ad.add k) (by rw [addr_add_block]; exact hfb)).trans hfc)
        rcases f with _ | _
        · rw [if_neg (by rw [hf]; simp)] at hnx
          have HNX := Lib.hid hnx
          clear hnx hf hp hav hrow hX hR hB hfc hfb
          go_wp2
          go_roundw
          case rel => exact ⟨k + 1, ss2, by omega, by go_num, by rw [HNX.out]; exact HRk.out, HBk.out⟩
          case measure => simp [intOf]; omega
        · rw [if_pos hf] at hnx
          obtain ⟨gw, wcap, -, hwv, -, -, -⟩ := row_place hX.wait.row (by rw [List.length_map, ← HN.out]; omega)
          rw [List.length_map, ← HN.out] at hwv
          have hrw := hX.wait.row
          rw [List.length_map, ← HN.out, hwv] at hrw
          obtain ⟨v, hv⟩ : ∃ v, ws[k]? = some v := ⟨_, List.getElem?_eq_getElem (by rw [hX.wait.len, List.length_map, ← HN.out]; exact hlt)⟩
          obtain ⟨A2, cc2, rfl, hM2⟩ := hX.wait.each k v p.2 hv (by rw [List.getElem?_map, hp]; rfl)
          obtain ⟨hcw, -⟩ := row_cell hrw hv
          have hp1 : p.1 < dur.length := HWR.out p (List.mem_of_getElem? hp)
          have hal : (kept ks (pend.take k) dur).length = dur.length := kept_length _ _ _
          obtain ⟨u, hu⟩ : ∃ u, ss2[p.1]? = some u := ⟨_, List.getElem?_eq_getElem (by rw [hR.safe.len, hal]; exact hp1)⟩
          have hrs := hR.safe.row
          rw [hal] at hrs
          obtain ⟨hcs, hfs⟩ := row_cell hrs hu
          have d0 := hR.c0
          have c2 := hX.c2
          rw [hwv] at c2
          have j0 : (0 : Int) ≤ (p.1 : Int) := by omega
          have j1 : (p.1 : Int) < (dur.length : Int) := by omega
          have HNX : Hid (RD (wr.setCell ⟨g1, p.1, none⟩ (.slice A2 512 cc2)).drew base w1.heap.size (.slice (some ⟨g1, 0, none⟩) dur.length cap1) (.slice none 0 0) (.slice none 0 0) (ss2.set p.1 (.slice A2 512 cc2)) [] (kept ks (pend.take (k + 1)) dur) [] (-1)) := by
            have h9 := (hR.sset (i := p.1) hM2).drew
            rw [← hnx] at h9
            exact h9
          clear hav hp hrow hwv hrw hv hM2 hal hu hrs hR hnx hf hX hB hfc hfb
          go_wp2
          refine wp_region_noPanic ?_
          refine region_till [13] (fun _ x => x.cell? ⟨w1.heap.size, 0, none⟩ = some (.slice (some ⟨g1, 0, none⟩) dur.length cap1) ∧ x.cell? ⟨gx, 2, none⟩ = some (.slice (some ⟨gw, 0, none⟩) n2 wcap) ∧ x.cell? ⟨gw, k, none⟩ = some (.slice A2 512 cc2)) (by kernel_rfl) (fun _ => ⟨d0, c2, hcw⟩) (fun hHeld => ?_)
          refine till_take 13 (i := 0) (v := ?_) (some 261) rfl rfl (by kernel_rfl) (by kernel_rfl) (by kernel_rfl) (by kernel_rfl) (fun _ _ _ h => h) (Or.inl ⟨by rfl, ?_⟩) (by assumption) (fun hHeld2 => ?_)
          rotate_left
          · intro w hSw
            obtain ⟨z0, z1, z2⟩ := hSw
            first | (go_simp; done) | (go_simp; with_reducible rfl)
          clear hHeld
          have hHeld := hHeld2
          clear hHeld2
          try simp only [Act.put, List.setIfInBounds_toArray, List.set_cons_zero, List.set_cons_succ]
          refine till_take 13 (i := 1) (v := ?_) (some 262) rfl rfl (by kernel_rfl) (by kernel_rfl) (by kernel_rfl) (by kernel_rfl) (fun _ _ _ h => h) (Or.inl ⟨by rfl, ?_⟩) (by assumption) (fun hHeld2 => ?_)
          rotate_left
          · intro w hSw
            obtain ⟨z0, z1, z2⟩ := hSw
            first | (go_simp; done) | (go_simp; with_reducible rfl)
          clear hHeld
          have hHeld := hHeld2
          clear hHeld2
          try simp only [Act.put, List.setIfInBounds_toArray, List.set_cons_zero, List.set_cons_succ]
          refine till_take 13 (i := 2) (v := ?_) (some 263) rfl rfl (by kernel_rfl) (by kernel_rfl) (by kernel_rfl) (by kernel_rfl) (fun _ _ _ h => h) (Or.inl ⟨by rfl, ?_⟩) (by assumption) (fun hHeld2 => ?_)
          rotate_left
          · intro w hSw
            obtain ⟨z0, z1, z2⟩ := hSw
            first | (go_simp; done) | (go_simp; with_reducible rfl)
          clear hHeld
          have hHeld := hHeld2
          clear hHeld2
          try simp only [Act.put, List.setIfInBounds_toArray, List.set_cons_zero, List.set_cons_succ]
          refine till_take 13 (i := 3) (v := ?_) (some 264) rfl rfl (by kernel_rfl) (by kernel_rfl) (by kernel_rfl) (by kernel_rfl) (fun _ _ _ h => h) (Or.inl ⟨by rfl, ?_⟩) (by assumption) (fun hHeld2 => ?_)
          rotate_left
          · intro w hSw
            obtain ⟨z0, z1, z2⟩ := hSw
            first | (go_simp; done) | (go_simp; with_reducible rfl)
          clear hHeld
          have hHeld := hHeld2
          clear hHeld2
          try simp only [Act.put, List.setIfInBounds_toArray, List.set_cons_zero, List.set_cons_succ]
          refine till_take 13 (i := 4) (v := ?_) (some 265) rfl rfl (by kernel_rfl) (by kernel_rfl) (by kernel_rfl) (by kernel_rfl) (fun _ _ _ h => h) (Or.inl ⟨by rfl, ?_⟩) (by assumption) (fun hHeld2 => ?_)
          rotate_left
          · intro w hSw
            obtain ⟨z0, z1, z2⟩ := hSw
            first | (go_simp; done) | (go_simp; with_reducible rfl)
          clear hHeld
          have hHeld := hHeld2
          clear hHeld2
          try simp only [Act.put, List.setIfInBounds_toArray, List.set_cons_zero, List.set_cons_succ]
          refine till_take 13 (i := 5) (v := ?_) (some 266) rfl rfl (by kernel_rfl) (by kernel_rfl) (by kernel_rfl) (by kernel_rfl) (fun _ _ _ h => h) (Or.inl ⟨by rfl, ?_⟩) (by assumption) (fun hHeld2 => ?_)
          rotate_left
          · intro w hSw
            obtain ⟨z0, z1, z2⟩ := hSw
            first | (go_simp; done) | (go_simp; with_reducible rfl)
          clear hHeld
          have hHeld := hHeld2
          clear hHeld2
          try simp only [Act.put, List.setIfInBounds_toArray, List.set_cons_zero, List.set_cons_succ]
          refine till_take 13 (i := 6) (v := ?_) (some 267) rfl rfl (by kernel_rfl) (by kernel_rfl) (by kernel_rfl) (by kernel_rfl) (fun _ _ _ h => h) (Or.inl ⟨by rfl, ?_⟩) (by assumption) (fun hHeld2 => ?_)
          rotate_left
          · intro w hSw
            obtain ⟨z0, z1, z2⟩ := hSw
            first | (go_simp; done) | (go_simp; with_reducible rfl)
          clear hHeld
          have hHeld := hHeld2
          clear hHeld2
          try simp only [Act.put, List.setIfInBounds_toArray, List.set_cons_zero, List.set_cons_succ]
          refine till_take 13 (i := 7) (v := ?_) (some 268) rfl rfl (by kernel_rfl) (by kernel_rfl) (by kernel_rfl) (by kernel_rfl) (fun _ _ _ h => h) (Or.inl ⟨by rfl, ?_⟩) (by assumption) (fun hHeld2 => ?_)
          rotate_left
          · intro w hSw
            obtain ⟨z0, z1, z2⟩ := hSw
            first | (go_simp; done) | (go_simp; with_reducible rfl)
          clear hHeld
          have hHeld := hHeld2
          clear hHeld2
          try simp only [Act.put, List.setIfInBounds_toArray, List.set_cons_zero, List.set_cons_succ]
          refine till_take 13 (i := 8) (v := ?_) (some 269) rfl rfl (by kernel_rfl) (by kernel_rfl) (by kernel_rfl) (by kernel_rfl) (fun _ _ _ h => h) (Or.inl ⟨by rfl, ?_⟩) (by assumption) (fun hHeld2 => ?_)
          rotate_left
          · intro w hSw
            obtain ⟨z0, z1, z2⟩ := hSw
            first | (go_simp; done) | (go_simp; with_reducible rfl)
          clear hHeld
          have hHeld := hHeld2
          clear hHeld2
          try simp only [Act.put, List.setIfInBounds_toArray, List.set_cons_zero, List.set_cons_succ]
          refine till_take 13 (i := 9) (v := ?_) (some 270) rfl rfl (by kernel_rfl) (by kernel_rfl) (by kernel_rfl) (by kernel_rfl) (fun _ _ _ h => h) (Or.inl ⟨by rfl, ?_⟩) (by assumption) (fun hHeld2 => ?_)
          rotate_left
          · intro w hSw
            obtain ⟨z0, z1, z2⟩ := hSw
            first | (go_simp; done) | (go_simp; with_reducible rfl)
          clear hHeld
          have hHeld := hHeld2
          clear hHeld2
          try simp only [Act.put, List.setIfInBounds_toArray, List.set_cons_zero, List.set_cons_succ]
          refine till_take 13 (i := 10) (v := ?_) (some 271) rfl rfl (by kernel_rfl) (by kernel_rfl) (by kernel_rfl) (by kernel_rfl) (fun _ _ _ h => h) (Or.inl ⟨by rfl, ?_⟩) (by assumption) (fun hHeld2 => ?_)
          rotate_left
          · intro w hSw
            obtain ⟨z0, z1, z2⟩ := hSw
            first | (go_simp; done) | (go_simp; with_reducible rfl)
          clear hHeld
          have hHeld := hHeld2
          clear hHeld2
          try simp only [Act.put, List.setIfInBounds_toArray, List.set_cons_zero, List.set_cons_succ]
          refine till_take 13 (i := 11) (v := ?_) (some 272) rfl rfl (by kernel_rfl) (by kernel_rfl) (by kernel_rfl) (by kernel_rfl) (fun _ _ _ h => h) (Or.inl ⟨by rfl, ?_⟩) (by assumption) (fun hHeld2 => ?_)
          rotate_left
          · intro w hSw
            obtain ⟨z0, z1, z2⟩ := hSw
            first | (go_simp; done) | (go_simp; with_reducible rfl)
          clear hHeld
          have hHeld := hHeld2
          clear hHeld2
          try simp only [Act.put, List.setIfInBounds_toArray, List.set_cons_zero, List.set_cons_succ]
          refine till_take 13 (i := 12) (v := ?_) (some 273) rfl rfl (by kernel_rfl) (by kernel_rfl) (by kernel_rfl) (by kernel_rfl) (fun _ _ _ h => h) (Or.inl ⟨by rfl, ?_⟩) (by assumption) (fun hHeld2 => ?_)
          rotate_left
          · intro w hSw
            obtain ⟨z0, z1, z2⟩ := hSw
            first | (go_simp; done) | (go_simp; with_reducible rfl)
          clear hHeld
          have hHeld := hHeld2
          clear hHeld2
          try simp only [Act.put, List.setIfInBounds_toArray, List.set_cons_zero, List.set_cons_succ]
          refine till_ready (rs := [13]) (by kernel_rfl) (by simp) ?_
          refine (AllTill.cons rfl (fun K hK => ?_) AllTill.nil)
          go_simp
          refine hK.out _ _ ?_ (fun hHeld2 => ?_)
          · exact held_late rfl
          clear hK K
          clear hHeld
          have hHeld := hHeld2
          clear hHeld2
          try simp only [Act.put, List.setIfInBounds_toArray, List.set_cons_zero, List.set_cons_succ]
          refine till_done (by kernel_rfl) ?_ _
          refine NoPanic.normal ?_
          go_wp2
          go_roundw
          case rel => exact ⟨k + 1, _, by omega, by go_num, HNX.out, (HBk.out.setCell (p := ⟨g1, p.1, none⟩) hg1c _).drew⟩
          case measure => simp [intOf]; omega
      · have hkd : decide ((k : Int) < (kn : Int)) = false := decide_eq_false (by omega)
        have hkd2 : decide (k < kn) = false := decide_eq_false hkk
        rw [if_neg (by rw [List.getElem?_eq_none (by rw [← HKN.out]; omega)]; simp)] at hnx
        have HNX := Lib.hid hnx
        clear hnx hp hav hrow hX hR hB
        go_wp2
        go_roundw
        case rel => exact ⟨k + 1, ss2, by omega, by go_num, by rw [HNX.out]; exact HRk.out, HBk.out⟩
        case measure => simp [intOf]; omega
    · obtain rfl : k = n2 := by omega
      clear hR hB
      go_wp2
      go_ret2
      have h9 := HRk.out
      rw [HN.out, List.take_length] at h9
      exact ⟨_, _, _, _, _, _, rfl, h9, fun g hg => by simp [Value.ownBlock] at hg, (RP_of_below HBX.out).trans (RP_of_below HBk.out)⟩
end Go.Proofs.Ytmhhcblgeellnaa
