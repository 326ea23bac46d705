/- Contracts: what the reference's Do answers: a write. (Its drawn regions are typed by program: tools/gendisk.py.) -/
import Derived.Test.YtmhhcblgeellnaaRdD
namespace Go.Proofs.Ytmhhcblgeellnaa
open Go.RowKit
set_option linter.unusedSimpArgs false
set_option linter.unusedVariables false

theorem rdw_end {wb w5 w6 w8 : World} {base gx gg gg2 cap cap2 c6 iN H : Nat} {A6 : Option Addr} {sv av wv : Value} {ss ws : List Value} {dur : List (List Nat)} {pend : List (Nat × List Nat)} {left : Int} {p : List Nat}
    (h : RD wb base gx sv av wv ss ws dur pend left) (hown5 : w5.ownsRow base 3 1 (.slice (some ⟨gg, 0, none⟩) (pend.length + 1) cap) (pend.length + 1) (ints (pend.map (·.1)) ++ [.int .i64 (iN : Int)])) (ho5 : OnlyAt wb w5 (fun k => some k = av.ownBlock)) (hb6 : Below w5.heap.size w5 w6)
    (hM6 : Mine w6 w5.heap.size A6 512 c6 (full p)) (hbl : base ≤ wb.heap.size)
    (hown8 : w8.ownsRow base 30 1 (.slice (some ⟨gg2, 0, none⟩) (pend.length + 1) cap2) (pend.length + 1) (ws ++ [.slice A6 512 c6])) (ho8 : OnlyAt w6 w8 (fun k => some k = wv.ownBlock)) (hat8 : wv.ownBlock = some gg2 ∨ gg2 = H) (hH : w6.heap.size ≤ H) :
    RD ((w8.setCell ⟨gx, 1, none⟩ (.slice (some ⟨gg, 0, none⟩) (pend.length + 1) cap)).setCell ⟨gx, 2, none⟩ (.slice (some ⟨gg2, 0, none⟩) (pend.length + 1) cap2)) base gx sv (.slice (some ⟨gg, 0, none⟩) (pend.length + 1) cap) (.slice (some ⟨gg2, 0, none⟩) (pend.length + 1) cap2) ss (ws ++ [.slice A6 512 c6]) dur (pend ++ [(iN, full p)]) left := by
  have ho6 : OnlyAt wb w6 (fun k => some k = av.ownBlock) := ho5.trans (OnlyAt.of_below hb6 _)
  have hob : OnlyAt wb w8 (fun k => some k = av.ownBlock ∨ some k = wv.ownBlock) := (ho6.mono (fun k _ e => .inl e)).trans (ho8.mono (fun k _ e => .inr e))
  have hnb : ∀ g cur, wb.heap[g]? = some (.cells cur 5 (0, 0)) → ¬ (some g = av.ownBlock ∨ some g = wv.ownBlock) := fun g cur hg e => by
    rcases e with e | e
    · obtain ⟨_, c2, h4⟩ := own_type h.at_ e.symm
      exact not_same hg h4 (by decide)
    · obtain ⟨_, c2, h4⟩ := own_type h.wait.row e.symm
      exact not_same hg h4 (by decide)
  have hst : w8.heap[gx]? = _ := (hob.block gx h.lt (fun e => by
    rcases e with e | e
    · exact h.av_ne e.symm rfl
    · exact h.wv_ne e.symm rfl)).trans h.st
  have h1 := heap_setCell_same w8 gx 1 _ _ (.slice (some ⟨gg, 0, none⟩) (pend.length + 1) cap) hst
  have h2 := heap_setCell_same _ gx 2 _ _ (.slice (some ⟨gg2, 0, none⟩) (pend.length + 1) cap2) h1
  have hS8 : Secs w8 base sv dur ss := h.safe.only hob hnb (fun g hg e => by
    rcases e with e | e
    · obtain ⟨_, c1, h3⟩ := own_type h.safe.row hg
      obtain ⟨_, c2, h4⟩ := own_type h.at_ e.symm
      exact not_same h3 h4 (by decide)
    · exact h.ne g hg e.symm)
  have hW6 : Secs w6 base wv (pend.map (·.2)) ws := h.wait.only ho6 (fun g cur hg e => hnb g cur hg (.inl e)) (fun g hg e => by
    obtain ⟨_, c1, h3⟩ := own_type h.wait.row hg
    obtain ⟨_, c2, h4⟩ := own_type h.at_ e.symm
    exact not_same h3 h4 (by decide))
  have hnw : ∀ g cur, w6.heap[g]? = some (.cells cur 5 (0, 0)) → ¬ some g = wv.ownBlock := fun g cur hg e => by
    obtain ⟨_, c2, h4⟩ := own_type hW6.row e.symm
    exact not_same hg h4 (by decide)
  have hW8 : Secs w8 base (.slice (some ⟨gg2, 0, none⟩) (pend.length + 1) cap2) (pend.map (·.2) ++ [full p]) (ws ++ [.slice A6 512 c6]) :=
    hW6.snoc (by rw [List.length_map]) hown8 ho8 hnw (mine_only (hM6.lower (Nat.le_trans hbl ho5.size)) ho8 hnw)
  have hA8 : w8.ownsRow base 3 1 (.slice (some ⟨gg, 0, none⟩) (pend.length + 1) cap) (pend.length + 1) (ints (pend.map (·.1)) ++ [.int .i64 (iN : Int)]) :=
    row_only (ownsRow_below hown5 hb6) ho8 (fun g cur hg _ e => by
      obtain ⟨_, c2, h4⟩ := own_type hW6.row e.symm
      exact not_same hg h4 (by decide))
  refine ⟨h2, h.le, (hS8.stset hst (by decide) (by decide)).stset h1 (by decide) (by decide), ?_, ?_, ?_⟩
  · have e : ints ((pend ++ [(iN, full p)]).map (·.1)) = ints (pend.map (·.1)) ++ [.int .i64 (iN : Int)] := by unfold ints; simp
    rw [e, List.length_append, List.length_singleton]
    exact row_only (row_only hA8 (OnlyAt.setCell _ _ _ _) (fun g cur hg _ e => not_same hst (e ▸ hg) (by decide))) (OnlyAt.setCell _ _ _ _) (fun g cur hg _ e => not_same h1 (e ▸ hg) (by decide))
  · rw [List.map_append]
    exact (hW8.stset hst (by decide) (by decide)).stset h1 (by decide) (by decide)
  · intro g hg e
    have e2 : gg2 = g := by simpa [Value.ownBlock] using e
    subst e2
    rcases hat8 with h8 | h8
    · exact h.ne _ hg h8
    · obtain ⟨_, c1, h3⟩ := own_type h.safe.row hg
      have := (Array.getElem?_eq_some_iff.1 h3).1
      have := ho6.size
      omega
set_option maxRecDepth 100000 in
set_option maxHeartbeats 4000000 in
theorem rdo_write {w : World} {base gx : Nat} {sv av wv : Value} {ss ws : List Value} {dur : List (List Nat)} {pend : List (Nat × List Nat)} {left : Int} (h : RD w base gx sv av wv ss ws dur pend left) (hbase : base ≤ w.heap.size) (hfew : 1 ≤ dur.length ∧ dur.length ≤ 4096) (hmany : pend.length ≤ 1000) (hleft : -1 ≤ left ∧ left ≤ 9223372036854775807)
    (d : Nat) (i bit n : Int) (PA KA : Option Addr) (pn pc kn kc : Nat) (odd : Bool) (mask : Nat) (hd : d % 7 < 3) (ho : odd = false) (iN : Nat) (hi : i = (iN : Int)) (hil : iN < dur.length) (hl : left ≠ 0) (p : List Nat) (hp : Bytes w base (.slice PA pn pc) p) :
    Calls Try.prog 12 #[.pointer (some ⟨gx, 0, none⟩), .agg #[.int .u8 (d : Int), .int .i64 i, .slice PA pn pc, .bool odd, .int .i64 bit, .int .i64 n, .int .u32 (mask : Int), .slice KA kn kc]] w (Done w base gx sv av wv dur (pend ++ [(iN, full p)]) (less left) 0) := by
  subst ho hi
  obtain ⟨i0, hi0, hz0, hz1, hz2⟩ := info_parts infoRow
  have HI := Lib.hid hi0
  have H0 := Lib.hid hz0
  have H1 := Lib.hid hz1
  have H2 := Lib.hid hz2
  clear hi0 hz0 hz1 hz2
  obtain ⟨j0, hi0, hz0, hz1, hz2⟩ := info_parts infoInt
  have HJ := Lib.hid hi0
  have J0 := Lib.hid hz0
  have J1 := Lib.hid hz1
  have J2 := Lib.hid hz2
  have HPP := Lib.hid hp
  clear hi0 hz0 hz1 hz2 hp
  obtain ⟨g0, scap, -, hsv, -, -, -⟩ := row_place h.safe.row (by omega)
  subst hsv
  have c0 := h.c0
  obtain ⟨r, hr⟩ : ∃ r, r = d % 7 := ⟨_, rfl⟩
  have hr3 : r < 3 := by omega
  have hd1 : (d : Int) % 7 = (r : Int) := by omega
  have hd2 : (d : Int).tmod 7 = (r : Int) := by rw [Int.tmod_eq_emod_of_nonneg (by omega)]; exact hd1
  have e6 : ((r : Int) == 6) = false := by rw [beq_eq_false_iff_ne]; omega
  have e3 : ((r : Int) == 3) = false := by rw [beq_eq_false_iff_ne]; omega
  have e4 : ((r : Int) == 4) = false := by rw [beq_eq_false_iff_ne]; omega
  have e5 : ((r : Int) == 5) = false := by rw [beq_eq_false_iff_ne]; omega
  clear hr
  have HH := Lib.hid h
  have HBS := Lib.hid hbase
  obtain ⟨th, hth⟩ : ∃ th : Bool, th = decide (0 ≤ (iN : Int) ∧ (iN : Int) < (dur.length : Int)) := ⟨_, rfl⟩
  have HT := Lib.hid hth
  clear h hth hbase
  have HD1 := Lib.hid hd1
  have HD2 := Lib.hid hd2
  clear hd1 hd2
  go_enter Try.func12, Try.ntmps12
  go_wp2
  go_cut [6] (fun v6 wx => v6 = .bool th ∧ Below w.heap.size w wx ∧ wx.heap[w.heap.size]? = some (.cells #[.int .u8 (d : Int), .int .i64 (iN : Int), .slice PA pn pc, .bool false, .int .i64 bit, .int .i64 n, .int .u32 (mask : Int), .slice KA kn kc] 34 (0, 0)))
  case first =>
    have hfin : ∀ q, Below w.heap.size w ((w.alloc (.cells #[.int .u8 (d : Int), .int .i64 (iN : Int), .slice PA pn pc, .bool false, .int .i64 bit, .int .i64 n, .int .u32 (mask : Int), .slice KA kn kc] 34)).drewN q) ∧ ((w.alloc (.cells #[.int .u8 (d : Int), .int .i64 (iN : Int), .slice PA pn pc, .bool false, .int .i64 bit, .int .i64 n, .int .u32 (mask : Int), .slice KA kn kc] 34)).drewN q).heap[w.heap.size]? = some (.cells #[.int .u8 (d : Int), .int .i64 (iN : Int), .slice PA pn pc, .bool false, .int .i64 bit, .int .i64 n, .int .u32 (mask : Int), .slice KA kn kc] 34 (0, 0)) := fun q => ⟨below_drewN ((Below.refl _ _).alloc (Nat.le_refl _) _) q, Go.heap_alloc_new w _⟩
    have HFIN := Lib.hid hfin
    clear hfin
    have c0a : (w.alloc (.cells #[.int .u8 (d : Int), .int .i64 (iN : Int), .slice PA pn pc, .bool false, .int .i64 bit, .int .i64 n, .int .u32 (mask : Int), .slice KA kn kc] 34)).cell? ⟨gx, 0, none⟩ = some (.slice (some ⟨g0, 0, none⟩) dur.length scap) := (((Below.refl w.heap.size w).alloc (Nat.le_refl _) _).cell (p := ⟨gx, 0, none⟩) HH.out.lt).trans c0
    have i0 : (0 : Int) ≤ (iN : Int) := by omega
    have i1 : (iN : Int) < (dur.length : Int) := by omega
    have ht : th = true := by rw [HT.out]; exact decide_eq_true ⟨i0, i1⟩
    subst ht
    go_quiet (fail)
    go_wp2_with fail
    go_meet
    exact ⟨rfl, HFIN.out _⟩
  case rest =>
  obtain ⟨wa, hwa⟩ : ∃ wa, wa = wc := ⟨_, rfl⟩
  subst hwa
  obtain ⟨rfl, hbx, hgx⟩ := hcut
  have hlx : w.heap.size < wa.heap.size := (Array.getElem?_eq_some_iff.1 hgx).1
  obtain ⟨q0, q1, q2, q3, q4, q5, q6, q7⟩ := box8 hgx
  have h := HH.out.below hbx
  have HX := Lib.hid h
  have HBX := Lib.hid hbx
  have HGX := Lib.hid hgx
  have hd1 := HD1.out
  have hd2 := HD2.out
  clear c0 hgx hbx
  have c3 := h.c3
  have f3 := h.fz 3
  have ht : th = true := by rw [HT.out]; exact decide_eq_true ⟨by omega, by omega⟩
  subst ht
  have hl0 : (left == 0) = false := by rw [beq_eq_false_iff_ne]; exact hl
  clear h
  go_upto_if 46 with fail
  go_cut [] (fun wx => RD wx base gx (.slice (some ⟨g0, 0, none⟩) dur.length scap) av wv ss ws dur pend (less left) ∧ OnlyAt w wx (RP gx (.slice (some ⟨g0, 0, none⟩) dur.length scap) av wv) ∧ wx.heap[w.heap.size]? = some (.cells #[.int .u8 (d : Int), .int .i64 (iN : Int), .slice PA pn pc, .bool false, .int .i64 bit, .int .i64 n, .int .u32 (mask : Int), .slice KA kn kc] 34 (0, 0)))
  case first =>
    by_cases hp : 0 < left
    · have hp2 : decide (left > 0) = true := decide_eq_true hp
      go_wp2_with fail
      go_meet
      refine ⟨by rw [show less left = left - 1 from if_pos (by omega)]; exact HX.out.lim _, (RP_of_below HBX.out).trans RP_set, ?_⟩
      rw [heap_setCell_other _ ⟨gx, 3, none⟩ w.heap.size _ (fun e => not_same HX.out.st ((show w.heap.size = gx from e) ▸ HGX.out) (by decide))]
      exact HGX.out
    · have hp2 : decide (left > 0) = false := decide_eq_false hp
      have hp3 : decide (0 < left) = false := decide_eq_false hp
      go_wp2_with fail
      go_meet
      exact ⟨by rw [show less left = left from if_neg (by omega)]; exact HX.out, RP_of_below HBX.out, HGX.out⟩
  case rest =>
  obtain ⟨hR, hO, hG⟩ := hcut
  obtain ⟨wb, hwb⟩ : ∃ wb, wb = wc := ⟨_, rfl⟩
  subst hwb
  clear c3 f3 q0 q1 q2 q3 q4 q5 q6 q7 hlx HX HBX HGX
  obtain ⟨q0, q1, q2, q3, q4, q5, q6, q7⟩ := box8 hG
  have hbw : Below base w wb := hO.below (fun k hk => by
    rcases hk with e | e | e | e
    · rw [e]; exact HH.out.le
    · exact (own_type HH.out.safe.row e.symm).1
    · exact (own_type HH.out.at_ e.symm).1
    · exact (own_type HH.out.wait.row e.symm).1) HBS.out
  have HPB := Lib.hid (HPP.out.below hbw)
  have HBL : Hid (base ≤ wb.heap.size) := Nat.le_trans HBS.out hO.size
  have HX := Lib.hid hR
  have hcx : ∀ x, OnlyAt wb x (fun k => some k = av.ownBlock ∨ some k = wv.ownBlock) → x.cell? ⟨gx, 1, none⟩ = some av ∧ x.cell? ⟨gx, 2, none⟩ = some wv ∧ x.cell? ⟨w.heap.size, 1, none⟩ = some (.int .i64 (iN : Int)) ∧ x.cell? ⟨w.heap.size, 2, none⟩ = some (.slice PA pn pc) := fun x hx => by
    have h1 : x.heap[gx]? = _ := (hx.block gx hR.lt (fun e => by
      rcases e with e | e
      · exact hR.av_ne e.symm rfl
      · exact hR.wv_ne e.symm rfl)).trans hR.st
    have h2 : x.heap[w.heap.size]? = _ := (hx.block w.heap.size (Array.getElem?_eq_some_iff.1 hG).1 (fun e => by
      rcases e with e | e
      · obtain ⟨_, c2, h4⟩ := own_type hR.at_ e.symm
        exact not_same hG h4 (by decide)
      · obtain ⟨_, c2, h4⟩ := own_type hR.wait.row e.symm
        exact not_same hG h4 (by decide))).trans hG
    obtain ⟨-, b1, b2, -, -, -, -, -⟩ := box8 h2
    exact ⟨by rw [cell_of_row x gx 1 _ _ _ h1]; rfl, by rw [cell_of_row x gx 2 _ _ _ h1]; rfl, b1, b2⟩
  have hcf : ∀ x, OnlyAt wb x (fun k => some k = av.ownBlock ∨ some k = wv.ownBlock) → x.cell? ⟨gx, 1, none⟩ = some av ∧ x.cell? ⟨gx, 2, none⟩ = some wv ∧ x.cell? ⟨w.heap.size, 1, none⟩ = some (.int .i64 (iN : Int)) ∧ x.cell? ⟨w.heap.size, 2, none⟩ = some (.slice PA pn pc) ∧ x.frozen? ⟨gx, 1, none⟩ = false ∧ x.frozen? ⟨gx, 2, none⟩ = false := fun x hx => by
    have h1 : x.heap[gx]? = _ := (hx.block gx hR.lt (fun e => by
      rcases e with e | e
      · exact hR.av_ne e.symm rfl
      · exact hR.wv_ne e.symm rfl)).trans hR.st
    obtain ⟨a1, a2, a3, a4⟩ := hcx x hx
    exact ⟨a1, a2, a3, a4, frozen_of_row x gx 1 _ _ h1, frozen_of_row x gx 2 _ _ h1⟩
  have HCX := Lib.hid hcx
  have HCF := Lib.hid hcf
  have HO := Lib.hid hO
  have HGG := Lib.hid hG
  clear hbw hR hcx hcf hO hG
  go_wp2
  refine wp_region_noPanic ?_
  refine region_till [21, 24] (fun s x => s = 21 → (x.cell? ⟨gx, 1, none⟩ = some av ∧ x.cell? ⟨gx, 2, none⟩ = some wv ∧ x.cell? ⟨w.heap.size, 1, none⟩ = some (.int .i64 (iN : Int)) ∧ x.cell? ⟨w.heap.size, 2, none⟩ = some (.slice PA pn pc))) (by kernel_rfl) (fun s _ => HCX.out _ (OnlyAt.refl _ _).drew) (fun hHeld => ?_)
  refine till_take 21 (i := 0) (v := ?_) (some 54) rfl rfl (by kernel_rfl) (by kernel_rfl) (by kernel_rfl) (by kernel_rfl) (fun _ _ _ h => h) (Or.inl ⟨by rfl, ?_⟩) (by assumption) (fun hHeld2 => ?_)
  rotate_left
  · intro w hSw
    obtain ⟨x1, x2, x3, x4⟩ := hSw rfl
    first | (go_simp; done) | (go_simp; with_reducible rfl)
  clear hHeld
  have hHeld := hHeld2
  clear hHeld2
  try simp only [Act.put, List.setIfInBounds_toArray, List.set_cons_zero, List.set_cons_succ]
  refine till_take 24 (i := 1) (v := ?_) (some 55) rfl rfl (by kernel_rfl) (by kernel_rfl) (by kernel_rfl) (by kernel_rfl) (fun _ _ _ h => h) (Or.inl ⟨by rfl, ?_⟩) (by assumption) (fun hHeld2 => ?_)
  rotate_left
  · intro w hSw
    skip
    first | (go_simp; done) | (go_simp; with_reducible rfl)
  clear hHeld
  have hHeld := hHeld2
  clear hHeld2
  try simp only [Act.put, List.setIfInBounds_toArray, List.set_cons_zero, List.set_cons_succ]
  refine till_take 21 (i := 2) (v := ?_) (some 56) rfl rfl (by kernel_rfl) (by kernel_rfl) (by kernel_rfl) (by kernel_rfl) (fun _ _ _ h => h) (Or.inl ⟨by rfl, ?_⟩) (by assumption) (fun hHeld2 => ?_)
  rotate_left
  · intro w hSw
    obtain ⟨x1, x2, x3, x4⟩ := hSw rfl
    first | (go_simp; done) | (go_simp; with_reducible rfl)
  clear hHeld
  have hHeld := hHeld2
  clear hHeld2
  try simp only [Act.put, List.setIfInBounds_toArray, List.set_cons_zero, List.set_cons_succ]
  refine till_take 21 (i := 3) (v := ?_) (some 57) rfl rfl (by kernel_rfl) (by kernel_rfl) (by kernel_rfl) (by kernel_rfl) (fun _ _ _ h => h) (Or.inl ⟨by rfl, ?_⟩) (by assumption) (fun hHeld2 => ?_)
  rotate_left
  · intro w hSw
    obtain ⟨x1, x2, x3, x4⟩ := hSw rfl
    first | (go_simp; done) | (go_simp; with_reducible rfl)
  clear hHeld
  have hHeld := hHeld2
  clear hHeld2
  try simp only [Act.put, List.setIfInBounds_toArray, List.set_cons_zero, List.set_cons_succ]
  refine till_take 21 (i := 4) (v := ?_) (some 58) rfl rfl (by kernel_rfl) (by kernel_rfl) (by kernel_rfl) (by kernel_rfl) (fun _ _ _ h => h) (Or.inl ⟨by rfl, ?_⟩) (by assumption) (fun hHeld2 => ?_)
  rotate_left
  · intro w hSw
    obtain ⟨x1, x2, x3, x4⟩ := hSw rfl
    first | (go_simp; done) | (go_simp; with_reducible rfl)
  clear hHeld
  have hHeld := hHeld2
  clear hHeld2
  try simp only [Act.put, List.setIfInBounds_toArray, List.set_cons_zero, List.set_cons_succ]
  refine till_take 21 (i := 5) (v := ?_) (some 59) rfl rfl (by kernel_rfl) (by kernel_rfl) (by kernel_rfl) (by kernel_rfl) (fun _ _ _ h => h) (Or.inl ⟨by rfl, ?_⟩) (by assumption) (fun hHeld2 => ?_)
  rotate_left
  · intro w hSw
    obtain ⟨x1, x2, x3, x4⟩ := hSw rfl
    first | (go_simp; done) | (go_simp; with_reducible rfl)
  clear hHeld
  have hHeld := hHeld2
  clear hHeld2
  try simp only [Act.put, List.setIfInBounds_toArray, List.set_cons_zero, List.set_cons_succ]
  refine till_take 21 (i := 6) (v := ?_) (some 60) rfl rfl (by kernel_rfl) (by kernel_rfl) (by kernel_rfl) (by kernel_rfl) (fun _ _ _ h => h) (Or.inl ⟨by rfl, ?_⟩) (by assumption) (fun hHeld2 => ?_)
  rotate_left
  · intro w hSw
    obtain ⟨x1, x2, x3, x4⟩ := hSw rfl
    first | (go_simp; done) | (go_simp; with_reducible rfl)
  clear hHeld
  have hHeld := hHeld2
  clear hHeld2
  try simp only [Act.put, List.setIfInBounds_toArray, List.set_cons_zero, List.set_cons_succ]
  refine till_take 21 (i := 7) (v := ?_) (some 61) rfl rfl (by kernel_rfl) (by kernel_rfl) (by kernel_rfl) (by kernel_rfl) (fun _ _ _ h => h) (Or.inl ⟨by rfl, ?_⟩) (by assumption) (fun hHeld2 => ?_)
  rotate_left
  · intro w hSw
    obtain ⟨x1, x2, x3, x4⟩ := hSw rfl
    first | (go_simp; done) | (go_simp; with_reducible rfl)
  clear hHeld
  have hHeld := hHeld2
  clear hHeld2
  try simp only [Act.put, List.setIfInBounds_toArray, List.set_cons_zero, List.set_cons_succ]
  refine till_take 21 (i := 10) (v := ?_) (some 64) rfl rfl (by kernel_rfl) (by kernel_rfl) (by kernel_rfl) (by kernel_rfl) (fun _ _ _ h => h) (Or.inl ⟨by rfl, ?_⟩) (by assumption) (fun hHeld2 => ?_)
  rotate_left
  · intro w hSw
    obtain ⟨x1, x2, x3, x4⟩ := hSw rfl
    first | (go_simp; done) | (go_simp; with_reducible rfl)
  clear hHeld
  have hHeld := hHeld2
  clear hHeld2
  try simp only [Act.put, List.setIfInBounds_toArray, List.set_cons_zero, List.set_cons_succ]
  refine till_take 21 (i := 11) (v := ?_) (some 65) rfl rfl (by kernel_rfl) (by kernel_rfl) (by kernel_rfl) (by kernel_rfl) (fun _ _ _ h => h) (Or.inl ⟨by rfl, ?_⟩) (by assumption) (fun hHeld2 => ?_)
  rotate_left
  · intro w hSw
    obtain ⟨x1, x2, x3, x4⟩ := hSw rfl
    first | (go_simp; done) | (go_simp; with_reducible rfl)
  clear hHeld
  have hHeld := hHeld2
  clear hHeld2
  try simp only [Act.put, List.setIfInBounds_toArray, List.set_cons_zero, List.set_cons_succ]
  refine till_take 21 (i := 12) (v := ?_) (some 66) rfl rfl (by kernel_rfl) (by kernel_rfl) (by kernel_rfl) (by kernel_rfl) (fun _ _ _ h => h) (Or.inl ⟨by rfl, ?_⟩) (by assumption) (fun hHeld2 => ?_)
  rotate_left
  · intro w hSw
    obtain ⟨x1, x2, x3, x4⟩ := hSw rfl
    first | (go_simp; done) | (go_simp; with_reducible rfl)
  clear hHeld
  have hHeld := hHeld2
  clear hHeld2
  try simp only [Act.put, List.setIfInBounds_toArray, List.set_cons_zero, List.set_cons_succ]
  refine till_take 21 (i := 13) (v := ?_) (some 67) rfl rfl (by kernel_rfl) (by kernel_rfl) (by kernel_rfl) (by kernel_rfl) (fun _ _ _ h => h) (Or.inl ⟨by rfl, ?_⟩) (by assumption) (fun hHeld2 => ?_)
  rotate_left
  · intro w hSw
    obtain ⟨x1, x2, x3, x4⟩ := hSw rfl
    first | (go_simp; done) | (go_simp; with_reducible rfl)
  clear hHeld
  have hHeld := hHeld2
  clear hHeld2
  try simp only [Act.put, List.setIfInBounds_toArray, List.set_cons_zero, List.set_cons_succ]
  refine till_take 21 (i := 14) (v := ?_) (some 68) rfl rfl (by kernel_rfl) (by kernel_rfl) (by kernel_rfl) (by kernel_rfl) (fun _ _ _ h => h) (Or.inl ⟨by rfl, ?_⟩) (by assumption) (fun hHeld2 => ?_)
  rotate_left
  · intro w hSw
    obtain ⟨x1, x2, x3, x4⟩ := hSw rfl
    first | (go_simp; done) | (go_simp; with_reducible rfl)
  clear hHeld
  have hHeld := hHeld2
  clear hHeld2
  try simp only [Act.put, List.setIfInBounds_toArray, List.set_cons_zero, List.set_cons_succ]
  refine till_take 21 (i := 15) (v := ?_) (some 69) rfl rfl (by kernel_rfl) (by kernel_rfl) (by kernel_rfl) (by kernel_rfl) (fun _ _ _ h => h) (Or.inl ⟨by rfl, ?_⟩) (by assumption) (fun hHeld2 => ?_)
  rotate_left
  · intro w hSw
    obtain ⟨x1, x2, x3, x4⟩ := hSw rfl
    first | (go_simp; done) | (go_simp; with_reducible rfl)
  clear hHeld
  have hHeld := hHeld2
  clear hHeld2
  try simp only [Act.put, List.setIfInBounds_toArray, List.set_cons_zero, List.set_cons_succ]
  refine till_ready (rs := [8]) (by kernel_rfl) (by simp) ?_
  refine (AllTill.cons rfl (fun K hK => ?_) AllTill.nil)
  go_simp
  refine hK.out _ _ ?_ (fun hHeld2 => ?_)
  · exact fun s _ _ _ => HCX.out _ (OnlyAt.of_below ((Below.refl _ _).drew.alloc (Nat.le_refl _) _) _)
  clear hK K
  clear hHeld
  have hHeld := hHeld2
  clear hHeld2
  try simp only [Act.put, List.setIfInBounds_toArray, List.set_cons_zero, List.set_cons_succ]
  refine till_ready (rs := [9]) (by kernel_rfl) (by simp) ?_
  refine (AllTill.cons rfl (fun K hK => ?_) AllTill.nil)
  refine step_append_lies _ (by rfl) _ _ _ (by rfl) base 3 j0 _ 1 8 Try.underlying49 HJ.out J0.out J1.out J2.out (by rfl) (by omega) av pend.length (ints (pend.map (·.1))) (by rfl) (ownsRow_below HX.out.at_ ((Below.refl _ _).alloc (Nat.le_refl _) _).drew) _ 1 1 [.int .i64 (iN : Int)] rfl (by rfl) (fun j u hj => cell_of_new_drew (by simp) hj) (by simp; rfl) (by omega) (by unfold maxLen; omega) (by omega) (by have := HBL.out; simp; omega) _ rfl ?_
  intro gg cap w5 hown5 hg5 hat5 hlt5
  have ho5 : OnlyAt wb w5 (fun k => some k = av.ownBlock) := (OnlyAt.of_below ((Below.refl _ _).alloc (Nat.le_refl _) _).drew _).trans (OnlyAt.grown hg5)
  have HOWN5 := Lib.hid hown5
  have HO5 := Lib.hid ho5
  have HAT5 := Lib.hid hat5
  have hb5 : Below base wb w5 := ho5.below (fun k hk => (own_type HX.out.at_ hk.symm).1) HBL.out
  have HFU := hide (full_any w5 (.slice PA pn pc) p ((HPB.out.below hb5).up (Nat.le_trans HBL.out ho5.size)))
  have HB5 := Lib.hid hb5
  clear hown5 ho5 hg5 hat5 hb5
  refine hK.out _ _ ?_ (fun hHeld2 => ?_)
  · exact fun s _ _ _ => HCX.out _ (HO5.out.mono (fun k _ e => .inl e))
  clear hK K
  clear hHeld
  have hHeld := hHeld2
  clear hHeld2
  try simp only [Act.put, List.setIfInBounds_toArray, List.set_cons_zero, List.set_cons_succ]
  refine till_ready (rs := [16]) (by kernel_rfl) (by simp) ?_
  refine (AllTill.cons rfl (fun K hK => ?_) AllTill.nil)
  go_simp
  refine (unhide HFU).mono ?_
  rintro e w6 ⟨A6, n6, c6, rfl, hM6, hb6⟩
  obtain rfl : n6 = 512 := hM6.len.trans (full_length p)
  have HM6 := Lib.hid hM6
  have HB6 := Lib.hid hb6
  have ho6 : OnlyAt wb w6 (fun k => some k = av.ownBlock) := HO5.out.trans (OnlyAt.of_below hb6 _)
  have HO6 := Lib.hid ho6
  clear hM6 hb6 ho6
  refine hK.out _ _ ?_ (fun hHeld2 => ?_)
  · exact fun s _ _ _ => HCX.out _ (HO6.out.mono (fun k _ e => .inl e))
  clear hK K
  clear hHeld
  have hHeld := hHeld2
  clear hHeld2
  try simp only [Act.put, List.setIfInBounds_toArray, List.set_cons_zero, List.set_cons_succ]
  refine till_ready (rs := [17]) (by kernel_rfl) (by simp) ?_
  refine (AllTill.cons rfl (fun K hK => ?_) AllTill.nil)
  go_simp
  refine hK.out _ _ ?_ (fun hHeld2 => ?_)
  · exact fun s _ _ _ => HCX.out _ ((HO6.out.trans (OnlyAt.of_below ((Below.refl _ _).alloc (Nat.le_refl _) _) _)).mono (fun k _ e => .inl e))
  clear hK K
  clear hHeld
  have hHeld := hHeld2
  clear hHeld2
  try simp only [Act.put, List.setIfInBounds_toArray, List.set_cons_zero, List.set_cons_succ]
  refine till_ready (rs := [18]) (by kernel_rfl) (by simp) ?_
  refine (AllTill.cons rfl (fun K hK => ?_) AllTill.nil)
  have hr7 : (w6.alloc (.cells #[.slice A6 512 c6] 30)).ownsRow base 30 1 wv pend.length ws := by
    have h9 := row_only HX.out.wait.row (HO6.out.trans (OnlyAt.of_below ((Below.refl _ _).alloc (Nat.le_refl _) (.cells #[.slice A6 512 c6] 30)) _)) (fun g cur hg hb e => by
      obtain ⟨_, c2, h4⟩ := own_type HX.out.at_ e.symm
      exact not_same hg h4 (by decide))
    rw [List.length_map] at h9
    exact h9
  refine step_append_lies _ (by rfl) _ _ _ (by rfl) base 30 i0 _ 1 24 Try.underlying58 HI.out H0.out H1.out H2.out (by rfl) (by omega) wv pend.length ws (by rfl) hr7 _ 1 1 [.slice A6 512 c6] rfl (by rfl) (fun j u hj => cell_of_new hj) (by simp; rfl) (by omega) (by unfold maxLen; omega) (by omega) (by have := HBL.out; have := HO6.out.size; simp; omega) _ rfl ?_
  intro gg2 cap2 w8 hown8 hg8 hat8 hlt8
  have hb67 : Below w6.heap.size w6 (w6.alloc (.cells #[.slice A6 512 c6] 30)) := (Below.refl _ _).alloc (Nat.le_refl _) _
  have ho8 : OnlyAt w6 w8 (fun k => some k = wv.ownBlock) := (OnlyAt.of_below hb67 _).trans (OnlyAt.grown hg8)
  have HOWN8 := Lib.hid hown8
  have HO8 := Lib.hid ho8
  have HAT8 := Lib.hid hat8
  have hob : OnlyAt wb w8 (fun k => some k = av.ownBlock ∨ some k = wv.ownBlock) := (HO6.out.mono (fun k _ e => .inl e)).trans (ho8.mono (fun k _ e => .inr e))
  have HOB := Lib.hid hob
  obtain ⟨z1, z2, z3, z4, y1, y2⟩ := HCF.out _ hob
  clear hown8 ho8 hg8 hat8 hob hr7 hb67
  refine hK.out _ _ ?_ (fun hHeld2 => ?_)
  · exact fun s _ _ _ => HCX.out _ HOB.out
  clear hK K
  clear hHeld
  have hHeld := hHeld2
  clear hHeld2
  try simp only [Act.put, List.setIfInBounds_toArray, List.set_cons_zero, List.set_cons_succ]
  refine till_take 21 (i := 19) (v := ?_) (some 73) rfl rfl (by kernel_rfl) (by kernel_rfl) (by kernel_rfl) (by kernel_rfl) (fun _ _ _ h => h) (Or.inl ⟨by rfl, ?_⟩) (by assumption) (fun hHeld2 => ?_)
  rotate_left
  · intro w hSw
    obtain ⟨x1, x2, x3, x4⟩ := hSw rfl
    first | (go_simp; done) | (go_simp; with_reducible rfl)
  clear hHeld
  have hHeld := hHeld2
  clear hHeld2
  try simp only [Act.put, List.setIfInBounds_toArray, List.set_cons_zero, List.set_cons_succ]
  refine till_take 21 (i := 20) (v := ?_) (some 74) rfl rfl (by kernel_rfl) (by kernel_rfl) (by kernel_rfl) (by kernel_rfl) (fun _ _ _ h => h) (Or.inl ⟨by rfl, ?_⟩) (by assumption) (fun hHeld2 => ?_)
  rotate_left
  · intro w hSw
    obtain ⟨x1, x2, x3, x4⟩ := hSw rfl
    first | (go_simp; done) | (go_simp; with_reducible rfl)
  clear hHeld
  have hHeld := hHeld2
  clear hHeld2
  try simp only [Act.put, List.setIfInBounds_toArray, List.set_cons_zero, List.set_cons_succ]
  refine till_ready (rs := [21]) (by kernel_rfl) (by simp) ?_
  refine (AllTill.cons rfl (fun K hK => ?_) AllTill.nil)
  go_simp
  refine hK.out _ _ ?_ (fun hHeld2 => ?_)
  · exact fun s hs hl e => absurd hl (by rw [e]; decide)
  clear hK K
  clear hHeld
  have hHeld := hHeld2
  clear hHeld2
  try simp only [Act.put, List.setIfInBounds_toArray, List.set_cons_zero, List.set_cons_succ]
  refine till_take 24 (i := 22) (v := ?_) (some 75) rfl rfl (by kernel_rfl) (by kernel_rfl) (by kernel_rfl) (by kernel_rfl) (fun _ _ _ h => h) (Or.inl ⟨by rfl, ?_⟩) (by assumption) (fun hHeld2 => ?_)
  rotate_left
  · intro w hSw
    skip
    first | (go_simp; done) | (go_simp; with_reducible rfl)
  clear hHeld
  have hHeld := hHeld2
  clear hHeld2
  try simp only [Act.put, List.setIfInBounds_toArray, List.set_cons_zero, List.set_cons_succ]
  refine till_take 24 (i := 23) (v := ?_) (some 76) rfl rfl (by kernel_rfl) (by kernel_rfl) (by kernel_rfl) (by kernel_rfl) (fun _ _ _ h => h) (Or.inl ⟨by rfl, ?_⟩) (by assumption) (fun hHeld2 => ?_)
  rotate_left
  · intro w hSw
    skip
    first | (go_simp; done) | (go_simp; with_reducible rfl)
  clear hHeld
  have hHeld := hHeld2
  clear hHeld2
  try simp only [Act.put, List.setIfInBounds_toArray, List.set_cons_zero, List.set_cons_succ]
  refine till_ready (rs := [24]) (by kernel_rfl) (by simp) ?_
  refine (AllTill.cons rfl (fun K hK => ?_) AllTill.nil)
  go_simp
  refine hK.out _ _ ?_ (fun hHeld2 => ?_)
  · exact held_late rfl
  clear hK K
  clear hHeld
  have hHeld := hHeld2
  clear hHeld2
  try simp only [Act.put, List.setIfInBounds_toArray, List.set_cons_zero, List.set_cons_succ]
  refine till_done (by kernel_rfl) ?_ _
  refine NoPanic.normal ?_
  go_wp2
  go_ret2
  have hend := rdw_end HX.out HOWN5.out HO5.out HB6.out HM6.out HBL.out HOWN8.out HO8.out HAT8.out (by simp)
  refine ⟨gx, _, _, _, _, _, rfl, hend, ?_, ?_⟩
  · intro g hg
    have e2 : gg = g := by simpa [Value.ownBlock] using hg
    subst e2
    rcases HAT5.out with h8 | h8
    · exact .inl h8
    · refine .inr ?_
      have := HO.out.size
      simp at h8
      omega
  · exact ((HO.out.trans (HOB.out.mono (fun k _ e => by
      rcases e with e | e
      · exact .inr (.inr (.inl e))
      · exact .inr (.inr (.inr e))))).trans RP_set).trans RP_set
end Go.Proofs.Ytmhhcblgeellnaa
