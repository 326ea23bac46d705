/- Contracts: what the reference's Do answers at a limit, and at a sync. (Its drawn regions are typed by program: tools/gendisk.py.) -/
import Derived.Test.YtmhhcblgeellnaaRdC
namespace Go.Proofs.Ytmhhcblgeellnaa
open Go.RowKit
set_option linter.unusedSimpArgs false
set_option linter.unusedVariables false

theorem box8 {x : World} {g : Nat} {v0 v1 v2 v3 v4 v5 v6 v7 : Value} {t : TypeId} {f : Nat × Nat} (h : x.heap[g]? = some (.cells #[v0, v1, v2, v3, v4, v5, v6, v7] t f)) :
    x.cell? ⟨g, 0, none⟩ = some v0 ∧ x.cell? ⟨g, 1, none⟩ = some v1 ∧ x.cell? ⟨g, 2, none⟩ = some v2 ∧ x.cell? ⟨g, 3, none⟩ = some v3 ∧ x.cell? ⟨g, 4, none⟩ = some v4 ∧ x.cell? ⟨g, 5, none⟩ = some v5 ∧ x.cell? ⟨g, 6, none⟩ = some v6 ∧ x.cell? ⟨g, 7, none⟩ = some v7 := by
  refine ⟨?_, ?_, ?_, ?_, ?_, ?_, ?_, ?_⟩
  all_goals (rw [cell_of_row x g _ _ _ _ h]; rfl)
theorem RP_of_below {a b : World} {gx : Nat} {sv av wv : Value} (h : Below a.heap.size a b) : OnlyAt a b (RP gx sv av wv) := OnlyAt.of_below h _
theorem RP_set {a : World} {gx i : Nat} {sv av wv v : Value} : OnlyAt a (a.setCell ⟨gx, i, none⟩ v) (RP gx sv av wv) := (OnlyAt.setCell a gx i v).mono (fun k _ e => .inl e)
set_option maxRecDepth 100000 in
set_option maxHeartbeats 4000000 in
theorem rdo_limit {w : World} {base gx : Nat} {sv av wv : Value} {ss ws : List Value} {dur : List (List Nat)} {pend : List (Nat × List Nat)} {left : Int} (h : RD w base gx sv av wv ss ws dur pend left) (hbase : base ≤ w.heap.size) (hfew : 1 ≤ dur.length ∧ dur.length ≤ 4096) (hmany : pend.length ≤ 1000) (hleft : -1 ≤ left ∧ left ≤ 9223372036854775807)
    (d : Nat) (i bit n : Int) (PA KA : Option Addr) (pn pc kn kc : Nat) (odd : Bool) (mask : Nat) (hd : d % 7 = 6) :
    Calls Try.prog 12 #[.pointer (some ⟨gx, 0, none⟩), .agg #[.int .u8 (d : Int), .int .i64 i, .slice PA pn pc, .bool odd, .int .i64 bit, .int .i64 n, .int .u32 (mask : Int), .slice KA kn kc]] w (Done w base gx sv av wv dur pend (norm n) 0) := by
  obtain ⟨g0, scap, -, hsv, -, -, -⟩ := row_place h.safe.row (by omega)
  subst hsv
  have c0 := h.c0
  have hd1 : (d : Int) % 7 = 6 := by omega
  have hd2 : (d : Int).tmod 7 = 6 := by rw [Int.tmod_eq_emod_of_nonneg (by omega)]; exact hd1
  have HH := Lib.hid h
  have HBS := Lib.hid hbase
  obtain ⟨th, hth⟩ : ∃ th : Bool, th = decide (0 ≤ i ∧ i < (dur.length : Int)) := ⟨_, rfl⟩
  have HT := Lib.hid hth
  clear h hth hbase
  have HD1 := Lib.hid hd1
  have HD2 := Lib.hid hd2
  clear hd1 hd2
  go_enter Try.func12, Try.ntmps12
  go_wp2
  go_cut [6] (fun v6 wx => v6 = .bool th ∧ Below w.heap.size w wx ∧ wx.heap[w.heap.size]? = some (.cells #[.int .u8 (d : Int), .int .i64 i, .slice PA pn pc, .bool odd, .int .i64 bit, .int .i64 n, .int .u32 (mask : Int), .slice KA kn kc] 34 (0, 0)))
  case first =>
    have hfin : ∀ q, Below w.heap.size w ((w.alloc (.cells #[.int .u8 (d : Int), .int .i64 i, .slice PA pn pc, .bool odd, .int .i64 bit, .int .i64 n, .int .u32 (mask : Int), .slice KA kn kc] 34)).drewN q) ∧ ((w.alloc (.cells #[.int .u8 (d : Int), .int .i64 i, .slice PA pn pc, .bool odd, .int .i64 bit, .int .i64 n, .int .u32 (mask : Int), .slice KA kn kc] 34)).drewN q).heap[w.heap.size]? = some (.cells #[.int .u8 (d : Int), .int .i64 i, .slice PA pn pc, .bool odd, .int .i64 bit, .int .i64 n, .int .u32 (mask : Int), .slice KA kn kc] 34 (0, 0)) := fun q => ⟨below_drewN ((Below.refl _ _).alloc (Nat.le_refl _) _) q, Go.heap_alloc_new w _⟩
    have HFIN := Lib.hid hfin
    clear hfin
    have c0a : (w.alloc (.cells #[.int .u8 (d : Int), .int .i64 i, .slice PA pn pc, .bool odd, .int .i64 bit, .int .i64 n, .int .u32 (mask : Int), .slice KA kn kc] 34)).cell? ⟨gx, 0, none⟩ = some (.slice (some ⟨g0, 0, none⟩) dur.length scap) := (((Below.refl w.heap.size w).alloc (Nat.le_refl _) _).cell (p := ⟨gx, 0, none⟩) HH.out.lt).trans c0
    by_cases h0 : 0 ≤ i
    · by_cases h1 : i < (dur.length : Int)
      · have ht : th = true := by rw [HT.out]; exact decide_eq_true ⟨h0, h1⟩
        subst ht
        go_quiet (fail)
        go_wp2_with fail
        go_meet
        exact ⟨rfl, HFIN.out _⟩
      · have ht : th = false := by rw [HT.out]; exact decide_eq_false (fun e => h1 e.2)
        subst ht
        have hx : decide (i < (dur.length : Int)) = false := decide_eq_false h1
        go_quiet (fail)
        go_wp2_with fail
        go_meet
        exact ⟨rfl, HFIN.out _⟩
    · have ht : th = false := by rw [HT.out]; exact decide_eq_false (fun e => h0 e.1)
      subst ht
      have hx : decide (0 ≤ i) = false := decide_eq_false h0
      have hx2 : decide (i ≥ 0) = false := decide_eq_false h0
      go_quiet (fail)
      go_wp2_with fail
      go_meet
      exact ⟨rfl, HFIN.out _⟩
  case rest =>
  obtain ⟨wa, hwa⟩ : ∃ wa, wa = wc := ⟨_, rfl⟩
  subst hwa
  obtain ⟨rfl, hbx, hgx⟩ := hcut
  have hlx : w.heap.size < wa.heap.size := (Array.getElem?_eq_some_iff.1 hgx).1
  obtain ⟨q0, q1, q2, q3, q4, q5, q6, q7⟩ := box8 hgx
  have h := HH.out.below hbx
  have HX := Lib.hid h
  have HBX := Lib.hid hbx
  have HGX := Lib.hid hgx
  have hd1 := HD1.out
  have hd2 := HD2.out
  clear c0 hgx hbx
  have c3 := h.c3
  have f3 := h.fz 3
  clear h
  by_cases hn : n < 0
  · go_wp2
    go_ret2
    have e : norm n = -1 := if_pos (by omega)
    rw [e]
    exact ⟨gx, _, _, _, _, _, rfl, (HX.out.lim n).lim (-1), fun g hg => .inl hg, ((RP_of_below HBX.out).trans RP_set).trans RP_set⟩
  · have hn2 : decide (n < 0) = false := decide_eq_false hn
    go_wp2
    go_ret2
    have e : norm n = n := if_neg (by omega)
    rw [e]
    exact ⟨gx, _, _, _, _, _, rfl, HX.out.lim n, fun g hg => .inl hg, (RP_of_below HBX.out).trans RP_set⟩
section
variable {w : World} {base gx : Nat} {sv av wv : Value} {ss ws : List Value} {dur : List (List Nat)} {pend : List (Nat × List Nat)} {left : Int}
theorem RD.clear (h : RD w base gx sv av wv ss ws dur pend left) : RD ((w.setCell ⟨gx, 1, none⟩ (.slice none 0 0)).setCell ⟨gx, 2, none⟩ (.slice none 0 0)) base gx sv (.slice none 0 0) (.slice none 0 0) ss [] dur [] left := by
  have h1 := heap_setCell_same w gx 1 _ _ (.slice none 0 0) h.st
  have h2 := heap_setCell_same _ gx 2 _ _ (.slice none 0 0) h1
  exact ⟨h2, h.le, (h.safe.stset h.st (by decide) (by decide)).stset h1 (by decide) (by decide), ⟨rfl, .inl ⟨rfl, rfl⟩⟩, ⟨⟨rfl, .inl ⟨rfl, rfl⟩⟩, by simp⟩, fun g _ e => by simp [Value.ownBlock] at e⟩
theorem RD.drew (h : RD w base gx sv av wv ss ws dur pend left) : RD w.drew base gx sv av wv ss ws dur pend left := h.below (Below.refl _ _).drew
end
set_option maxRecDepth 100000 in
set_option maxHeartbeats 4000000 in
theorem rdo_sync_off {w : World} {base gx : Nat} {sv av wv : Value} {ss ws : List Value} {dur : List (List Nat)} {pend : List (Nat × List Nat)} {left : Int} (h : RD w base gx sv av wv ss ws dur pend left) (hbase : base ≤ w.heap.size) (hfew : 1 ≤ dur.length ∧ dur.length ≤ 4096) (hmany : pend.length ≤ 1000) (hleft : -1 ≤ left ∧ left ≤ 9223372036854775807)
    (d : Nat) (i bit n : Int) (PA KA : Option Addr) (pn pc kn kc : Nat) (odd : Bool) (mask : Nat) (hd : d % 7 = 3) (hl : left = 0) :
    Calls Try.prog 12 #[.pointer (some ⟨gx, 0, none⟩), .agg #[.int .u8 (d : Int), .int .i64 i, .slice PA pn pc, .bool odd, .int .i64 bit, .int .i64 n, .int .u32 (mask : Int), .slice KA kn kc]] w (Done w base gx sv av wv dur pend left 8) := by
  obtain ⟨g0, scap, -, hsv, -, -, -⟩ := row_place h.safe.row (by omega)
  subst hsv
  have c0 := h.c0
  have hd1 : (d : Int) % 7 = 3 := by omega
  have hd2 : (d : Int).tmod 7 = 3 := by rw [Int.tmod_eq_emod_of_nonneg (by omega)]; exact hd1
  have HH := Lib.hid h
  have HBS := Lib.hid hbase
  obtain ⟨th, hth⟩ : ∃ th : Bool, th = decide (0 ≤ i ∧ i < (dur.length : Int)) := ⟨_, rfl⟩
  have HT := Lib.hid hth
  clear h hth hbase
  have HD1 := Lib.hid hd1
  have HD2 := Lib.hid hd2
  clear hd1 hd2
  go_enter Try.func12, Try.ntmps12
  go_wp2
  go_cut [6] (fun v6 wx => v6 = .bool th ∧ Below w.heap.size w wx ∧ wx.heap[w.heap.size]? = some (.cells #[.int .u8 (d : Int), .int .i64 i, .slice PA pn pc, .bool odd, .int .i64 bit, .int .i64 n, .int .u32 (mask : Int), .slice KA kn kc] 34 (0, 0)))
  case first =>
    have hfin : ∀ q, Below w.heap.size w ((w.alloc (.cells #[.int .u8 (d : Int), .int .i64 i, .slice PA pn pc, .bool odd, .int .i64 bit, .int .i64 n, .int .u32 (mask : Int), .slice KA kn kc] 34)).drewN q) ∧ ((w.alloc (.cells #[.int .u8 (d : Int), .int .i64 i, .slice PA pn pc, .bool odd, .int .i64 bit, .int .i64 n, .int .u32 (mask : Int), .slice KA kn kc] 34)).drewN q).heap[w.heap.size]? = some (.cells #[.int .u8 (d : Int), .int .i64 i, .slice PA pn pc, .bool odd, .int .i64 bit, .int .i64 n, .int .u32 (mask : Int), .slice KA kn kc] 34 (0, 0)) := fun q => ⟨below_drewN ((Below.refl _ _).alloc (Nat.le_refl _) _) q, Go.heap_alloc_new w _⟩
    have HFIN := Lib.hid hfin
    clear hfin
    have c0a : (w.alloc (.cells #[.int .u8 (d : Int), .int .i64 i, .slice PA pn pc, .bool odd, .int .i64 bit, .int .i64 n, .int .u32 (mask : Int), .slice KA kn kc] 34)).cell? ⟨gx, 0, none⟩ = some (.slice (some ⟨g0, 0, none⟩) dur.length scap) := (((Below.refl w.heap.size w).alloc (Nat.le_refl _) _).cell (p := ⟨gx, 0, none⟩) HH.out.lt).trans c0
    by_cases h0 : 0 ≤ i
    · by_cases h1 : i < (dur.length : Int)
      · have ht : th = true := by rw [HT.out]; exact decide_eq_true ⟨h0, h1⟩
        subst ht
        go_quiet (fail)
        go_wp2_with fail
        go_meet
        exact ⟨rfl, HFIN.out _⟩
      · have ht : th = false := by rw [HT.out]; exact decide_eq_false (fun e => h1 e.2)
        subst ht
        have hx : decide (i < (dur.length : Int)) = false := decide_eq_false h1
        go_quiet (fail)
        go_wp2_with fail
        go_meet
        exact ⟨rfl, HFIN.out _⟩
    · have ht : th = false := by rw [HT.out]; exact decide_eq_false (fun e => h0 e.1)
      subst ht
      have hx : decide (0 ≤ i) = false := decide_eq_false h0
      have hx2 : decide (i ≥ 0) = false := decide_eq_false h0
      go_quiet (fail)
      go_wp2_with fail
      go_meet
      exact ⟨rfl, HFIN.out _⟩
  case rest =>
  obtain ⟨wa, hwa⟩ : ∃ wa, wa = wc := ⟨_, rfl⟩
  subst hwa
  obtain ⟨rfl, hbx, hgx⟩ := hcut
  have hlx : w.heap.size < wa.heap.size := (Array.getElem?_eq_some_iff.1 hgx).1
  obtain ⟨q0, q1, q2, q3, q4, q5, q6, q7⟩ := box8 hgx
  have h := HH.out.below hbx
  have HX := Lib.hid h
  have HBX := Lib.hid hbx
  have HGX := Lib.hid hgx
  have hd1 := HD1.out
  have hd2 := HD2.out
  clear c0 hgx hbx
  have c3 := h.c3
  have hl0 : (left == 0) = true := by rw [hl]; rfl
  clear h
  go_wp2
  go_ret2
  exact ⟨gx, _, _, _, _, _, rfl, HX.out, fun g hg => .inl hg, RP_of_below HBX.out⟩
end Go.Proofs.Ytmhhcblgeellnaa
