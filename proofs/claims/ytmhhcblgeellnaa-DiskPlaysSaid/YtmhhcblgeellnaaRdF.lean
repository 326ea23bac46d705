/- Contracts: what the reference's Do answers: rot that there cannot be. (Its drawn regions are typed by program: tools/gendisk.py.) -/
import Derived.Test.YtmhhcblgeellnaaRdD
namespace Go.Proofs.Ytmhhcblgeellnaa
open Go.RowKit
set_option linter.unusedSimpArgs false
set_option linter.unusedVariables false

set_option maxRecDepth 100000 in
set_option maxHeartbeats 4000000 in
theorem rdo_rot_bad {w : World} {base gx : Nat} {sv av wv : Value} {ss ws : List Value} {dur : List (List Nat)} {pend : List (Nat × List Nat)} {left : Int} (h : RD w base gx sv av wv ss ws dur pend left) (hbase : base ≤ w.heap.size) (hfew : 1 ≤ dur.length ∧ dur.length ≤ 4096) (hmany : pend.length ≤ 1000) (hleft : -1 ≤ left ∧ left ≤ 9223372036854775807)
    (d : Nat) (i bit n : Int) (PA KA : Option Addr) (pn pc kn kc : Nat) (odd : Bool) (mask : Nat) (hd : d % 7 = 4) (hbad : n < 0 ∨ 32 < n ∨ bit < 0 ∨ 4096 < bit ∨ 4096 < bit + n) :
    Calls Try.prog 12 #[.pointer (some ⟨gx, 0, none⟩), .agg #[.int .u8 (d : Int), .int .i64 i, .slice PA pn pc, .bool odd, .int .i64 bit, .int .i64 n, .int .u32 (mask : Int), .slice KA kn kc]] w (Done w base gx sv av wv dur pend left 1) := by
  obtain ⟨g0, scap, -, hsv, -, -, -⟩ := row_place h.safe.row (by omega)
  subst hsv
  have c0 := h.c0
  have hd1 : (d : Int) % 7 = 4 := by omega
  have hd2 : (d : Int).tmod 7 = 4 := by rw [Int.tmod_eq_emod_of_nonneg (by omega)]; exact hd1
  have HH := Lib.hid h
  have HBS := Lib.hid hbase
  obtain ⟨th, hth⟩ : ∃ th : Bool, th = decide (0 ≤ i ∧ i < (dur.length : Int)) := ⟨_, rfl⟩
  have HT := Lib.hid hth
  clear h hth hbase
  have HD1 := Lib.hid hd1
  have HD2 := Lib.hid hd2
  clear hd1 hd2
  go_enter Try.func12, Try.ntmps12
  go_wp2
  go_cut [6] (fun v6 wx => v6 = .bool th ∧ Below w.heap.size w wx ∧ wx.heap[w.heap.size]? = some (.cells #[.int .u8 (d : Int), .int .i64 i, .slice PA pn pc, .bool odd, .int .i64 bit, .int .i64 n, .int .u32 (mask : Int), .slice KA kn kc] 34 (0, 0)))
  case first =>
    have hfin : ∀ q, Below w.heap.size w ((w.alloc (.cells #[.int .u8 (d : Int), .int .i64 i, .slice PA pn pc, .bool odd, .int .i64 bit, .int .i64 n, .int .u32 (mask : Int), .slice KA kn kc] 34)).drewN q) ∧ ((w.alloc (.cells #[.int .u8 (d : Int), .int .i64 i, .slice PA pn pc, .bool odd, .int .i64 bit, .int .i64 n, .int .u32 (mask : Int), .slice KA kn kc] 34)).drewN q).heap[w.heap.size]? = some (.cells #[.int .u8 (d : Int), .int .i64 i, .slice PA pn pc, .bool odd, .int .i64 bit, .int .i64 n, .int .u32 (mask : Int), .slice KA kn kc] 34 (0, 0)) := fun q => ⟨below_drewN ((Below.refl _ _).alloc (Nat.le_refl _) _) q, Go.heap_alloc_new w _⟩
    have HFIN := Lib.hid hfin
    clear hfin
    have c0a : (w.alloc (.cells #[.int .u8 (d : Int), .int .i64 i, .slice PA pn pc, .bool odd, .int .i64 bit, .int .i64 n, .int .u32 (mask : Int), .slice KA kn kc] 34)).cell? ⟨gx, 0, none⟩ = some (.slice (some ⟨g0, 0, none⟩) dur.length scap) := (((Below.refl w.heap.size w).alloc (Nat.le_refl _) _).cell (p := ⟨gx, 0, none⟩) HH.out.lt).trans c0
    by_cases h0 : 0 ≤ i
    · by_cases h1 : i < (dur.length : Int)
      · have ht : th = true := by rw [HT.out]; exact decide_eq_true ⟨h0, h1⟩
        subst ht
        go_quiet (fail)
        go_wp2_with fail
        go_meet
        exact ⟨rfl, HFIN.out _⟩
      · have ht : th = false := by rw [HT.out]; exact decide_eq_false (fun e => h1 e.2)
        subst ht
        have hx : decide (i < (dur.length : Int)) = false := decide_eq_false h1
        go_quiet (fail)
        go_wp2_with fail
        go_meet
        exact ⟨rfl, HFIN.out _⟩
    · have ht : th = false := by rw [HT.out]; exact decide_eq_false (fun e => h0 e.1)
      subst ht
      have hx : decide (0 ≤ i) = false := decide_eq_false h0
      have hx2 : decide (i ≥ 0) = false := decide_eq_false h0
      go_quiet (fail)
      go_wp2_with fail
      go_meet
      exact ⟨rfl, HFIN.out _⟩
  case rest =>
  obtain ⟨wa, hwa⟩ : ∃ wa, wa = wc := ⟨_, rfl⟩
  subst hwa
  obtain ⟨rfl, hbx, hgx⟩ := hcut
  have hlx : w.heap.size < wa.heap.size := (Array.getElem?_eq_some_iff.1 hgx).1
  obtain ⟨q0, q1, q2, q3, q4, q5, q6, q7⟩ := box8 hgx
  have h := HH.out.below hbx
  have HX := Lib.hid h
  have HBX := Lib.hid hbx
  have HGX := Lib.hid hgx
  have hd1 := HD1.out
  have hd2 := HD2.out
  clear c0 hgx hbx
  clear h
  by_cases hc : n < 0
  · have dd0 : decide (n < 0) = true := decide_eq_true (by omega)
    go_wp2
    go_ret2
    exact ⟨gx, _, _, _, _, _, rfl, HX.out, fun g hg => .inl hg, RP_of_below HBX.out⟩
  have hc5 : ¬ (n < 0) := hc
  clear hc
  by_cases hc : 32 < n
  · have dd0 : decide (n < 0) = false := decide_eq_false (by omega)
    have dd1 : decide (n > 32) = true := decide_eq_true (by omega)
    go_wp2
    go_ret2
    exact ⟨gx, _, _, _, _, _, rfl, HX.out, fun g hg => .inl hg, RP_of_below HBX.out⟩
  have hc13 : ¬ (32 < n) := hc
  clear hc
  by_cases hc : bit < 0
  · have dd0 : decide (n < 0) = false := decide_eq_false (by omega)
    have dd1 : decide (n > 32) = false := decide_eq_false (by omega)
    have dd2 : decide (bit < 0) = true := decide_eq_true (by omega)
    go_wp2
    go_ret2
    exact ⟨gx, _, _, _, _, _, rfl, HX.out, fun g hg => .inl hg, RP_of_below HBX.out⟩
  have hc22 : ¬ (bit < 0) := hc
  clear hc
  by_cases hc : 4096 < bit
  · have dd0 : decide (n < 0) = false := decide_eq_false (by omega)
    have dd1 : decide (n > 32) = false := decide_eq_false (by omega)
    have dd2 : decide (bit < 0) = false := decide_eq_false (by omega)
    have dd3 : decide (bit > 4096) = true := decide_eq_true (by omega)
    go_wp2
    go_ret2
    exact ⟨gx, _, _, _, _, _, rfl, HX.out, fun g hg => .inl hg, RP_of_below HBX.out⟩
  have hc32 : ¬ (4096 < bit) := hc
  clear hc
  have dd0 : decide (n < 0) = false := decide_eq_false (by omega)
  have dd1 : decide (n > 32) = false := decide_eq_false (by omega)
  have dd2 : decide (bit < 0) = false := decide_eq_false (by omega)
  have dd3 : decide (bit > 4096) = false := decide_eq_false (by omega)
  have dd4 : decide (bit + n > 4096) = true := decide_eq_true (by omega)
  have b1 : 0 ≤ n := by omega
  have b2 : n ≤ 32 := by omega
  have b3 : 0 ≤ bit := by omega
  have b4 : bit ≤ 4096 := by omega
  go_wp2
  go_ret2
  exact ⟨gx, _, _, _, _, _, rfl, HX.out, fun g hg => .inl hg, RP_of_below HBX.out⟩
set_option maxRecDepth 100000 in
set_option maxHeartbeats 4000000 in
theorem rdo_rot_index {w : World} {base gx : Nat} {sv av wv : Value} {ss ws : List Value} {dur : List (List Nat)} {pend : List (Nat × List Nat)} {left : Int} (h : RD w base gx sv av wv ss ws dur pend left) (hbase : base ≤ w.heap.size) (hfew : 1 ≤ dur.length ∧ dur.length ≤ 4096) (hmany : pend.length ≤ 1000) (hleft : -1 ≤ left ∧ left ≤ 9223372036854775807)
    (d : Nat) (i bit n : Int) (PA KA : Option Addr) (pn pc kn kc : Nat) (odd : Bool) (mask : Nat) (hd : d % 7 = 4) (hn1 : 0 ≤ n) (hn2 : n ≤ 32) (hb1 : 0 ≤ bit) (hb2 : bit ≤ 4096) (hb3 : bit + n ≤ 4096) (hno : ¬ (0 ≤ i ∧ i < (dur.length : Int))) :
    Calls Try.prog 12 #[.pointer (some ⟨gx, 0, none⟩), .agg #[.int .u8 (d : Int), .int .i64 i, .slice PA pn pc, .bool odd, .int .i64 bit, .int .i64 n, .int .u32 (mask : Int), .slice KA kn kc]] w (Done w base gx sv av wv dur pend left 6) := by
  obtain ⟨g0, scap, -, hsv, -, -, -⟩ := row_place h.safe.row (by omega)
  subst hsv
  have c0 := h.c0
  have hd1 : (d : Int) % 7 = 4 := by omega
  have hd2 : (d : Int).tmod 7 = 4 := by rw [Int.tmod_eq_emod_of_nonneg (by omega)]; exact hd1
  have HH := Lib.hid h
  have HBS := Lib.hid hbase
  obtain ⟨th, hth⟩ : ∃ th : Bool, th = decide (0 ≤ i ∧ i < (dur.length : Int)) := ⟨_, rfl⟩
  have HT := Lib.hid hth
  clear h hth hbase
  have HD1 := Lib.hid hd1
  have HD2 := Lib.hid hd2
  clear hd1 hd2
  go_enter Try.func12, Try.ntmps12
  go_wp2
  go_cut [6] (fun v6 wx => v6 = .bool th ∧ Below w.heap.size w wx ∧ wx.heap[w.heap.size]? = some (.cells #[.int .u8 (d : Int), .int .i64 i, .slice PA pn pc, .bool odd, .int .i64 bit, .int .i64 n, .int .u32 (mask : Int), .slice KA kn kc] 34 (0, 0)))
  case first =>
    have hfin : ∀ q, Below w.heap.size w ((w.alloc (.cells #[.int .u8 (d : Int), .int .i64 i, .slice PA pn pc, .bool odd, .int .i64 bit, .int .i64 n, .int .u32 (mask : Int), .slice KA kn kc] 34)).drewN q) ∧ ((w.alloc (.cells #[.int .u8 (d : Int), .int .i64 i, .slice PA pn pc, .bool odd, .int .i64 bit, .int .i64 n, .int .u32 (mask : Int), .slice KA kn kc] 34)).drewN q).heap[w.heap.size]? = some (.cells #[.int .u8 (d : Int), .int .i64 i, .slice PA pn pc, .bool odd, .int .i64 bit, .int .i64 n, .int .u32 (mask : Int), .slice KA kn kc] 34 (0, 0)) := fun q => ⟨below_drewN ((Below.refl _ _).alloc (Nat.le_refl _) _) q, Go.heap_alloc_new w _⟩
    have HFIN := Lib.hid hfin
    clear hfin
    have c0a : (w.alloc (.cells #[.int .u8 (d : Int), .int .i64 i, .slice PA pn pc, .bool odd, .int .i64 bit, .int .i64 n, .int .u32 (mask : Int), .slice KA kn kc] 34)).cell? ⟨gx, 0, none⟩ = some (.slice (some ⟨g0, 0, none⟩) dur.length scap) := (((Below.refl w.heap.size w).alloc (Nat.le_refl _) _).cell (p := ⟨gx, 0, none⟩) HH.out.lt).trans c0
    by_cases h0 : 0 ≤ i
    · by_cases h1 : i < (dur.length : Int)
      · have ht : th = true := by rw [HT.out]; exact decide_eq_true ⟨h0, h1⟩
        subst ht
        go_quiet (fail)
        go_wp2_with fail
        go_meet
        exact ⟨rfl, HFIN.out _⟩
      · have ht : th = false := by rw [HT.out]; exact decide_eq_false (fun e => h1 e.2)
        subst ht
        have hx : decide (i < (dur.length : Int)) = false := decide_eq_false h1
        go_quiet (fail)
        go_wp2_with fail
        go_meet
        exact ⟨rfl, HFIN.out _⟩
    · have ht : th = false := by rw [HT.out]; exact decide_eq_false (fun e => h0 e.1)
      subst ht
      have hx : decide (0 ≤ i) = false := decide_eq_false h0
      have hx2 : decide (i ≥ 0) = false := decide_eq_false h0
      go_quiet (fail)
      go_wp2_with fail
      go_meet
      exact ⟨rfl, HFIN.out _⟩
  case rest =>
  obtain ⟨wa, hwa⟩ : ∃ wa, wa = wc := ⟨_, rfl⟩
  subst hwa
  obtain ⟨rfl, hbx, hgx⟩ := hcut
  have hlx : w.heap.size < wa.heap.size := (Array.getElem?_eq_some_iff.1 hgx).1
  obtain ⟨q0, q1, q2, q3, q4, q5, q6, q7⟩ := box8 hgx
  have h := HH.out.below hbx
  have HX := Lib.hid h
  have HBX := Lib.hid hbx
  have HGX := Lib.hid hgx
  have hd1 := HD1.out
  have hd2 := HD2.out
  clear c0 hgx hbx
  clear h
  have ht : th = false := by rw [HT.out]; exact decide_eq_false hno
  subst ht
  clear hno
  have dd0 : decide (n < 0) = false := decide_eq_false (by omega)
  have dd1 : decide (n > 32) = false := decide_eq_false (by omega)
  have dd2 : decide (bit < 0) = false := decide_eq_false (by omega)
  have dd3 : decide (bit > 4096) = false := decide_eq_false (by omega)
  have dd4 : decide (bit + n > 4096) = false := decide_eq_false (by omega)
  go_wp2
  go_ret2
  exact ⟨gx, _, _, _, _, _, rfl, HX.out, fun g hg => .inl hg, RP_of_below HBX.out⟩
end Go.Proofs.Ytmhhcblgeellnaa
