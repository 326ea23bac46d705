/- SPivot, SChoose: joined by program (tools/merge.py). -/
import Derived.Test.YtdphpjlhkamadaaZ29
import Derived.Deep.CutBlock
import Derived.Deep.DeepCutAuto
namespace Go.Proofs.Ytdphpjlhkamadaa
open Go.RowKit
open Go.Sort (PermIn SortedIn SWO swp Holds putRow grow At mapBlock setCell_eq mapBlock_grow_new onCells cell?_grow frozen?_grow heap_grow_old)
set_option linter.unusedSimpArgs false
set_option linter.unusedVariables false
set_option maxRecDepth 100000
/-- The world with a count in a block of its own. -/
def Piv (w : World) (z : Nat) (wr : World) : Prop := ∃ n, wr = grow (Sort.ahead w n) #[Obj.cells #[.int .i64 (z : Int)] 3]
section
variable {w wr : World} {z blk off : Nat} {d : Array Nat}
theorem Piv.cell (h : Piv w z wr) : wr.cell? ⟨w.heap.size, 0, none⟩ = some (.int .i64 (z : Int)) := by
  obtain ⟨n, rfl⟩ := h
  simp [grow, World.cell?]
theorem Piv.frozen (h : Piv w z wr) : wr.frozen? ⟨w.heap.size, 0, none⟩ = false := by
  obtain ⟨n, rfl⟩ := h
  simp [grow, World.frozen?]
theorem Piv.row (h : Piv w z wr) (h0 : Holds eU w blk off d) (hb : blk < w.heap.size) : ∃ G : Nat → Nat, (∀ t, t < d.size → wr.cell? ⟨blk, off + t, none⟩ = some (.int .u64 (G t : Int))) := by
  obtain ⟨n, rfl⟩ := h
  exact ⟨fun t => d[t]!, fun t ht => by rw [cell?_grow _ _ _ (by simpa using hb)]; exact (h0 t ht).1⟩
theorem Piv.drewN (h : Piv w z wr) (m : Nat) : Piv w z (wr.drewN m) := by
  obtain ⟨n, rfl⟩ := h
  exact ⟨n + m, by rw [← Sort.ahead_ahead]; rfl⟩
theorem Piv.set (h : Piv w z wr) : Piv w (z + 1) (wr.setCell ⟨w.heap.size, 0, none⟩ (.int .i64 ((z : Int) + 1))) := by
  obtain ⟨n, rfl⟩ := h
  refine ⟨n, ?_⟩
  have e : w.heap.size = (Sort.ahead w n).heap.size := rfl
  rw [setCell_eq, e, mapBlock_grow_new _ _ _ _ (Nat.le_refl _)]
  simp [onCells]
end
set_option maxHeartbeats 1600000 in
theorem order2_any (w wr : World) (blk off len cap a b z : Nat) (d : Array Nat) (hlen : d.size = len) (h0 : Holds eU w blk off d) (hb : blk < w.heap.size) (ha : a < len) (hbl : b < len) (hz : z < 1000) (hsz : len < 4611686018427387904) (hp : Piv w z wr) :
    Calls Try.prog 110 #[.slice (some ⟨blk, off, none⟩) len cap, .int .i64 a, .int .i64 b, .pointer (some ⟨w.heap.size, 0, none⟩)] wr fun e w' => ∃ x y z' : Nat, e = .returned (.tuple #[.int .i64 x, .int .i64 y]) ∧ ((x = a ∧ y = b) ∨ (x = b ∧ y = a)) ∧ z' ≤ z + 1 ∧ Piv w z' w' := by
  obtain ⟨G, hcw⟩ := hp.row h0 hb
  rw [hlen] at hcw
  have HP := Lib.hid hp
  clear hp h0 hb hlen
  go_enter Try.func110, Try.ntmps110
  go_wp2_with fail
  go_quiet (first | (go_at_call 96; refine Calls.quiet_of_same (less_any _ _ _)))
  have HP2 := Lib.hid (HP.out.drewN nq)
  obtain ⟨w2, hw2⟩ : ∃ x, x = wr.drewN nq := ⟨_, rfl⟩
  rw [← hw2] at HP2 ⊢
  clear hw2 hcw
  have hc := HP2.out.cell
  have hf := HP2.out.frozen
  go_wp2_with fail
  · go_ret2
    exact ⟨b, a, z + 1, rfl, Or.inr ⟨rfl, rfl⟩, Nat.le_refl _, HP2.out.set⟩
  · go_ret2
    exact ⟨a, b, z, rfl, Or.inl ⟨rfl, rfl⟩, by omega, HP2.out⟩
set_option maxHeartbeats 1600000 in
theorem median_any (w wr : World) (blk off len cap a b c z : Nat) (d : Array Nat) (hlen : d.size = len) (h0 : Holds eU w blk off d) (hb : blk < w.heap.size) (ha : a < len) (hbl : b < len) (hcl : c < len) (hz : z < 900) (hsz : len < 4611686018427387904) (hp : Piv w z wr) :
    Calls Try.prog 108 #[.slice (some ⟨blk, off, none⟩) len cap, .int .i64 a, .int .i64 b, .int .i64 c, .pointer (some ⟨w.heap.size, 0, none⟩)] wr fun e w' => ∃ x z' : Nat, e = .returned (.int .i64 x) ∧ (x = a ∨ x = b ∨ x = c) ∧ z' ≤ z + 3 ∧ Piv w z' w' := by
  have HO := fun (x : World) (a b z : Nat) (ha : a < len) (hb2 : b < len) (hz : z < 1000) (hp : Piv w z x) => Lib.hid (order2_any w x blk off len cap a b z d hlen h0 hb ha hb2 hz hsz hp)
  have HP := Lib.hid hp
  clear hp h0 hb hlen
  go_enter Try.func108, Try.ntmps108
  go_wp2_with fail
  refine (HO _ a b z ha hbl (by omega) HP.out).out.mono ?_
  rintro e w1 ⟨x1, y1, z1, rfl, hxy1, hz1, hp1⟩
  have HP1 := Lib.hid hp1
  clear hp1
  have hx1 : x1 < len := by omega
  have hy1 : y1 < len := by omega
  go_wp2_with fail
  refine (HO _ y1 c z1 hy1 hcl (by omega) HP1.out).out.mono ?_
  rintro e w2 ⟨x2, y2, z2, rfl, hxy2, hz2, hp2⟩
  have HP2 := Lib.hid hp2
  clear hp2
  have hx2 : x2 < len := by omega
  go_wp2_with fail
  refine (HO _ x1 x2 z2 hx1 hx2 (by omega) HP2.out).out.mono ?_
  rintro e w3 ⟨x3, y3, z3, rfl, hxy3, hz3, hp3⟩
  have HP3 := Lib.hid hp3
  clear hp3
  go_wp2_with fail
  go_ret
  exact ⟨y3, z3, rfl, by omega, by omega, HP3.out⟩
set_option maxHeartbeats 1600000 in
theorem adjacent_any (w wr : World) (blk off len cap a z : Nat) (d : Array Nat) (hlen : d.size = len) (h0 : Holds eU w blk off d) (hb : blk < w.heap.size) (ha1 : 1 ≤ a) (ha : a + 1 < len) (hz : z < 900) (hsz : len < 4611686018427387904) (hp : Piv w z wr) :
    Calls Try.prog 107 #[.slice (some ⟨blk, off, none⟩) len cap, .int .i64 a, .pointer (some ⟨w.heap.size, 0, none⟩)] wr fun e w' => ∃ x z' : Nat, e = .returned (.int .i64 x) ∧ a ≤ x + 1 ∧ x ≤ a + 1 ∧ z' ≤ z + 3 ∧ Piv w z' w' := by
  have hc := median_any w wr blk off len cap (a - 1) a (a + 1) z d hlen h0 hb (by omega) (by omega) (by omega) hz hsz hp
  rw [show ((a - 1 : Nat) : Int) = (a : Int) - 1 by omega, show ((a + 1 : Nat) : Int) = (a : Int) + 1 by omega] at hc
  have HC := Lib.hid hc
  clear hc hp h0 hb hlen
  go_enter Try.func107, Try.ntmps107
  go_wp2_with (go_at_call 108; refine HC.out.mono ?_; rintro e w1 ⟨x, z1, rfl, hx, hz1, hp1⟩; have HP1 := Lib.hid hp1; clear hp1)
  go_ret
  exact ⟨x, z1, rfl, by omega, by omega, hz1, HP1.out⟩
end Go.Proofs.Ytdphpjlhkamadaa
namespace Go.Proofs.Ytdphpjlhkamadaa
open Go.RowKit
open Go.Sort (PermIn SortedIn SWO swp Holds putRow grow At)
set_option linter.unusedSimpArgs false
set_option linter.unusedVariables false
set_option maxRecDepth 100000
set_option maxHeartbeats 3200000 in
theorem choose_any (w : World) (blk off len cap a b : Nat) (d : Array Nat) (hlen : d.size = len) (h0 : Holds eU w blk off d) (hb : blk < w.heap.size) (hab : a < b) (hbd : b ≤ len) (hsz : len < 4611686018427387904) :
    Calls Try.prog 93 #[.slice (some ⟨blk, off, none⟩) len cap, .int .i64 a, .int .i64 b] w fun e w' => ∃ x h : Nat, e = .returned (.tuple #[.int .i64 x, .int .i64 h]) ∧ a ≤ x ∧ x < b ∧ h ≤ 2 ∧ ∃ n os, w' = grow (Sort.ahead w n) os := by
  obtain ⟨L, rfl⟩ : ∃ L, b = a + L := ⟨b - a, by omega⟩
  have HM := fun (x : World) (i j k z : Nat) (hi : i < len) (hj : j < len) (hk : k < len) (hz : z < 900) (hp : Piv w z x) => Lib.hid (median_any w x blk off len cap i j k z d hlen h0 hb hi hj hk hz hsz hp)
  have HJ := fun (x : World) (i z : Nat) (hi : 1 ≤ i) (hj : i + 1 < len) (hz : z < 900) (hp : Piv w z x) => Lib.hid (adjacent_any w x blk off len cap i z d hlen h0 hb hi hj hz hsz hp)
  have HP0 := Lib.hid (show Piv w 0 (w.alloc (.cells #[.int .i64 0] 3)) from ⟨0, by rw [Sort.alloc_eq_grow]; rfl⟩)
  clear h0 hb hlen
  go_enter Try.func93, Try.ntmps93
  go_upto_region 1 with fail
  go_cut [8] (fun v wx => v = .int .i64 (L : Int) ∧ wx = w)
  case first =>
    go_wp2_with fail
    go_meet
    exact ⟨by congr 1; omega, rfl⟩
  case rest =>
  obtain ⟨rfl, hwc⟩ := hcut
  rw [hwc]
  clear hwc
  obtain ⟨q, hq⟩ : ∃ q, q = L / 4 := ⟨_, rfl⟩
  have hq1 : (L : Int).tdiv 4 = (q : Int) := by rw [Int.tdiv_eq_ediv_of_nonneg (by omega)]; omega
  have hq2 : (L : Int) / 4 = (q : Int) := by omega
  have hqL : 4 * q ≤ L := by omega
  have hL4 : L < 4 * q + 4 := by omega
  clear hq
  go_upto_if 32 with fail
  go_cut [11] (fun v11 wx => ∃ p z : Nat, v11 = .int .i64 (p : Int) ∧ a ≤ p ∧ p < a + L ∧ z ≤ 12 ∧ Piv w z wx)
  case first =>
    by_cases h8 : 8 ≤ L
    · have h8I : (8 : Int) ≤ (L : Int) := by omega
      by_cases h50 : 50 ≤ L
      · have h50I : (50 : Int) ≤ (L : Int) := by omega
        have H1 := (HJ _ (a + q) 0 (by omega) (by omega) (by omega) HP0.out)
        rw [show ((a + q : Nat) : Int) = (a : Int) + (q : Int) by omega] at H1
        go_wp2_with fail
        refine H1.out.mono ?_
        rintro e w1 ⟨i, z1, rfl, hi1, hi2, hz1, hp1⟩
        have H2 := (HJ _ (a + q * 2) z1 (by omega) (by omega) (by omega) hp1)
        rw [show ((a + q * 2 : Nat) : Int) = (a : Int) + (q : Int) * 2 by omega] at H2
        clear hp1 H1
        go_wp2_with fail
        refine H2.out.mono ?_
        rintro e w2 ⟨j, z2, rfl, hj1, hj2, hz2, hp2⟩
        have H3 := (HJ _ (a + q * 3) z2 (by omega) (by omega) (by omega) hp2)
        rw [show ((a + q * 3 : Nat) : Int) = (a : Int) + (q : Int) * 3 by omega] at H3
        clear hp2 H2
        go_wp2_with fail
        refine H3.out.mono ?_
        rintro e w3 ⟨k, z3, rfl, hk1, hk2, hz3, hp3⟩
        have H4 := (HM _ i j k z3 (by omega) (by omega) (by omega) (by omega) hp3)
        clear hp3 H3
        go_wp2_with fail
        refine H4.out.mono ?_
        rintro e w4 ⟨p, z4, rfl, hp, hz4, hp4⟩
        have HP4 := Lib.hid hp4
        clear hp4 H4
        go_wp2_with fail
        go_meet
        exact ⟨p, z4, rfl, by omega, by omega, by omega, HP4.out⟩
      · have h50I : ¬ (50 : Int) ≤ (L : Int) := by omega
        have H4 := (HM _ (a + q) (a + q * 2) (a + q * 3) 0 (by omega) (by omega) (by omega) (by omega) HP0.out)
        rw [show ((a + q : Nat) : Int) = (a : Int) + (q : Int) by omega, show ((a + q * 2 : Nat) : Int) = (a : Int) + (q : Int) * 2 by omega, show ((a + q * 3 : Nat) : Int) = (a : Int) + (q : Int) * 3 by omega] at H4
        go_wp2_with fail
        refine H4.out.mono ?_
        rintro e w4 ⟨p, z4, rfl, hp, hz4, hp4⟩
        have HP4 := Lib.hid hp4
        clear hp4 H4
        go_wp2_with fail
        go_meet
        exact ⟨p, z4, rfl, by omega, by omega, by omega, HP4.out⟩
    · have h8I : ¬ (8 : Int) ≤ (L : Int) := by omega
      go_wp2_with fail
      go_meet
      exact ⟨a + q * 2, 0, by congr 1 <;> omega, by omega, by omega, by omega, HP0.out⟩
  case rest =>
  obtain ⟨p, z, rfl, hp1, hp2, hz, hP⟩ := hcut
  have hc := hP.cell
  have hfin : ∃ n os, wc = grow (Sort.ahead w n) os := by
    obtain ⟨n, h⟩ := hP
    exact ⟨n, _, h⟩
  have HF := Lib.hid hfin
  clear hfin hP HM HJ HP0
  go_wp2_with fail
  all_goals go_ret2
  · exact ⟨p, 1, rfl, hp1, hp2, by omega, HF.out⟩
  · exact ⟨p, 2, rfl, hp1, hp2, by omega, HF.out⟩
  · exact ⟨p, 0, rfl, hp1, hp2, by omega, HF.out⟩
end Go.Proofs.Ytdphpjlhkamadaa
