/- ReelArgsWalk, ReelFullWalk, LRecord, LActs, OpenRActs: joined by program (tools/merge.py). -/
import Derived.Test.YtalpippeelomjaaZ42
import Derived.Test.YtalpippeelomjaaZ24
import Derived.Test.YtalpippeelomjaaZ45
import Derived.Test.YtalpippeelomjaaZ46
import Derived.ProofKit
import Derived.WalkKit
import Derived.Deep.Slices
import Derived.Deep.Grids
namespace Go.Proofs.Ytalpippeelomjaa
open Go.RowKit Go.Shelf
set_option linter.unusedSimpArgs false
set_option linter.unusedVariables false
theorem run_make_n (N : Nat) (hN : N ≤ 1048576) : ∃ C : Array Value, C.toList = byt (List.replicate N 0) ∧ ∀ w : World, (Instr.makeSlice 43 (.int .i64 (N : Int)) (.int .i64 (N : Int))).run Try.prog w = .ok (.slice (some ⟨w.heap.size, 0, none⟩) N N) (w.alloc (.cells C 5)) := by
  obtain ⟨i0, hi0, hz0, hz1, hz2⟩ := info_parts infoByte
  refine ⟨madeCells (Value.cells (.int .u8 0)) ((N : Int).toNat * 1), ?_, fun w => ?_⟩
  · have e2 := toList_madeCells_one (.int .u8 0) N
    rw [Int.toNat_natCast, Nat.mul_one]
    refine e2.trans ?_
    unfold byt
    rw [List.map_replicate]
    rfl
  · have h := run_make (P := Try.prog) w 43 5 i0 (.int .u8 0) Try.underlying43 hi0 hz0 .i64 .i64 (N : Int) (N : Int) (by omega) (by omega) (by rw [hz2]; omega) (by omega)
    rw [hz1] at h
    rw [Int.toNat_natCast] at h ⊢
    exact h
theorem bytes_made {w : World} {C : Array Value} {N : Nat} (hC : C.toList = byt (List.replicate N 0)) (hN : N ≤ 1048576) : Bytes (w.alloc (.cells C 5)) (w.alloc (.cells C 5)).heap.size (.slice (some ⟨w.heap.size, 0, none⟩) N N) (List.replicate N 0) := by
  have hM := mine_new w C (List.replicate N 0) hC (fun b hb => by rw [List.eq_of_mem_replicate hb]; omega) (by rw [List.length_replicate]; exact hN)
  rw [List.length_replicate] at hM
  exact hM.bytes
theorem full_3000 {w w0 : World} {base gs gr gen ser first secs N g : Nat} {dur : List (List Nat)} {pend : List (Nat × List Nat)} {C : Array Value} (h : Log w base gs gr gen ser first secs N [] dur pend) (hb : Below w.heap.size w w0) (hC : C.toList = byt (List.replicate 3000 0)) (hs : secs ≤ 3) (hg : g = w0.heap.size) :
    Calls Try.prog 20 #[.pointer (some ⟨gr, 0, none⟩), .slice (some ⟨g, 0, none⟩) 3000 3000] (w0.alloc (.cells C 5)) fun e w' => e = .returned (.int .i64 5) ∧ Log w' base gs gr gen ser first secs N [] dur pend ∧ Below w.heap.size w w' := by
  subst hg
  have hb2 := hb.alloc hb.size (.cells C 5)
  refine (append_full (h.below hb2) _ 3000 3000 _ (bytes_made hC (by decide)) (by decide) ?_).mono ?_
  · have : (rec1 (List.replicate 3000 0)).length = (num (List.replicate 3000 0).length).length + 3000 := by unfold rec1; rw [List.length_append, List.length_replicate]
    omega
  · rintro e w' ⟨he, hb3⟩
    exact ⟨he, (h.below hb2).below hb3, hb2.trans (hb3.mono hb2.size)⟩
theorem count_none {w : World} {base gs gr gen ser first secs N : Nat} {dur : List (List Nat)} {pend : List (Nat × List Nat)} (h : Log w base gs gr gen ser first secs N [] dur pend) : Calls Try.prog 23 #[.pointer (some ⟨gr, 0, none⟩)] w fun e w' => e = .returned (.int .i64 0) ∧ w = w' := count_log h
set_option maxRecDepth 100000 in
set_option maxHeartbeats 16000000 in
theorem reelArgs_walk (s h : Nat) (A2 : Option Addr) (n2 c2 : Nat) (l2 : List Nat) (w : World) (hp2 : Bytes w w.heap.size (.slice A2 n2 c2) l2) (hs : s < 256) (hh : h < 256) :
    Calls Try.prog 7 #[.int .u8 (s : Int), .int .u8 (h : Int), .slice A2 n2 c2] w fun e w' => e = .returned (.bool true) ∧ Below w.heap.size w w' := by
  obtain ⟨n, hn⟩ : ∃ n, n = 1 + s % 8 := ⟨_, rfl⟩
  have hsn : (1 : Int) + (s : Int) % 8 = (n : Int) := by omega
  have hn18 : 1 ≤ n ∧ n ≤ 8 := by omega
  obtain ⟨C1, hC1, hmk1'⟩ := run_make_n 65537 (by decide)
  have hmk1 : ∀ w : World, (Instr.makeSlice 43 (.int .i64 65537) (.int .i64 65537)).run Try.prog w = .ok (.slice (some ⟨w.heap.size, 0, none⟩) 65537 65537) (w.alloc (.cells C1 5)) := hmk1'
  obtain ⟨C3, hC3, hmk3'⟩ := run_make_n 3000 (by decide)
  have hmk3 : ∀ w : World, (Instr.makeSlice 43 (.int .i64 3000) (.int .i64 3000)).run Try.prog w = .ok (.slice (some ⟨w.heap.size, 0, none⟩) 3000 3000) (w.alloc (.cells C3 5)) := hmk3'
  have HC3 := Lib.hid hC3
  have HP := Lib.hid hp2
  have HN := Lib.hid (new_good · n hn18.1 (by omega))
  have KNIL : Hid (∀ y, Calls Try.prog 12 #[.pointer none, .agg #[.int .u32 1, .int .u8 0, .int .u32 0]] y (ArgR y)) := Lib.hid fun y => open_arg y (.pointer none) 0 0 1 0 (fun x _ => sectors_nil x) (by decide) (.inl (by decide))
  have KCUT : Hid (∀ (y : World) (v : Value) (l : List Nat), Bytes y y.heap.size v l → Calls Try.prog 29 #[v, .int .i64 9] y fun e w' => ∃ u, e = .returned u ∧ Below y.heap.size y w') := Lib.hid fun y v l h => (cut_any y v l 9 h (by omega)).mono fun e w' ⟨u, he, _, hb⟩ => ⟨u, he, hb⟩
  clear hn hC1 hmk1' hmk3' hC3 hp2
  by_cases hR : 4 ≤ n ∧ h < 2
  · have k1 : (n : Int) ≥ 4 := by omega
    have k2 : (h : Int) < 2 := by omega
    have hhn := hR.2
    have hn4 := hR.1
    have HK3 : Hid (halfK n h ≤ 3) := Lib.hid (by unfold halfK; rw [if_neg (by omega)]; omega)
    clear hR
    go_enter Try.func7, Try.ntmps7
    go_wp2_with (first
      | (go_at_call 10; (with_reducible refine (awake_true _).mono ?_); rintro e w1 ⟨rfl, hw1⟩)
      | (go_at_call 11; (with_reducible refine (HN.out _).mono ?_); rintro e w2 ⟨gs, b, rfl, hD2, hgs, hgd, hgl, hpv, hw2⟩; go_loud (
          have HBB : Hid (Below w.heap.size w w2) := Lib.hid (hw1.trans (hw2.mono hw1.size));
          have hwle := hw1.size;
          have HOP : Hid (Calls Try.prog 12 #[.pointer (some ⟨gs, 0, none⟩), .agg #[.int .u32 1, .int .u8 (h : Int), .int .u32 0]] w2 fun e w' => ∃ gr, e = .returned (.tuple #[.pointer (some ⟨gr, 0, none⟩), .int .i64 0, .int .i64 0]) ∧ Log w' w.heap.size gs gr 1 1 (halfN n h) (halfK n h) 0 [] (List.replicate n noughts) [] ∧ Below w2.heap.size w2 w') := Lib.hid ((open_fresh (base := w.heap.size) hD2 1 h 0 (by decide) (by decide) hn4 (by omega) (Nat.le_trans hwle hgs) (Nat.le_trans hwle hgd) (Nat.le_trans hwle hgl) hpv (Nat.le_trans hwle hw2.size)).mono (fun e w' ⟨q1, gr, q2, q3, q4⟩ => ⟨gr, q2, q4, q1⟩));
          clear hD2 hgs hgd hgl hpv hw2 hw1 hwle))
      | (go_at_call 12; (with_reducible refine (HOP.out).mono ?_); rintro e w3 ⟨gr, rfl, hL3, hb3⟩; go_loud (
          have HL := Lib.hid hL3;
          have HBB := Lib.hid (HBB.out.trans (hb3.mono HBB.out.size));
          clear HOP hL3 hb3))
      | (go_at_call 43; (with_reducible refine (first_any _).mono ?_); rintro e w4 ⟨rfl, hb4⟩; go_loud (
          have HL := Lib.hid (HL.out.below hb4);
          have HBB := Lib.hid (HBB.out.trans (hb4.mono HBB.out.size));
          clear hb4))
      | (go_at_call 12; (with_reducible refine (KNIL.out _).mono ?_); rintro e w5 ⟨rfl, hb5⟩; go_loud (
          have HL := Lib.hid (HL.out.below hb5);
          have HBB := Lib.hid (HBB.out.trans (hb5.mono HBB.out.size));
          have HPB := Lib.hid (HP.out.along HBB.out);
          clear hb5))
      | (go_at_call 29; (with_reducible refine (KCUT.out _ _ _ HPB.out).mono ?_); rintro e w6 ⟨u6, rfl, hb6⟩; go_loud (
          have HL := Lib.hid (HL.out.below hb6);
          have HBB := Lib.hid (HBB.out.trans (hb6.mono HBB.out.size));
          clear hb6))
      | (go_at_call 20; (with_reducible refine (reel_append_nil _ _).mono ?_); rintro e w7 ⟨rfl, rfl⟩)
      | (go_at_call 13; (with_reducible refine (reel_sync_nil _).mono ?_); rintro e w7 ⟨rfl, rfl⟩)
      | (go_at_call 15; (with_reducible refine (reel_records_nil _).mono ?_); rintro e w7 ⟨rfl, rfl⟩)
      | (go_at_call 23; (with_reducible refine (reel_count_nil _).mono ?_); rintro e w7 ⟨rfl, rfl⟩)
      | (go_at_call 34; (with_reducible refine (reel_serial_nil _).mono ?_); rintro e w7 ⟨rfl, rfl⟩)
      | (go_at_call 24; (with_reducible refine (reel_size_nil _).mono ?_); rintro e w7 ⟨rfl, rfl⟩)
      | (go_at_call 18; (with_reducible refine (reel_room_nil _).mono ?_); rintro e w7 ⟨rfl, rfl⟩)
      | (go_at_call 20; (with_reducible refine (append_long _ _ _ 65537 _ (by decide)).mono ?_); rintro e w8 ⟨rfl, rfl⟩)
      | (go_at_call 20; (with_reducible refine (full_3000 HL.out (by repeat (with_reducible (first | exact Below.refl _ _ | refine ride_alloc ?_ _))) HC3.out HK3.out (by simp)).mono ?_); rintro e w9 ⟨rfl, hL9, hb9⟩; go_loud (
          have HL := Lib.hid hL9;
          have HBB := Lib.hid (HBB.out.trans (hb9.mono HBB.out.size));
          clear hL9 hb9))
      | (go_at_call 23; (with_reducible refine (count_none HL.out).mono ?_); rintro e w10 ⟨rfl, rfl⟩))
    go_ret
    exact ⟨rfl, HBB.out⟩
  · have hbad : n < 4 ∨ 1 < h := by omega
    have KBAD : Hid (∀ (y : World) (gs : Nat) (b : DB), Disk y gs b (List.replicate n noughts) [] 0 (-1) → Calls Try.prog 12 #[.pointer (some ⟨gs, 0, none⟩), .agg #[.int .u32 1, .int .u8 (h : Int), .int .u32 0]] y (ArgR y)) := Lib.hid fun y gs b hD => open_arg y _ n h 1 0 (fun x hx => by
      have h1 := sectors_any (hD.below hx)
      rw [List.length_replicate] at h1
      exact h1) (by omega) hbad
    rcases (show n < 4 ∨ (4 ≤ n ∧ 2 ≤ h) by omega) with hc | hc
    all_goals
      first
        | (have k1 : ¬ (n : Int) ≥ 4 := by omega)
        | skip
      first
        | (have k2 : (n : Int) ≥ 4 := by omega
           have k3 : ¬ (h : Int) < 2 := by omega)
        | skip
      clear hR hbad hc
      go_enter Try.func7, Try.ntmps7
      go_wp2_with (first
        | (go_at_call 10; (with_reducible refine (awake_true _).mono ?_); rintro e w1 ⟨rfl, hw1⟩)
        | (go_at_call 11; (with_reducible refine (HN.out _).mono ?_); rintro e w2 ⟨gs, b, rfl, hD2, hgs, hgd, hgl, hpv, hw2⟩; go_loud (
            have HBB : Hid (Below w.heap.size w w2) := Lib.hid (hw1.trans (hw2.mono hw1.size));
            have HOP := hide (KBAD.out _ _ _ hD2);
            clear hD2 hgs hgd hgl hpv hw2 hw1))
        | (go_at_call 12; (with_reducible refine (unhide HOP).mono ?_); rintro e w3 ⟨rfl, hb3⟩; go_loud (
            have HBB := Lib.hid (HBB.out.trans (hb3.mono HBB.out.size));
            clear HOP hb3))
        | (go_at_call 43; (with_reducible refine (first_any _).mono ?_); rintro e w4 ⟨rfl, hb4⟩; go_loud (
            have HBB := Lib.hid (HBB.out.trans (hb4.mono HBB.out.size));
            clear hb4))
        | (go_at_call 12; (with_reducible refine (KNIL.out _).mono ?_); rintro e w5 ⟨rfl, hb5⟩; go_loud (
            have HBB := Lib.hid (HBB.out.trans (hb5.mono HBB.out.size));
            have HPB := Lib.hid (HP.out.along HBB.out);
            clear hb5))
        | (go_at_call 29; (with_reducible refine (KCUT.out _ _ _ HPB.out).mono ?_); rintro e w6 ⟨u6, rfl, hb6⟩; go_loud (
            have HBB := Lib.hid (HBB.out.trans (hb6.mono HBB.out.size));
            clear hb6))
        | (go_at_call 20; (with_reducible refine (reel_append_nil _ _).mono ?_); rintro e w7 ⟨rfl, rfl⟩)
        | (go_at_call 13; (with_reducible refine (reel_sync_nil _).mono ?_); rintro e w7 ⟨rfl, rfl⟩)
        | (go_at_call 15; (with_reducible refine (reel_records_nil _).mono ?_); rintro e w7 ⟨rfl, rfl⟩)
        | (go_at_call 23; (with_reducible refine (reel_count_nil _).mono ?_); rintro e w7 ⟨rfl, rfl⟩)
        | (go_at_call 34; (with_reducible refine (reel_serial_nil _).mono ?_); rintro e w7 ⟨rfl, rfl⟩)
        | (go_at_call 24; (with_reducible refine (reel_size_nil _).mono ?_); rintro e w7 ⟨rfl, rfl⟩)
        | (go_at_call 18; (with_reducible refine (reel_room_nil _).mono ?_); rintro e w7 ⟨rfl, rfl⟩))
      go_ret
      exact ⟨rfl, HBB.out⟩
end Go.Proofs.Ytalpippeelomjaa
namespace Go.Proofs.Ytalpippeelomjaa
open Go.RowKit Go.Shelf
set_option linter.unusedSimpArgs false
set_option linter.unusedVariables false
theorem run_make_l (N : Nat) (hN : N ≤ 1048576) (w : World) : (Instr.makeSlice 43 (.int .i64 (N : Int)) (.int .i64 (N : Int))).run Try.prog w = .ok (.slice (some ⟨w.heap.size, 0, none⟩) N N) (w.alloc (.cells (byt (List.replicate N 0)).toArray 5)) := by
  obtain ⟨C, hC, h⟩ := run_make_n N hN
  have e : C = (byt (List.replicate N 0)).toArray := by rw [← hC, Array.toArray_toList]
  rw [← e]
  exact h w
def FillR (W : World) (g k : Nat) (f : Nat → Nat) (t : Value) (x : World) : Prop :=
  ∃ i : Nat, i ≤ k ∧ t = .int .i64 (i : Int) ∧ x.heap[g]? = some (.cells (byt ((List.range i).map f ++ List.replicate (k - i) 0)).toArray 5 (0, 0)) ∧ Below g W x
theorem fill_next {i k : Nat} {f : Nat → Nat} (h : i < k) : ((List.range i).map f ++ List.replicate (k - i) 0).set i (f i) = (List.range (i + 1)).map f ++ List.replicate (k - (i + 1)) 0 := by
  obtain ⟨m, hm⟩ : ∃ m, k - i = m + 1 := ⟨k - i - 1, by omega⟩
  rw [hm, show k - (i + 1) = m by omega, List.set_append_right _ _ (by simp), List.length_map, List.length_range, Nat.sub_self, List.replicate_succ, List.set_cons_zero, List.range_succ, List.map_append, List.append_assoc]
  rfl
theorem layR_rep (P : List Nat) : ∀ k, (layR (List.replicate k P)).length = k * (rec1 P).length
  | 0 => by simp [layR]
  | k + 1 => by rw [List.replicate_succ, layR_cons, List.length_append, layR_rep P k, Nat.succ_mul]; omega
theorem half_log {w : World} {base gs gr gen ser N : Nat} {recs dur : List (List Nat)} {pend : List (Nat × List Nat)} (h0 ser0 : Nat) (h : Log w base gs gr gen ser (halfN dur.length h0) (halfK dur.length h0) N recs dur pend) (h4 : 4 ≤ dur.length) (hh : h0 ≤ 1) :
    Calls Try.prog 25 #[.pointer (some ⟨gs, 0, none⟩), .agg #[.int .u32 (gen : Int), .int .u8 (h0 : Int), .int .u32 (ser0 : Int)]] w fun e w' => ∃ A c, e = .returned (.slice A (halfK dur.length h0) c) ∧ Rows3 w' w.heap.size (.slice A (halfK dur.length h0) c) (((applied pend dur).drop (halfN dur.length h0)).take (halfK dur.length h0)) ∧ Below w.heap.size w w' := by
  obtain ⟨b, pv, ps, nw, h⟩ := h
  refine (half_any h.disk gen h0 ser0 h4 hh _ rfl).mono ?_
  rintro e w' ⟨u, he, hR, hb⟩
  have hv := h.view
  obtain ⟨A, c, rfl⟩ := hR.len
  rw [hv] at he hR
  exact ⟨A, c, he, hR, hb⟩
theorem writes_logs {w : World} {base gs gr gen ser first secs N : Nat} {recs dur : List (List Nat)} {pend : List (Nat × List Nat)} {b : DB} {pv : Value} {ps : List PV} {nw : Int} (h : LogS w base gs gr gen ser first secs N recs dur pend b pv ps nw) : Calls Try.prog 19 #[.pointer (some ⟨gs, 0, none⟩)] w fun e w' => e = .returned (.int .i64 nw) ∧ w = w' := writes_any h.disk
def FullI (w : World) (gs gr K g cnt : Nat) (P : List Nat) (dur : List (List Nat)) (i : Value) (wr : World) : Prop :=
  ∃ (k : Nat) (pend : List (Nat × List Nat)), k ≤ cnt ∧ i = .int .i64 (k : Int) ∧ Log wr w.heap.size gs gr 1 1 2 K (k * 2048) (List.replicate k P) dur pend ∧ wr.heap[g]? = some (.cells (byt P).toArray 5 (0, 0)) ∧ Below w.heap.size w wr
set_option maxRecDepth 100000 in
set_option maxHeartbeats 16000000 in
theorem reelFull_walk (s z b : Nat) (w : World) (hs : s < 256) (hz : z < 65536) (hb : b < 256) :
    Calls Try.prog 9 #[.int .u8 (s : Int), .int .u16 (z : Int), .int .u8 (b : Int)] w fun e w' => e = .returned (.bool true) ∧ Below w.heap.size w w' := by
  obtain ⟨n, hn⟩ : ∃ n, n = 4 + s % 12 := ⟨_, rfl⟩
  have hsn : (4 : Int) + (s : Int) % 12 = (n : Int) := by omega
  have hn4 : 4 ≤ n ∧ n ≤ 15 := by omega
  obtain ⟨Z, hZ⟩ : ∃ n, n = 20 + z % 900 := ⟨_, rfl⟩
  have hzn : (20 : Int) + (z : Int) % 900 = (Z : Int) := by omega
  have hZb : 20 ≤ Z ∧ Z ≤ 919 := by omega
  have hmk := run_make_l Z (by omega)
  have HN := Lib.hid (new_good · n (by omega) (by omega))
  have HB256 := Lib.hid hb
  obtain ⟨K, hK⟩ : ∃ K, K = halfK n 0 := ⟨_, rfl⟩
  have hF : halfN n 0 = 2 := by unfold halfN; rw [if_neg (by omega)]; omega
  have hK6 : 1 ≤ K ∧ K ≤ 6 := by rw [hK]; unfold halfK; rw [if_neg (by omega)]; omega
  have HK := Lib.hid hK
  have HFF := Lib.hid hF
  clear hn hZ hK hF
  go_enter Try.func9, Try.ntmps9
  go_wp2_with (first
    | (go_at_call 10; (with_reducible refine (awake_true _).mono ?_); rintro e w1 ⟨rfl, hw1⟩)
    | (go_at_call 11; (with_reducible refine (HN.out _).mono ?_); rintro e w2 ⟨gs, bb, rfl, hD2, hgs, hgd, hgl, hpv, hw2⟩; go_loud (
        have hwle := hw1.size;
        have HBB : Hid (Below w.heap.size w w2) := Lib.hid (hw1.trans (hw2.mono hw1.size));
        have HOP : Hid (∀ y, Below w2.heap.size w2 y → Calls Try.prog 12 #[.pointer (some ⟨gs, 0, none⟩), .agg #[.int .u32 1, .int .u8 0, .int .u32 0]] y fun e w' => ∃ gr, e = .returned (.tuple #[.pointer (some ⟨gr, 0, none⟩), .int .i64 0, .int .i64 0]) ∧ Log w' w.heap.size gs gr 1 1 2 K 0 [] (List.replicate n noughts) [] ∧ Below y.heap.size y w') := Lib.hid (fun y hy => (open_fresh (base := w.heap.size) (hD2.below hy) 1 0 0 (by decide) (by decide) hn4.1 (by omega) (Nat.le_trans hwle hgs) (Nat.le_trans hwle hgd) (Nat.le_trans hwle hgl) hpv (Nat.le_trans hwle (Nat.le_trans hw2.size hy.size))).mono (fun e w' ⟨q1, gr, q2, q3, q4⟩ => ⟨gr, q2, by rw [HK.out, ← HFF.out]; exact q4, q1⟩));
        clear hD2 hgs hgd hgl hpv hw2 hw1 hwle))
    | (go_at_call 43; (with_reducible refine (first_any _).mono ?_); rintro e w3 ⟨rfl, hb3⟩)
    | (go_at_call 12; (with_reducible refine (HOP.out _ hb3).mono ?_); rintro e w4 ⟨gr, rfl, hL4, hb4⟩; go_loud (
        have HL := Lib.hid hL4;
        have HBB := Lib.hid (HBB.out.trans ((hb3.trans (hb4.mono hb3.size)).mono HBB.out.size));
        clear HOP hL4 hb3 hb4)))
  have hG := Go.heap_alloc_new w4 (.cells (byt (List.replicate Z 0)).toArray 5)
  have HG := Lib.hid hG
  clear hG
  go_loopw [46] (fun t x => FillR (w4.alloc (.cells (byt (List.replicate Z 0)).toArray 5)) w4.heap.size Z (fun _ => b) t x) (fun t _ => Z - (intOf t).toNat)
  case atStart => exact ⟨0, by omega, rfl, by simpa using HG.out, Below.refl _ _⟩
  case round =>
    obtain ⟨i, hi, rfl, hX, hB⟩ := hrel
    have HX := Lib.hid hX
    have HB := Lib.hid hB
    by_cases hlt : i < Z
    · obtain ⟨y, hy⟩ : ∃ y, ((List.range i).map (fun _ => b) ++ List.replicate (Z - i) 0)[i]? = some y := ⟨_, List.getElem?_eq_getElem (by simp; omega)⟩
      have hc := buf_cell hX hy
      have hf := buf_fz (i := i) hX
      clear hX hB hy
      go_wp2
      try go_quiet (fail)
      try go_wp2
      go_roundw
      case rel => exact ⟨i + 1, by omega, by go_num, by rw [← fill_next hlt]; exact buf_set HX.out, HB.out.setCell (Nat.le_refl _) _⟩
      case measure => simp [intOf]; omega
    · obtain rfl : Z = i := by omega
      obtain ⟨wo, rfl⟩ : ∃ wo : World, wo = wr := ⟨_, rfl⟩
      obtain ⟨P, hP⟩ : ∃ P, P = (List.range Z).map (fun _ => b) := ⟨_, rfl⟩
      have hPl : P.length = Z := by rw [hP, List.length_map, List.length_range]
      have hPs : ∀ c ∈ P, c < 256 := fun c hc => by
        rw [hP] at hc
        obtain ⟨_, _, rfl⟩ := List.mem_map.1 hc
        exact HB256.out
      rw [Nat.sub_self, List.replicate_zero, List.append_nil, ← hP] at hX
      have hgl := lt_of_heap hX
      obtain ⟨L, hL⟩ : ∃ L, L = (rec1 P).length := ⟨_, rfl⟩
      have hLb : 21 ≤ L ∧ L ≤ 1000 := by
        have h1 := num_length_le 2 P.length (by omega)
        have h2 := num_pos P.length
        rw [hL]
        unfold rec1
        rw [List.length_append]
        omega
      obtain ⟨cnt, hcnt⟩ : ∃ c, c = 487 * K / L := ⟨_, rfl⟩
      have hcL : cnt * L ≤ 487 * K := by rw [hcnt]; exact Nat.div_mul_le_self _ _
      have hcL2 : 487 * K < (cnt + 1) * L := by have h := Nat.lt_mul_div_succ (487 * K) (show 0 < L by omega); rw [hcnt, Nat.mul_comm (487 * K / L + 1) L]; exact h
      have hcb : cnt ≤ 200 := by have := Nat.mul_le_mul_left cnt hLb.1; omega
      have hdv : (487 : Int) * (K : Int) / (L : Int) = (cnt : Int) := by rw [hcnt, Int.natCast_ediv, Int.natCast_mul]; rfl
      have hL0 : (L : Int) ≠ 0 := by omega
      have hL00 : ((L : Int) == 0) = false := by rw [beq_eq_false_iff_ne]; omega
      have hdt : ((487 : Int) * (K : Int)).tdiv (L : Int) = (cnt : Int) := by rw [Int.tdiv_eq_ediv_of_nonneg (by omega)]; exact hdv
      obtain ⟨g, hg⟩ : ∃ g, g = w4.heap.size := ⟨_, rfl⟩
      rw [← hg] at hX hgl hB ⊢
      have hb04 : Below w4.heap.size w4 wo := ((Below.refl w4.heap.size w4).alloc (Nat.le_refl _) (.cells (byt (List.replicate Z 0)).toArray 5)).trans (by rw [← hg]; exact hB)
      have HLr : Hid (Log wo w.heap.size gs gr 1 1 2 K 0 [] (List.replicate n noughts) []) := Lib.hid (HL.out.below hb04)
      have HBr : Hid (Below w.heap.size w wo) := Lib.hid (HBB.out.trans (hb04.mono HBB.out.size))
      have hby : Bytes wo wo.heap.size (.slice (some ⟨g, 0, none⟩) Z Z) P := bytes_block hX hgl hPl.symm (Nat.le_refl _) hPs (by unfold maxLen; omega)
      have hlay1 : layR [P] = rec1 P := by rw [layR_cons, layR_nil, List.append_nil]
      have HLAY : Hid (∀ y gx, Below wo.heap.size wo y → y.heap[gx]? = some (.cells #[.slice (some ⟨g, 0, none⟩) Z Z] 43 (0, 0)) → Calls Try.prog 21 #[.slice (some ⟨gx, 0, none⟩) 1 1] y fun e w' => ∃ A c, e = .returned (.slice A L c) ∧ Below y.heap.size y w') := Lib.hid fun y gx hy hgx => by
        have h := refLayR_any y _ _ (parts1 hgx (hby.along hy)) (by rw [hlay1]; omega)
        rw [hlay1] at h
        refine h.mono ?_
        rintro e w' ⟨u, he, hO, hb⟩
        obtain ⟨A, c, rfl, _⟩ := hO.form
        exact ⟨A, c, by rw [he, hL], hb⟩
      have HHF : Hid (∀ y, Below wo.heap.size wo y → Calls Try.prog 25 #[.pointer (some ⟨gs, 0, none⟩), .agg #[.int .u32 1, .int .u8 0, .int .u32 0]] y fun e w' => ∃ A c, e = .returned (.slice A K c) ∧ Below y.heap.size y w') := Lib.hid fun y hy => by
        have hl : (List.replicate n noughts).length = n := List.length_replicate
        have h := half_log 0 0 (dur := List.replicate n noughts) (by rw [hl, HFF.out, ← HK.out]; exact HLr.out.below hy) (by rw [hl]; exact hn4.1) (by omega)
        rw [hl, ← HK.out] at h
        exact h.mono fun e w' ⟨A, c, he, _, hb⟩ => ⟨A, c, he, hb⟩
      have HXg := Lib.hid hX
      have HPS := Lib.hid hPs
      have HPL := Lib.hid hPl
      have HLL := Lib.hid hL
      have HCL := Lib.hid hcL
      have HCL2 := Lib.hid hcL2
      have HG4 := Lib.hid hg
      clear hX hB hP hPs hPl hL hcL hcL2 hcnt hg hb04 hby hlay1 HX HB HL HBB HG hmk
      go_wp2_with (first
        | (go_at_call 21; (with_reducible refine (HLAY.out _ _ ((Below.refl _ _).alloc (Nat.le_refl _) _) (Go.heap_alloc_new _ _)).mono ?_); rintro e w5 ⟨A5, c5, rfl, hb5⟩; go_loud (
            have HB5 : Hid (Below wo.heap.size wo w5) := Lib.hid (((Below.refl wo.heap.size wo).alloc (Nat.le_refl _) _).trans (hb5.mono (by simp)));
            clear hb5))
        | (go_at_call 43; (with_reducible refine (first_any _).mono ?_); rintro e w6 ⟨rfl, hb6⟩; go_loud (
            have HB6 : Hid (Below wo.heap.size wo w6) := Lib.hid (HB5.out.trans (hb6.mono HB5.out.size));
            clear HB5 hb6))
        | (go_at_call 25; (with_reducible refine (HHF.out _ HB6.out).mono ?_); rintro e w7 ⟨A7, c7, rfl, hb7⟩; go_loud (
            have HB7 : Hid (Below wo.heap.size wo w7) := Lib.hid (HB6.out.trans (hb7.mono HB6.out.size));
            clear HB6 hb7)))
      have hX7 := (HB7.out.block g hgl).trans HXg.out
      have HX7 := Lib.hid hX7
      have HL7 := Lib.hid (HLr.out.below HB7.out)
      have HBW := Lib.hid (HBr.out.trans (HB7.out.mono HBr.out.size))
      clear hX7
      go_loopw [66] (fun t x => FullI w gs gr K g cnt P (List.replicate n noughts) t x) (fun t _ => cnt - (intOf t).toNat)
      case atStart => exact ⟨0, [], Nat.zero_le _, rfl, by rw [Nat.zero_mul]; exact HL7.out, HX7.out, HBW.out⟩
      case round =>
        obtain ⟨k, pend, hk, rfl, hLk, hXk, hBk⟩ := hrel
        have hglk := lt_of_heap hXk
        have hby : Bytes wr wr.heap.size (.slice (some ⟨g, 0, none⟩) Z Z) P := bytes_block hXk hglk HPL.out.symm (Nat.le_refl _) HPS.out (by rw [HPL.out]; unfold maxLen; omega)
        have hnP : (rec1 P).length + (layR (List.replicate k P)).length = (k + 1) * L := by rw [layR_rep, ← HLL.out, Nat.succ_mul]; omega
        by_cases hlt : k < cnt
        · have hfit : (rec1 P).length + (layR (List.replicate k P)).length ≤ K * 487 := by
            have h1 : (k + 1) * L ≤ cnt * L := Nat.mul_le_mul_right _ hlt
            have h2 := HCL.out
            omega
          have HAP := Lib.hid (append_log hLk (by omega) _ Z Z P hby (by omega) hfit)
          have HXk := Lib.hid hXk
          have HBk := Lib.hid hBk
          clear hLk hXk hBk hby hnP hfit hglk
          go_wp2_with (go_at_call 20; (with_reducible refine (HAP.out).mono ?_); rintro e w8 ⟨rfl, ⟨p8, hL8⟩, hK8⟩; have HL8 := Lib.hid hL8; have HK8 := Lib.hid hK8; clear hL8 hK8)
          go_roundw
          case rel =>
            refine ⟨k + 1, pend ++ p8, by omega, by go_num, ?_, HK8.out.ty g _ HXk.out noLog_bytes, HBk.out.trans HK8.out.below⟩
            rw [List.replicate_succ', Nat.succ_mul]
            exact HL8.out
          case measure => simp [intOf]; omega
        · obtain rfl : k = cnt := by omega
          have hfull : K * 487 < (rec1 P).length + (layR (List.replicate k P)).length := by
            have h2 := HCL2.out
            omega
          obtain ⟨R, hR⟩ : ∃ R, R = K * 487 - (layR (List.replicate k P)).length := ⟨_, rfl⟩
          have hRL : R < L := by rw [hR, layR_rep, ← HLL.out]; have h2 := HCL2.out; rw [Nat.succ_mul k L] at h2; omega
          have hRL2 : ¬ (R : Int) ≥ (L : Int) := by omega
          have hrl : (List.replicate k P).length = k := List.length_replicate
          obtain ⟨b9, pv9, ps9, nw9, hS9⟩ := id hLk
          have HWR : Hid (∀ y, Below wr.heap.size wr y → Calls Try.prog 19 #[.pointer (some ⟨gs, 0, none⟩)] y fun e w' => e = .returned (.int .i64 nw9) ∧ y = w') := Lib.hid fun y hy => writes_logs (hS9.below hy)
          have HFU : Hid (∀ y, Below wr.heap.size wr y → Calls Try.prog 20 #[.pointer (some ⟨gr, 0, none⟩), .slice (some ⟨g, 0, none⟩) Z Z] y fun e w' => e = .returned (.int .i64 5) ∧ Below y.heap.size y w') := Lib.hid fun y hy => append_full (hLk.below hy) _ Z Z P (hby.along hy) (by omega) hfull
          have HCO : Hid (∀ y, Below wr.heap.size wr y → Calls Try.prog 23 #[.pointer (some ⟨gr, 0, none⟩)] y fun e w' => e = .returned (.int .i64 (k : Int)) ∧ y = w') := Lib.hid fun y hy => by have h := count_log (hLk.below hy); rw [hrl] at h; exact h
          have HRO : Hid (∀ y, Below wr.heap.size wr y → Calls Try.prog 18 #[.pointer (some ⟨gr, 0, none⟩)] y fun e w' => e = .returned (.int .i64 (R : Int)) ∧ Below y.heap.size y w') := Lib.hid fun y hy => by rw [hR]; exact room_log (hLk.below hy)
          have HOP : Hid (∀ y, Below wr.heap.size wr y → Calls Try.prog 12 #[.pointer (some ⟨gs, 0, none⟩), .agg #[.int .u32 1, .int .u8 0, .int .u32 0]] y fun e w' => ∃ gr2 ser2, e = .returned (.tuple #[.pointer (some ⟨gr2, 0, none⟩), .int .i64 0, .int .i64 0]) ∧ Log w' w.heap.size gs gr2 1 ser2 2 K (k * 2048) (List.replicate k P) (List.replicate n noughts) pend ∧ Below y.heap.size y w') := Lib.hid fun y hy => by
            have hl : (List.replicate n noughts).length = n := List.length_replicate
            have h := open_log (N := k * 2048) (base := w.heap.size) (hS9.below hy).disk 0 0 1 (pgs ps9) (by rw [hl, HFF.out, ← HK.out]; exact hS9.clean) (by decide) (by decide) (by decide) (by rw [hl]; exact hn4.1) (by omega) hS9.hp hS9.hn hS9.o1 hS9.o3 hS9.o4 hS9.o5 (Nat.le_trans hS9.hb hy.size)
            rw [hl, HFF.out, ← HK.out] at h
            refine h.mono ?_
            rintro e w' ⟨hb, gr2, e1, e2, e3⟩
            exact ⟨gr2, _, e1, e3, hb⟩
          have HBk := Lib.hid hBk
          have HR := Lib.hid hR
          have HRL := Lib.hid hrl
          have HN0 : Hid (Below wr.heap.size wr wr) := Lib.hid (Below.refl _ _)
          clear hLk hXk hBk hby hnP hfull hS9 hR hrl hglk
          go_wp2_with (first
            | (go_at_call 19; (with_reducible refine (HWR.out _ HN0.out).mono ?_); rintro e w9 ⟨rfl, rfl⟩)
            | (go_at_call 20; (with_reducible refine (HFU.out _ HN0.out).mono ?_); rintro e w10 ⟨rfl, hb10⟩; have HN0 := Lib.hid (HN0.out.trans (hb10.mono HN0.out.size)); clear hb10)
            | (go_at_call 23; (with_reducible refine (HCO.out _ HN0.out).mono ?_); rintro e w11 ⟨rfl, rfl⟩)
            | (go_at_call 18; (with_reducible refine (HRO.out _ HN0.out).mono ?_); rintro e w12 ⟨rfl, hb12⟩; have HN0 := Lib.hid (HN0.out.trans (hb12.mono HN0.out.size)); clear hb12)
            | (go_at_call 43; (with_reducible refine (first_any _).mono ?_); rintro e w13 ⟨rfl, hb13⟩; have HN0 := Lib.hid (HN0.out.trans (hb13.mono HN0.out.size)); clear hb13)
            | (go_at_call 12; (with_reducible refine (HOP.out _ HN0.out).mono ?_); rintro e w14 ⟨gr2, ser2, rfl, hL14, hb14⟩; go_loud (
                have HN0 := Lib.hid (HN0.out.trans (hb14.mono HN0.out.size));
                have HC2 : Hid (∀ y, Below w14.heap.size w14 y → Calls Try.prog 23 #[.pointer (some ⟨gr2, 0, none⟩)] y fun e w' => e = .returned (.int .i64 (k : Int)) ∧ y = w') := Lib.hid (fun y hy => (by have h := count_log (hL14.below hy); rw [HRL.out] at h; exact h));
                have HR2 : Hid (∀ y, Below w14.heap.size w14 y → Calls Try.prog 18 #[.pointer (some ⟨gr2, 0, none⟩)] y fun e w' => e = .returned (.int .i64 (R : Int)) ∧ Below y.heap.size y w') := Lib.hid (fun y hy => (by rw [HR.out]; exact room_log (hL14.below hy)));
                have HN1 : Hid (Below w14.heap.size w14 w14) := Lib.hid (Below.refl _ _);
                clear hL14 hb14))
            | (go_at_call 23; (with_reducible refine (HC2.out _ HN1.out).mono ?_); rintro e w15 ⟨rfl, rfl⟩)
            | (go_at_call 18; (with_reducible refine (HR2.out _ HN1.out).mono ?_); rintro e w16 ⟨rfl, hb16⟩; have HN0 := Lib.hid (HN0.out.trans (hb16.mono HN0.out.size)); clear hb16))
          go_ret
          exact ⟨rfl, HBk.out.trans (HN0.out.mono HBk.out.size)⟩
end Go.Proofs.Ytalpippeelomjaa
namespace Go.Proofs.Ytalpippeelomjaa
open Go.RowKit Go.Shelf
set_option linter.unusedSimpArgs false
set_option linter.unusedVariables false
def recOf (m b : Nat) : List Nat := (List.range m).map fun i => (b + i) % 256
theorem recOf_length (m b : Nat) : (recOf m b).length = m := by unfold recOf; rw [List.length_map, List.length_range]
theorem recOf_small (m b : Nat) : ∀ x ∈ recOf m b, x < 256 := fun x hx => by
  unfold recOf at hx
  obtain ⟨i, _, rfl⟩ := List.mem_map.1 hx
  omega
theorem run_make_u16 (N : Nat) (hN : N ≤ 65535) (w : World) : (Instr.makeSlice 43 (.int .u16 (N : Int)) (.int .u16 (N : Int))).run Try.prog w = .ok (.slice (some ⟨w.heap.size, 0, none⟩) N N) (w.alloc (.cells (byt (List.replicate N 0)).toArray 5)) := by
  obtain ⟨i0, hi0, hz0, hz1, hz2⟩ := info_parts infoByte
  have h := run_make (P := Try.prog) w 43 5 i0 (.int .u8 0) Try.underlying43 hi0 hz0 .u16 .u16 (N : Int) (N : Int) (by omega) (by omega) (by rw [hz2]; omega) (by omega)
  rw [hz1] at h
  have e : madeCells (Value.cells (.int .u8 0)) ((N : Int).toNat * 1) = (byt (List.replicate N 0)).toArray := by
    have e2 := toList_madeCells_one (.int .u8 0) N
    have e3 : (byt (List.replicate N 0)).toArray = (madeCells #[Value.int .u8 0] N).toList.toArray := by
      rw [e2]
      unfold byt
      rw [List.map_replicate]
      rfl
    rw [e3]
    simp [Value.cells]
  rw [e] at h
  simpa using h
def RecI (W : World) (B g k b : Nat) (t : Value) (x : World) : Prop :=
  FillR W g k (fun i => (b + i) % 256) t x ∧ x.cell? ⟨B, 2, none⟩ = some (.int .u8 (b : Int))
set_option maxRecDepth 100000 in
set_option maxHeartbeats 4000000 in
theorem record_any (w : World) (d N b : Nat) (K : Value) (hd : d < 256) (hN : N < 65536) (hb : b < 256) :
    Calls Try.prog 17 #[.agg #[.int .u8 (d : Int), .int .u16 (N : Int), .int .u8 (b : Int), K]] w fun e w' => ∃ g, e = .returned (.slice (some ⟨g, 0, none⟩) (N % 1200) (N % 1200)) ∧ w.heap.size ≤ g ∧ w'.heap[g]? = some (.cells (byt (recOf (N % 1200) b)).toArray 5 (0, 0)) ∧ Below w.heap.size w w' := by
  obtain ⟨m, hm⟩ : ∃ m, m = N % 1200 := ⟨_, rfl⟩
  have e1 : (N : Int) % 1200 = (m : Int) := by omega
  have e1' : (N : Int).tmod 1200 = (m : Int) := by rw [Int.tmod_eq_emod_of_nonneg (by omega)]; exact e1
  have hmb : m < 1200 := by omega
  have hmk := run_make_u16 m (by omega)
  rw [← hm]
  have HB := Lib.hid hb
  clear hm
  go_enter Try.func17, Try.ntmps17
  go_wp2_with fail
  generalize hWE : w.alloc (.cells #[.int .u8 (d : Int), .int .u16 (N : Int), .int .u8 (b : Int), K] 38) = W
  have hW : W.heap[w.heap.size]? = some (.cells #[.int .u8 (d : Int), .int .u16 (N : Int), .int .u8 (b : Int), K] 38 (0, 0)) := hWE ▸ Go.heap_alloc_new w _
  have hWb : Below w.heap.size w W := hWE ▸ (Below.refl _ _).alloc (Nat.le_refl _) _
  have hWs : w.heap.size + 1 = W.heap.size := by rw [← hWE]; simp
  have q2 : W.cell? ⟨w.heap.size, 2, none⟩ = some (.int .u8 (b : Int)) := by unfold World.cell?; rw [hW]; rfl
  have hgl := lt_of_heap hW
  have HWb := Lib.hid hWb
  have HG := Go.heap_alloc_new W (.cells (byt (List.replicate m 0)).toArray 5)
  have HG := Lib.hid HG
  have HWE := Lib.hid hWE
  clear hW hWb hWE
  try rw [hWs]
  clear hWs
  go_loopw [11] (fun t x => RecI (W.alloc (.cells (byt (List.replicate m 0)).toArray 5)) w.heap.size W.heap.size m b t x) (fun t _ => m - (intOf t).toNat)
  case atStart => exact ⟨⟨0, by omega, rfl, by simpa using HG.out, Below.refl _ _⟩, ((Below.refl W.heap.size W).alloc (Nat.le_refl _) _).cell (p := ⟨w.heap.size, 2, none⟩) hgl ▸ q2⟩
  case round =>
    obtain ⟨⟨i, hi, rfl, hX, hB⟩, hq⟩ := hrel
    have HX := Lib.hid hX
    have HBi := Lib.hid hB
    have HQ := Lib.hid hq
    by_cases hlt : i < m
    · obtain ⟨y, hy⟩ : ∃ y, ((List.range i).map (fun i => (b + i) % 256) ++ List.replicate (m - i) 0)[i]? = some y := ⟨_, List.getElem?_eq_getElem (by simp; omega)⟩
      have hc := buf_cell hX hy
      have hf := buf_fz (i := i) hX
      have hv1 : ((b : Int) + (i : Int)) % 256 = (((b + i) % 256 : Nat) : Int) := by omega
      have HV1 := Lib.hid hv1
      clear hX hB hy hv1
      go_wp2
      try go_quiet (fail)
      try go_wp2
      go_roundw
      case rel => exact ⟨⟨i + 1, by omega, by go_num, by rw [HV1.out, ← fill_next hlt]; exact buf_set HX.out, HBi.out.setCell (Nat.le_refl _) _⟩, (World.cell?_of_block (a := ⟨w.heap.size, 2, none⟩) (heap_setCell_other _ ⟨W.heap.size, i, none⟩ w.heap.size _ (by show w.heap.size ≠ W.heap.size; omega))).trans HQ.out⟩
      case measure => simp [intOf]; omega
    · obtain rfl : m = i := by omega
      rw [Nat.sub_self, List.replicate_zero, List.append_nil] at hX
      have HX := Lib.hid hX
      clear hX hB hq
      go_wp2_with fail
      go_ret
      exact ⟨_, rfl, by have := HWb.out.size; omega, HX.out, HWb.out.trans ((((Below.refl W.heap.size W).alloc (Nat.le_refl _) _).trans HBi.out).mono HWb.out.size)⟩
end Go.Proofs.Ytalpippeelomjaa
namespace Go.Proofs.Ytalpippeelomjaa
open Go.RowKit Go.Shelf
set_option linter.unusedSimpArgs false
set_option linter.unusedVariables false
structure RAc where
  d : Nat
  n : Nat
  b : Nat
  KA : Option Addr
  kn : Nat
  kc : Nat
  ks : List Bool
def racell (a : RAc) : List Value := [.int .u8 (a.d : Int), .int .u16 (a.n : Int), .int .u8 (a.b : Int), .slice a.KA a.kn a.kc]
structure RAcOk (W : World) (a : RAc) : Prop where
  d : a.d < 256
  n : a.n < 65536
  b : a.b < 256
  ks : Flags W (.slice a.KA a.kn a.kc) a.ks
structure RActs (W : World) (v : Value) (l : List RAc) : Prop where
  form : ∃ A c, v = .slice A l.length c ∧ ∀ (i : Nat) (a : RAc), l[i]? = some a → ∃ ad, A = some ad ∧ ad.block < W.heap.size ∧ ∀ j, j < 4 → W.cell? (ad.add (i * 4 + j)) = (racell a)[j]?
  ok : ∀ a ∈ l, RAcOk W a
  long : l.length ≤ maxLen
theorem raddr_in (ad : Addr) (m j : Nat) (hj : j ≠ 0) : (⟨(ad.add m).block, (ad.add m).off + j, none⟩ : Addr) = ad.add (m + j) := ((if_neg hj).symm : _ = (ad.add m).add j).trans (addr_add_add ad m j)
/-- An act's cells, each as the walk spells it. -/
theorem RActs.load {W wr : World} {A : Option Addr} {n c i : Nat} {l : List RAc} {a : RAc} (h : RActs W (.slice A n c) l) (ha : l[i]? = some a) (hb : Below W.heap.size W wr) :
    ∃ ad, A = some ad ∧ wr.cell? (ad.add (i * 4)) = some (.int .u8 (a.d : Int)) ∧ wr.cell? ⟨(ad.add (i * 4)).block, (ad.add (i * 4)).off + 1, none⟩ = some (.int .u16 (a.n : Int)) ∧ wr.cell? ⟨(ad.add (i * 4)).block, (ad.add (i * 4)).off + 2, none⟩ = some (.int .u8 (a.b : Int)) ∧
      wr.cell? ⟨(ad.add (i * 4)).block, (ad.add (i * 4)).off + 3, none⟩ = some (.slice a.KA a.kn a.kc) := by
  obtain ⟨A', c', hv, hl⟩ := h.form
  injection hv with e _ _
  subst e
  obtain ⟨ad, hA, hbk, hall⟩ := hl i a ha
  have k : ∀ m, wr.cell? (ad.add m) = W.cell? (ad.add m) := fun m => hb.cell (by rw [addr_add_block]; exact hbk)
  refine ⟨ad, hA, ?_, ?_, ?_, ?_⟩
  · exact (k _).trans (hall 0 (by decide))
  all_goals (rw [raddr_in _ _ _ (by decide)]; refine (k _).trans ?_)
  · exact hall 1 (by decide)
  · exact hall 2 (by decide)
  · exact hall 3 (by decide)
end Go.Proofs.Ytalpippeelomjaa
namespace Go.Proofs.Ytalpippeelomjaa
open Go.RowKit Go.ChangeShapes Go.WideShapes Go.ChangeAt
open Go.Deep
set_option linter.unusedSimpArgs false

theorem open_flags {H : Type} {enc : TypeId × Value → H} {W : World} {fuel : Nat} {cs : List Value} {x : DataW H × List MemPlace} (h : DataW.trod enc Try.prog W 0 (fun _ => true) true fuel 36 cs = some x) :
    ∃ A n c ks, cs = [.slice A n c] ∧ Flags W (.slice A n c) ks ∧ ks.length ≤ 9223372036854775807 := by
  rcases open_bools Try.underlying36 Try.underlying4 (by kernel_rfl) h with ⟨hcs, _⟩ | ⟨x, len, cap, B, hcs, _, hl, hm, _, hrow⟩
  · exact ⟨none, 0, 0, [], hcs, flags_none _, by simp⟩
  · refine ⟨some x, len, cap, (List.range len).map B, hcs, ⟨some x, cap, by simp, fun j v hj => ?_⟩, by unfold maxLen at hm; simp; omega⟩
    have hjl : j < len := by
      rcases Nat.lt_or_ge j len with h | h
      · exact h
      · rw [List.getElem?_eq_none (by simp; exact h)] at hj; cases hj
    rw [List.map_map, List.getElem?_map, List.getElem?_range hjl] at hj
    simp only [Option.map_some, Option.some.injEq] at hj
    have hc := hrow j (by omega)
    have hb := World.block_lt_of_cell? W _ hc
    rw [addr_add_block] at hb
    exact ⟨x, rfl, hb, by rw [hc, ← hj]; rfl⟩
/-- A list of so many, each as it is told to be. -/
theorem list_of {α : Type} (P : Nat → α → Prop) : ∀ n, (∀ i, i < n → ∃ a, P i a) → ∃ l : List α, l.length = n ∧ ∀ i a, l[i]? = some a → P i a := by
  intro n
  induction n with
  | zero => intro _; exact ⟨[], rfl, fun i a h => by simp at h⟩
  | succ n ih =>
    intro h
    obtain ⟨l, hl, hall⟩ := ih (fun i hi => h i (by omega))
    obtain ⟨a, ha⟩ := h n (by omega)
    refine ⟨l ++ [a], by simp [hl], fun i b hb => ?_⟩
    rcases Nat.lt_or_ge i n with h1 | h1
    · rw [List.getElem?_append_left (by omega)] at hb
      exact hall i b hb
    · rw [List.getElem?_append_right (by omega)] at hb
      have h2 : i - l.length = 0 := by
        rcases Nat.eq_zero_or_pos (i - l.length) with h3 | h3
        · exact h3
        · rw [List.getElem?_eq_none (by simp; omega)] at hb; cases hb
      rw [h2] at hb
      simp at hb
      subst hb
      obtain rfl : i = n := by omega
      exact ha
set_option maxRecDepth 100000 in
/-- One act's cells. -/
theorem open_ract {H : Type} {enc : TypeId × Value → H} {W : World} {fuel : Nat} {cs : List Value} {x : DataW H × List MemPlace} (h : DataW.trod enc Try.prog W 0 (fun _ => true) true fuel 38 cs = some x) : ∃ a : RAc, RAcOk W a ∧ cs = racell a := by
  obtain ⟨xs, n, _, _, hl, hlen, hall⟩ := DataW.trod_struct Try.underlying38 h
  have hc4 : Try.prog.cellsOf 38 = 4 := by kernel_rfl
  have k8 : Try.prog.cellsOf 5 = 1 := by kernel_rfl
  have ku : Try.prog.cellsOf 35 = 1 := by kernel_rfl
  have kk : Try.prog.cellsOf 36 = 1 := by kernel_rfl
  rw [hc4] at hl
  match cs, hl with
  | [c0, c1, c2, c3], _ =>
    match xs, hlen with
    | [y0, y1, y2, y3], _ =>
      have f0 := hall 0 _ rfl
      have f1 := hall 1 _ rfl
      have f2 := hall 2 _ rfl
      have f3 := hall 3 _ rfl
      simp only [k8, ku, kk, List.drop_zero, List.drop_succ_cons, List.take_succ_cons, List.take_zero, List.getElem?_cons_zero, List.getElem?_cons_succ] at f0 f1 f2 f3
      obtain ⟨n0, e0, _, w0⟩ := DataW.trod_int Try.underlying5 f0
      obtain ⟨n1, e1, _, w1⟩ := DataW.trod_int Try.underlying35 f1
      obtain ⟨n2, e2, _, w2⟩ := DataW.trod_int Try.underlying5 f2
      obtain ⟨KA, kn, kc, ks, e3, hk, hkl⟩ := open_flags f3
      have b0 := bounds_u8 w0
      have b1 := bounds_u16 w1
      have b2 := bounds_u8 w2
      obtain ⟨x0, rfl⟩ := Int.eq_ofNat_of_zero_le b0.1
      obtain ⟨x1, rfl⟩ := Int.eq_ofNat_of_zero_le b1.1
      obtain ⟨x2, rfl⟩ := Int.eq_ofNat_of_zero_le b2.1
      injection e0 with e0 _
      injection e1 with e1 _
      injection e2 with e2 _
      injection e3 with e3 _
      subst e0 e1 e2 e3
      exact ⟨⟨x0, x1, x2, KA, kn, kc, ks⟩, ⟨by show x0 < 256; omega, by show x1 < 65536; omega, by show x2 < 256; omega, hk⟩, rfl⟩
/-- A slice of acts that came in. -/
theorem open_racts {H : Type} {enc : TypeId × Value → H} {W : World} {A : Option Addr} {n c : Nat} {d : DataW H} {ps : List MemPlace} (h : DataW.Trod enc Try.prog W 0 (fun _ => true) true 25 (.slice A n c) d ps) : ∃ l, RActs W (.slice A n c) l := by
  obtain ⟨fuel, hf⟩ := h
  have hc4 : Try.prog.cellsOf 38 = 4 := by kernel_rfl
  rcases Go.Deep.open_slice Try.underlying25 hf with ⟨hcs, _⟩ | ⟨a, len, cap, m, n', D, Pl, hcs, hb, hl, hm, hmm, _, hi⟩
  · simp [Value.cells] at hcs
    obtain ⟨rfl, rfl, rfl⟩ := hcs
    exact ⟨[], ⟨⟨none, 0, rfl, by simp⟩, by simp, by simp⟩⟩
  · simp [Value.cells] at hcs
    obtain ⟨rfl, rfl, rfl⟩ := hcs
    simp at hmm
    subst hmm
    obtain ⟨l, hll, hall⟩ := list_of (fun i (f : RAc) => RAcOk W f ∧ ∀ j, j < 4 → W.cell? (a.add (i * 4 + j)) = (racell f)[j]?) n (fun i hin => by
      obtain ⟨cs', hc, ht⟩ := hi i (by omega)
      obtain ⟨f, hok, rfl⟩ := open_ract ht
      rw [hc4] at hc
      obtain ⟨_, _, hat⟩ := World.cells?_some hc
      refine ⟨f, hok, fun j hj => ?_⟩
      rw [← addr_add_add]
      exact hat j hj)
    refine ⟨l, ⟨⟨some a, m, by rw [hll], fun i f hf => ?_⟩, fun f hf => ?_, by unfold maxLen at hm ⊢; omega⟩⟩
    · have h1 := (hall i f hf).2
      have h0 := h1 0 (by decide)
      have hblk := World.block_lt_of_cell? W _ (show W.cell? _ = some (Value.int .u8 (f.d : Int)) from h0)
      rw [addr_add_block] at hblk
      exact ⟨a, rfl, hblk, h1⟩
    · obtain ⟨i, hi2⟩ := List.getElem?_of_mem hf
      exact (hall i f hi2).1
end Go.Proofs.Ytalpippeelomjaa
