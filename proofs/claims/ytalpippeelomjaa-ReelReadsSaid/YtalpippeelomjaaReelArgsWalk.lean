/- The law ReelArgs, walked. -/
import Derived.Test.YtalpippeelomjaaZ42
import Derived.Test.YtalpippeelomjaaZ24
namespace Go.Proofs.Ytalpippeelomjaa
open Go.RowKit Go.Shelf
set_option linter.unusedSimpArgs false
set_option linter.unusedVariables false
theorem run_make_n (N : Nat) (hN : N ≤ 1048576) : ∃ C : Array Value, C.toList = byt (List.replicate N 0) ∧ ∀ w : World, (Instr.makeSlice 43 (.int .i64 (N : Int)) (.int .i64 (N : Int))).run Try.prog w = .ok (.slice (some ⟨w.heap.size, 0, none⟩) N N) (w.alloc (.cells C 5)) := by
  obtain ⟨i0, hi0, hz0, hz1, hz2⟩ := info_parts infoByte
  refine ⟨madeCells (Value.cells (.int .u8 0)) ((N : Int).toNat * 1), ?_, fun w => ?_⟩
  · have e2 := toList_madeCells_one (.int .u8 0) N
    rw [Int.toNat_natCast, Nat.mul_one]
    refine e2.trans ?_
    unfold byt
    rw [List.map_replicate]
    rfl
  · have h := run_make (P := Try.prog) w 43 5 i0 (.int .u8 0) Try.underlying43 hi0 hz0 .i64 .i64 (N : Int) (N : Int) (by omega) (by omega) (by rw [hz2]; omega) (by omega)
    rw [hz1] at h
    rw [Int.toNat_natCast] at h ⊢
    exact h
theorem bytes_made {w : World} {C : Array Value} {N : Nat} (hC : C.toList = byt (List.replicate N 0)) (hN : N ≤ 1048576) : Bytes (w.alloc (.cells C 5)) (w.alloc (.cells C 5)).heap.size (.slice (some ⟨w.heap.size, 0, none⟩) N N) (List.replicate N 0) := by
  have hM := mine_new w C (List.replicate N 0) hC (fun b hb => by rw [List.eq_of_mem_replicate hb]; omega) (by rw [List.length_replicate]; exact hN)
  rw [List.length_replicate] at hM
  exact hM.bytes
theorem full_3000 {w w0 : World} {base gs gr gen ser first secs N g : Nat} {dur : List (List Nat)} {pend : List (Nat × List Nat)} {C : Array Value} (h : Log w base gs gr gen ser first secs N [] dur pend) (hb : Below w.heap.size w w0) (hC : C.toList = byt (List.replicate 3000 0)) (hs : secs ≤ 3) (hg : g = w0.heap.size) :
    Calls Try.prog 20 #[.pointer (some ⟨gr, 0, none⟩), .slice (some ⟨g, 0, none⟩) 3000 3000] (w0.alloc (.cells C 5)) fun e w' => e = .returned (.int .i64 5) ∧ Log w' base gs gr gen ser first secs N [] dur pend ∧ Below w.heap.size w w' := by
  subst hg
  have hb2 := hb.alloc hb.size (.cells C 5)
  refine (append_full (h.below hb2) _ 3000 3000 _ (bytes_made hC (by decide)) (by decide) ?_).mono ?_
  · have : (rec1 (List.replicate 3000 0)).length = (num (List.replicate 3000 0).length).length + 3000 := by unfold rec1; rw [List.length_append, List.length_replicate]
    omega
  · rintro e w' ⟨he, hb3⟩
    exact ⟨he, (h.below hb2).below hb3, hb2.trans (hb3.mono hb2.size)⟩
theorem count_none {w : World} {base gs gr gen ser first secs N : Nat} {dur : List (List Nat)} {pend : List (Nat × List Nat)} (h : Log w base gs gr gen ser first secs N [] dur pend) : Calls Try.prog 23 #[.pointer (some ⟨gr, 0, none⟩)] w fun e w' => e = .returned (.int .i64 0) ∧ w = w' := count_log h
set_option maxRecDepth 100000 in
set_option maxHeartbeats 16000000 in
theorem reelArgs_walk (s h : Nat) (A2 : Option Addr) (n2 c2 : Nat) (l2 : List Nat) (w : World) (hp2 : Bytes w w.heap.size (.slice A2 n2 c2) l2) (hs : s < 256) (hh : h < 256) :
    Calls Try.prog 7 #[.int .u8 (s : Int), .int .u8 (h : Int), .slice A2 n2 c2] w fun e w' => e = .returned (.bool true) ∧ Below w.heap.size w w' := by
  obtain ⟨n, hn⟩ : ∃ n, n = 1 + s % 8 := ⟨_, rfl⟩
  have hsn : (1 : Int) + (s : Int) % 8 = (n : Int) := by omega
  have hn18 : 1 ≤ n ∧ n ≤ 8 := by omega
  obtain ⟨C1, hC1, hmk1'⟩ := run_make_n 65537 (by decide)
  have hmk1 : ∀ w : World, (Instr.makeSlice 43 (.int .i64 65537) (.int .i64 65537)).run Try.prog w = .ok (.slice (some ⟨w.heap.size, 0, none⟩) 65537 65537) (w.alloc (.cells C1 5)) := hmk1'
  obtain ⟨C3, hC3, hmk3'⟩ := run_make_n 3000 (by decide)
  have hmk3 : ∀ w : World, (Instr.makeSlice 43 (.int .i64 3000) (.int .i64 3000)).run Try.prog w = .ok (.slice (some ⟨w.heap.size, 0, none⟩) 3000 3000) (w.alloc (.cells C3 5)) := hmk3'
  have HC3 := Lib.hid hC3
  have HP := Lib.hid hp2
  have HN := Lib.hid (new_good · n hn18.1 (by omega))
  have KNIL : Hid (∀ y, Calls Try.prog 12 #[.pointer none, .agg #[.int .u32 1, .int .u8 0, .int .u32 0]] y (ArgR y)) := Lib.hid fun y => open_arg y (.pointer none) 0 0 1 0 (fun x _ => sectors_nil x) (by decide) (.inl (by decide))
  have KCUT : Hid (∀ (y : World) (v : Value) (l : List Nat), Bytes y y.heap.size v l → Calls Try.prog 29 #[v, .int .i64 9] y fun e w' => ∃ u, e = .returned u ∧ Below y.heap.size y w') := Lib.hid fun y v l h => (cut_any y v l 9 h (by omega)).mono fun e w' ⟨u, he, _, hb⟩ => ⟨u, he, hb⟩
  clear hn hC1 hmk1' hmk3' hC3 hp2
  by_cases hR : 4 ≤ n ∧ h < 2
  · have k1 : (n : Int) ≥ 4 := by omega
    have k2 : (h : Int) < 2 := by omega
    have hhn := hR.2
    have hn4 := hR.1
    have HK3 : Hid (halfK n h ≤ 3) := Lib.hid (by unfold halfK; rw [if_neg (by omega)]; omega)
    clear hR
    go_enter Try.func7, Try.ntmps7
    go_wp2_with (first
      | (go_at_call 10; (with_reducible refine (awake_true _).mono ?_); rintro e w1 ⟨rfl, hw1⟩)
      | (go_at_call 11; (with_reducible refine (HN.out _).mono ?_); rintro e w2 ⟨gs, b, rfl, hD2, hgs, hgd, hgl, hpv, hw2⟩; go_loud (
          have HBB : Hid (Below w.heap.size w w2) := Lib.hid (hw1.trans (hw2.mono hw1.size));
          have hwle := hw1.size;
          have HOP : Hid (Calls Try.prog 12 #[.pointer (some ⟨gs, 0, none⟩), .agg #[.int .u32 1, .int .u8 (h : Int), .int .u32 0]] w2 fun e w' => ∃ gr, e = .returned (.tuple #[.pointer (some ⟨gr, 0, none⟩), .int .i64 0, .int .i64 0]) ∧ Log w' w.heap.size gs gr 1 1 (halfN n h) (halfK n h) 0 [] (List.replicate n noughts) [] ∧ Below w2.heap.size w2 w') := Lib.hid ((open_fresh (base := w.heap.size) hD2 1 h 0 (by decide) (by decide) hn4 (by omega) (Nat.le_trans hwle hgs) (Nat.le_trans hwle hgd) (Nat.le_trans hwle hgl) hpv (Nat.le_trans hwle hw2.size)).mono (fun e w' ⟨q1, gr, q2, q3, q4⟩ => ⟨gr, q2, q4, q1⟩));
          clear hD2 hgs hgd hgl hpv hw2 hw1 hwle))
      | (go_at_call 12; (with_reducible refine (HOP.out).mono ?_); rintro e w3 ⟨gr, rfl, hL3, hb3⟩; go_loud (
          have HL := Lib.hid hL3;
          have HBB := Lib.hid (HBB.out.trans (hb3.mono HBB.out.size));
          clear HOP hL3 hb3))
      | (go_at_call 43; (with_reducible refine (first_any _).mono ?_); rintro e w4 ⟨rfl, hb4⟩; go_loud (
          have HL := Lib.hid (HL.out.below hb4);
          have HBB := Lib.hid (HBB.out.trans (hb4.mono HBB.out.size));
          clear hb4))
      | (go_at_call 12; (with_reducible refine (KNIL.out _).mono ?_); rintro e w5 ⟨rfl, hb5⟩; go_loud (
          have HL := Lib.hid (HL.out.below hb5);
          have HBB := Lib.hid (HBB.out.trans (hb5.mono HBB.out.size));
          have HPB := Lib.hid (HP.out.along HBB.out);
          clear hb5))
      | (go_at_call 29; (with_reducible refine (KCUT.out _ _ _ HPB.out).mono ?_); rintro e w6 ⟨u6, rfl, hb6⟩; go_loud (
          have HL := Lib.hid (HL.out.below hb6);
          have HBB := Lib.hid (HBB.out.trans (hb6.mono HBB.out.size));
          clear hb6))
      | (go_at_call 20; (with_reducible refine (reel_append_nil _ _).mono ?_); rintro e w7 ⟨rfl, rfl⟩)
      | (go_at_call 13; (with_reducible refine (reel_sync_nil _).mono ?_); rintro e w7 ⟨rfl, rfl⟩)
      | (go_at_call 15; (with_reducible refine (reel_records_nil _).mono ?_); rintro e w7 ⟨rfl, rfl⟩)
      | (go_at_call 23; (with_reducible refine (reel_count_nil _).mono ?_); rintro e w7 ⟨rfl, rfl⟩)
      | (go_at_call 34; (with_reducible refine (reel_serial_nil _).mono ?_); rintro e w7 ⟨rfl, rfl⟩)
      | (go_at_call 24; (with_reducible refine (reel_size_nil _).mono ?_); rintro e w7 ⟨rfl, rfl⟩)
      | (go_at_call 18; (with_reducible refine (reel_room_nil _).mono ?_); rintro e w7 ⟨rfl, rfl⟩)
      | (go_at_call 20; (with_reducible refine (append_long _ _ _ 65537 _ (by decide)).mono ?_); rintro e w8 ⟨rfl, rfl⟩)
      | (go_at_call 20; (with_reducible refine (full_3000 HL.out (by repeat (with_reducible (first | exact Below.refl _ _ | refine ride_alloc ?_ _))) HC3.out HK3.out (by simp)).mono ?_); rintro e w9 ⟨rfl, hL9, hb9⟩; go_loud (
          have HL := Lib.hid hL9;
          have HBB := Lib.hid (HBB.out.trans (hb9.mono HBB.out.size));
          clear hL9 hb9))
      | (go_at_call 23; (with_reducible refine (count_none HL.out).mono ?_); rintro e w10 ⟨rfl, rfl⟩))
    go_ret
    exact ⟨rfl, HBB.out⟩
  · have hbad : n < 4 ∨ 1 < h := by omega
    have KBAD : Hid (∀ (y : World) (gs : Nat) (b : DB), Disk y gs b (List.replicate n noughts) [] 0 (-1) → Calls Try.prog 12 #[.pointer (some ⟨gs, 0, none⟩), .agg #[.int .u32 1, .int .u8 (h : Int), .int .u32 0]] y (ArgR y)) := Lib.hid fun y gs b hD => open_arg y _ n h 1 0 (fun x hx => by
      have h1 := sectors_any (hD.below hx)
      rw [List.length_replicate] at h1
      exact h1) (by omega) hbad
    rcases (show n < 4 ∨ (4 ≤ n ∧ 2 ≤ h) by omega) with hc | hc
    all_goals
      first
        | (have k1 : ¬ (n : Int) ≥ 4 := by omega)
        | skip
      first
        | (have k2 : (n : Int) ≥ 4 := by omega
           have k3 : ¬ (h : Int) < 2 := by omega)
        | skip
      clear hR hbad hc
      go_enter Try.func7, Try.ntmps7
      go_wp2_with (first
        | (go_at_call 10; (with_reducible refine (awake_true _).mono ?_); rintro e w1 ⟨rfl, hw1⟩)
        | (go_at_call 11; (with_reducible refine (HN.out _).mono ?_); rintro e w2 ⟨gs, b, rfl, hD2, hgs, hgd, hgl, hpv, hw2⟩; go_loud (
            have HBB : Hid (Below w.heap.size w w2) := Lib.hid (hw1.trans (hw2.mono hw1.size));
            have HOP := hide (KBAD.out _ _ _ hD2);
            clear hD2 hgs hgd hgl hpv hw2 hw1))
        | (go_at_call 12; (with_reducible refine (unhide HOP).mono ?_); rintro e w3 ⟨rfl, hb3⟩; go_loud (
            have HBB := Lib.hid (HBB.out.trans (hb3.mono HBB.out.size));
            clear HOP hb3))
        | (go_at_call 43; (with_reducible refine (first_any _).mono ?_); rintro e w4 ⟨rfl, hb4⟩; go_loud (
            have HBB := Lib.hid (HBB.out.trans (hb4.mono HBB.out.size));
            clear hb4))
        | (go_at_call 12; (with_reducible refine (KNIL.out _).mono ?_); rintro e w5 ⟨rfl, hb5⟩; go_loud (
            have HBB := Lib.hid (HBB.out.trans (hb5.mono HBB.out.size));
            have HPB := Lib.hid (HP.out.along HBB.out);
            clear hb5))
        | (go_at_call 29; (with_reducible refine (KCUT.out _ _ _ HPB.out).mono ?_); rintro e w6 ⟨u6, rfl, hb6⟩; go_loud (
            have HBB := Lib.hid (HBB.out.trans (hb6.mono HBB.out.size));
            clear hb6))
        | (go_at_call 20; (with_reducible refine (reel_append_nil _ _).mono ?_); rintro e w7 ⟨rfl, rfl⟩)
        | (go_at_call 13; (with_reducible refine (reel_sync_nil _).mono ?_); rintro e w7 ⟨rfl, rfl⟩)
        | (go_at_call 15; (with_reducible refine (reel_records_nil _).mono ?_); rintro e w7 ⟨rfl, rfl⟩)
        | (go_at_call 23; (with_reducible refine (reel_count_nil _).mono ?_); rintro e w7 ⟨rfl, rfl⟩)
        | (go_at_call 34; (with_reducible refine (reel_serial_nil _).mono ?_); rintro e w7 ⟨rfl, rfl⟩)
        | (go_at_call 24; (with_reducible refine (reel_size_nil _).mono ?_); rintro e w7 ⟨rfl, rfl⟩)
        | (go_at_call 18; (with_reducible refine (reel_room_nil _).mono ?_); rintro e w7 ⟨rfl, rfl⟩))
      go_ret
      exact ⟨rfl, HBB.out⟩
end Go.Proofs.Ytalpippeelomjaa
