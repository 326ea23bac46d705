/- The walk of the law PageRooms: it answers true for every length, byte and generation, and writes nothing that was there. -/
import Derived.Test.YtbcjfjcfpmkknaaWoke
namespace Go.Proofs.Ytbcjfjcfpmkknaa
open Go.RowKit
set_option linter.unusedSimpArgs false
set_option linter.unusedVariables false

theorem run_make_k (w : World) (k : Nat) (hk : k < 600) : (Instr.makeSlice 23 (.int .u16 (k : Int)) (.int .u16 (k : Int))).run Try.prog w = .ok (.slice (some ⟨w.heap.size, 0, none⟩) k k) (w.alloc (.cells (byt (List.replicate k 0)).toArray 5)) := by
  obtain ⟨i0, hi0, hz0, hz1, hz2⟩ := info_parts infoByte
  have h := run_make (P := Try.prog) w 23 5 i0 (.int .u8 0) Try.underlying23 hi0 hz0 .u16 .u16 (k : Int) (k : Int) (by omega) (by omega) (by rw [hz2]; omega) (by omega)
  rw [hz1] at h
  have e : madeCells (Value.cells (.int .u8 0)) ((k : Int).toNat * 1) = (byt (List.replicate k 0)).toArray := by
    have e2 := toList_madeCells_one (.int .u8 0) k
    have e3 : (byt (List.replicate k 0)).toArray = (madeCells #[Value.int .u8 0] k).toList.toArray := by
      rw [e2]
      unfold byt
      rw [List.map_replicate]
      rfl
    rw [e3, Array.toArray_toList]
    simp
    rfl
  rw [e] at h
  exact h
def noughts : List Nat := List.replicate 512 0
theorem run_make512 (w : World) : (Instr.makeSlice 23 (.int .i64 512) (.int .i64 512)).run Try.prog w = .ok (.slice (some ⟨w.heap.size, 0, none⟩) 512 512) (w.alloc (.cells (byt noughts).toArray 5)) := by
  obtain ⟨i0, hi0, hz0, hz1, hz2⟩ := info_parts infoByte
  have h := run_make (P := Try.prog) w 23 5 i0 (.int .u8 0) Try.underlying23 hi0 hz0 .i64 .i64 512 512 (by omega) (by omega) (by rw [hz2]; decide) (by omega)
  rw [hz1] at h
  have e : madeCells (Value.cells (.int .u8 0)) ((512 : Int).toNat * 1) = (byt noughts).toArray := by
    have e2 := toList_madeCells_one (.int .u8 0) 512
    have e3 : (byt noughts).toArray = (madeCells #[Value.int .u8 0] 512).toList.toArray := by
      rw [e2]
      unfold byt noughts
      rw [List.map_replicate]
      rfl
    rw [e3, Array.toArray_toList]
    rfl
  rw [e] at h
  exact h
theorem bytes_noughts (w : World) : Bytes (w.alloc (.cells (byt noughts).toArray 5)) (w.alloc (.cells (byt noughts).toArray 5)).heap.size (.slice (some ⟨w.heap.size, 0, none⟩) 512 512) noughts :=
  bytes_block (Go.heap_alloc_new w _) (by simp) List.length_replicate.symm (Nat.le_refl _) (fun b hb => by rw [List.eq_of_mem_replicate hb]; omega) (by unfold maxLen noughts; rw [List.length_replicate]; omega)
def RoomR (W : World) (g k b : Nat) (t : Value) (x : World) : Prop :=
  ∃ i : Nat, i ≤ k ∧ t = .int .i64 (i : Int) ∧ x.heap[g]? = some (.cells (byt (List.replicate i b ++ List.replicate (k - i) 0)).toArray 5 (0, 0)) ∧ Below g W x
theorem room_next {i k b : Nat} (h : i < k) : (List.replicate i b ++ List.replicate (k - i) 0).set i b = List.replicate (i + 1) b ++ List.replicate (k - (i + 1)) 0 := by
  obtain ⟨m, hm⟩ : ∃ m, k - i = m + 1 := ⟨k - i - 1, by omega⟩
  rw [hm, show k - (i + 1) = m by omega, List.set_append_right _ _ (by simp), List.length_replicate, Nat.sub_self, List.replicate_succ, List.set_cons_zero, List.replicate_succ', List.append_assoc]
  rfl

set_option maxRecDepth 100000 in
set_option maxHeartbeats 4000000 in
theorem rooms_core (w : World) (n b gen : Nat) (hn : n < 65536) (hb : b < 256) (hgen : gen < 4294967296) :
    Calls Try.prog 6 #[.int .u16 (n : Int), .int .u8 (b : Int), .int .u32 (gen : Int)] w fun e w' => e = .returned (.bool true) ∧ Below w.heap.size w w' := by
  have hmod : (n : Int).tmod 600 = ((n % 600 : Nat) : Int) := by rw [Int.tmod_eq_emod_of_nonneg (by omega)]; omega
  obtain ⟨k, hk⟩ : ∃ k, k = n % 600 := ⟨_, rfl⟩
  have hk6 : k < 600 := by omega
  rw [← hk] at hmod
  have hmk := fun x => run_make_k x k hk6
  have hm5 := run_make512
  obtain ⟨Z, hZ⟩ : ∃ Z, Z = byt noughts := ⟨_, rfl⟩
  have HBN := Lib.hid bytes_noughts
  rw [← hZ] at hm5 HBN
  have HA := hide (awake_any w)
  clear hk hZ
  go_enter Try.func6, Try.ntmps6
  go_wp2_with (first
    | (go_at_call 8; (with_reducible refine (unhide HA).mono ?_); rintro e w1 ⟨rfl, hw1⟩))
  have hG := Go.heap_alloc_new w1 (.cells (byt (List.replicate k 0)).toArray 5)
  have HG := Lib.hid hG
  clear hG HA
  go_loopw [23] (fun t x => RoomR (w1.alloc (.cells (byt (List.replicate k 0)).toArray 5)) w1.heap.size k b t x) (fun t _ => k - (intOf t).toNat)
  case atStart => exact ⟨0, by omega, rfl, by simpa using HG.out, Below.refl _ _⟩
  case round =>
    obtain ⟨i, hi, rfl, hX, hB⟩ := hrel
    have HX := Lib.hid hX
    have HB := Lib.hid hB
    by_cases hlt : i < k
    · obtain ⟨y, hy⟩ : ∃ y, (List.replicate i b ++ List.replicate (k - i) 0)[i]? = some y := ⟨_, List.getElem?_eq_getElem (by simp; omega)⟩
      have hc := buf_cell hX hy
      have hf := buf_fz (i := i) hX
      clear hX hB hy
      go_wp2
      go_roundw
      case rel => exact ⟨i + 1, by omega, by go_num, by rw [← room_next hlt]; exact buf_set HX.out, HB.out.setCell (Nat.le_refl _) _⟩
      case measure => simp [intOf]; omega
    · obtain rfl : k = i := by omega
      obtain ⟨d, hd⟩ : ∃ d, d = List.replicate k b := ⟨_, rfl⟩
      have hdl : d.length = k := by rw [hd, List.length_replicate]
      have hds : ∀ c ∈ d, c < 256 := fun c hc => by rw [hd] at hc; rw [List.eq_of_mem_replicate hc]; exact hb
      rw [Nat.sub_self, List.replicate_zero, List.append_nil, ← hd] at hX
      have hgl : w1.heap.size < wr.heap.size := by
        rcases Nat.lt_or_ge w1.heap.size wr.heap.size with h | h
        · exact h
        · rw [Array.getElem?_eq_none h] at hX; cases hX
      have hbd : Bytes wr wr.heap.size (.slice (some ⟨w1.heap.size, 0, none⟩) k k) d := bytes_block hX hgl hdl.symm (Nat.le_refl _) hds (by unfold maxLen; omega)
      have hbw : Below w.heap.size w wr := hw1.trans (((Below.refl _ _).alloc (Nat.le_refl _) _).trans hB |>.mono hw1.size)
      obtain ⟨pc, hpc⟩ : ∃ pc : Array Value, pc = #[.int .u32 (gen : Int), .int .u32 0, .int .u32 0, .int .u8 3, .slice (some ⟨w1.heap.size, 0, none⟩) k k] := ⟨_, rfl⟩
      have hb1 : Below wr.heap.size wr (wr.alloc (.cells #[.int .u32 (gen : Int), .int .u32 0, .int .u32 0, .int .u8 3, .slice (some ⟨w1.heap.size, 0, none⟩) k k] 25)) := (Below.refl _ _).alloc (Nat.le_refl _) _
      have hbd1 := hbd.along hb1
      have hfacts : ∀ x, Below (wr.alloc (.cells #[.int .u32 (gen : Int), .int .u32 0, .int .u32 0, .int .u8 3, .slice (some ⟨w1.heap.size, 0, none⟩) k k] 25)).heap.size (wr.alloc (.cells #[.int .u32 (gen : Int), .int .u32 0, .int .u32 0, .int .u8 3, .slice (some ⟨w1.heap.size, 0, none⟩) k k] 25)) x →
          (x.cell? ⟨wr.heap.size, 0, none⟩ = some (.int .u32 (gen : Int)) ∧ x.cell? ⟨wr.heap.size, 1, none⟩ = some (.int .u32 0) ∧ x.cell? ⟨wr.heap.size, 2, none⟩ = some (.int .u32 0) ∧ x.cell? ⟨wr.heap.size, 3, none⟩ = some (.int .u8 3) ∧ x.cell? ⟨wr.heap.size, 4, none⟩ = some (.slice (some ⟨w1.heap.size, 0, none⟩) k k)) ∧
          Bytes x x.heap.size (.slice (some ⟨w1.heap.size, 0, none⟩) k k) d ∧ Below w.heap.size w x ∧ wr.heap.size < x.heap.size := fun x hx => by
        have hs : (wr.alloc (.cells #[.int .u32 (gen : Int), .int .u32 0, .int .u32 0, .int .u8 3, .slice (some ⟨w1.heap.size, 0, none⟩) k k] 25)).heap.size = wr.heap.size + 1 := by simp
        have hh : x.heap[wr.heap.size]? = _ := (hx.block _ (by omega)).trans (Go.heap_alloc_new wr _)
        refine ⟨⟨?_, ?_, ?_, ?_, ?_⟩, hbd1.along hx, (hbw.trans (hb1.mono hbw.size)).trans (hx.mono (by have := hbw.size; omega)), by have := hx.size; omega⟩
        all_goals (rw [cell_of_row x wr.heap.size _ _ _ _ hh]; rfl)
      have HF := Lib.hid hfacts
      have HD1 := Lib.hid hbd1
      have HDL := Lib.hid hdl
      clear hfacts hbd1 hbd hB hX hb1 hd HX HB HG hbw hpc pc hdl
      by_cases hlen : k ≤ 491
      · have hdlen : d.length ≤ 491 := by rw [HDL.out]; exact hlen
        have HC1 := hide (bytes_good (wr.alloc (.cells #[.int .u32 (gen : Int), .int .u32 0, .int .u32 0, .int .u8 3, .slice (some ⟨w1.heap.size, 0, none⟩) k k] 25)) gen 0 0 3 (some ⟨w1.heap.size, 0, none⟩) k k d hgen (by decide) (by decide) (by decide) HD1.out hlen)
        obtain ⟨Q, hQ⟩ : ∃ Q, Q = page gen 0 0 3 d := ⟨_, rfl⟩
        rw [show pg gen 0 0 3 d ++ le4 (crc (pg gen 0 0 3 d)) = page gen 0 0 3 d from rfl, ← hQ, show ((0 : Nat) : Int) = 0 from rfl, show ((3 : Nat) : Int) = 3 from rfl] at HC1
        have hQl : Q.length = 512 := by rw [hQ]; exact page_length hdlen
        have hQb : ¬ ∀ b ∈ Q, b = 0 := by rw [hQ]; exact page_not_blank _ _ _ _ _
        have HQ := Lib.hid hQ
        have HQL := Lib.hid hQl
        have HQB := Lib.hid hQb
        have HDN := Lib.hid hdlen
        have hk1 : ¬ (k : Int) > 491 := by omega
        have hk2 : (k : Int) ≤ 491 := by omega
        have hdk : decide (k = 491) = ((k : Int) == 491) := by
          by_cases h : k = 491
          · subst h; rfl
          · rw [decide_eq_false h]; symm; rw [beq_eq_false_iff_ne]; omega
        clear hQ hQl hQb hdlen
        go_wp2_with (first
          | (go_at_call 10; (with_reducible refine (unhide HC1).mono ?_); rintro e w2 ⟨A2, n2, c2, rfl, hM2, hb2⟩; go_loud (
             obtain rfl : n2 = 512 := by rw [hM2.len, HQL.out];
             have HC2 := hide (parse_blank _ _ _ noughts (HBN.out w2) (fun b hb => List.eq_of_mem_replicate hb));
             have hbz : Below w2.heap.size w2 (w2.alloc (.cells Z.toArray 5)) := (Below.refl _ _).alloc (Nat.le_refl _) _))
          | (go_at_call 18; (with_reducible refine (unhide HC2).mono ?_); rintro e w4 ⟨rfl, hb4⟩; go_loud (
             have hb24 := hbz.trans (hb4.mono hbz.size);
             have hb25 := hb24.alloc hb24.size (.cells #[.int .u32 0, .int .u32 0, .int .u32 0, .int .u8 0, .slice none 0 0] 25);
             have hM5 := hM2.below hb25;
             have HC3 := hide (parse_page _ _ _ _ gen 0 0 3 d hgen (by decide) (by decide) (by decide) HDN.out (HQ.out ▸ hM5.bytes));
             rw [show ((0 : Nat) : Int) = 0 from rfl, show ((3 : Nat) : Int) = 3 from rfl] at HC3))
          | (go_at_call 18; (with_reducible refine (unhide HC3).mono ?_); rintro e w6 ⟨A6, n6, c6, rfl, hM6, hb6⟩; go_loud (
             have hb26 := hb25.trans (hb6.mono hb25.size);
             have hbx6 := hb2.trans (hb26.mono hb2.size);
             obtain ⟨⟨p0, p1, p2, p3, p4⟩, -, -, l6⟩ := HF.out w6 hbx6;
             have n6' : ¬ wr.heap.size = w6.heap.size := by omega;
             have hb67 : Below w6.heap.size w6 (w6.alloc (.cells #[.int .u32 (gen : Int), .int .u32 0, .int .u32 0, .int .u8 3, .slice A6 n6 c6] 25)) := (Below.refl _ _).alloc (Nat.le_refl _) _;
             have hb27 := hb26.trans (hb67.mono hb26.size);
             have hbx7 := hb2.trans (hb27.mono hb2.size);
             have HC4 := hide (same_page _ gen 0 0 3 gen 0 0 3 _ _ _ _ _ _ d d (hM6.below hb67).bytes (HF.out _ hbx7).2.1);
             rw [decide_eq_true ⟨rfl, rfl, rfl, rfl, rfl⟩, show ((0 : Nat) : Int) = 0 from rfl, show ((3 : Nat) : Int) = 3 from rfl] at HC4))
          | (go_at_call 23; (with_reducible refine (unhide HC4).mono ?_); rintro e w8 ⟨rfl, hb8⟩; go_loud (
             have hb28 := hb27.trans (hb8.mono hb27.size);
             have hbx8 := hb2.trans (hb28.mono hb2.size);
             obtain ⟨⟨q0, q1, q2, q3, q4⟩, -, -, l8⟩ := HF.out w8 hbx8;
             have HC5 := hide (pageFull_any w8 gen 0 0 3 (some ⟨w1.heap.size, 0, none⟩) k k)))
          | (go_at_call 22; (with_reducible refine (unhide HC5).mono ?_); rintro e w9 ⟨rfl, hb9⟩; go_loud (
             have hb29 := hb28.trans (hb9.mono hb28.size);
             have hbx9 := hb2.trans (hb29.mono hb2.size);
             have hend := (HF.out w9 hbx9).2.2.1;
             have HC6 := hide (blank_any w9 _ _ (hM2.below hb29).bytes);
             rw [decide_eq_false HQB.out] at HC6))
          | (go_at_call 21; (with_reducible refine (unhide HC6).mono ?_); rintro e w10 ⟨rfl, rfl⟩))
        go_ret
        exact ⟨rfl, hend⟩
      · have HC1 := hide (bytes_long (wr.alloc (.cells #[.int .u32 (gen : Int), .int .u32 0, .int .u32 0, .int .u8 3, .slice (some ⟨w1.heap.size, 0, none⟩) k k] 25)) gen 0 0 3 (some ⟨w1.heap.size, 0, none⟩) k k (by decide) hlen)
        have hk1 : (k : Int) > 491 := by omega
        go_wp2_with (first
          | (go_at_call 10; (with_reducible refine (unhide HC1).mono ?_); rintro e w2 ⟨rfl, hb2⟩; go_loud (
             have HC2 := hide (parse_blank _ _ _ noughts (HBN.out w2) (fun b hb => List.eq_of_mem_replicate hb));
             have H2 := Lib.hid (HF.out w2 hb2).2.2.1))
          | (go_at_call 18; (with_reducible refine (unhide HC2).mono ?_); rintro e w4 ⟨rfl, hb4⟩))
        go_ret
        have z3 := H2.out.alloc H2.out.size (.cells Z.toArray 5)
        have z4 := z3.trans (hb4.mono z3.size)
        exact ⟨rfl, z4.alloc z4.size _⟩
theorem pageRooms_walk (a0 a1 a2 : Int) (w0 : (Lit.int .u16 a0).wf = true) (w1 : (Lit.int .u8 a1).wf = true) (w2 : (Lit.int .u32 a2).wf = true) (w : World) :
    Calls Try.prog 6 #[.int .u16 a0, .int .u8 a1, .int .u32 a2] w fun e w' => e = .returned (.bool true) ∧ Below w.heap.size w w' := by
  have b0 := bounds_u16 w0
  have b1 := bounds_u8 w1
  have b2 := bounds_u32 w2
  obtain ⟨n, rfl⟩ := Int.eq_ofNat_of_zero_le b0.1
  obtain ⟨b, rfl⟩ := Int.eq_ofNat_of_zero_le b1.1
  obtain ⟨gen, rfl⟩ := Int.eq_ofNat_of_zero_le b2.1
  exact rooms_core w n b gen (by omega) (by omega) (by omega)
end Go.Proofs.Ytbcjfjcfpmkknaa
