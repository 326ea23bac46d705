/- Bytes: joined by program (tools/merge.py). -/
import Derived.Test.YtalpippeelomjaaZ11
import Derived.RegionTactic
import Derived.Deep.RegionHeld3
import Derived.Lib.BufferWrite
import Derived.Deep.RegionLaw
namespace Go.Proofs.Ytalpippeelomjaa
open Go.RowKit
set_option linter.unusedSimpArgs false
set_option linter.unusedVariables false

/-- The document's bytes of a page, but for the sum. -/
def pg (gen ser num kind : Nat) (d : List Nat) : List Nat := [104, 103] ++ be4 gen ++ be4 ser ++ be4 num ++ [kind, d.length / 256 % 256, d.length % 256] ++ d ++ List.replicate (491 - d.length) 0
theorem pg_length {gen ser num kind : Nat} {d : List Nat} (h : d.length ≤ 491) : (pg gen ser num kind d).length = 508 := by
  unfold pg
  simp [be4_length]
  omega
def nought508 : List Nat := List.replicate 508 0
theorem run_make508 (w : World) : (Instr.makeSlice 43 (.int .i64 508) (.int .i64 508)).run Try.prog w = .ok (.slice (some ⟨w.heap.size, 0, none⟩) 508 508) (w.alloc (.cells (byt nought508).toArray 5)) := by
  obtain ⟨i0, hi0, hz0, hz1, hz2⟩ := info_parts infoByte
  have h := run_make (P := Try.prog) w 43 5 i0 (.int .u8 0) Try.underlying43 hi0 hz0 .i64 .i64 508 508 (by omega) (by omega) (by rw [hz2]; decide) (by omega)
  rw [hz1] at h
  have e : madeCells (Value.cells (.int .u8 0)) ((508 : Int).toNat * 1) = (byt nought508).toArray := by
    have e2 := toList_madeCells_one (.int .u8 0) 508
    have e3 : (byt nought508).toArray = (madeCells #[Value.int .u8 0] 508).toList.toArray := by
      rw [e2]
      unfold byt nought508
      rw [List.map_replicate]
      rfl
    rw [e3, Array.toArray_toList]
    rfl
  rw [e] at h
  exact h
set_option maxRecDepth 100000 in
/-- The mark, laid over fresh noughts. -/
theorem run_mark (w : World) (g : Nat) (L : List Nat) (hg : w.heap[g]? = some (.cells (byt L).toArray 5 (0, 0))) (hL : L.length = 508) :
    ∃ W, (Builtin.copy_ #[43, 9] 3 #[.slice (some ⟨g, 0, none⟩) 508 508, .string { data := #[104, 103] }]).run Try.prog w = .ok (goInt 2) W ∧
      W.heap[g]? = some (.cells (byt (splice L 0 [104, 103])).toArray 5 (0, 0)) ∧ Below g w W := by
  obtain ⟨i0, hi0, hz0, hz1, hz2⟩ := info_parts infoByte
  have h := Lib.run_copy_row_string (P := Try.prog) w 43 9 3 5 g 0 508 508 { data := #[104, 103] } (byt L).toArray 5 Try.underlying43 (by rw [hi0, Option.map_some, hz1]) hg (by decide) (by rw [List.size_toArray, byt_length, hL]; decide)
  refine ⟨_, h, ?_, below_setRow (Below.refl _ _) (Nat.le_refl _) _⟩
  rw [setRow_heap w g _ _ 5 _ hg]
  congr 2
  simp [splice, byt, Lib.byteCells]
  rfl

theorem splice_end {P M : List Nat} {m off : Nat} (ho : off = P.length) (h : M.length ≤ m) : splice (P ++ List.replicate m 0) off M = (P ++ M) ++ List.replicate (m - M.length) 0 := by
  subst ho
  unfold splice
  rw [List.take_left, List.drop_append, List.drop_of_length_le (by omega), List.nil_append, show P.length + M.length - P.length = M.length by omega, List.drop_replicate, List.append_assoc]
theorem set_end {P : List Nat} {m off b : Nat} (ho : off = P.length) (h : 1 ≤ m) : (P ++ List.replicate m 0).set off b = (P ++ [b]) ++ List.replicate (m - 1) 0 := by
  subst ho
  obtain ⟨k, rfl⟩ : ∃ k, m = k + 1 := ⟨m - 1, by omega⟩
  rw [List.set_append_right _ _ (Nat.le_refl _), Nat.sub_self, List.replicate_succ, List.set_cons_zero, List.append_assoc]
  rfl
theorem byt_splice (L : List Nat) (off : Nat) (M : List Nat) : splice (byt L) off (byt M) = byt (splice L off M) := by
  unfold splice
  rw [byt_append, byt_append, byt_take, byt_drop, byt_length]
theorem pg_small {gen ser num kind : Nat} {d : List Nat} (hk : kind < 256) (hd : ∀ b ∈ d, b < 256) : ∀ b ∈ pg gen ser num kind d, b < 256 := by
  intro b hb
  unfold pg at hb
  simp only [List.mem_append, List.mem_cons, List.not_mem_nil, or_false, List.mem_replicate] at hb
  have h1 := be4_small gen b
  have h2 := be4_small ser b
  have h3 := be4_small num b
  rcases hb with (((((h | h) | h) | h) | h | h | h) | h) | h
  all_goals first
    | exact h1 h
    | exact h2 h
    | exact h3 h
    | exact hd b h
    | (rcases h with h | h <;> omega)
    | omega
theorem pg_laid (x0 x1 x2 x3 : Nat) (d : List Nat) (hd : d.length ≤ 491) :
    splice ((((splice (splice (splice (splice nought508 0 [104, 103]) 2 (be4 x0)) 6 (be4 x1)) 10 (be4 x2)).set 14 x3).set 15 (d.length / 256 % 256)).set 16 (d.length % 256)) 17 d = pg x0 x1 x2 x3 d := by
  have h0 : nought508 = [] ++ List.replicate 508 0 := rfl
  rw [h0, splice_end (P := []) (off := 0) (M := [104, 103]) rfl (by decide)]
  rw [splice_end (P := [] ++ [104, 103]) (off := 2) (M := be4 x0) rfl (by simp [be4_length])]
  rw [splice_end (P := [] ++ [104, 103] ++ be4 x0) (off := 6) (M := be4 x1) rfl (by simp [be4_length])]
  rw [splice_end (P := [] ++ [104, 103] ++ be4 x0 ++ be4 x1) (off := 10) (M := be4 x2) rfl (by simp [be4_length])]
  rw [set_end (P := [] ++ [104, 103] ++ be4 x0 ++ be4 x1 ++ be4 x2) (off := 14) rfl (by simp [be4_length])]
  rw [set_end (P := [] ++ [104, 103] ++ be4 x0 ++ be4 x1 ++ be4 x2 ++ [x3]) (off := 15) rfl (by simp [be4_length])]
  rw [set_end (P := [] ++ [104, 103] ++ be4 x0 ++ be4 x1 ++ be4 x2 ++ [x3] ++ [d.length / 256 % 256]) (off := 16) rfl (by simp [be4_length])]
  rw [splice_end (P := [] ++ [104, 103] ++ be4 x0 ++ be4 x1 ++ be4 x2 ++ [x3] ++ [d.length / 256 % 256] ++ [d.length % 256]) (off := 17) rfl (by simp [be4_length]; omega)]
  unfold pg
  simp [be4_length]

set_option maxRecDepth 100000 in
set_option maxHeartbeats 4000000 in
theorem bytes_good (w : World) (x0 x1 x2 x3 : Nat) (A : Option Addr) (n c : Nat) (d : List Nat) (h0 : x0 < 4294967296) (h1 : x1 < 4294967296) (h2 : x2 < 4294967296) (h3 : 0 < x3 ∧ x3 < 256) (hp : Bytes w w.heap.size (.slice A n c) d) (hn : n ≤ 491) :
    Calls Try.prog 80 #[.agg #[.int .u32 (x0 : Int), .int .u32 (x1 : Int), .int .u32 (x2 : Int), .int .u8 (x3 : Int), .slice A n c]] w fun e w' =>
      ∃ A2 n2 c2, e = .returned (.tuple #[.slice A2 n2 c2, .int .i64 0]) ∧ Mine w' w.heap.size A2 n2 c2 (pg x0 x1 x2 x3 d ++ le4 (crc (pg x0 x1 x2 x3 d))) ∧ Below w.heap.size w w' := by
  have hmk := run_make508
  have hk1 : ((x3 : Int) == 0) = false := by rw [beq_eq_false_iff_ne]; omega
  have hk2 : ¬ (x3 : Int) = 0 := by omega
  have hn1 : ¬ (n : Int) > 491 := by omega
  have hn2 : (n : Int) ≤ 491 := by omega
  have HP := Lib.hid hp
  clear hp
  obtain ⟨Z, hZ⟩ : ∃ Z, Z = byt nought508 := ⟨_, rfl⟩
  rw [← hZ] at hmk
  obtain ⟨P, hP⟩ : ∃ P, P = pg x0 x1 x2 x3 d := ⟨_, rfl⟩
  rw [← hP]
  have HPG := Lib.hid hP
  clear hP
  obtain ⟨bx, hbx⟩ : ∃ bx, bx = #[Value.int .u32 (x0 : Int), .int .u32 (x1 : Int), .int .u32 (x2 : Int), .int .u8 (x3 : Int), .slice A n c] := ⟨_, rfl⟩
  obtain ⟨W2, hrun, HG2, HB2⟩ := run_mark ((w.alloc (.cells #[.int .u32 (x0 : Int), .int .u32 (x1 : Int), .int .u32 (x2 : Int), .int .u8 (x3 : Int), .slice A n c] 85)).alloc (.cells Z.toArray 5)) (w.heap.size + 1) nought508
    (by have h := Go.heap_alloc_new (w.alloc (.cells #[.int .u32 (x0 : Int), .int .u32 (x1 : Int), .int .u32 (x2 : Int), .int .u8 (x3 : Int), .slice A n c] 85)) (.cells Z.toArray 5); rw [hZ] at h ⊢; simpa using h) (by unfold nought508; simp)
  have hbox : ∀ x : World, Below (w.heap.size + 1) ((w.alloc (.cells #[.int .u32 (x0 : Int), .int .u32 (x1 : Int), .int .u32 (x2 : Int), .int .u8 (x3 : Int), .slice A n c] 85)).alloc (.cells Z.toArray 5)) x →
      Below w.heap.size w x ∧ x.cell? ⟨w.heap.size, 0, none⟩ = some (.int .u32 (x0 : Int)) ∧ x.cell? ⟨w.heap.size, 1, none⟩ = some (.int .u32 (x1 : Int)) ∧ x.cell? ⟨w.heap.size, 2, none⟩ = some (.int .u32 (x2 : Int)) ∧ x.cell? ⟨w.heap.size, 3, none⟩ = some (.int .u8 (x3 : Int)) ∧ x.cell? ⟨w.heap.size, 4, none⟩ = some (.slice A n c) := fun x hx => by
    have k : ∀ i u, #[Value.int .u32 (x0 : Int), .int .u32 (x1 : Int), .int .u32 (x2 : Int), .int .u8 (x3 : Int), .slice A n c][i]? = some u → x.cell? ⟨w.heap.size, i, none⟩ = some u := fun i u hi => by
      rw [hx.cell (p := ⟨w.heap.size, i, none⟩) (by simp)]
      have h9 : ((w.alloc (.cells #[.int .u32 (x0 : Int), .int .u32 (x1 : Int), .int .u32 (x2 : Int), .int .u8 (x3 : Int), .slice A n c] 85)).alloc (.cells Z.toArray 5)).heap[w.heap.size]? = some (.cells #[.int .u32 (x0 : Int), .int .u32 (x1 : Int), .int .u32 (x2 : Int), .int .u8 (x3 : Int), .slice A n c] 85 (0, 0)) := by
        rw [Go.heap_alloc_old _ _ (by simp), Go.heap_alloc_new]
      rw [cell_of_row _ _ i _ _ _ h9]
      exact hi
    refine ⟨?_, k 0 _ rfl, k 1 _ rfl, k 2 _ rfl, k 3 _ rfl, k 4 _ rfl⟩
    exact (((Below.refl w.heap.size w).alloc (Nat.le_refl _) _).alloc (by simp) _).trans (hx.mono (by omega))
  have HBX := Lib.hid hbox
  obtain ⟨b2, a20, a21, a22, a23, a24⟩ := hbox W2 HB2
  obtain ⟨L2, hL2⟩ : ∃ L2, L2 = splice nought508 0 [104, 103] := ⟨_, rfl⟩
  rw [← hL2] at HG2
  have l2 : L2.length = 508 := by rw [hL2, length_splice] <;> simp [nought508]
  clear hbox hbx bx hZ
  go_enter Try.func80, Try.ntmps80
  have HC0 := hide (putWord_any W2.drew (w.heap.size + 1) 2 506 506 x0 L2 h0 HG2 (by omega) (by omega) (by omega))
  go_wp2
  go_region_with (first
    | (go_at_call 96; (with_reducible refine (unhide HC0).mono ?_); rintro e W3 ⟨⟨u, rfl⟩, HG3, HB3⟩))
  have B3 := HB2.trans ((Below.refl (w.heap.size + 1) W2).drew.trans HB3)
  obtain ⟨b3, a30, a31, a32, a33, a34⟩ := HBX.out W3 B3
  obtain ⟨L3, hL3⟩ : ∃ L3, L3 = splice L2 2 (be4 x0) := ⟨_, rfl⟩
  rw [← hL3] at HG3
  have l3 : L3.length = 508 := by rw [hL3, length_splice _ _ _ (by rw [be4_length]; omega)]; exact l2
  have HL3 := Lib.hid hL3
  clear hL3 HB3 b2 a20 a21 a22 a23 a24 HG2 HB2 hrun
  have HC1 := hide (putWord_any W3.drew (w.heap.size + 1) 6 502 502 x1 L3 h1 HG3 (by omega) (by omega) (by omega))
  go_wp2
  go_region_with (first
    | (go_at_call 96; (with_reducible refine (unhide HC1).mono ?_); rintro e W4 ⟨⟨u, rfl⟩, HG4, HB4⟩))
  have B4 := B3.trans ((Below.refl (w.heap.size + 1) W3).drew.trans HB4)
  obtain ⟨b4, a40, a41, a42, a43, a44⟩ := HBX.out W4 B4
  obtain ⟨L4, hL4⟩ : ∃ L4, L4 = splice L3 6 (be4 x1) := ⟨_, rfl⟩
  rw [← hL4] at HG4
  have l4 : L4.length = 508 := by rw [hL4, length_splice _ _ _ (by rw [be4_length]; omega)]; exact l3
  have HL4 := Lib.hid hL4
  clear hL4 HB4 b3 a30 a31 a32 a33 a34 HG3 B3
  have HC2 := hide (putWord_any W4.drew (w.heap.size + 1) 10 498 498 x2 L4 h2 HG4 (by omega) (by omega) (by omega))
  go_wp2
  go_region_with (first
    | (go_at_call 96; (with_reducible refine (unhide HC2).mono ?_); rintro e W5 ⟨⟨u, rfl⟩, HG5, HB5⟩))
  have B5 := B4.trans ((Below.refl (w.heap.size + 1) W4).drew.trans HB5)
  obtain ⟨b5, a50, a51, a52, a53, a54⟩ := HBX.out W5 B5
  obtain ⟨L5, hL5⟩ : ∃ L5, L5 = splice L4 10 (be4 x2) := ⟨_, rfl⟩
  rw [← hL5] at HG5
  have l5 : L5.length = 508 := by rw [hL5, length_splice _ _ _ (by rw [be4_length]; omega)]; exact l4
  have HL5 := Lib.hid hL5
  have f5 := fun i => buf_fz (i := i) HG5
  obtain ⟨y14, hy14⟩ : ∃ y, L5[14]? = some y := ⟨_, List.getElem?_eq_getElem (by omega)⟩
  obtain ⟨y15, hy15⟩ : ∃ y, L5[15]? = some y := ⟨_, List.getElem?_eq_getElem (by omega)⟩
  obtain ⟨y16, hy16⟩ : ∃ y, L5[16]? = some y := ⟨_, List.getElem?_eq_getElem (by omega)⟩
  have c14 := buf_cell HG5 hy14
  have c15 := buf_cell HG5 hy15
  have c16 := buf_cell HG5 hy16
  have f14 := f5 14
  have f15 := f5 15
  have f16 := f5 16
  clear hL5 HB5 b4 a40 a41 a42 a43 a44 HG4 B4 hy14 hy15 hy16 f5
  go_wp2
  have hnn : ((n : Int) / 256) = ((n / 256 % 256 : Nat) : Int) := by omega
  have hnm : ((n : Int) % 256) = ((n % 256 : Nat) : Int) := by omega
  rw [hnn, hnm]
  have HG6 := buf_set (i := 16) (b := n % 256) (buf_set (i := 15) (b := n / 256 % 256) (buf_set (i := 14) (b := x3) HG5))
  have B6 := ((B5.setCell (p := ⟨w.heap.size + 1, 14, none⟩) (Nat.le_refl _) (.int .u8 (x3 : Int))).setCell (p := ⟨w.heap.size + 1, 15, none⟩) (Nat.le_refl _) (.int .u8 ((n / 256 % 256 : Nat) : Int))).setCell (p := ⟨w.heap.size + 1, 16, none⟩) (Nat.le_refl _) (.int .u8 ((n % 256 : Nat) : Int))
  generalize ((W5.setCell ⟨w.heap.size + 1, 14, none⟩ (.int .u8 (x3 : Int))).setCell ⟨w.heap.size + 1, 15, none⟩ (.int .u8 ((n / 256 % 256 : Nat) : Int))).setCell ⟨w.heap.size + 1, 16, none⟩ (.int .u8 ((n % 256 : Nat) : Int)) = W6 at HG6 B6 ⊢
  clear HG5 B5 b5 a50 a51 a52 a53 a54 c14 c15 c16 f14 f15 f16 hnn hnm
  obtain ⟨b6, -, -, -, -, a64⟩ := HBX.out W6 B6
  obtain ⟨L6, hL6⟩ : ∃ L6, L6 = ((L5.set 14 x3).set 15 (n / 256 % 256)).set 16 (n % 256) := ⟨_, rfl⟩
  rw [← hL6] at HG6
  have l6 : L6.length = 508 := by rw [hL6, List.length_set, List.length_set, List.length_set]; exact l5
  have hdn : d.length = n := by
    obtain ⟨⟨A1, c1, hv, _⟩, _, _⟩ := HP.out
    injection hv with _ h _
    exact h.symm
  have HL6 := Lib.hid hL6
  have HDN := Lib.hid hdn
  have HG6d : Hid (W6.drew.heap[w.heap.size + 1]? = some (.cells (byt L6).toArray 5 (0, 0))) := HG6
  have HPOS : Hid (0 < (byt d).length → some (⟨w.heap.size + 1, 17, none⟩ : Addr) = some ⟨w.heap.size + 1, 17, none⟩ ∧ ∃ ad, A = some ad ∧ ∀ j v, (byt d)[j]? = some v → W6.drew.cell? (ad.add j) = some v) := fun h0 => by
    refine ⟨rfl, ?_⟩
    obtain ⟨⟨A1, c1, hv, hl, _⟩, _, _⟩ := HP.out.below b6.drew
    injection hv with h _ _
    subst h
    obtain ⟨u, hu⟩ : ∃ u, (byt d)[0]? = some u := ⟨_, List.getElem?_eq_getElem h0⟩
    obtain ⟨ad, h1, _, _⟩ := hl 0 u hu
    subst h1
    exact ⟨ad, rfl, fun j v hj => hl.cells j v hj⟩
  have HFIT : Hid (17 + (byt d).length ≤ (byt L6).length) := by
    show 17 + (byt d).length ≤ (byt L6).length
    rw [byt_length, byt_length, hdn, l6]; omega
  have HNN : Hid ((byt d).length = Nat.min n 491) := by
    show (byt d).length = Nat.min n 491
    rw [byt_length, hdn]; exact (Nat.min_eq_left hn).symm
  have HI1 : Hid ((Try.prog.info? 5).map (·.size) = some 1) := by
    show (Try.prog.info? 5).map (·.size) = some 1
    kernel_rfl
  clear hL6 hdn HG6 l6
  go_region_law (refine step_copy_splice rfl (.tmp 48) (.tmp 50) 43 43 rfl 5 Try.underlying43 HI1.out (some ⟨w.heap.size + 1, 17, none⟩) A 491 491 n c rfl rfl (w.heap.size + 1) 17 (byt L6) 5 HG6d.out (byt d) HNN.out HPOS.out HFIT.out (one_byt d) (w.heap.size + 1) W6.drew (Below.refl _ _) (Nat.le_refl _) ?_; intro W7 HG7 HB7)
  have HG7' : W7.heap[w.heap.size + 1]? = some (.cells (byt (pg x0 x1 x2 x3 d)).toArray 5 (0, 0)) := by
    rw [HG7.out, byt_splice, ← pg_laid x0 x1 x2 x3 d (by rw [HDN.out]; exact hn), HDN.out, HL6.out, HL5.out, HL4.out, HL3.out, hL2]
  have b7 : Below w.heap.size w W7 := b6.trans (((Below.refl _ _).drew.trans HB7).mono (by omega))
  have hP := HPG.out
  rw [← hP] at HG7'
  have hPl : P.length = 508 := by rw [hP]; exact pg_length (by rw [HDN.out]; exact hn)
  have hB7 : Bytes W7 W7.heap.size (.slice (some ⟨w.heap.size + 1, 0, none⟩) 508 508) P :=
    bytes_block HG7' (by
      rcases Nat.lt_or_ge (w.heap.size + 1) W7.heap.size with h | h
      · exact h
      · rw [Array.getElem?_eq_none h] at HG7'; cases HG7') hPl.symm (Nat.le_refl _) (fun b hb => by rw [hP] at hb; exact pg_small h3.2 HP.out.small b hb) (by unfold maxLen; omega)
  have HB7' := Lib.hid hB7
  have Hb7 := Lib.hid b7
  have HPl := Lib.hid hPl
  clear HB7 HG7 HG7' hB7 b7 hP hPl b6 B6 a64 HBX hmk
  go_wp2_with (first
    | (go_at_call 90; (with_reducible refine (make_list _).mono ?_); rintro e W8 ⟨C, hC, rfl, hb8⟩; have HS := hide (seal_any hC W8 _ 508 508 P (HB7'.out.along hb8) (by rw [HPl.out]; omega)))
    | (go_at_call 97; (with_reducible refine (unhide HS).mono ?_); rintro e W9 ⟨A9, n9, c9, rfl, hM9, hb9⟩))
  go_ret2
  have b8 := Hb7.out.trans (hb8.mono Hb7.out.size)
  exact ⟨A9, n9, c9, rfl, hM9.lower b8.size, b8.trans (hb9.mono b8.size)⟩

set_option maxRecDepth 100000 in
set_option maxHeartbeats 1000000 in
theorem bytes_kind (w : World) (x0 x1 x2 : Int) (A : Option Addr) (n c : Nat) :
    Calls Try.prog 80 #[.agg #[.int .u32 x0, .int .u32 x1, .int .u32 x2, .int .u8 0, .slice A n c]] w fun e w' => e = .returned (.tuple #[.slice none 0 0, .int .i64 1]) ∧ Below w.heap.size w w' := by
  go_enter Try.func80, Try.ntmps80
  go_wp2
  go_ret2
  exact ⟨rfl, (Below.refl _ _).alloc (Nat.le_refl _) _⟩
set_option maxRecDepth 100000 in
set_option maxHeartbeats 1000000 in
theorem bytes_long (w : World) (x0 x1 x2 x3 : Int) (A : Option Addr) (n c : Nat) (h3 : ¬ x3 = 0) (hn : ¬ n ≤ 491) :
    Calls Try.prog 80 #[.agg #[.int .u32 x0, .int .u32 x1, .int .u32 x2, .int .u8 x3, .slice A n c]] w fun e w' => e = .returned (.tuple #[.slice none 0 0, .int .i64 4]) ∧ Below w.heap.size w w' := by
  have hk1 : (x3 == 0) = false := by rw [beq_eq_false_iff_ne]; exact h3
  have hn1 : (n : Int) > 491 := by omega
  go_enter Try.func80, Try.ntmps80
  go_wp2
  go_ret2
  exact ⟨rfl, (Below.refl _ _).alloc (Nat.le_refl _) _⟩
end Go.Proofs.Ytalpippeelomjaa
