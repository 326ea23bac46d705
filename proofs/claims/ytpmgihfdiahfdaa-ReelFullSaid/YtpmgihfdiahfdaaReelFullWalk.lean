/- The law ReelFull, walked. -/
import Derived.Test.YtpmgihfdiahfdaaLHalf
import Derived.Test.YtpmgihfdiahfdaaReelArgsWalk
namespace Go.Proofs.Ytpmgihfdiahfdaa
open Go.RowKit Go.Shelf
set_option linter.unusedSimpArgs false
set_option linter.unusedVariables false
theorem run_make_l (N : Nat) (hN : N ≤ 1048576) (w : World) : (Instr.makeSlice 43 (.int .i64 (N : Int)) (.int .i64 (N : Int))).run Try.prog w = .ok (.slice (some ⟨w.heap.size, 0, none⟩) N N) (w.alloc (.cells (byt (List.replicate N 0)).toArray 5)) := by
  obtain ⟨C, hC, h⟩ := run_make_n N hN
  have e : C = (byt (List.replicate N 0)).toArray := by rw [← hC, Array.toArray_toList]
  rw [← e]
  exact h w
def FillR (W : World) (g k : Nat) (f : Nat → Nat) (t : Value) (x : World) : Prop :=
  ∃ i : Nat, i ≤ k ∧ t = .int .i64 (i : Int) ∧ x.heap[g]? = some (.cells (byt ((List.range i).map f ++ List.replicate (k - i) 0)).toArray 5 (0, 0)) ∧ Below g W x
theorem fill_next {i k : Nat} {f : Nat → Nat} (h : i < k) : ((List.range i).map f ++ List.replicate (k - i) 0).set i (f i) = (List.range (i + 1)).map f ++ List.replicate (k - (i + 1)) 0 := by
  obtain ⟨m, hm⟩ : ∃ m, k - i = m + 1 := ⟨k - i - 1, by omega⟩
  rw [hm, show k - (i + 1) = m by omega, List.set_append_right _ _ (by simp), List.length_map, List.length_range, Nat.sub_self, List.replicate_succ, List.set_cons_zero, List.range_succ, List.map_append, List.append_assoc]
  rfl
theorem layR_rep (P : List Nat) : ∀ k, (layR (List.replicate k P)).length = k * (rec1 P).length
  | 0 => by simp [layR]
  | k + 1 => by rw [List.replicate_succ, layR_cons, List.length_append, layR_rep P k, Nat.succ_mul]; omega
theorem half_log {w : World} {base gs gr gen ser N : Nat} {recs dur : List (List Nat)} {pend : List (Nat × List Nat)} (h0 ser0 : Nat) (h : Log w base gs gr gen ser (halfN dur.length h0) (halfK dur.length h0) N recs dur pend) (h4 : 4 ≤ dur.length) (hh : h0 ≤ 1) :
    Calls Try.prog 25 #[.pointer (some ⟨gs, 0, none⟩), .agg #[.int .u32 (gen : Int), .int .u8 (h0 : Int), .int .u32 (ser0 : Int)]] w fun e w' => ∃ A c, e = .returned (.slice A (halfK dur.length h0) c) ∧ Rows3 w' w.heap.size (.slice A (halfK dur.length h0) c) (((applied pend dur).drop (halfN dur.length h0)).take (halfK dur.length h0)) ∧ Below w.heap.size w w' := by
  obtain ⟨b, pv, ps, nw, h⟩ := h
  refine (half_any h.disk gen h0 ser0 h4 hh _ rfl).mono ?_
  rintro e w' ⟨u, he, hR, hb⟩
  have hv := h.view
  obtain ⟨A, c, rfl⟩ := hR.len
  rw [hv] at he hR
  exact ⟨A, c, he, hR, hb⟩
theorem writes_logs {w : World} {base gs gr gen ser first secs N : Nat} {recs dur : List (List Nat)} {pend : List (Nat × List Nat)} {b : DB} {pv : Value} {ps : List PV} {nw : Int} (h : LogS w base gs gr gen ser first secs N recs dur pend b pv ps nw) : Calls Try.prog 19 #[.pointer (some ⟨gs, 0, none⟩)] w fun e w' => e = .returned (.int .i64 nw) ∧ w = w' := writes_any h.disk
def FullI (w : World) (gs gr K g cnt : Nat) (P : List Nat) (dur : List (List Nat)) (i : Value) (wr : World) : Prop :=
  ∃ (k : Nat) (pend : List (Nat × List Nat)), k ≤ cnt ∧ i = .int .i64 (k : Int) ∧ Log wr w.heap.size gs gr 1 1 2 K (k * 2048) (List.replicate k P) dur pend ∧ wr.heap[g]? = some (.cells (byt P).toArray 5 (0, 0)) ∧ Below w.heap.size w wr
set_option maxRecDepth 100000 in
set_option maxHeartbeats 16000000 in
theorem reelFull_walk (s z b : Nat) (w : World) (hs : s < 256) (hz : z < 65536) (hb : b < 256) :
    Calls Try.prog 9 #[.int .u8 (s : Int), .int .u16 (z : Int), .int .u8 (b : Int)] w fun e w' => e = .returned (.bool true) ∧ Below w.heap.size w w' := by
  obtain ⟨n, hn⟩ : ∃ n, n = 4 + s % 12 := ⟨_, rfl⟩
  have hsn : (4 : Int) + (s : Int) % 12 = (n : Int) := by omega
  have hn4 : 4 ≤ n ∧ n ≤ 15 := by omega
  obtain ⟨Z, hZ⟩ : ∃ n, n = 20 + z % 900 := ⟨_, rfl⟩
  have hzn : (20 : Int) + (z : Int) % 900 = (Z : Int) := by omega
  have hZb : 20 ≤ Z ∧ Z ≤ 919 := by omega
  have hmk := run_make_l Z (by omega)
  have HN := Lib.hid (new_good · n (by omega) (by omega))
  have HB256 := Lib.hid hb
  obtain ⟨K, hK⟩ : ∃ K, K = halfK n 0 := ⟨_, rfl⟩
  have hF : halfN n 0 = 2 := by unfold halfN; rw [if_neg (by omega)]; omega
  have hK6 : 1 ≤ K ∧ K ≤ 6 := by rw [hK]; unfold halfK; rw [if_neg (by omega)]; omega
  have HK := Lib.hid hK
  have HFF := Lib.hid hF
  clear hn hZ hK hF
  go_enter Try.func9, Try.ntmps9
  go_wp2_with (first
    | (go_at_call 10; (with_reducible refine (awake_true _).mono ?_); rintro e w1 ⟨rfl, hw1⟩)
    | (go_at_call 11; (with_reducible refine (HN.out _).mono ?_); rintro e w2 ⟨gs, bb, rfl, hD2, hgs, hgd, hgl, hpv, hw2⟩; go_loud (
        have hwle := hw1.size;
        have HBB : Hid (Below w.heap.size w w2) := Lib.hid (hw1.trans (hw2.mono hw1.size));
        have HOP : Hid (∀ y, Below w2.heap.size w2 y → Calls Try.prog 12 #[.pointer (some ⟨gs, 0, none⟩), .agg #[.int .u32 1, .int .u8 0, .int .u32 0]] y fun e w' => ∃ gr, e = .returned (.tuple #[.pointer (some ⟨gr, 0, none⟩), .int .i64 0, .int .i64 0]) ∧ Log w' w.heap.size gs gr 1 1 2 K 0 [] (List.replicate n noughts) [] ∧ Below y.heap.size y w') := Lib.hid (fun y hy => (open_fresh (base := w.heap.size) (hD2.below hy) 1 0 0 (by decide) (by decide) hn4.1 (by omega) (Nat.le_trans hwle hgs) (Nat.le_trans hwle hgd) (Nat.le_trans hwle hgl) hpv (Nat.le_trans hwle (Nat.le_trans hw2.size hy.size))).mono (fun e w' ⟨q1, gr, q2, q3, q4⟩ => ⟨gr, q2, by rw [HK.out, ← HFF.out]; exact q4, q1⟩));
        clear hD2 hgs hgd hgl hpv hw2 hw1 hwle))
    | (go_at_call 43; (with_reducible refine (first_any _).mono ?_); rintro e w3 ⟨rfl, hb3⟩)
    | (go_at_call 12; (with_reducible refine (HOP.out _ hb3).mono ?_); rintro e w4 ⟨gr, rfl, hL4, hb4⟩; go_loud (
        have HL := Lib.hid hL4;
        have HBB := Lib.hid (HBB.out.trans ((hb3.trans (hb4.mono hb3.size)).mono HBB.out.size));
        clear HOP hL4 hb3 hb4)))
  have hG := Go.heap_alloc_new w4 (.cells (byt (List.replicate Z 0)).toArray 5)
  have HG := Lib.hid hG
  clear hG
  go_loopw [46] (fun t x => FillR (w4.alloc (.cells (byt (List.replicate Z 0)).toArray 5)) w4.heap.size Z (fun _ => b) t x) (fun t _ => Z - (intOf t).toNat)
  case atStart => exact ⟨0, by omega, rfl, by simpa using HG.out, Below.refl _ _⟩
  case round =>
    obtain ⟨i, hi, rfl, hX, hB⟩ := hrel
    have HX := Lib.hid hX
    have HB := Lib.hid hB
    by_cases hlt : i < Z
    · obtain ⟨y, hy⟩ : ∃ y, ((List.range i).map (fun _ => b) ++ List.replicate (Z - i) 0)[i]? = some y := ⟨_, List.getElem?_eq_getElem (by simp; omega)⟩
      have hc := buf_cell hX hy
      have hf := buf_fz (i := i) hX
      clear hX hB hy
      go_wp2
      try go_quiet (fail)
      try go_wp2
      go_roundw
      case rel => exact ⟨i + 1, by omega, by go_num, by rw [← fill_next hlt]; exact buf_set HX.out, HB.out.setCell (Nat.le_refl _) _⟩
      case measure => simp [intOf]; omega
    · obtain rfl : Z = i := by omega
      obtain ⟨wo, rfl⟩ : ∃ wo : World, wo = wr := ⟨_, rfl⟩
      obtain ⟨P, hP⟩ : ∃ P, P = (List.range Z).map (fun _ => b) := ⟨_, rfl⟩
      have hPl : P.length = Z := by rw [hP, List.length_map, List.length_range]
      have hPs : ∀ c ∈ P, c < 256 := fun c hc => by
        rw [hP] at hc
        obtain ⟨_, _, rfl⟩ := List.mem_map.1 hc
        exact HB256.out
      rw [Nat.sub_self, List.replicate_zero, List.append_nil, ← hP] at hX
      have hgl := lt_of_heap hX
      obtain ⟨L, hL⟩ : ∃ L, L = (rec1 P).length := ⟨_, rfl⟩
      have hLb : 21 ≤ L ∧ L ≤ 1000 := by
        have h1 := num_length_le 2 P.length (by omega)
        have h2 := num_pos P.length
        rw [hL]
        unfold rec1
        rw [List.length_append]
        omega
      obtain ⟨cnt, hcnt⟩ : ∃ c, c = 487 * K / L := ⟨_, rfl⟩
      have hcL : cnt * L ≤ 487 * K := by rw [hcnt]; exact Nat.div_mul_le_self _ _
      have hcL2 : 487 * K < (cnt + 1) * L := by have h := Nat.lt_mul_div_succ (487 * K) (show 0 < L by omega); rw [hcnt, Nat.mul_comm (487 * K / L + 1) L]; exact h
      have hcb : cnt ≤ 200 := by have := Nat.mul_le_mul_left cnt hLb.1; omega
      have hdv : (487 : Int) * (K : Int) / (L : Int) = (cnt : Int) := by rw [hcnt, Int.natCast_ediv, Int.natCast_mul]; rfl
      have hL0 : (L : Int) ≠ 0 := by omega
      have hL00 : ((L : Int) == 0) = false := by rw [beq_eq_false_iff_ne]; omega
      have hdt : ((487 : Int) * (K : Int)).tdiv (L : Int) = (cnt : Int) := by rw [Int.tdiv_eq_ediv_of_nonneg (by omega)]; exact hdv
      obtain ⟨g, hg⟩ : ∃ g, g = w4.heap.size := ⟨_, rfl⟩
      rw [← hg] at hX hgl hB ⊢
      have hb04 : Below w4.heap.size w4 wo := ((Below.refl w4.heap.size w4).alloc (Nat.le_refl _) (.cells (byt (List.replicate Z 0)).toArray 5)).trans (by rw [← hg]; exact hB)
      have HLr : Hid (Log wo w.heap.size gs gr 1 1 2 K 0 [] (List.replicate n noughts) []) := Lib.hid (HL.out.below hb04)
      have HBr : Hid (Below w.heap.size w wo) := Lib.hid (HBB.out.trans (hb04.mono HBB.out.size))
      have hby : Bytes wo wo.heap.size (.slice (some ⟨g, 0, none⟩) Z Z) P := bytes_block hX hgl hPl.symm (Nat.le_refl _) hPs (by unfold maxLen; omega)
      have hlay1 : layR [P] = rec1 P := by rw [layR_cons, layR_nil, List.append_nil]
      have HLAY : Hid (∀ y gx, Below wo.heap.size wo y → y.heap[gx]? = some (.cells #[.slice (some ⟨g, 0, none⟩) Z Z] 43 (0, 0)) → Calls Try.prog 21 #[.slice (some ⟨gx, 0, none⟩) 1 1] y fun e w' => ∃ A c, e = .returned (.slice A L c) ∧ Below y.heap.size y w') := Lib.hid fun y gx hy hgx => by
        have h := refLayR_any y _ _ (parts1 hgx (hby.along hy)) (by rw [hlay1]; omega)
        rw [hlay1] at h
        refine h.mono ?_
        rintro e w' ⟨u, he, hO, hb⟩
        obtain ⟨A, c, rfl, _⟩ := hO.form
        exact ⟨A, c, by rw [he, hL], hb⟩
      have HHF : Hid (∀ y, Below wo.heap.size wo y → Calls Try.prog 25 #[.pointer (some ⟨gs, 0, none⟩), .agg #[.int .u32 1, .int .u8 0, .int .u32 0]] y fun e w' => ∃ A c, e = .returned (.slice A K c) ∧ Below y.heap.size y w') := Lib.hid fun y hy => by
        have hl : (List.replicate n noughts).length = n := List.length_replicate
        have h := half_log 0 0 (dur := List.replicate n noughts) (by rw [hl, HFF.out, ← HK.out]; exact HLr.out.below hy) (by rw [hl]; exact hn4.1) (by omega)
        rw [hl, ← HK.out] at h
        exact h.mono fun e w' ⟨A, c, he, _, hb⟩ => ⟨A, c, he, hb⟩
      have HXg := Lib.hid hX
      have HPS := Lib.hid hPs
      have HPL := Lib.hid hPl
      have HLL := Lib.hid hL
      have HCL := Lib.hid hcL
      have HCL2 := Lib.hid hcL2
      have HG4 := Lib.hid hg
      clear hX hB hP hPs hPl hL hcL hcL2 hcnt hg hb04 hby hlay1 HX HB HL HBB HG hmk
      go_wp2_with (first
        | (go_at_call 21; (with_reducible refine (HLAY.out _ _ ((Below.refl _ _).alloc (Nat.le_refl _) _) (Go.heap_alloc_new _ _)).mono ?_); rintro e w5 ⟨A5, c5, rfl, hb5⟩; go_loud (
            have HB5 : Hid (Below wo.heap.size wo w5) := Lib.hid (((Below.refl wo.heap.size wo).alloc (Nat.le_refl _) _).trans (hb5.mono (by simp)));
            clear hb5))
        | (go_at_call 43; (with_reducible refine (first_any _).mono ?_); rintro e w6 ⟨rfl, hb6⟩; go_loud (
            have HB6 : Hid (Below wo.heap.size wo w6) := Lib.hid (HB5.out.trans (hb6.mono HB5.out.size));
            clear HB5 hb6))
        | (go_at_call 25; (with_reducible refine (HHF.out _ HB6.out).mono ?_); rintro e w7 ⟨A7, c7, rfl, hb7⟩; go_loud (
            have HB7 : Hid (Below wo.heap.size wo w7) := Lib.hid (HB6.out.trans (hb7.mono HB6.out.size));
            clear HB6 hb7)))
      have hX7 := (HB7.out.block g hgl).trans HXg.out
      have HX7 := Lib.hid hX7
      have HL7 := Lib.hid (HLr.out.below HB7.out)
      have HBW := Lib.hid (HBr.out.trans (HB7.out.mono HBr.out.size))
      clear hX7
      go_loopw [66] (fun t x => FullI w gs gr K g cnt P (List.replicate n noughts) t x) (fun t _ => cnt - (intOf t).toNat)
      case atStart => exact ⟨0, [], Nat.zero_le _, rfl, by rw [Nat.zero_mul]; exact HL7.out, HX7.out, HBW.out⟩
      case round =>
        obtain ⟨k, pend, hk, rfl, hLk, hXk, hBk⟩ := hrel
        have hglk := lt_of_heap hXk
        have hby : Bytes wr wr.heap.size (.slice (some ⟨g, 0, none⟩) Z Z) P := bytes_block hXk hglk HPL.out.symm (Nat.le_refl _) HPS.out (by rw [HPL.out]; unfold maxLen; omega)
        have hnP : (rec1 P).length + (layR (List.replicate k P)).length = (k + 1) * L := by rw [layR_rep, ← HLL.out, Nat.succ_mul]; omega
        by_cases hlt : k < cnt
        · have hfit : (rec1 P).length + (layR (List.replicate k P)).length ≤ K * 487 := by
            have h1 : (k + 1) * L ≤ cnt * L := Nat.mul_le_mul_right _ hlt
            have h2 := HCL.out
            omega
          have HAP := Lib.hid (append_log hLk (by omega) _ Z Z P hby (by omega) hfit)
          have HXk := Lib.hid hXk
          have HBk := Lib.hid hBk
          clear hLk hXk hBk hby hnP hfit hglk
          go_wp2_with (go_at_call 20; (with_reducible refine (HAP.out).mono ?_); rintro e w8 ⟨rfl, ⟨p8, hL8⟩, hK8⟩; have HL8 := Lib.hid hL8; have HK8 := Lib.hid hK8; clear hL8 hK8)
          go_roundw
          case rel =>
            refine ⟨k + 1, pend ++ p8, by omega, by go_num, ?_, HK8.out.ty g _ HXk.out noLog_bytes, HBk.out.trans HK8.out.below⟩
            rw [List.replicate_succ', Nat.succ_mul]
            exact HL8.out
          case measure => simp [intOf]; omega
        · obtain rfl : k = cnt := by omega
          have hfull : K * 487 < (rec1 P).length + (layR (List.replicate k P)).length := by
            have h2 := HCL2.out
            omega
          obtain ⟨R, hR⟩ : ∃ R, R = K * 487 - (layR (List.replicate k P)).length := ⟨_, rfl⟩
          have hRL : R < L := by rw [hR, layR_rep, ← HLL.out]; have h2 := HCL2.out; rw [Nat.succ_mul k L] at h2; omega
          have hRL2 : ¬ (R : Int) ≥ (L : Int) := by omega
          have hrl : (List.replicate k P).length = k := List.length_replicate
          obtain ⟨b9, pv9, ps9, nw9, hS9⟩ := id hLk
          have HWR : Hid (∀ y, Below wr.heap.size wr y → Calls Try.prog 19 #[.pointer (some ⟨gs, 0, none⟩)] y fun e w' => e = .returned (.int .i64 nw9) ∧ y = w') := Lib.hid fun y hy => writes_logs (hS9.below hy)
          have HFU : Hid (∀ y, Below wr.heap.size wr y → Calls Try.prog 20 #[.pointer (some ⟨gr, 0, none⟩), .slice (some ⟨g, 0, none⟩) Z Z] y fun e w' => e = .returned (.int .i64 5) ∧ Below y.heap.size y w') := Lib.hid fun y hy => append_full (hLk.below hy) _ Z Z P (hby.along hy) (by omega) hfull
          have HCO : Hid (∀ y, Below wr.heap.size wr y → Calls Try.prog 23 #[.pointer (some ⟨gr, 0, none⟩)] y fun e w' => e = .returned (.int .i64 (k : Int)) ∧ y = w') := Lib.hid fun y hy => by have h := count_log (hLk.below hy); rw [hrl] at h; exact h
          have HRO : Hid (∀ y, Below wr.heap.size wr y → Calls Try.prog 18 #[.pointer (some ⟨gr, 0, none⟩)] y fun e w' => e = .returned (.int .i64 (R : Int)) ∧ Below y.heap.size y w') := Lib.hid fun y hy => by rw [hR]; exact room_log (hLk.below hy)
          have HOP : Hid (∀ y, Below wr.heap.size wr y → Calls Try.prog 12 #[.pointer (some ⟨gs, 0, none⟩), .agg #[.int .u32 1, .int .u8 0, .int .u32 0]] y fun e w' => ∃ gr2 ser2, e = .returned (.tuple #[.pointer (some ⟨gr2, 0, none⟩), .int .i64 0, .int .i64 0]) ∧ Log w' w.heap.size gs gr2 1 ser2 2 K (k * 2048) (List.replicate k P) (List.replicate n noughts) pend ∧ Below y.heap.size y w') := Lib.hid fun y hy => by
            have hl : (List.replicate n noughts).length = n := List.length_replicate
            have h := open_log (N := k * 2048) (base := w.heap.size) (hS9.below hy).disk 0 0 1 (pgs ps9) (by rw [hl, HFF.out, ← HK.out]; exact hS9.clean) (by decide) (by decide) (by decide) (by rw [hl]; exact hn4.1) (by omega) hS9.hp hS9.hn hS9.o1 hS9.o3 hS9.o4 hS9.o5 (Nat.le_trans hS9.hb hy.size)
            rw [hl, HFF.out, ← HK.out] at h
            refine h.mono ?_
            rintro e w' ⟨hb, gr2, e1, e2, e3⟩
            exact ⟨gr2, _, e1, e3, hb⟩
          have HBk := Lib.hid hBk
          have HR := Lib.hid hR
          have HRL := Lib.hid hrl
          have HN0 : Hid (Below wr.heap.size wr wr) := Lib.hid (Below.refl _ _)
          clear hLk hXk hBk hby hnP hfull hS9 hR hrl hglk
          go_wp2_with (first
            | (go_at_call 19; (with_reducible refine (HWR.out _ HN0.out).mono ?_); rintro e w9 ⟨rfl, rfl⟩)
            | (go_at_call 20; (with_reducible refine (HFU.out _ HN0.out).mono ?_); rintro e w10 ⟨rfl, hb10⟩; have HN0 := Lib.hid (HN0.out.trans (hb10.mono HN0.out.size)); clear hb10)
            | (go_at_call 23; (with_reducible refine (HCO.out _ HN0.out).mono ?_); rintro e w11 ⟨rfl, rfl⟩)
            | (go_at_call 18; (with_reducible refine (HRO.out _ HN0.out).mono ?_); rintro e w12 ⟨rfl, hb12⟩; have HN0 := Lib.hid (HN0.out.trans (hb12.mono HN0.out.size)); clear hb12)
            | (go_at_call 43; (with_reducible refine (first_any _).mono ?_); rintro e w13 ⟨rfl, hb13⟩; have HN0 := Lib.hid (HN0.out.trans (hb13.mono HN0.out.size)); clear hb13)
            | (go_at_call 12; (with_reducible refine (HOP.out _ HN0.out).mono ?_); rintro e w14 ⟨gr2, ser2, rfl, hL14, hb14⟩; go_loud (
                have HN0 := Lib.hid (HN0.out.trans (hb14.mono HN0.out.size));
                have HC2 : Hid (∀ y, Below w14.heap.size w14 y → Calls Try.prog 23 #[.pointer (some ⟨gr2, 0, none⟩)] y fun e w' => e = .returned (.int .i64 (k : Int)) ∧ y = w') := Lib.hid (fun y hy => (by have h := count_log (hL14.below hy); rw [HRL.out] at h; exact h));
                have HR2 : Hid (∀ y, Below w14.heap.size w14 y → Calls Try.prog 18 #[.pointer (some ⟨gr2, 0, none⟩)] y fun e w' => e = .returned (.int .i64 (R : Int)) ∧ Below y.heap.size y w') := Lib.hid (fun y hy => (by rw [HR.out]; exact room_log (hL14.below hy)));
                have HN1 : Hid (Below w14.heap.size w14 w14) := Lib.hid (Below.refl _ _);
                clear hL14 hb14))
            | (go_at_call 23; (with_reducible refine (HC2.out _ HN1.out).mono ?_); rintro e w15 ⟨rfl, rfl⟩)
            | (go_at_call 18; (with_reducible refine (HR2.out _ HN1.out).mono ?_); rintro e w16 ⟨rfl, hb16⟩; have HN0 := Lib.hid (HN0.out.trans (hb16.mono HN0.out.size)); clear hb16))
          go_ret
          exact ⟨rfl, HBk.out.trans (HN0.out.mono HBk.out.size)⟩
end Go.Proofs.Ytpmgihfdiahfdaa
