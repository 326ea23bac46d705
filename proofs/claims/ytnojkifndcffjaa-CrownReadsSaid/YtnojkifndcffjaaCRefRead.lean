/- Contract: what the reference's Read answers of any two sectors. (By tools/genrefread.py.) -/
import Derived.Test.YtnojkifndcffjaaCPick
import Derived.Test.YtnojkifndcffjaaRParseC
namespace Go.Proofs.Ytnojkifndcffjaa
open Go.RowKit
set_option linter.unusedSimpArgs false
set_option linter.unusedVariables false
theorem rcrownInfo : (Try.prog.info? 35).map (·.size) = some 3 := by kernel_rfl
theorem rset_crown {w : World} {g : Nat} {u0 u1 u2 v0 v1 v2 : Value} (h : w.heap[g]? = some (.cells #[u0, u1, u2] 35 (0, 0))) :
    (((w.setCell ⟨g, 0, none⟩ v0).setCell ⟨g, 1, none⟩ v1).setCell ⟨g, 2, none⟩ v2).heap[g]? = some (.cells #[v0, v1, v2] 35 (0, 0)) := by
  rw [heap_setCell_same _ g 2 _ _ _ (heap_setCell_same _ g 1 _ _ _ (heap_setCell_same _ g 0 _ _ _ h))]
  rfl
theorem rcrown_facts {x : World} {g : Nat} {v0 v1 v2 : Value} (h : x.heap[g]? = some (.cells #[v0, v1, v2] 35 (0, 0))) :
    x.cell? ⟨g, 0, none⟩ = some v0 ∧ x.cell? ⟨g, 1, none⟩ = some v1 ∧ x.cell? ⟨g, 2, none⟩ = some v2 ∧ x.frozen? ⟨g, 0, none⟩ = false ∧ x.frozen? ⟨g, 1, none⟩ = false ∧ x.frozen? ⟨g, 2, none⟩ = false := by
  refine ⟨?_, ?_, ?_, frozen_of_row x g _ _ _ h, frozen_of_row x g _ _ _ h, frozen_of_row x g _ _ _ h⟩
  all_goals (rw [cell_of_row x g _ _ _ _ h]; rfl)
theorem roth_crown {w : World} {g k : Nat} {o : Obj} {v0 v1 v2 : Value} (h : w.heap[k]? = some o) (hk : k ≠ g) : (((w.setCell ⟨g, 0, none⟩ v0).setCell ⟨g, 1, none⟩ v1).setCell ⟨g, 2, none⟩ v2).heap[k]? = some o := by
  rw [heap_setCell_other _ ⟨g, 2, none⟩ k _ hk, heap_setCell_other _ ⟨g, 1, none⟩ k _ hk, heap_setCell_other _ ⟨g, 0, none⟩ k _ hk]
  exact h
theorem rread_ret {a : Act} {w : World} {R : Ending → World → Prop} {g : Nat} {cs : Array Value} {v v2 : Value} (hd : a.defers = []) (h2 : a.tmps.getD 4 undef = .pointer (some ⟨g, 0, none⟩)) (h3 : a.tmps.getD 5 undef = v) (h4 : a.tmps.getD 6 undef = v2)
    (hg : w.heap[g]? = some (.cells cs 35 (0, 0))) (hs : cs.size = 3) (hR : R (.returned (.tuple #[.agg cs, v, v2])) w) : bodyPost Try.prog Try.f14 R .ret a w := by
  refine bodyPost_ret_by (v := .tuple #[.agg cs, v, v2]) ?_ hd hR
  have hl := run_loadVar_row (P := Try.prog) w g 35 35 cs (0, 0) _ hg Try.underlying35 rfl (by rw [rcrownInfo, hs])
  rw [results_three (p := 4) (ty := 35) (u := 5) (v := 6) rfl, h2, h3, h4]
  simp [asAddr, Result.andThen, hl]
/-- The state of the loop at sector i. -/
def RfR (w : World) (l : Nat → List Nat) (A : Nat → Option Addr) (n c : Nat → Nat) (f t : Value) (x : World) : Prop :=
  ∃ (i g h s : Nat), i ≤ 2 ∧ t = .int .i64 (i : Int) ∧ f = .bool (bestOf (pickO (l 0) (l 1)) i).isSome ∧ (g, h, s) = (bestOf (pickO (l 0) (l 1)) i).getD (0, 0, 0) ∧ (∀ j, j < i → errOf (l j) = 3 ∨ OwnC (l j) j) ∧
    x.heap[w.heap.size + 1]? = some (.cells #[.int .u32 (g : Int), .int .u8 (h : Int), .int .u32 (s : Int)] 35 (0, 0)) ∧
    x.heap[w.heap.size]? = some (.cells #[.int .u32 0, .int .u8 0, .int .u32 0] 35 (0, 0)) ∧ x.heap[w.heap.size + 1 + 1]? = some (.cells #[.slice (A 0) (n 0) (c 0), .slice (A 1) (n 1) (c 1)] 25 (0, 0)) ∧ Below w.heap.size w x
theorem pick_at (l : Nat → List Nat) {i : Nat} (hi : i < 2) : pickO (l 0) (l 1) i = if errOf (l i) = 3 then none else some (genOf (l i), halfOf (l i), serOf (l i)) := by
  rcases (show i = 0 ∨ i = 1 by omega) with rfl | rfl <;> rfl
theorem read_end {l : Nat → List Nat} (h : ∀ j, j < 2 → errOf (l j) = 3 ∨ OwnC (l j) j) : readOf (l 0) (l 1) = match bestOf (pickO (l 0) (l 1)) 2 with
    | none => ((0, 0, 0), 0, 3)
    | some c => (c, 0, 0) := by
  have h0 := h 0 (by omega)
  have h1 := h 1 (by omega)
  unfold readOf
  rw [if_neg (fun hn => h0.elim hn.1 hn.2), if_neg (fun hn => h1.elim hn.1 hn.2)]
  rfl
theorem read_bad {l : Nat → List Nat} {i : Nat} (hi : i < 2) (h : ∀ j, j < i → errOf (l j) = 3 ∨ OwnC (l j) j) (h3 : errOf (l i) ≠ 3) (hn : ¬ OwnC (l i) i) : readOf (l 0) (l 1) = ((0, 0, 0), i, 7) := by
  rcases (show i = 0 ∨ i = 1 by omega) with rfl | rfl
  · exact if_pos ⟨h3, hn⟩
  · have h0 := h 0 (by omega)
    unfold readOf
    rw [if_neg (fun hn => h0.elim hn.1 hn.2), if_pos ⟨h3, hn⟩]
theorem lt_heap {x : World} {g : Nat} {o : Obj} (h : x.heap[g]? = some o) : g < x.heap.size := (Array.getElem?_eq_some_iff.1 h).1
theorem data_le {s : List Nat} (hs : ∀ b ∈ s, b < 256) : (dataOf s).length ≤ 491 := by
  by_cases e0 : errOf s = 0
  · exact (parts_page hs e0).2.2.1
  · rw [(parts_bad e0).2.2.2.2]; simp
theorem rf_store {w w2 : World} {l : Nat → List Nat} {A : Nat → Option Addr} {n c : Nat → Nat} {i g2 h2 s2 : Nat} {u0 u1 u2 : Value} (hnx : bestOf (pickO (l 0) (l 1)) (i + 1) = some (g2, h2, s2)) (hi : i < 2) (hok : ∀ j, j < i + 1 → errOf (l j) = 3 ∨ OwnC (l j) j)
    (hg : w2.heap[w.heap.size + 1]? = some (.cells #[u0, u1, u2] 35 (0, 0))) (hz : w2.heap[w.heap.size]? = some (.cells #[.int .u32 0, .int .u8 0, .int .u32 0] 35 (0, 0))) (hr : w2.heap[w.heap.size + 1 + 1]? = some (.cells #[.slice (A 0) (n 0) (c 0), .slice (A 1) (n 1) (c 1)] 25 (0, 0))) (hb : Below w.heap.size w w2) :
    RfR w l A n c (.bool true) (.int .i64 ((i : Int) + 1)) (((w2.setCell ⟨w.heap.size + 1, 0, none⟩ (.int .u32 (g2 : Int))).setCell ⟨w.heap.size + 1, 1, none⟩ (.int .u8 (h2 : Int))).setCell ⟨w.heap.size + 1, 2, none⟩ (.int .u32 (s2 : Int))) := by
  have e1 := rset_crown (v0 := .int .u32 (g2 : Int)) (v1 := .int .u8 (h2 : Int)) (v2 := .int .u32 (s2 : Int)) hg
  have e2 := below_crown (v0 := .int .u32 (g2 : Int)) (v1 := .int .u8 (h2 : Int)) (v2 := .int .u32 (s2 : Int)) hb (show w.heap.size ≤ w.heap.size + 1 by omega)
  refine ⟨i + 1, g2, h2, s2, by omega, by go_num, by rw [hnx]; rfl, by rw [hnx]; rfl, hok, e1, ?_, ?_, e2⟩
  · exact roth_crown hz (by omega)
  · exact roth_crown hr (by omega)
theorem rf_after {w w2 : World} {l : Nat → List Nat} {A : Nat → Option Addr} {n c : Nat → Nat} {f t : Value} (h : RfR w l A n c f t w2) (o : Obj) : RfR w l A n c f t ((w2.alloc o).drew) := by
  obtain ⟨i, g, h, s, h1, h2, h3, h4, h5, h6, h7, h8, h9⟩ := h
  exact ⟨i, g, h, s, h1, h2, h3, h4, h5, (Go.heap_alloc_old _ _ (lt_heap h6)).trans h6, (Go.heap_alloc_old _ _ (lt_heap h7)).trans h7, (Go.heap_alloc_old _ _ (lt_heap h8)).trans h8, (h9.alloc h9.size _).drew⟩
set_option maxRecDepth 100000 in
set_option maxHeartbeats 8000000 in
theorem refRead_any (w : World) (A : Nat → Option Addr) (n c : Nat → Nat) (l : Nat → List Nat) (hp : ∀ i, i < 2 → Bytes w w.heap.size (.slice (A i) (n i) (c i)) (l i)) :
    Calls Try.prog 14 #[.slice (A 0) (n 0) (c 0), .slice (A 1) (n 1) (c 1)] w fun e w' => e = .returned (.tuple #[.agg #[.int .u32 ((readOf (l 0) (l 1)).1.1 : Int), .int .u8 ((readOf (l 0) (l 1)).1.2.1 : Int), .int .u32 ((readOf (l 0) (l 1)).1.2.2 : Int)], .int .i64 ((readOf (l 0) (l 1)).2.1 : Int), .int .i64 ((readOf (l 0) (l 1)).2.2 : Int)]) ∧ Below w.heap.size w w' := by
  have HP := Lib.hid hp
  clear hp
  obtain ⟨R, hR⟩ : ∃ R, R = readOf (l 0) (l 1) := ⟨_, rfl⟩
  rw [← hR]
  have HR := Lib.hid hR
  clear hR
  go_enter Try.func14, Try.ntmps14
  go_wp2
  go_loopw [8, 18] (fun f t x => RfR w l A n c f t x) (fun _ t _ => 2 - (intOf t).toNat)
  case atStart =>
    refine ⟨0, 0, 0, 0, by omega, rfl, rfl, rfl, fun j hj => by omega, ?_, ?_, ?_, (((Below.refl w.heap.size w).alloc (Nat.le_refl _) _).alloc (by simp) _).alloc (by simp; omega) _⟩
    · rw [Go.heap_alloc_old _ _ (by simp)]; exact Go.heap_alloc2_new w _ _
    · rw [Go.heap_alloc_old _ _ (by simp; omega), Go.heap_alloc_old _ _ (by simp)]; exact Go.heap_alloc_new w _
    · have h := Go.heap_alloc_new ((w.alloc (.cells #[.int .u32 0, .int .u8 0, .int .u32 0] 35)).alloc (.cells #[.int .u32 0, .int .u8 0, .int .u32 0] 35)) (.cells #[.slice (A 0) (n 0) (c 0), .slice (A 1) (n 1) (c 1)] 25)
      rw [show ((w.alloc (.cells #[.int .u32 0, .int .u8 0, .int .u32 0] 35)).alloc (.cells #[.int .u32 0, .int .u8 0, .int .u32 0] 35)).heap.size = w.heap.size + 1 + 1 by simp] at h
      exact h
  case round =>
    obtain ⟨i, g, hf, se, hi, rfl, rfl, hbest, hok, hL, hZ, hW, hB⟩ := hrel
    have HL := Lib.hid hL
    have HZ := Lib.hid hZ
    have HW := Lib.hid hW
    have HB := Lib.hid hB
    have HBest := Lib.hid hbest
    have HOk := Lib.hid hok
    have lB : w.heap.size + 1 + 1 < wr.heap.size := lt_heap hW
    by_cases hlt : i < 2
    · have hci : wr.cell? ⟨w.heap.size + 1 + 1, i, none⟩ = some (.slice (A i) (n i) (c i)) := by
        rw [cell_of_row wr _ _ _ _ _ hW]
        rcases (show i = 0 ∨ i = 1 by omega) with rfl | rfl <;> rfl
      have hpa := refParse_all wr (A i) (n i) (c i) (l i) ((HP.out i hlt).along hB)
      unfold Parsed at hpa
      obtain ⟨L, hL0⟩ : ∃ L, L = l i := ⟨_, rfl⟩
      rw [← hL0] at hpa
      have HLI := Lib.hid hL0
      have hby : ∀ b ∈ L, b < 256 := by rw [hL0]; exact (HP.out i hlt).small
      have hdl : (dataOf L).length ≤ 491 := data_le hby
      have hlti : (i : Int) < 2 := by omega
      clear hL hZ hW hB hbest hok hL0
      by_cases h3 : errOf L = 3
      · simp only [h3, show ((3 : Nat) : Int) = 3 from rfl] at hpa
        have HPA := hide hpa
        have HNX := Lib.hid (show bestOf (pickO (l 0) (l 1)) (i + 1) = bestOf (pickO (l 0) (l 1)) i by rw [bestOf, pick_at l hlt, if_pos (by rw [← HLI.out]; exact h3)])
        have HOK2 := Lib.hid (show errOf (l i) = 3 by rw [← HLI.out]; exact h3)
        clear hpa h3
        go_wp2_with (first
          | (go_at_call 36; (with_reducible refine (unhide HPA).mono ?_); rintro e w2 ⟨A2, n2, c2, rfl, hM2, hb2⟩; go_loud (
             have HB2 := Lib.hid hb2;
             clear hb2 hM2)))
        go_roundw
        case rel =>
          have e2 := HB2.out.alloc HB2.out.size (.cells #[.int .u32 (genOf L : Int), .int .u32 (serOf L : Int), .int .u32 (numbOf L : Int), .int .u8 (kinOf L : Int), .slice A2 n2 c2] 39)
          exact ⟨i + 1, g, hf, se, by omega, by go_num, by rw [HNX.out], by rw [HNX.out]; exact HBest.out, fun j hj => by
            rcases Nat.lt_succ_iff_lt_or_eq.1 hj with h | rfl
            · exact HOk.out j h
            · exact .inl HOK2.out, (e2.block _ (by omega)).trans HL.out, (e2.block _ (by omega)).trans HZ.out, (e2.block _ (by omega)).trans HW.out, HB.out.trans (e2.mono HB.out.size)⟩
        case measure => simp [intOf]; omega
      · by_cases h0 : errOf L = 0
        · obtain ⟨_, _, _, hgn, _, hnm, hkn, hsm⟩ := parts_page hby h0
          simp only [h0, show ((0 : Nat) : Int) = 0 from rfl] at hpa
          by_cases h1 : (dataOf L).length = 1
          · have hd := data_half h1
            obtain ⟨hv, hhv⟩ : ∃ hv, hv = halfOf L := ⟨_, rfl⟩
            obtain ⟨gn, hgn'⟩ : ∃ gn, gn = genOf L := ⟨_, rfl⟩
            obtain ⟨sr, hsr'⟩ : ∃ sr, sr = serOf L := ⟨_, rfl⟩
            obtain ⟨nm, hnm'⟩ : ∃ nm, nm = numbOf L := ⟨_, rfl⟩
            obtain ⟨kn, hkn'⟩ : ∃ kn, kn = kinOf L := ⟨_, rfl⟩
            rw [← hhv] at hd
            rw [hd] at hsm
            have hhs : hv < 256 := hsm hv (by simp)
            rw [← hgn'] at hgn
            rw [hd, ← hgn', ← hsr', ← hnm', ← hkn'] at hpa
            have HO := Lib.hid (show OwnC L i ↔ (hv ≤ 1 ∧ nm = 0 ∧ kn = 9 ∧ gn % 2 = i) by unfold OwnC; rw [hhv, hnm', hkn', hgn']; exact ⟨fun h => h.2.2, fun h => ⟨h0, h1, h⟩⟩)
            have HV3 := Lib.hid (show (genOf L, halfOf L, serOf L) = (gn, hv, sr) by rw [hgn', hhv, hsr'])
            clear h0 h1 hd hhv hgn' hsr' hnm' hkn' hnm hkn hsm
            by_cases h4 : hv ≤ 1
            · have c4 : ¬ (hv : Int) > 1 := by omega
              have c4b : ¬ 1 < (hv : Int) := by omega
              by_cases h5 : nm = 0
              · subst h5
                simp only [show ((0 : Nat) : Int) = 0 from rfl] at hpa
                by_cases h6 : kn = 9
                · subst h6
                  simp only [show ((9 : Nat) : Int) = 9 from rfl] at hpa
                  have hm2 : (gn : Int).tmod 2 = (gn : Int) % 2 := Int.tmod_eq_emod_of_nonneg (by omega)
                  by_cases h7 : gn % 2 = i
                  · have HOW := Lib.hid (HO.out.2 ⟨h4, rfl, rfl, h7⟩)
                    have c7 : ((gn : Int) % 2 != (i : Int)) = false := by rw [bne_eq_false_iff_eq]; omega
                    have HPA := hide hpa
                    have HOK2 := Lib.hid (show ∀ j, j < i + 1 → errOf (l j) = 3 ∨ OwnC (l j) j from fun j hj => by
                      rcases Nat.lt_succ_iff_lt_or_eq.1 hj with h | rfl
                      · exact HOk.out j h
                      · exact .inr (by rw [← HLI.out]; exact HOW.out))
                    have hpk : pickO (l 0) (l 1) i = some (gn, hv, sr) := by rw [pick_at l hlt, ← HLI.out, if_neg h3, HV3.out]
                    have HPK := Lib.hid hpk
                    clear hpa h3 hby h4 h7 hpk
                    have hbb := HBest.out
                    cases hbo : bestOf (pickO (l 0) (l 1)) i with
                    | none =>
                      have hsome : (bestOf (pickO (l 0) (l 1)) i).isSome = false := by rw [hbo]; rfl
                      have HNX := Lib.hid (show bestOf (pickO (l 0) (l 1)) (i + 1) = some (gn, hv, sr) by rw [bestOf, HPK.out, hbo])
                      clear hbo hbb
                      go_wp2_with (first
                          | (go_at_call 36; (with_reducible refine (unhide HPA).mono ?_); rintro e w2 ⟨A2, n2, c2, rfl, hM2, hb2⟩; go_loud (
                             obtain rfl : n2 = 1 := hM2.len;
                             obtain ⟨gd, yd, rfl, hgd, hyd, -, kd2, -⟩ := hM2.at_ (k := 0) (by decide);
                             obtain rfl : hv = yd := by simpa using hyd;
                             have l5 := World.block_lt_of_cell? w2 _ kd2;
                             dsimp only at l5;
                             have n3 : ¬ gd = w2.heap.size := by omega;
                             have n5 : ¬ gd = w.heap.size + 1 := by omega;
                             have n6 : ¬ w.heap.size + 1 = gd := by omega;
                             have z2 := (hb2.block w.heap.size (by omega)).trans HZ.out;
                             have g2 := (hb2.block (w.heap.size + 1) (by omega)).trans HL.out;
                             obtain ⟨z0, z1, z2', f0, f1, f2⟩ := rcrown_facts z2;
                             obtain ⟨y0, y1, y2, y3, y4, y5⟩ := rcrown_facts g2;
                             have l2 := Nat.lt_of_lt_of_le lB hb2.size;
                             have l3 : w.heap.size < w2.heap.size := by omega;
                             have l4 : w.heap.size + 1 < w2.heap.size := by omega;
                             have n1 : ¬ w.heap.size = w2.heap.size := by omega;
                             have n2' : ¬ w.heap.size + 1 = w2.heap.size := by omega;
                             have HZ2 := Lib.hid z2;
                             have HG2 := Lib.hid g2;
                             have HW2 := Lib.hid ((hb2.block (w.heap.size + 1 + 1) (by omega)).trans HW.out);
                             have HB2 := Lib.hid (HB.out.trans (hb2.mono HB.out.size));
                             clear z2 g2 hb2 hM2)))
                      go_region
                      go_wp2_with fail
                      go_roundw
                      case rel => exact rf_after (rf_store HNX.out hlt HOK2.out HG2.out HZ2.out HW2.out HB2.out) _
                      case measure => simp [intOf]; omega
                    | some lst =>
                      obtain ⟨lg, lh, ls⟩ := lst
                      have hsome : (bestOf (pickO (l 0) (l 1)) i).isSome = true := by rw [hbo]; rfl
                      rw [hbo] at hbb
                      obtain ⟨rfl, rfl, rfl⟩ : g = lg ∧ hf = lh ∧ se = ls := by
                        injection hbb with e1 e2
                        injection e2 with e2 e3
                        exact ⟨e1, e2, e3⟩
                      by_cases hgt : g < gn
                      · have HNX := Lib.hid (show bestOf (pickO (l 0) (l 1)) (i + 1) = some (gn, hv, sr) by rw [bestOf, HPK.out, hbo]; exact if_pos hgt)
                        have hgt1 : (gn : Int) > (g : Int) := by omega
                        have hgt2 : (g : Int) < (gn : Int) := by omega
                        clear hbo hbb hgt
                        go_wp2_with (first
                          | (go_at_call 36; (with_reducible refine (unhide HPA).mono ?_); rintro e w2 ⟨A2, n2, c2, rfl, hM2, hb2⟩; go_loud (
                             obtain rfl : n2 = 1 := hM2.len;
                             obtain ⟨gd, yd, rfl, hgd, hyd, -, kd2, -⟩ := hM2.at_ (k := 0) (by decide);
                             obtain rfl : hv = yd := by simpa using hyd;
                             have l5 := World.block_lt_of_cell? w2 _ kd2;
                             dsimp only at l5;
                             have n3 : ¬ gd = w2.heap.size := by omega;
                             have n5 : ¬ gd = w.heap.size + 1 := by omega;
                             have n6 : ¬ w.heap.size + 1 = gd := by omega;
                             have z2 := (hb2.block w.heap.size (by omega)).trans HZ.out;
                             have g2 := (hb2.block (w.heap.size + 1) (by omega)).trans HL.out;
                             obtain ⟨z0, z1, z2', f0, f1, f2⟩ := rcrown_facts z2;
                             obtain ⟨y0, y1, y2, y3, y4, y5⟩ := rcrown_facts g2;
                             have l2 := Nat.lt_of_lt_of_le lB hb2.size;
                             have l3 : w.heap.size < w2.heap.size := by omega;
                             have l4 : w.heap.size + 1 < w2.heap.size := by omega;
                             have n1 : ¬ w.heap.size = w2.heap.size := by omega;
                             have n2' : ¬ w.heap.size + 1 = w2.heap.size := by omega;
                             have HZ2 := Lib.hid z2;
                             have HG2 := Lib.hid g2;
                             have HW2 := Lib.hid ((hb2.block (w.heap.size + 1 + 1) (by omega)).trans HW.out);
                             have HB2 := Lib.hid (HB.out.trans (hb2.mono HB.out.size));
                             clear z2 g2 hb2 hM2)))
                        go_region
                        go_wp2_with fail
                        go_roundw
                        case rel => exact rf_after (rf_store HNX.out hlt HOK2.out HG2.out HZ2.out HW2.out HB2.out) _
                        case measure => simp [intOf]; omega
                      · have HNX := Lib.hid (show bestOf (pickO (l 0) (l 1)) (i + 1) = some (g, hf, se) by rw [bestOf, HPK.out, hbo]; exact if_neg hgt)
                        have hgt1 : ¬ (gn : Int) > (g : Int) := by omega
                        have hgt2 : ¬ (g : Int) < (gn : Int) := by omega
                        clear hbo hbb hgt
                        go_wp2_with (first
                          | (go_at_call 36; (with_reducible refine (unhide HPA).mono ?_); rintro e w2 ⟨A2, n2, c2, rfl, hM2, hb2⟩; go_loud (
                             obtain rfl : n2 = 1 := hM2.len;
                             obtain ⟨gd, yd, rfl, hgd, hyd, -, kd2, -⟩ := hM2.at_ (k := 0) (by decide);
                             obtain rfl : hv = yd := by simpa using hyd;
                             have l5 := World.block_lt_of_cell? w2 _ kd2;
                             dsimp only at l5;
                             have n3 : ¬ gd = w2.heap.size := by omega;
                             have n5 : ¬ gd = w.heap.size + 1 := by omega;
                             have n6 : ¬ w.heap.size + 1 = gd := by omega;
                             have z2 := (hb2.block w.heap.size (by omega)).trans HZ.out;
                             have g2 := (hb2.block (w.heap.size + 1) (by omega)).trans HL.out;
                             obtain ⟨z0, z1, z2', f0, f1, f2⟩ := rcrown_facts z2;
                             obtain ⟨y0, y1, y2, y3, y4, y5⟩ := rcrown_facts g2;
                             have l2 := Nat.lt_of_lt_of_le lB hb2.size;
                             have l3 : w.heap.size < w2.heap.size := by omega;
                             have l4 : w.heap.size + 1 < w2.heap.size := by omega;
                             have n1 : ¬ w.heap.size = w2.heap.size := by omega;
                             have n2' : ¬ w.heap.size + 1 = w2.heap.size := by omega;
                             have HZ2 := Lib.hid z2;
                             have HG2 := Lib.hid g2;
                             have HW2 := Lib.hid ((hb2.block (w.heap.size + 1 + 1) (by omega)).trans HW.out);
                             have HB2 := Lib.hid (HB.out.trans (hb2.mono HB.out.size));
                             clear z2 g2 hb2 hM2)))
                        go_roundw
                        case rel =>
                          have e2 := HB2.out.alloc HB2.out.size (.cells #[.int .u32 (gn : Int), .int .u32 (sr : Int), .int .u32 0, .int .u8 9, .slice (some ⟨gd, 0, none⟩) 1 c2] 39)
                          exact ⟨i + 1, g, hf, se, by omega, by go_num, by rw [HNX.out]; rfl, by rw [HNX.out]; rfl, HOK2.out, (Go.heap_alloc_old _ _ (by omega)).trans HG2.out, (Go.heap_alloc_old _ _ (by omega)).trans HZ2.out, (Go.heap_alloc_old _ _ (by omega)).trans HW2.out, e2⟩
                        case measure => simp [intOf]; omega
                  · have c7 : ((gn : Int) % 2 != (i : Int)) = true := by rw [bne_iff_ne]; omega
                    have HX := Lib.hid h7
                    clear h4 h7
                    have HPA := hide hpa
                    have HRD := Lib.hid (HR.out.trans (read_bad hlt HOk.out (by rw [← HLI.out]; exact h3) (by rw [← HLI.out]; exact fun h => HX.out (HO.out.1 h).2.2.2)))
                    clear hpa h3 hby
                    go_wp2_with (first
                      | (go_at_call 36; (with_reducible refine (unhide HPA).mono ?_); rintro e w2 ⟨A2, n2, c2, rfl, hM2, hb2⟩; go_loud (
                         obtain rfl : n2 = 1 := hM2.len;
                         obtain ⟨gd, yd, rfl, hgd, hyd, -, kd2, -⟩ := hM2.at_ (k := 0) (by decide);
                         obtain rfl : hv = yd := by simpa using hyd;
                         have l5 := World.block_lt_of_cell? w2 _ kd2;
                         dsimp only at l5;
                         have n3 : ¬ gd = w2.heap.size := by omega;
                         have n5 : ¬ gd = w.heap.size + 1 := by omega;
                         have n6 : ¬ w.heap.size + 1 = gd := by omega;
                         have z2 := (hb2.block w.heap.size (by omega)).trans HZ.out;
                         have g2 := (hb2.block (w.heap.size + 1) (by omega)).trans HL.out;
                         obtain ⟨z0, z1, z2', f0, f1, f2⟩ := rcrown_facts z2;
                         obtain ⟨y0, y1, y2, y3, y4, y5⟩ := rcrown_facts g2;
                         have l2 := Nat.lt_of_lt_of_le lB hb2.size;
                         have l3 : w.heap.size < w2.heap.size := by omega;
                         have l4 : w.heap.size + 1 < w2.heap.size := by omega;
                         have n1 : ¬ w.heap.size = w2.heap.size := by omega;
                         have n2' : ¬ w.heap.size + 1 = w2.heap.size := by omega;
                         have HZ2 := Lib.hid z2;
                         have HG2 := Lib.hid g2;
                         have HW2 := Lib.hid ((hb2.block (w.heap.size + 1 + 1) (by omega)).trans HW.out);
                         have HB2 := Lib.hid (HB.out.trans (hb2.mono HB.out.size));
                         clear z2 g2 hb2 hM2)))
                    have hr := HRD.out
                    subst hr
                    exact rread_ret rfl rfl rfl rfl ((Go.heap_alloc_old _ _ (lt_heap (rset_crown HZ2.out))).trans (rset_crown HZ2.out)) rfl ⟨rfl, (below_crown HB2.out (Nat.le_refl _)).alloc (below_crown HB2.out (Nat.le_refl _)).size _⟩
                · have c6 : ((kn : Int) != 9) = true := by rw [bne_iff_ne]; omega
                  have HX := Lib.hid h6
                  clear h4 h6
                  have HPA := hide hpa
                  have HRD := Lib.hid (HR.out.trans (read_bad hlt HOk.out (by rw [← HLI.out]; exact h3) (by rw [← HLI.out]; exact fun h => HX.out (HO.out.1 h).2.2.1)))
                  clear hpa h3 hby
                  go_wp2_with (first
                    | (go_at_call 36; (with_reducible refine (unhide HPA).mono ?_); rintro e w2 ⟨A2, n2, c2, rfl, hM2, hb2⟩; go_loud (
                       obtain rfl : n2 = 1 := hM2.len;
                       obtain ⟨gd, yd, rfl, hgd, hyd, -, kd2, -⟩ := hM2.at_ (k := 0) (by decide);
                       obtain rfl : hv = yd := by simpa using hyd;
                       have l5 := World.block_lt_of_cell? w2 _ kd2;
                       dsimp only at l5;
                       have n3 : ¬ gd = w2.heap.size := by omega;
                       have n5 : ¬ gd = w.heap.size + 1 := by omega;
                       have n6 : ¬ w.heap.size + 1 = gd := by omega;
                       have z2 := (hb2.block w.heap.size (by omega)).trans HZ.out;
                       have g2 := (hb2.block (w.heap.size + 1) (by omega)).trans HL.out;
                       obtain ⟨z0, z1, z2', f0, f1, f2⟩ := rcrown_facts z2;
                       obtain ⟨y0, y1, y2, y3, y4, y5⟩ := rcrown_facts g2;
                       have l2 := Nat.lt_of_lt_of_le lB hb2.size;
                       have l3 : w.heap.size < w2.heap.size := by omega;
                       have l4 : w.heap.size + 1 < w2.heap.size := by omega;
                       have n1 : ¬ w.heap.size = w2.heap.size := by omega;
                       have n2' : ¬ w.heap.size + 1 = w2.heap.size := by omega;
                       have HZ2 := Lib.hid z2;
                       have HG2 := Lib.hid g2;
                       have HW2 := Lib.hid ((hb2.block (w.heap.size + 1 + 1) (by omega)).trans HW.out);
                       have HB2 := Lib.hid (HB.out.trans (hb2.mono HB.out.size));
                       clear z2 g2 hb2 hM2)))
                  have hr := HRD.out
                  subst hr
                  exact rread_ret rfl rfl rfl rfl ((Go.heap_alloc_old _ _ (lt_heap (rset_crown HZ2.out))).trans (rset_crown HZ2.out)) rfl ⟨rfl, (below_crown HB2.out (Nat.le_refl _)).alloc (below_crown HB2.out (Nat.le_refl _)).size _⟩
              · have c5 : ((nm : Int) != 0) = true := by rw [bne_iff_ne]; omega
                have HX := Lib.hid h5
                clear h4 h5
                have HPA := hide hpa
                have HRD := Lib.hid (HR.out.trans (read_bad hlt HOk.out (by rw [← HLI.out]; exact h3) (by rw [← HLI.out]; exact fun h => HX.out (HO.out.1 h).2.1)))
                clear hpa h3 hby
                go_wp2_with (first
                  | (go_at_call 36; (with_reducible refine (unhide HPA).mono ?_); rintro e w2 ⟨A2, n2, c2, rfl, hM2, hb2⟩; go_loud (
                     obtain rfl : n2 = 1 := hM2.len;
                     obtain ⟨gd, yd, rfl, hgd, hyd, -, kd2, -⟩ := hM2.at_ (k := 0) (by decide);
                     obtain rfl : hv = yd := by simpa using hyd;
                     have l5 := World.block_lt_of_cell? w2 _ kd2;
                     dsimp only at l5;
                     have n3 : ¬ gd = w2.heap.size := by omega;
                     have n5 : ¬ gd = w.heap.size + 1 := by omega;
                     have n6 : ¬ w.heap.size + 1 = gd := by omega;
                     have z2 := (hb2.block w.heap.size (by omega)).trans HZ.out;
                     have g2 := (hb2.block (w.heap.size + 1) (by omega)).trans HL.out;
                     obtain ⟨z0, z1, z2', f0, f1, f2⟩ := rcrown_facts z2;
                     obtain ⟨y0, y1, y2, y3, y4, y5⟩ := rcrown_facts g2;
                     have l2 := Nat.lt_of_lt_of_le lB hb2.size;
                     have l3 : w.heap.size < w2.heap.size := by omega;
                     have l4 : w.heap.size + 1 < w2.heap.size := by omega;
                     have n1 : ¬ w.heap.size = w2.heap.size := by omega;
                     have n2' : ¬ w.heap.size + 1 = w2.heap.size := by omega;
                     have HZ2 := Lib.hid z2;
                     have HG2 := Lib.hid g2;
                     have HW2 := Lib.hid ((hb2.block (w.heap.size + 1 + 1) (by omega)).trans HW.out);
                     have HB2 := Lib.hid (HB.out.trans (hb2.mono HB.out.size));
                     clear z2 g2 hb2 hM2)))
                have hr := HRD.out
                subst hr
                exact rread_ret rfl rfl rfl rfl ((Go.heap_alloc_old _ _ (lt_heap (rset_crown HZ2.out))).trans (rset_crown HZ2.out)) rfl ⟨rfl, (below_crown HB2.out (Nat.le_refl _)).alloc (below_crown HB2.out (Nat.le_refl _)).size _⟩
            · have c4 : (hv : Int) > 1 := by omega
              have c4b : 1 < (hv : Int) := by omega
              have HX := Lib.hid h4
              clear h4
              have HPA := hide hpa
              have HRD := Lib.hid (HR.out.trans (read_bad hlt HOk.out (by rw [← HLI.out]; exact h3) (by rw [← HLI.out]; exact fun h => HX.out (HO.out.1 h).1)))
              clear hpa h3 hby
              go_wp2_with (first
                | (go_at_call 36; (with_reducible refine (unhide HPA).mono ?_); rintro e w2 ⟨A2, n2, c2, rfl, hM2, hb2⟩; go_loud (
                   obtain rfl : n2 = 1 := hM2.len;
                   obtain ⟨gd, yd, rfl, hgd, hyd, -, kd2, -⟩ := hM2.at_ (k := 0) (by decide);
                   obtain rfl : hv = yd := by simpa using hyd;
                   have l5 := World.block_lt_of_cell? w2 _ kd2;
                   dsimp only at l5;
                   have n3 : ¬ gd = w2.heap.size := by omega;
                   have n5 : ¬ gd = w.heap.size + 1 := by omega;
                   have n6 : ¬ w.heap.size + 1 = gd := by omega;
                   have z2 := (hb2.block w.heap.size (by omega)).trans HZ.out;
                   have g2 := (hb2.block (w.heap.size + 1) (by omega)).trans HL.out;
                   obtain ⟨z0, z1, z2', f0, f1, f2⟩ := rcrown_facts z2;
                   obtain ⟨y0, y1, y2, y3, y4, y5⟩ := rcrown_facts g2;
                   have l2 := Nat.lt_of_lt_of_le lB hb2.size;
                   have l3 : w.heap.size < w2.heap.size := by omega;
                   have l4 : w.heap.size + 1 < w2.heap.size := by omega;
                   have n1 : ¬ w.heap.size = w2.heap.size := by omega;
                   have n2' : ¬ w.heap.size + 1 = w2.heap.size := by omega;
                   have HZ2 := Lib.hid z2;
                   have HG2 := Lib.hid g2;
                   have HW2 := Lib.hid ((hb2.block (w.heap.size + 1 + 1) (by omega)).trans HW.out);
                   have HB2 := Lib.hid (HB.out.trans (hb2.mono HB.out.size));
                   clear z2 g2 hb2 hM2)))
              have hr := HRD.out
              subst hr
              exact rread_ret rfl rfl rfl rfl ((Go.heap_alloc_old _ _ (lt_heap (rset_crown HZ2.out))).trans (rset_crown HZ2.out)) rfl ⟨rfl, (below_crown HB2.out (Nat.le_refl _)).alloc (below_crown HB2.out (Nat.le_refl _)).size _⟩
          · have HX := Lib.hid h1
            clear h0
            have HPA := hide hpa
            have HRD := Lib.hid (HR.out.trans (read_bad hlt HOk.out (by rw [← HLI.out]; exact h3) (by rw [← HLI.out]; exact fun h => HX.out h.2.1)))
            clear hpa h3 hby
            go_wp2_with (first
              | (go_at_call 36; (with_reducible refine (unhide HPA).mono ?_); rintro e w2 ⟨A2, n2, c2, rfl, hM2, hb2⟩; go_loud (
                 have q1 : ((n2 : Int) != 1) = true := by (rw [bne_iff_ne, hM2.len]; have := HX.out; omega);
                 have z2 := (hb2.block w.heap.size (by omega)).trans HZ.out;
                 have g2 := (hb2.block (w.heap.size + 1) (by omega)).trans HL.out;
                 obtain ⟨z0, z1, z2', f0, f1, f2⟩ := rcrown_facts z2;
                 obtain ⟨y0, y1, y2, y3, y4, y5⟩ := rcrown_facts g2;
                 have l2 := Nat.lt_of_lt_of_le lB hb2.size;
                 have l3 : w.heap.size < w2.heap.size := by omega;
                 have l4 : w.heap.size + 1 < w2.heap.size := by omega;
                 have n1 : ¬ w.heap.size = w2.heap.size := by omega;
                 have n2' : ¬ w.heap.size + 1 = w2.heap.size := by omega;
                 have HZ2 := Lib.hid z2;
                 have HG2 := Lib.hid g2;
                 have HW2 := Lib.hid ((hb2.block (w.heap.size + 1 + 1) (by omega)).trans HW.out);
                 have HB2 := Lib.hid (HB.out.trans (hb2.mono HB.out.size));
                 clear z2 g2 hb2 hM2)))
            have hr := HRD.out
            subst hr
            exact rread_ret rfl rfl rfl rfl ((Go.heap_alloc_old _ _ (lt_heap (rset_crown HZ2.out))).trans (rset_crown HZ2.out)) rfl ⟨rfl, (below_crown HB2.out (Nat.le_refl _)).alloc (below_crown HB2.out (Nat.le_refl _)).size _⟩
        · have e3 : ((errOf L : Int) == 3) = false := by rw [beq_eq_false_iff_ne]; omega
          have e0 : ((errOf L : Int) != 0) = true := by rw [bne_iff_ne]; omega
          have HX := Lib.hid h0
          obtain ⟨er, her⟩ : ∃ er, er = errOf L := ⟨_, rfl⟩
          rw [← her] at hpa e3 e0
          clear her h0
          have HPA := hide hpa
          have HRD := Lib.hid (HR.out.trans (read_bad hlt HOk.out (by rw [← HLI.out]; exact h3) (by rw [← HLI.out]; exact fun h => HX.out h.1)))
          clear hpa h3 hby
          go_wp2_with (first
            | (go_at_call 36; (with_reducible refine (unhide HPA).mono ?_); rintro e w2 ⟨A2, n2, c2, rfl, hM2, hb2⟩; go_loud (
               skip;
               have z2 := (hb2.block w.heap.size (by omega)).trans HZ.out;
               have g2 := (hb2.block (w.heap.size + 1) (by omega)).trans HL.out;
               obtain ⟨z0, z1, z2', f0, f1, f2⟩ := rcrown_facts z2;
               obtain ⟨y0, y1, y2, y3, y4, y5⟩ := rcrown_facts g2;
               have l2 := Nat.lt_of_lt_of_le lB hb2.size;
               have l3 : w.heap.size < w2.heap.size := by omega;
               have l4 : w.heap.size + 1 < w2.heap.size := by omega;
               have n1 : ¬ w.heap.size = w2.heap.size := by omega;
               have n2' : ¬ w.heap.size + 1 = w2.heap.size := by omega;
               have HZ2 := Lib.hid z2;
               have HG2 := Lib.hid g2;
               have HW2 := Lib.hid ((hb2.block (w.heap.size + 1 + 1) (by omega)).trans HW.out);
               have HB2 := Lib.hid (HB.out.trans (hb2.mono HB.out.size));
               clear z2 g2 hb2 hM2)))
          have hr := HRD.out
          subst hr
          exact rread_ret rfl rfl rfl rfl ((Go.heap_alloc_old _ _ (lt_heap (rset_crown HZ2.out))).trans (rset_crown HZ2.out)) rfl ⟨rfl, (below_crown HB2.out (Nat.le_refl _)).alloc (below_crown HB2.out (Nat.le_refl _)).size _⟩
    · obtain rfl : i = 2 := by omega
      have hlt2 : ¬ ((2 : Nat) : Int) < 2 := by omega
      have hrd := HR.out.trans (read_end hok)
      obtain ⟨a0, a1, a2, d0, d1, d2⟩ := rcrown_facts hL
      obtain ⟨z0, z1, z2, f0, f1, f2⟩ := rcrown_facts hZ
      rcases hbo : bestOf (pickO (l 0) (l 1)) 2 with _ | cr
      · have hsome : (bestOf (pickO (l 0) (l 1)) 2).isSome = false := by rw [hbo]; rfl
        rw [hbo] at hrd
        have HRD := Lib.hid hrd
        clear hL hW hB hbest hbo hrd hok
        go_wp2
        have hr := HRD.out
        subst hr
        exact rread_ret rfl rfl rfl rfl (rset_crown HZ.out) rfl ⟨rfl, below_crown HB.out (Nat.le_refl _)⟩
      · obtain ⟨cg, ch, cs⟩ := cr
        have hsome : (bestOf (pickO (l 0) (l 1)) 2).isSome = true := by rw [hbo]; rfl
        have hg3 : (g, hf, se) = (cg, ch, cs) := by rw [hbest, hbo]; rfl
        obtain ⟨rfl, rfl, rfl⟩ : g = cg ∧ hf = ch ∧ se = cs := by
          injection hg3 with h1 h2
          injection h2 with h2 h4
          exact ⟨h1, h2, h4⟩
        rw [hbo] at hrd
        have HRD := Lib.hid hrd
        clear hL hW hB hbest hbo hrd hok hg3
        go_wp2
        have hr := HRD.out
        subst hr
        exact rread_ret rfl rfl rfl rfl (rset_crown HZ.out) rfl ⟨rfl, below_crown HB.out (Nat.le_refl _)⟩
end Go.Proofs.Ytnojkifndcffjaa
