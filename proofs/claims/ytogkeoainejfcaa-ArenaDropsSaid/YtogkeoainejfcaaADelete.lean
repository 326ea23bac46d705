/- Contract: a parent is taken out of a row of parents. -/
import Derived.Test.YtogkeoainejfcaaAInsert
namespace Go.Proofs.Ytogkeoainejfcaa
open Go.RowKit
set_option linter.unusedSimpArgs false
set_option linter.unusedVariables false
set_option maxRecDepth 100000
theorem run_clear2 (w : World) (ty : TypeId) (g o c : Nat) (cur : Array Value) (hg : w.heap[g]? = some (.cells cur 129 (0, 0))) (hfit : o + 2 ≤ cur.size) :
    (Builtin.clear_ #[127] ty #[.slice (some ⟨g, o, none⟩) 1 c]).run Try.prog w = .ok (.tuple #[]) (w.setRow g (cur.toList.take o ++ [Value.int .u64 0, Value.int .i64 0] ++ cur.toList.drop (o + 2)).toArray) := by
  have hst := run_storeCells_at Try.prog g o 129 [Value.int .u64 0, Value.int .i64 0] 0 cur w hg (by simpa using hfit) (by intro v hv; simp at hv; rcases hv with rfl | rfl <;> rfl)
  obtain ⟨i, hi, hz, hs, _⟩ := info_parts infoPar
  have hzc : (Builtin.zeroCells (Value.cells (.agg #[.int .u64 0, .int .i64 0])) 1).toList = [Value.int .u64 0, Value.int .i64 0] := by
    unfold Builtin.zeroCells
    rw [Array.toList_map, Array.toList_range]
    rfl
  simp [Builtin.clear_, run_underlying Try.underlying127, zeroValue, typeInfo, hi, hz, hzc, hst]
theorem step_append_r {P : Program} {ops : Array Oper} {o : Oper} {a : Act} {Q : Exit → Act → World → Prop} {w : World} {K : Act → World → Prop} {E : Prop} (hg : o.guard = none) (d x : Operand) (dT sT : TypeId) (hop : o.op = Op.call { callee := Callee.builtin Builtin.append, args := #[d, x], argTypes := #[dT, sT] })
    (v u : Value) (hd : a.eval d = v) (hx : a.eval x = u) {v' : Value} {w' : World} (hr : (Builtin.append_ #[dT, sT] o.type #[v, u]).run P w = .ok v' w') (hK : K (a.put o.dst v') w') :
    if Region.wanted o (yielded ops a.tmps) = true then Oper.wp P o a w K Q else E := by
  have hw : Region.wanted o (yielded ops a.tmps) = true := by simp [Region.wanted, hg]
  rw [if_pos hw]
  unfold Oper.wp
  simp [execOp, hop, resolve, invoke, builtin, hd, hx, hr, Result.andThen]
  exact hK
theorem prow_del (l : List (Nat × Nat)) (i : Nat) : prow (l.eraseIdx i) = (prow l).take (i * 2) ++ (prow l).drop ((i + 1) * 2) := by
  rw [List.eraseIdx_eq_take_drop_succ, prow_append, prow_take, prow_drop]
theorem list_less {P R : List Value} {i n : Nat} {x : List Value} (hP : P.length = n * 2) (hR : R.take (n * 2) = P) (hi : i < n) (hRl : n * 2 ≤ R.length) :
    ∀ R1, R1 = R.take (i * 2) ++ P.drop ((i + 1) * 2) ++ R.drop (i * 2 + (P.drop ((i + 1) * 2)).length) → (R1.take ((n - 1) * 2) ++ x ++ R1.drop ((n - 1) * 2 + 2)).take ((n - 1) * 2) = P.take (i * 2) ++ P.drop ((i + 1) * 2) := by
  intro R1 h1
  have hd : (P.drop ((i + 1) * 2)).length = (n - 1 - i) * 2 := by rw [List.length_drop, hP]; omega
  have ht : R.take (i * 2) = P.take (i * 2) := by rw [← hR, List.take_take]; congr 1; omega
  have hl : (P.take (i * 2)).length = i * 2 := by rw [List.length_take]; omega
  have e1 : R1.take ((n - 1) * 2) = P.take (i * 2) ++ P.drop ((i + 1) * 2) := by
    rw [h1, ht]
    exact List.take_left' (by rw [List.length_append, hl, hd]; omega)
  rw [e1, List.append_assoc]
  exact List.take_left' (by rw [List.length_append, hl, hd]; omega)
def DelR (w : World) (base g n cap : Nat) (l : List (Nat × Nat)) (e : Ending) (w' : World) : Prop :=
  e = .returned (.slice (some ⟨g, 0, none⟩) (n - 1) cap) ∧ POwn w' base (.slice (some ⟨g, 0, none⟩) (n - 1) cap) l ∧ w.grownBy w' (some g)
set_option maxHeartbeats 4000000 in
theorem delete_mid (w : World) (base g cap : Nat) (l : List (Nat × Nat)) (i : Nat) (ho : POwn w base (.slice (some ⟨g, 0, none⟩) l.length cap) l) (hi : i < l.length) (hc : ¬ cap = i + 1) (hl : l.length ≤ 1000000000) :
    Calls Try.prog 88 #[.slice (some ⟨g, 0, none⟩) l.length cap, .int .i64 (i : Int), .int .i64 ((i : Int) + 1)] w (DelR w base g l.length cap (l.eraseIdx i)) := by
  obtain ⟨hlen, hcase⟩ := id ho
  rcases hcase with ⟨h0, _⟩ | ⟨g', cap', cur, e, hbg, hg, hnc, hcm, hcs, htake⟩
  · cases h0
  injection e with e1 _ e2
  injection e1 with e1
  injection e1 with e1 _ _
  subst e1 e2
  obtain ⟨n, hn⟩ : ∃ n, n = l.length := ⟨_, rfl⟩
  rw [← hn] at hi hl htake hlen hnc ⊢
  have hPl : (prow l).length = n * 2 := hlen
  have hcell : ∀ j u, (prow l)[j]? = some u → w.cell? ⟨g, j, none⟩ = some u := fun j u hj => by
    unfold World.cell?
    rw [hg]
    show cur[j]? = some u
    rw [← htake, List.getElem?_take] at hj
    split at hj
    · simpa using hj
    · cases hj
  have hadd : ∀ b o j : Nat, (⟨b, o, none⟩ : Addr).add j = ⟨b, o + j, none⟩ := fun b o j => by unfold Addr.add; split <;> simp_all
  obtain ⟨i0, hi0, hz0, hs0, hb0⟩ := info_parts infoPar
  have hdl : ((prow l).drop ((i + 1) * 2)).length = (n - 1 - i) * 2 := by rw [List.length_drop, hPl]; omega
  obtain ⟨R1, hR1⟩ : ∃ R1 : List Value, R1 = cur.toList.take (i * 2) ++ (prow l).drop ((i + 1) * 2) ++ cur.toList.drop (i * 2 + ((prow l).drop ((i + 1) * 2)).length) := ⟨_, rfl⟩
  have hR1l : R1.length = cap * 2 := by
    rw [hR1, List.length_append, List.length_append, List.length_take, hdl, List.length_drop, Array.length_toList]
    omega
  obtain ⟨R2, hR2⟩ : ∃ R2 : List Value, R2 = R1.take ((n - 1) * 2) ++ [Value.int .u64 0, Value.int .i64 0] ++ R1.drop ((n - 1) * 2 + 2) := ⟨_, rfl⟩
  have hR2l : R2.length = cap * 2 := by
    rw [hR2, List.length_append, List.length_append, List.length_take, List.length_drop, hR1l]
    show min ((n - 1) * 2) (cap * 2) + 2 + _ = _
    omega
  have hfin := list_less (x := [Value.int .u64 0, Value.int .i64 0]) hPl htake hi (by rw [Array.length_toList]; omega) R1 hR1
  have hap : ∀ (W : World), W.heap[g]? = w.heap[g]? → ∀ ty c, (Builtin.append_ #[127, 127] ty #[.slice (some ⟨g, 0, none⟩) i cap, .slice (some ⟨g, (i + 1) * 2, none⟩) (n - (i + 1)) c]).run Try.prog W = .ok (.slice (some ⟨g, 0, none⟩) (n - 1) cap) (W.setRow g R1.toArray) := fun W hW ty c => by
    have h := run_append_room (P := Try.prog) (w := W) 127 ty 129 i0 Try.underlying127 hi0 g i cap cur (hW.trans hg) ⟨g, (i + 1) * 2, none⟩ (n - (i + 1)) c ((prow l).drop ((i + 1) * 2)) (by rw [hs0, hdl]; omega) (fun j u hj => by
      rw [hadd, World.cell?_of_block (w := w) (w' := W) (a := ⟨g, (i + 1) * 2 + j, none⟩) hW]
      exact hcell _ _ (by rwa [List.getElem?_drop] at hj)) (fun v hv => prow_one v (List.mem_of_mem_drop hv)) (by omega) (by rw [hs0, hdl]; omega)
    rw [hs0, ← hR1, show i + (n - (i + 1)) = n - 1 by omega] at h
    exact h
  have hcle : ∀ (W : World), W.heap[g]? = some (.cells R1.toArray 129 (0, 0)) → ∀ ty c, (Builtin.clear_ #[127] ty #[.slice (some ⟨g, (n - 1) * 2, none⟩) 1 c]).run Try.prog W = .ok (.tuple #[]) (W.setRow g R2.toArray) := fun W hW ty c => by
    have h := run_clear2 W ty g ((n - 1) * 2) c R1.toArray hW (by rw [List.size_toArray, hR1l]; omega)
    have e2 : (R1.toArray.toList.take ((n - 1) * 2) ++ [Value.int .u64 0, Value.int .i64 0] ++ R1.toArray.toList.drop ((n - 1) * 2 + 2)) = R2 := by rw [hR2]
    rw [e2] at h
    exact h
  have hout : ∀ (W : World), W.heap[g]? = some (.cells R2.toArray 129 (0, 0)) → POwn W base (.slice (some ⟨g, 0, none⟩) (n - 1) cap) (l.eraseIdx i) := fun W hW => by
    have hll : (l.eraseIdx i).length = n - 1 := by rw [List.length_eraseIdx, if_pos (by omega), ← hn]
    unfold POwn
    rw [hll]
    refine ⟨by rw [prow_length, hll], .inr ⟨g, cap, R2.toArray, rfl, hbg, hW, by omega, hcm, by rw [List.size_toArray, hR2l], ?_⟩⟩
    show R2.take ((n - 1) * 2) = _
    rw [hR2, hfin, prow_del l i]
  have hz2 : ¬ ((i : Int) = (i : Int) + 1) := by omega
  have hb1 : (0 : Int) ≤ (i : Int) + 1 := by omega
  have htn : ((i : Int) + 1).toNat = i + 1 := by omega
  have hb3 : (i : Int) ≤ (n : Int) := by omega
  have hb4 : ¬ (cap = i) := by omega
  have hb5 : (i : Int) + 1 ≤ (n : Int) := by omega
  have hb6 : (i : Int) ≤ (i : Int) + 1 := by omega
  have hb7 : i ≤ cap := by omega
  have hb8 : (i : Int) ≤ (cap : Int) := by omega
  have hb9 : (n : Int) ≤ (cap : Int) := by omega
  have hb10 : ¬ (cap = n - 1) := by omega
  have hb11 : ((n - 1 : Nat) : Int) ≤ (n : Int) := by omega
  have hb12 : n - (n - 1) = 1 := by omega
  have HG := Lib.hid hg
  have HAP := Lib.hid hap
  have HCL := Lib.hid hcle
  have HOUT := Lib.hid hout
  clear hap hcle hout hfin hR1 hR2 hR1l hR2l hdl hcell hPl hg htake hlen ho hcs hn hadd hi0 hz0 hs0 hb0
  go_enter Try.func88, Try.ntmps88
  go_wp2_with fail
  go_region_law (refine step_append_r rfl (.tmp 22) (.tmp 25) 127 127 rfl (.slice (some ⟨g, 0, none⟩) i cap) (.slice (some ⟨g, (i + 1) * 2, none⟩) (n - (i + 1)) (cap - (i + 1))) (by simp [Act.eval, Act.put]) (by simp [Act.eval, Act.put]) (HAP.out w.drew rfl 127 (cap - (i + 1))) ?_)
  all_goals
    have h2 := HCL.out (w.drew.setRow g R1.toArray) (setRow_heap _ _ _ _ _ _ HG.out) 0 (cap - (n - 1))
    go_wp2_with fail
    go_ret
    exact ⟨rfl, HOUT.out _ (setRow_heap _ _ _ _ _ _ (setRow_heap _ _ _ _ _ _ HG.out)), ⟨rfl, rfl, rfl, by simp [World.setRow], fun j hj hjg => ((setRow_other _ _ _ _ (fun e => hjg (by rw [e]))).trans (setRow_other _ _ _ _ (fun e => hjg (by rw [e]))))⟩⟩
set_option maxHeartbeats 4000000 in
theorem delete_last (w : World) (base g : Nat) (l : List (Nat × Nat)) (i : Nat) (ho : POwn w base (.slice (some ⟨g, 0, none⟩) l.length (i + 1)) l) (hi : i + 1 = l.length) (hl : l.length ≤ 1000000000) :
    Calls Try.prog 88 #[.slice (some ⟨g, 0, none⟩) (i + 1) (i + 1), .int .i64 (i : Int), .int .i64 ((i : Int) + 1)] w (DelR w base g (i + 1) (i + 1) (l.eraseIdx i)) := by
  obtain ⟨hlen, hcase⟩ := id ho
  rcases hcase with ⟨h0, _⟩ | ⟨g', cap', cur, e, hbg, hg, hnc, hcm, hcs, htake⟩
  · cases h0
  injection e with e1 _ e2
  injection e1 with e1
  injection e1 with e1 _ _
  subst e1 e2
  rw [← hi] at hl htake hlen hnc
  have hPl : (prow l).length = (i + 1) * 2 := hlen
  obtain ⟨i0, hi0, hz0, hs0, hb0⟩ := info_parts infoPar
  obtain ⟨R2, hR2⟩ : ∃ R2 : List Value, R2 = cur.toList.take (i * 2) ++ [Value.int .u64 0, Value.int .i64 0] ++ cur.toList.drop (i * 2 + 2) := ⟨_, rfl⟩
  have hR2l : R2.length = (i + 1) * 2 := by
    rw [hR2, List.length_append, List.length_append, List.length_take, List.length_drop, Array.length_toList]
    show min (i * 2) _ + 2 + _ = _
    omega
  have hap : ∀ (W : World), W.heap[g]? = w.heap[g]? → ∀ ty c, (Builtin.append_ #[127, 127] ty #[.slice (some ⟨g, 0, none⟩) i (i + 1), .slice (some ⟨g, 0, none⟩) 0 c]).run Try.prog W = .ok (.slice (some ⟨g, 0, none⟩) i (i + 1)) W := fun W hW ty c => by
    have h := run_append_room (P := Try.prog) (w := W) 127 ty 129 i0 Try.underlying127 hi0 g i (i + 1) cur (hW.trans hg) ⟨g, 0, none⟩ 0 c [] (by simp) (fun j u hj => by simp at hj) (by simp) (by omega) (by rw [hs0]; simp; omega)
    rw [List.append_nil, List.length_nil, Nat.add_zero, Nat.add_zero (i * i0.size), List.take_append_drop, Array.toArray_toList, setRow_self W g cur 129 (0, 0) (hW.trans hg)] at h
    exact h
  have hcle : ∀ (W : World), W.heap[g]? = w.heap[g]? → ∀ ty c, (Builtin.clear_ #[127] ty #[.slice (some ⟨g, i * 2, none⟩) 1 c]).run Try.prog W = .ok (.tuple #[]) (W.setRow g R2.toArray) := fun W hW ty c => by
    have h := run_clear2 W ty g (i * 2) c cur (hW.trans hg) (by omega)
    rw [← hR2] at h
    exact h
  have hout : ∀ (W : World), W.heap[g]? = some (.cells R2.toArray 129 (0, 0)) → POwn W base (.slice (some ⟨g, 0, none⟩) i (i + 1)) (l.eraseIdx i) := fun W hW => by
    have hll : (l.eraseIdx i).length = i := by rw [List.length_eraseIdx, if_pos (by omega), ← hi]; rfl
    unfold POwn
    rw [hll]
    refine ⟨by rw [prow_length, hll], .inr ⟨g, i + 1, R2.toArray, rfl, hbg, hW, by omega, hcm, by rw [List.size_toArray, hR2l], ?_⟩⟩
    show R2.take (i * 2) = _
    have e1 : cur.toList.take (i * 2) = (prow l).take (i * 2) := by rw [← htake, List.take_take]; congr 1; omega
    rw [hR2, e1, List.append_assoc, List.take_left' (by rw [List.length_take]; omega), prow_del l i, List.drop_of_length_le (by omega), List.append_nil]
  have hz2 : ¬ ((i : Int) = (i : Int) + 1) := by omega
  have hb1 : (0 : Int) ≤ (i : Int) + 1 := by omega
  have htn : ((i : Int) + 1).toNat = i + 1 := by omega
  have hb4 : ¬ (i + 1 = i) := by omega
  have hb6 : (i : Int) ≤ (i : Int) + 1 := by omega
  have hb12 : i + 1 - i = 1 := by omega
  have hgr : ∀ q : Nat, w.grownBy ((w.drewN q).setRow g R2.toArray) (some g) := fun q => ⟨rfl, rfl, rfl, by simp [World.setRow, World.drewN], fun j hj hjg => (setRow_other _ _ _ _ (fun e => hjg (by rw [e])))⟩
  have HG := Lib.hid hg
  have HAP := Lib.hid hap
  have HCL := Lib.hid hcle
  have HOUT := Lib.hid hout
  have HGR := Lib.hid hgr
  have h2 := hcle w.drew rfl 0 1
  clear hap hcle hout hR2 hR2l hPl hg htake hlen ho hcs hi hi0 hz0 hs0 hb0 hgr hnc
  go_enter Try.func88, Try.ntmps88
  go_wp2_with fail
  go_region_law (refine step_append_r rfl (.tmp 22) (.tmp 25) 127 127 rfl (.slice (some ⟨g, 0, none⟩) i (i + 1)) (.slice (some ⟨g, 0, none⟩) 0 0) (by simp [Act.eval, Act.put]) (by simp [Act.eval, Act.put]) (HAP.out w.drew rfl 127 0) ?_)
  all_goals
    go_wp2_with fail
    go_ret
    exact ⟨rfl, HOUT.out _ (setRow_heap _ _ _ _ _ _ HG.out), HGR.out 1⟩
theorem delete_any (w : World) (base g cap : Nat) (l : List (Nat × Nat)) (i : Nat) (ho : POwn w base (.slice (some ⟨g, 0, none⟩) l.length cap) l) (hi : i < l.length) (hl : l.length ≤ 1000000000) :
    Calls Try.prog 88 #[.slice (some ⟨g, 0, none⟩) l.length cap, .int .i64 (i : Int), .int .i64 ((i : Int) + 1)] w (DelR w base g l.length cap (l.eraseIdx i)) := by
  by_cases hc : cap = i + 1
  · have h1 : i + 1 = l.length := by
      obtain ⟨_, h0⟩ := id ho
      rcases h0 with ⟨h0, _⟩ | ⟨g', cap', cur, e, _, _, hnc, _⟩
      · cases h0
      · injection e with _ _ e2
        omega
    subst hc
    have h := delete_last w base g l i ho h1 hl
    rw [h1] at h ⊢
    exact h
  · exact delete_mid w base g cap l i ho hi hc hl
end Go.Proofs.Ytogkeoainejfcaa
