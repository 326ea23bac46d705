/- ADelete, APar, AAdd: joined by program (tools/merge.py). -/
import Derived.Test.YtecbaceinifjiaaGreatDoorZ2
namespace Go.Proofs.YtecbaceinifjiaaGreatDoor
open Go.RowKit
set_option linter.unusedSimpArgs false
set_option linter.unusedVariables false
set_option maxRecDepth 100000
theorem run_clear2 (w : World) (ty : TypeId) (g o c : Nat) (cur : Array Value) (hg : w.heap[g]? = some (.cells cur 137 (0, 0))) (hfit : o + 2 ≤ cur.size) :
    (Builtin.clear_ #[133] ty #[.slice (some ⟨g, o, none⟩) 1 c]).run Tryz.prog w = .ok (.tuple #[]) (w.setRow g (cur.toList.take o ++ [Value.int .u64 0, Value.int .i64 0] ++ cur.toList.drop (o + 2)).toArray) := by
  have hst := run_storeCells_at Tryz.prog g o 137 [Value.int .u64 0, Value.int .i64 0] 0 cur w hg (by simpa using hfit) (by intro v hv; simp at hv; rcases hv with rfl | rfl <;> rfl)
  obtain ⟨i, hi, hz, hs, _⟩ := info_parts infoPar
  have hzc : (Builtin.zeroCells (Value.cells (.agg #[.int .u64 0, .int .i64 0])) 1).toList = [Value.int .u64 0, Value.int .i64 0] := by
    unfold Builtin.zeroCells
    rw [Array.toList_map, Array.toList_range]
    rfl
  simp [Builtin.clear_, run_underlying Tryz.underlying133, zeroValue, typeInfo, hi, hz, hzc, hst]
theorem step_append_r {P : Program} {ops : Array Oper} {o : Oper} {a : Act} {Q : Exit → Act → World → Prop} {w : World} {K : Act → World → Prop} {E : Prop} (hg : o.guard = none) (d x : Operand) (dT sT : TypeId) (hop : o.op = Op.call { callee := Callee.builtin Builtin.append, args := #[d, x], argTypes := #[dT, sT] })
    (v u : Value) (hd : a.eval d = v) (hx : a.eval x = u) {v' : Value} {w' : World} (hr : (Builtin.append_ #[dT, sT] o.type #[v, u]).run P w = .ok v' w') (hK : K (a.put o.dst v') w') :
    if Region.wanted o (yielded ops a.tmps) = true then Oper.wp P o a w K Q else E := by
  have hw : Region.wanted o (yielded ops a.tmps) = true := by simp [Region.wanted, hg]
  rw [if_pos hw]
  unfold Oper.wp
  simp [execOp, hop, resolve, invoke, builtin, hd, hx, hr, Result.andThen]
  exact hK
theorem prow_del (l : List (Nat × Nat)) (i : Nat) : prow (l.eraseIdx i) = (prow l).take (i * 2) ++ (prow l).drop ((i + 1) * 2) := by
  rw [List.eraseIdx_eq_take_drop_succ, prow_append, prow_take, prow_drop]
theorem list_less {P R : List Value} {i n : Nat} {x : List Value} (hP : P.length = n * 2) (hR : R.take (n * 2) = P) (hi : i < n) (hRl : n * 2 ≤ R.length) :
    ∀ R1, R1 = R.take (i * 2) ++ P.drop ((i + 1) * 2) ++ R.drop (i * 2 + (P.drop ((i + 1) * 2)).length) → (R1.take ((n - 1) * 2) ++ x ++ R1.drop ((n - 1) * 2 + 2)).take ((n - 1) * 2) = P.take (i * 2) ++ P.drop ((i + 1) * 2) := by
  intro R1 h1
  have hd : (P.drop ((i + 1) * 2)).length = (n - 1 - i) * 2 := by rw [List.length_drop, hP]; omega
  have ht : R.take (i * 2) = P.take (i * 2) := by rw [← hR, List.take_take]; congr 1; omega
  have hl : (P.take (i * 2)).length = i * 2 := by rw [List.length_take]; omega
  have e1 : R1.take ((n - 1) * 2) = P.take (i * 2) ++ P.drop ((i + 1) * 2) := by
    rw [h1, ht]
    exact List.take_left' (by rw [List.length_append, hl, hd]; omega)
  rw [e1, List.append_assoc]
  exact List.take_left' (by rw [List.length_append, hl, hd]; omega)
def DelR (w : World) (base g n cap : Nat) (l : List (Nat × Nat)) (e : Ending) (w' : World) : Prop :=
  e = .returned (.slice (some ⟨g, 0, none⟩) (n - 1) cap) ∧ POwn w' base (.slice (some ⟨g, 0, none⟩) (n - 1) cap) l ∧ w.grownBy w' (some g)
set_option maxHeartbeats 4000000 in
theorem delete_mid (w : World) (base g cap : Nat) (l : List (Nat × Nat)) (i : Nat) (ho : POwn w base (.slice (some ⟨g, 0, none⟩) l.length cap) l) (hi : i < l.length) (hc : ¬ cap = i + 1) (hl : l.length ≤ 1000000000) :
    Calls Tryz.prog 109 #[.slice (some ⟨g, 0, none⟩) l.length cap, .int .i64 (i : Int), .int .i64 ((i : Int) + 1)] w (DelR w base g l.length cap (l.eraseIdx i)) := by
  obtain ⟨hlen, hcase⟩ := id ho
  rcases hcase with ⟨h0, _⟩ | ⟨g', cap', cur, e, hbg, hg, hnc, hcm, hcs, htake⟩
  · cases h0
  injection e with e1 _ e2
  injection e1 with e1
  injection e1 with e1 _ _
  subst e1 e2
  obtain ⟨n, hn⟩ : ∃ n, n = l.length := ⟨_, rfl⟩
  rw [← hn] at hi hl htake hlen hnc ⊢
  have hPl : (prow l).length = n * 2 := hlen
  have hcell : ∀ j u, (prow l)[j]? = some u → w.cell? ⟨g, j, none⟩ = some u := fun j u hj => by
    unfold World.cell?
    rw [hg]
    show cur[j]? = some u
    rw [← htake, List.getElem?_take] at hj
    split at hj
    · simpa using hj
    · cases hj
  have hadd : ∀ b o j : Nat, (⟨b, o, none⟩ : Addr).add j = ⟨b, o + j, none⟩ := fun b o j => by unfold Addr.add; split <;> simp_all
  obtain ⟨i0, hi0, hz0, hs0, hb0⟩ := info_parts infoPar
  have hdl : ((prow l).drop ((i + 1) * 2)).length = (n - 1 - i) * 2 := by rw [List.length_drop, hPl]; omega
  obtain ⟨R1, hR1⟩ : ∃ R1 : List Value, R1 = cur.toList.take (i * 2) ++ (prow l).drop ((i + 1) * 2) ++ cur.toList.drop (i * 2 + ((prow l).drop ((i + 1) * 2)).length) := ⟨_, rfl⟩
  have hR1l : R1.length = cap * 2 := by
    rw [hR1, List.length_append, List.length_append, List.length_take, hdl, List.length_drop, Array.length_toList]
    omega
  obtain ⟨R2, hR2⟩ : ∃ R2 : List Value, R2 = R1.take ((n - 1) * 2) ++ [Value.int .u64 0, Value.int .i64 0] ++ R1.drop ((n - 1) * 2 + 2) := ⟨_, rfl⟩
  have hR2l : R2.length = cap * 2 := by
    rw [hR2, List.length_append, List.length_append, List.length_take, List.length_drop, hR1l]
    show min ((n - 1) * 2) (cap * 2) + 2 + _ = _
    omega
  have hfin := list_less (x := [Value.int .u64 0, Value.int .i64 0]) hPl htake hi (by rw [Array.length_toList]; omega) R1 hR1
  have hap : ∀ (W : World), W.heap[g]? = w.heap[g]? → ∀ ty c, (Builtin.append_ #[133, 133] ty #[.slice (some ⟨g, 0, none⟩) i cap, .slice (some ⟨g, (i + 1) * 2, none⟩) (n - (i + 1)) c]).run Tryz.prog W = .ok (.slice (some ⟨g, 0, none⟩) (n - 1) cap) (W.setRow g R1.toArray) := fun W hW ty c => by
    have h := run_append_room (P := Tryz.prog) (w := W) 133 ty 137 i0 Tryz.underlying133 hi0 g i cap cur (hW.trans hg) ⟨g, (i + 1) * 2, none⟩ (n - (i + 1)) c ((prow l).drop ((i + 1) * 2)) (by rw [hs0, hdl]; omega) (fun j u hj => by
      rw [hadd, World.cell?_of_block (w := w) (w' := W) (a := ⟨g, (i + 1) * 2 + j, none⟩) hW]
      exact hcell _ _ (by rwa [List.getElem?_drop] at hj)) (fun v hv => prow_one v (List.mem_of_mem_drop hv)) (by omega) (by rw [hs0, hdl]; omega)
    rw [hs0, ← hR1, show i + (n - (i + 1)) = n - 1 by omega] at h
    exact h
  have hcle : ∀ (W : World), W.heap[g]? = some (.cells R1.toArray 137 (0, 0)) → ∀ ty c, (Builtin.clear_ #[133] ty #[.slice (some ⟨g, (n - 1) * 2, none⟩) 1 c]).run Tryz.prog W = .ok (.tuple #[]) (W.setRow g R2.toArray) := fun W hW ty c => by
    have h := run_clear2 W ty g ((n - 1) * 2) c R1.toArray hW (by rw [List.size_toArray, hR1l]; omega)
    have e2 : (R1.toArray.toList.take ((n - 1) * 2) ++ [Value.int .u64 0, Value.int .i64 0] ++ R1.toArray.toList.drop ((n - 1) * 2 + 2)) = R2 := by rw [hR2]
    rw [e2] at h
    exact h
  have hout : ∀ (W : World), W.heap[g]? = some (.cells R2.toArray 137 (0, 0)) → POwn W base (.slice (some ⟨g, 0, none⟩) (n - 1) cap) (l.eraseIdx i) := fun W hW => by
    have hll : (l.eraseIdx i).length = n - 1 := by rw [List.length_eraseIdx, if_pos (by omega), ← hn]
    unfold POwn
    rw [hll]
    refine ⟨by rw [prow_length, hll], .inr ⟨g, cap, R2.toArray, rfl, hbg, hW, by omega, hcm, by rw [List.size_toArray, hR2l], ?_⟩⟩
    show R2.take ((n - 1) * 2) = _
    rw [hR2, hfin, prow_del l i]
  have hz2 : ¬ ((i : Int) = (i : Int) + 1) := by omega
  have hb1 : (0 : Int) ≤ (i : Int) + 1 := by omega
  have htn : ((i : Int) + 1).toNat = i + 1 := by omega
  have hb3 : (i : Int) ≤ (n : Int) := by omega
  have hb4 : ¬ (cap = i) := by omega
  have hb5 : (i : Int) + 1 ≤ (n : Int) := by omega
  have hb6 : (i : Int) ≤ (i : Int) + 1 := by omega
  have hb7 : i ≤ cap := by omega
  have hb8 : (i : Int) ≤ (cap : Int) := by omega
  have hb9 : (n : Int) ≤ (cap : Int) := by omega
  have hb10 : ¬ (cap = n - 1) := by omega
  have hb11 : ((n - 1 : Nat) : Int) ≤ (n : Int) := by omega
  have hb12 : n - (n - 1) = 1 := by omega
  have HG := Lib.hid hg
  have HAP := Lib.hid hap
  have HCL := Lib.hid hcle
  have HOUT := Lib.hid hout
  clear hap hcle hout hfin hR1 hR2 hR1l hR2l hdl hcell hPl hg htake hlen ho hcs hn hadd hi0 hz0 hs0 hb0
  go_enter Tryz.func109, Tryz.ntmps109
  go_wp2_with fail
  go_region_law (refine step_append_r rfl (.tmp 22) (.tmp 25) 133 133 rfl (.slice (some ⟨g, 0, none⟩) i cap) (.slice (some ⟨g, (i + 1) * 2, none⟩) (n - (i + 1)) (cap - (i + 1))) (by simp [Act.eval, Act.put]) (by simp [Act.eval, Act.put]) (HAP.out w.drew rfl 133 (cap - (i + 1))) ?_)
  all_goals
    have h2 := HCL.out (w.drew.setRow g R1.toArray) (setRow_heap _ _ _ _ _ _ HG.out) 0 (cap - (n - 1))
    go_wp2_with fail
    go_ret
    exact ⟨rfl, HOUT.out _ (setRow_heap _ _ _ _ _ _ (setRow_heap _ _ _ _ _ _ HG.out)), ⟨rfl, rfl, rfl, by simp [World.setRow], fun j hj hjg => ((setRow_other _ _ _ _ (fun e => hjg (by rw [e]))).trans (setRow_other _ _ _ _ (fun e => hjg (by rw [e]))))⟩⟩
set_option maxHeartbeats 4000000 in
theorem delete_last (w : World) (base g : Nat) (l : List (Nat × Nat)) (i : Nat) (ho : POwn w base (.slice (some ⟨g, 0, none⟩) l.length (i + 1)) l) (hi : i + 1 = l.length) (hl : l.length ≤ 1000000000) :
    Calls Tryz.prog 109 #[.slice (some ⟨g, 0, none⟩) (i + 1) (i + 1), .int .i64 (i : Int), .int .i64 ((i : Int) + 1)] w (DelR w base g (i + 1) (i + 1) (l.eraseIdx i)) := by
  obtain ⟨hlen, hcase⟩ := id ho
  rcases hcase with ⟨h0, _⟩ | ⟨g', cap', cur, e, hbg, hg, hnc, hcm, hcs, htake⟩
  · cases h0
  injection e with e1 _ e2
  injection e1 with e1
  injection e1 with e1 _ _
  subst e1 e2
  rw [← hi] at hl htake hlen hnc
  have hPl : (prow l).length = (i + 1) * 2 := hlen
  obtain ⟨i0, hi0, hz0, hs0, hb0⟩ := info_parts infoPar
  obtain ⟨R2, hR2⟩ : ∃ R2 : List Value, R2 = cur.toList.take (i * 2) ++ [Value.int .u64 0, Value.int .i64 0] ++ cur.toList.drop (i * 2 + 2) := ⟨_, rfl⟩
  have hR2l : R2.length = (i + 1) * 2 := by
    rw [hR2, List.length_append, List.length_append, List.length_take, List.length_drop, Array.length_toList]
    show min (i * 2) _ + 2 + _ = _
    omega
  have hap : ∀ (W : World), W.heap[g]? = w.heap[g]? → ∀ ty c, (Builtin.append_ #[133, 133] ty #[.slice (some ⟨g, 0, none⟩) i (i + 1), .slice (some ⟨g, 0, none⟩) 0 c]).run Tryz.prog W = .ok (.slice (some ⟨g, 0, none⟩) i (i + 1)) W := fun W hW ty c => by
    have h := run_append_room (P := Tryz.prog) (w := W) 133 ty 137 i0 Tryz.underlying133 hi0 g i (i + 1) cur (hW.trans hg) ⟨g, 0, none⟩ 0 c [] (by simp) (fun j u hj => by simp at hj) (by simp) (by omega) (by rw [hs0]; simp; omega)
    rw [List.append_nil, List.length_nil, Nat.add_zero, Nat.add_zero (i * i0.size), List.take_append_drop, Array.toArray_toList, setRow_self W g cur 137 (0, 0) (hW.trans hg)] at h
    exact h
  have hcle : ∀ (W : World), W.heap[g]? = w.heap[g]? → ∀ ty c, (Builtin.clear_ #[133] ty #[.slice (some ⟨g, i * 2, none⟩) 1 c]).run Tryz.prog W = .ok (.tuple #[]) (W.setRow g R2.toArray) := fun W hW ty c => by
    have h := run_clear2 W ty g (i * 2) c cur (hW.trans hg) (by omega)
    rw [← hR2] at h
    exact h
  have hout : ∀ (W : World), W.heap[g]? = some (.cells R2.toArray 137 (0, 0)) → POwn W base (.slice (some ⟨g, 0, none⟩) i (i + 1)) (l.eraseIdx i) := fun W hW => by
    have hll : (l.eraseIdx i).length = i := by rw [List.length_eraseIdx, if_pos (by omega), ← hi]; rfl
    unfold POwn
    rw [hll]
    refine ⟨by rw [prow_length, hll], .inr ⟨g, i + 1, R2.toArray, rfl, hbg, hW, by omega, hcm, by rw [List.size_toArray, hR2l], ?_⟩⟩
    show R2.take (i * 2) = _
    have e1 : cur.toList.take (i * 2) = (prow l).take (i * 2) := by rw [← htake, List.take_take]; congr 1; omega
    rw [hR2, e1, List.append_assoc, List.take_left' (by rw [List.length_take]; omega), prow_del l i, List.drop_of_length_le (by omega), List.append_nil]
  have hz2 : ¬ ((i : Int) = (i : Int) + 1) := by omega
  have hb1 : (0 : Int) ≤ (i : Int) + 1 := by omega
  have htn : ((i : Int) + 1).toNat = i + 1 := by omega
  have hb4 : ¬ (i + 1 = i) := by omega
  have hb6 : (i : Int) ≤ (i : Int) + 1 := by omega
  have hb12 : i + 1 - i = 1 := by omega
  have hgr : ∀ q : Nat, w.grownBy ((w.drewN q).setRow g R2.toArray) (some g) := fun q => ⟨rfl, rfl, rfl, by simp [World.setRow, World.drewN], fun j hj hjg => (setRow_other _ _ _ _ (fun e => hjg (by rw [e])))⟩
  have HG := Lib.hid hg
  have HAP := Lib.hid hap
  have HCL := Lib.hid hcle
  have HOUT := Lib.hid hout
  have HGR := Lib.hid hgr
  have h2 := hcle w.drew rfl 0 1
  clear hap hcle hout hR2 hR2l hPl hg htake hlen ho hcs hi hi0 hz0 hs0 hb0 hgr hnc
  go_enter Tryz.func109, Tryz.ntmps109
  go_wp2_with fail
  go_region_law (refine step_append_r rfl (.tmp 22) (.tmp 25) 133 133 rfl (.slice (some ⟨g, 0, none⟩) i (i + 1)) (.slice (some ⟨g, 0, none⟩) 0 0) (by simp [Act.eval, Act.put]) (by simp [Act.eval, Act.put]) (HAP.out w.drew rfl 133 0) ?_)
  all_goals
    go_wp2_with fail
    go_ret
    exact ⟨rfl, HOUT.out _ (setRow_heap _ _ _ _ _ _ HG.out), HGR.out 1⟩
theorem delete_any (w : World) (base g cap : Nat) (l : List (Nat × Nat)) (i : Nat) (ho : POwn w base (.slice (some ⟨g, 0, none⟩) l.length cap) l) (hi : i < l.length) (hl : l.length ≤ 1000000000) :
    Calls Tryz.prog 109 #[.slice (some ⟨g, 0, none⟩) l.length cap, .int .i64 (i : Int), .int .i64 ((i : Int) + 1)] w (DelR w base g l.length cap (l.eraseIdx i)) := by
  by_cases hc : cap = i + 1
  · have h1 : i + 1 = l.length := by
      obtain ⟨_, h0⟩ := id ho
      rcases h0 with ⟨h0, _⟩ | ⟨g', cap', cur, e, _, _, hnc, _⟩
      · cases h0
      · injection e with _ _ e2
        omega
    subst hc
    have h := delete_last w base g l i ho h1 hl
    rw [h1] at h ⊢
    exact h
  · exact delete_mid w base g cap l i ho hi hc hl
end Go.Proofs.YtecbaceinifjiaaGreatDoor
namespace Go.Proofs.YtecbaceinifjiaaGreatDoor
open Go.RowKit
set_option linter.unusedSimpArgs false
set_option linter.unusedVariables false
set_option maxRecDepth 100000
/-- Nothing but these blocks has changed. -/
structure Touch (w w' : World) (S : Nat → Prop) : Prop where
  os : w'.os = w.os
  tape : w'.tape = w.tape
  output : w'.output = w.output
  size : w.heap.size ≤ w'.heap.size
  block : ∀ j, j < w.heap.size → ¬ S j → w'.heap[j]? = w.heap[j]?
theorem Touch.refl (w : World) (S : Nat → Prop) : Touch w w S := ⟨rfl, rfl, rfl, Nat.le_refl _, fun _ _ _ => rfl⟩
theorem Touch.trans {a b c : World} {S S' : Nat → Prop} (h : Touch a b S) (k : Touch b c S') (hS : ∀ j, S' j → S j ∨ a.heap.size ≤ j) : Touch a c S :=
  ⟨k.os.trans h.os, k.tape.trans h.tape, k.output.trans h.output, Nat.le_trans h.size k.size, fun j hj hn => (k.block j (Nat.lt_of_lt_of_le hj h.size) (fun e => by rcases hS j e with e | e; exact hn e; omega)).trans (h.block j hj hn)⟩
theorem Touch.of_below {w w' : World} (h : Below w.heap.size w w') (S : Nat → Prop) : Touch w w' S := ⟨h.os, h.tape, h.output, h.size, fun j hj _ => h.block j hj⟩
theorem Touch.of_grown {w w' : World} {row : Option Nat} (h : w.grownBy w' row) {S : Nat → Prop} (hS : ∀ j, row = some j → S j) : Touch w w' S := ⟨h.os, h.tape, h.output, h.size, fun j hj hn => h.block j hj fun e => hn (hS j e.symm)⟩
theorem Touch.more {w w' : World} {S S' : Nat → Prop} (h : Touch w w' S) (hS : ∀ j, S j → S' j) : Touch w w' S' := ⟨h.os, h.tape, h.output, h.size, fun j hj hn => h.block j hj fun e => hn (hS j e)⟩
theorem Touch.below {w w' : World} {S : Nat → Prop} (h : Touch w w' S) {B : Nat} (hB : B ≤ w.heap.size) (hS : ∀ j, S j → B ≤ j) : Below B w w' := ⟨h.os, h.tape, h.output, h.size, fun j hj => h.block j (by omega) fun e => by have := hS j e; omega⟩
theorem Touch.after {a b c : World} {S : Nat → Prop} (h : Touch a b S) (k : Below b.heap.size b c) : Touch a c S := h.trans (.of_below k (fun _ => False)) fun _ e => e.elim
theorem Touch.turned {w w' : World} {b : Nat} (h : w.mapTurned w' b) {S : Nat → Prop} (hS : S b) : Touch w w' S := .of_grown h.grown fun j e => by injection e with e; rw [← e]; exact hS
theorem Touch.setCell {a b : World} {S : Nat → Prop} (h : Touch a b S) (p : Addr) (v : Value) (hp : S p.block ∨ a.heap.size ≤ p.block) : Touch a (b.setCell p v) S :=
  ⟨h.os, h.tape, h.output, Nat.le_trans h.size (by simp [World.setCell]), fun j hj hn => (heap_setCell_other _ p j _ (fun e => by rcases hp with e2 | e2; exact hn (by rw [e]; exact e2); omega)).trans (h.block j hj hn)⟩
/-- The rows of all children, with their slices. -/
abbrev PF := List (Nat × (Value × List (Nat × Nat)))
def OwnsF (F : PF) (j : Nat) : Prop := ∃ k x, getL F k = some x ∧ x.1.ownBlock = some j
structure ParW (w : World) (base gp : Nat) (F : PF) : Prop where
  map : MapV w gp (mapL Prod.fst F)
  own : ∀ k x, getL F k = some x → POwn w base x.1 x.2 ∧ x.2 ≠ [] ∧ Rise x.2
  apart : ∀ k k' x x', getL F k = some x → getL F k' = some x' → k ≠ k' → x.1.ownBlock ≠ x'.1.ownBlock
theorem ParW.rise {w : World} {base gp : Nat} {F : PF} (h : ParW w base gp F) : Rise F := by
  have h1 := h.map.rise
  unfold Rise mapL at h1
  rw [List.pairwise_map] at h1
  exact h1
theorem ParW.made (w : World) (base : Nat) : ParW (w.alloc (.map #[] 0)) base w.heap.size [] := ⟨MapV.made w, fun k x h => (by cases h), fun k k' x x' h => (by cases h)⟩
theorem ParW.at_ {w w' : World} {base gp : Nat} {F : PF} (h : ParW w base gp F) (hm : w'.heap[gp]? = w.heap[gp]?) (hk : ∀ j, OwnsF F j → w'.heap[j]? = w.heap[j]?) : ParW w' base gp F :=
  ⟨h.map.at_ hm, fun k x hx => ⟨(h.own k x hx).1.at_ fun g hg => hk g ⟨k, x, hx, hg⟩, (h.own k x hx).2⟩, h.apart⟩
theorem OwnsF.lt {w : World} {base gp : Nat} {F : PF} (h : ParW w base gp F) {j : Nat} (ho : OwnsF F j) : base ≤ j ∧ j < w.heap.size := by
  obtain ⟨k, x, hx, hg⟩ := ho
  exact (h.own k x hx).1.block hg
theorem OwnsF.ne {w : World} {base gp : Nat} {F : PF} (h : ParW w base gp F) {j : Nat} (ho : OwnsF F j) : j ≠ gp := fun e => by
  obtain ⟨k, x, hx, hg⟩ := ho
  obtain ⟨es, clock, h1, _⟩ := h.map.own
  rcases (h.own k x hx).1.2 with ⟨h0, _⟩ | ⟨g, cap, cur, e2, _, h2, _⟩
  · rw [h0] at hg; cases hg
  · rw [e2] at hg
    have e3 : g = j := Option.some.inj hg
    rw [e3, e, h1] at h2
    cases h2
theorem ParW.below {w w' : World} {base gp : Nat} {F : PF} (h : ParW w base gp F) (hb : Below w.heap.size w w') : ParW w' base gp F := h.at_ (hb.block gp h.map.lt) fun j hj => hb.block j (hj.lt h).2
theorem ParW.touch {w w' : World} {base gp : Nat} {F : PF} {S : Nat → Prop} (h : ParW w base gp F) (ht : Touch w w' S) (h1 : ¬ S gp) (h2 : ∀ j, OwnsF F j → ¬ S j) : ParW w' base gp F := h.at_ (ht.block gp h.map.lt h1) fun j hj => ht.block j (hj.lt h).2 (h2 j hj)
/-- The row of a child. -/
def rowP (F : PF) (k : Nat) : List (Nat × Nat) := ((getL F k).map Prod.snd).getD []
def valP (F : PF) (k : Nat) : Value := ((getL F k).map Prod.fst).getD (.slice none 0 0)
theorem ParW.row {w : World} {base gp : Nat} {F : PF} (h : ParW w base gp F) (k : Nat) : POwn w base (valP F k) (rowP F k) ∧ Rise (rowP F k) := by
  unfold valP rowP
  cases hx : getL F k with
  | none => exact ⟨POwn.nil _ _, Rise.nil⟩
  | some x => exact ⟨(h.own k x hx).1, (h.own k x hx).2.2⟩
theorem valP_own {F : PF} {k j : Nat} (h : (valP F k).ownBlock = some j) : OwnsF F j := by
  unfold valP at h
  cases hx : getL F k with
  | none => rw [hx] at h; cases h
  | some x => rw [hx] at h; exact ⟨k, x, hx, h⟩
/-- A child's row has been laid anew. -/
theorem ParW.put {w w' : World} {base gp : Nat} {F : PF} (h : ParW w base gp F) {k : Nat} {v : Value} {l : List (Nat × Nat)} (hm : MapV w' gp (putL' (mapL Prod.fst F) k v)) (ho : POwn w' base v l) (hl : l ≠ []) (hr : Rise l)
    (hk : ∀ j, OwnsF F j → (valP F k).ownBlock ≠ some j → w'.heap[j]? = w.heap[j]?) (hn : ∀ j, v.ownBlock = some j → (valP F k).ownBlock = some j ∨ ¬ OwnsF F j) : ParW w' base gp (putL' F k (v, l)) := by
  have hF := h.rise
  have hne : ∀ k' x, getL F k' = some x → k' ≠ k → ∀ j, x.1.ownBlock = some j → (valP F k).ownBlock ≠ some j := fun k' x hx hk' j hj e => by
    unfold valP at e
    cases hy : getL F k with
    | none => rw [hy] at e; cases e
    | some y => rw [hy] at e; exact h.apart k' k x y hx hy hk' (hj.trans e.symm)
  refine ⟨?_, fun k' x hx => ?_, fun k1 k2 x1 x2 h1 h2 hk12 => ?_⟩
  · have e : mapL Prod.fst (putL' F k (v, l)) = putL' (mapL Prod.fst F) k v := (putL_map Prod.fst F k (v, l)).symm
    rw [e]
    exact hm
  · rw [getL_put hF] at hx
    by_cases e : k' = k
    · rw [if_pos e] at hx
      injection hx with hx
      subst hx
      exact ⟨ho, hl, hr⟩
    · rw [if_neg e] at hx
      exact ⟨(h.own k' x hx).1.at_ fun g hg => hk g ⟨k', x, hx, hg⟩ (hne k' x hx e g hg), (h.own k' x hx).2⟩
  · rw [getL_put hF] at h1 h2
    have key : ∀ k' x, getL F k' = some x → k' ≠ k → x.1.ownBlock ≠ v.ownBlock := fun k' x hx hk' e => by
      obtain ⟨p1, p2, _⟩ := h.own k' x hx
      cases hb : x.1.ownBlock with
      | none =>
        rcases p1.2 with ⟨h0, h00⟩ | ⟨g, cap, cur, e2, _⟩
        · exact p2 (List.eq_nil_of_length_eq_zero h00)
        · rw [e2] at hb; cases hb
      | some j =>
        rcases hn j (by rw [← e]; exact hb) with h3 | h3
        · exact hne k' x hx hk' j hb h3
        · exact h3 ⟨k', x, hx, hb⟩
    by_cases e1 : k1 = k
    · rw [if_pos e1] at h1
      injection h1 with h1
      subst h1
      rw [if_neg (by omega)] at h2
      exact fun e => key k2 x2 h2 (by omega) e.symm
    · rw [if_neg e1] at h1
      by_cases e2 : k2 = k
      · rw [if_pos e2] at h2
        injection h2 with h2
        subst h2
        exact key k1 x1 h1 e1
      · rw [if_neg e2] at h2
        exact h.apart k1 k2 x1 x2 h1 h2 hk12
/-- .. and is none any more. -/
theorem ParW.del {w w' : World} {base gp : Nat} {F : PF} (h : ParW w base gp F) {k : Nat} (hm : MapV w' gp (delL (mapL Prod.fst F) k)) (hk : ∀ j, OwnsF F j → (valP F k).ownBlock ≠ some j → w'.heap[j]? = w.heap[j]?) : ParW w' base gp (delL F k) := by
  have hne : ∀ k' x, getL F k' = some x → k' ≠ k → ∀ j, x.1.ownBlock = some j → (valP F k).ownBlock ≠ some j := fun k' x hx hk' j hj e => by
    unfold valP at e
    cases hy : getL F k with
    | none => rw [hy] at e; cases e
    | some y => rw [hy] at e; exact h.apart k' k x y hx hy hk' (hj.trans e.symm)
  refine ⟨by rw [← delL_map]; exact hm, fun k' x hx => ?_, fun k1 k2 x1 x2 h1 h2 hk12 => ?_⟩
  · rw [getL_del] at hx
    by_cases e : k' = k
    · rw [if_pos e] at hx; cases hx
    · rw [if_neg e] at hx
      exact ⟨(h.own k' x hx).1.at_ fun g hg => hk g ⟨k', x, hx, hg⟩ (hne k' x hx e g hg), (h.own k' x hx).2⟩
  · rw [getL_del] at h1 h2
    by_cases e1 : k1 = k
    · rw [if_pos e1] at h1; cases h1
    · rw [if_neg e1] at h1
      by_cases e2 : k2 = k
      · rw [if_pos e2] at h2; cases h2
      · rw [if_neg e2] at h2
        exact h.apart k1 k2 x1 x2 h1 h2 hk12
theorem prow_set : ∀ (l : List (Nat × Nat)) (i a c : Nat) (q : Nat × Nat), l[i]? = some q → q.1 = a → prow (l.set i (a, c)) = (prow l).set (i * 2 + 1) (.int .i64 (c : Int))
  | [], i, a, c, q, h, _ => by simp at h
  | p :: l, 0, a, c, q, h, e => by
    simp at h
    subst h
    subst e
    rfl
  | p :: l, i + 1, a, c, q, h, e => by
    have h2 := prow_set l i a c q (by simpa using h) e
    rw [List.set_cons_succ, prow_cons, prow_cons, h2, show (i + 1) * 2 + 1 = (i * 2 + 1) + 2 by omega, List.set_cons_succ, List.set_cons_succ]
theorem POwn.set {w : World} {base g cap n : Nat} {l : List (Nat × Nat)} (h : POwn w base (.slice (some ⟨g, 0, none⟩) n cap) l) {i a b : Nat} (c : Nat) (hi : l[i]? = some (a, b)) : POwn (w.setCell ⟨g, i * 2 + 1, none⟩ (.int .i64 (c : Int))) base (.slice (some ⟨g, 0, none⟩) n cap) (l.set i (a, c)) := by
  have hil := (List.getElem?_eq_some_iff.1 hi).1
  obtain ⟨h1, h2⟩ := h
  unfold POwn
  rw [List.length_set]
  refine ⟨by rw [prow_length, List.length_set], ?_⟩
  rcases h2 with ⟨h0, _⟩ | ⟨g', cap', cur, e, h3, h4, h5, h6, h7, h8⟩
  · cases h0
  · injection e with e1 e2 e3
    injection e1 with e1
    injection e1 with e1 _ _
    subst e1 e2 e3
    refine .inr ⟨g, cap, cur.setIfInBounds (i * 2 + 1) (.int .i64 (c : Int)), rfl, h3, heap_setCell_same w g (i * 2 + 1) _ _ _ h4, h5, h6, by simp [h7], ?_⟩
    rw [Array.toList_setIfInBounds, List.take_set, h8, prow_set l i a c (a, b) hi rfl]
end Go.Proofs.YtecbaceinifjiaaGreatDoor
namespace Go.Proofs.YtecbaceinifjiaaGreatDoor
open Go.RowKit
set_option linter.unusedSimpArgs false
set_option linter.unusedVariables false
set_option maxRecDepth 100000
def AddR (w : World) (base gp kid : Nat) (F : PF) (l' : List (Nat × Nat)) (e : Ending) (w' : World) : Prop :=
  e = .returned (.tuple #[]) ∧ ∃ F' : PF, ParW w' base gp F' ∧ (∀ k, rowP F' k = if k = kid then l' else rowP F k) ∧ F'.length ≤ F.length + 1 ∧ Touch w w' (fun j => j = gp ∨ OwnsF F j) ∧ (∀ j, OwnsF F' j → OwnsF F j ∨ w.heap.size ≤ j)
theorem zeroRow (w : World) : (zeroValue 133).run Tryz.prog w = .ok (.slice none 0 0) w := by kernel_rfl
theorem valP_look (F : PF) (k : Nat) : (getL (mapL Prod.fst F) k).getD (.slice none 0 0) = valP F k := by
  rw [getL_map]
  rfl
theorem rowP_put {F : PF} (hF : Rise F) (kid : Nat) (v : Value) (l : List (Nat × Nat)) (k : Nat) : rowP (putL' F kid (v, l)) k = if k = kid then l else rowP F k := by
  unfold rowP
  rw [getL_put hF]
  by_cases h : k = kid
  · rw [if_pos h, if_pos h]; rfl
  · rw [if_neg h, if_neg h]
theorem rowP_del {F : PF} (kid : Nat) (k : Nat) : rowP (delL F kid) k = if k = kid then [] else rowP F k := by
  unfold rowP
  rw [getL_del]
  by_cases h : k = kid
  · rw [if_pos h, if_pos h]; rfl
  · rw [if_neg h, if_neg h]
theorem own_put {F : PF} (hF : Rise F) {kid : Nat} {v : Value} {l : List (Nat × Nat)} {n : Nat} (hv : ∀ j, v.ownBlock = some j → OwnsF F j ∨ n ≤ j) (j : Nat) (h : OwnsF (putL' F kid (v, l)) j) : OwnsF F j ∨ n ≤ j := by
  obtain ⟨k, x, hx, hg⟩ := h
  rw [getL_put hF] at hx
  by_cases e : k = kid
  · rw [if_pos e] at hx
    injection hx with hx
    subst hx
    exact hv j hg
  · rw [if_neg e] at hx
    exact .inl ⟨k, x, hx, hg⟩
theorem own_del {F : PF} {kid j : Nat} (h : OwnsF (delL F kid) j) : OwnsF F j := by
  obtain ⟨k, x, hx, hg⟩ := h
  rw [getL_del] at hx
  by_cases e : k = kid
  · rw [if_pos e] at hx; cases hx
  · rw [if_neg e] at hx
    exact ⟨k, x, hx, hg⟩
theorem POwn.some_ {w : World} {base : Nat} {v : Value} {l : List (Nat × Nat)} (h : POwn w base v l) (hl : l ≠ []) : ∃ g c, v = .slice (some ⟨g, 0, none⟩) l.length c ∧ base ≤ g ∧ g < w.heap.size := by
  rcases h.2 with ⟨_, h0⟩ | ⟨g, cap, cur, rfl, h1, h2, _⟩
  · exact absurd (List.eq_nil_of_length_eq_zero h0) hl
  · exact ⟨g, cap, rfl, h1, lt_of_heap2 h2⟩
theorem POwn.cell_ {w : World} {base g n c : Nat} {l : List (Nat × Nat)} (h : POwn w base (.slice (some ⟨g, 0, none⟩) n c) l) {i : Nat} {p : Nat × Nat} (hp : l[i]? = some p) : w.cell? ⟨g, i * 2 + 1, none⟩ = some (.int .i64 (p.2 : Int)) ∧ w.frozen? ⟨g, i * 2 + 1, none⟩ = false := by
  obtain ⟨ad, e, _, _, h2⟩ := h.lies i p hp
  injection e with e
  subst e
  refine ⟨?_, ?_⟩
  · rw [← h2]
    congr 1
    unfold Addr.add
    split <;> simp_all
  · rcases h.2 with ⟨h0, _⟩ | ⟨g', cap, cur, e, _, h3, _⟩
    · cases h0
    · injection e with e1 _ _
      injection e1 with e1
      injection e1 with e1 _ _
      subst e1
      exact frozen_of_row w g _ _ _ h3
theorem put_at {m : List (Nat × Nat)} (hr : Rise m) {k : Nat} (h : hasL m k = false) (v u : Nat) : (putL' m k v)[posL m k]? = some (k, v) ∧ (putL' m k v).set (posL m k) (k, u) = putL' m k u ∧ (putL' m k v).length = m.length + 1 := by
  have hl : (m.take (posL m k)).length = posL m k := by have := posL_le m k; rw [List.length_take]; omega
  rw [put_new hr k v h, put_new hr k u h]
  refine ⟨?_, ?_, ?_⟩
  · rw [List.getElem?_append_right (by omega), hl, Nat.sub_self]; rfl
  · rw [List.set_append_right _ _ (by omega), hl, Nat.sub_self]; rfl
  · have := posL_le m k
    rw [List.length_append, List.length_cons, List.length_take, List.length_drop]
    omega
set_option maxHeartbeats 8000000 in
theorem add_new (w : World) (base gp : Nat) (F : PF) (kid id : Nat) (hP : ParW w base gp F) (hk : kid < 18446744073709551616) (hid : id < 18446744073709551616) (hno : hasL (rowP F kid) id = false) (hl : (rowP F kid).length ≤ 999999999) (hFl : F.length ≤ 1000000000) (hbase : base ≤ w.heap.size) :
    Calls Tryz.prog 87 #[.map (some gp), .int .u64 (kid : Int), .int .u64 (id : Int), .int .i64 1] w (AddR w base gp kid F (putL' (rowP F kid) id 1)) := by
  obtain ⟨l, hL⟩ : ∃ l, l = rowP F kid := ⟨_, rfl⟩
  obtain ⟨ho, hr⟩ := hP.row kid
  rw [← hL] at ho hr hno hl ⊢
  obtain ⟨A, c, hv⟩ := ho.form
  obtain ⟨n, hn⟩ : ∃ n, n = l.length := ⟨_, rfl⟩
  rw [← hn] at hv hl
  rw [hv] at ho
  have hlook : (getL (mapL Prod.fst F) kid).getD (.slice none 0 0) = .slice A n c := by rw [valP_look, hv]
  obtain ⟨pos, hpos⟩ : ∃ p, p = posL l id := ⟨_, rfl⟩
  have hple : pos ≤ n := by rw [hpos, hn]; exact posL_le l id
  have HFI : Hid (Calls Tryz.prog 105 #[.slice A n c, .int .u64 (id : Int), .func (.func 106) #[] #[]] w fun e w' => e = .returned (.tuple #[.int .i64 (pos : Int), .bool false]) ∧ Below w.heap.size w w') := Lib.hid (by
    have h := find_any w A n c l id (POwn.lies ho) hn.symm hr (by omega)
    rw [hno, ← hpos] at h
    exact h)
  obtain ⟨hat0, hset, hlen0⟩ := put_at hr hno 0 1
  obtain ⟨l0, hl0⟩ : ∃ l0, l0 = putL' l id 0 := ⟨_, rfl⟩
  rw [← hl0, ← hpos] at hat0 hset
  rw [← hl0, ← hn] at hlen0
  have HIN : Hid (∀ w1, Below w.heap.size w w1 → Calls Tryz.prog 108 #[.slice A n c, .int .i64 (pos : Int), .slice (some ⟨w1.heap.size, 0, none⟩) 1 1] (w1.alloc (.cells #[.int .u64 (id : Int), .int .i64 0] 137)) fun e w' => ∃ g2 c2, e = .returned (.slice (some ⟨g2, 0, none⟩) (n + 1) c2) ∧ POwn w' base (.slice (some ⟨g2, 0, none⟩) (n + 1) c2) l0 ∧ (w1.alloc (.cells #[.int .u64 (id : Int), .int .i64 0] 137)).grownBy w' (Value.slice A n c).ownBlock ∧ ((Value.slice A n c).ownBlock = some g2 ∨ w.heap.size ≤ g2)) := Lib.hid (fun w1 hb1 => by
    have hbY : Below w.heap.size w (w1.alloc (.cells #[.int .u64 (id : Int), .int .i64 0] 137)) := hb1.trans (((Below.refl _ _).alloc (Nat.le_refl _) _).mono hb1.size)
    have h := insert_any (w1.alloc (.cells #[.int .u64 (id : Int), .int .i64 0] 137)) base (.slice A n c) l pos id w1.heap.size (ho.at_ fun g hg => hbY.block g (ho.block hg).2) (by omega) (Go.heap_alloc_new _ _) (fun e => by have := (ho.block e).2; have := hb1.size; omega) (by have := hbY.size; omega) (by omega)
    rw [hpos, ← put_new hr id 0 hno, ← hl0, ← hpos] at h
    refine h.mono ?_
    rintro e w' ⟨v2, e1, e2, e3, e4⟩
    obtain ⟨g2, c2, rfl, _, _⟩ := e2.some_ (fun e => by rw [e] at hlen0; simp at hlen0)
    rw [hlen0] at e1 e2 e4
    refine ⟨g2, c2, e1, e2, e3, ?_⟩
    rcases e4 with e4 | ⟨g, e4, e5⟩
    · exact .inl e4.symm
    · have e6 : g2 = g := Option.some.inj e4
      exact .inr (by rw [e6]; have := hbY.size; omega))
  have hFm : (mapL Prod.fst F).length < maxLen := by unfold mapL maxLen; rw [List.length_map]; omega
  have HV := Lib.hid hv
  have HL0 := Lib.hid hlen0
  have HAT := Lib.hid hat0
  have HSET := Lib.hid hset
  have HP := Lib.hid hP
  have HO := Lib.hid ho
  have HN := Lib.hid hn
  have HPO := Lib.hid hpos
  have HR := Lib.hid hr
  have HNO := Lib.hid hno
  have HLK := Lib.hid hlook
  clear hP ho hn hpos hr hno hlook hv hL hat0 hset hl0 hlen0
  go_enter Tryz.func87, Tryz.ntmps87
  go_wp2_with (first
    | (at_lookup; go_loud (
        refine wpList_look w rfl _ _ 64 133 rfl Tryz.underlying64 (.slice none 0 0) (zeroRow w) gp (mapL Prod.fst F) rfl HP.out.map kid hk rfl ?_;
        rw [HLK.out]))
    | (go_at_call 105; (with_reducible refine (HFI.out).mono ?_); rintro e w1 ⟨rfl, hb1⟩; go_loud (
        have HB1 := Lib.hid hb1;
        clear hb1))
    | (go_at_call 108; (with_reducible refine (HIN.out _ HB1.out).mono ?_); rintro e w2 ⟨g2, c2, rfl, hO2, hG2, hL2⟩; go_loud (
        obtain ⟨q1, q2⟩ := hO2.cell_ HAT.out;
        dsimp only at q1;
        have HO2 := Lib.hid hO2;
        have HG2 := Lib.hid hG2;
        have HL2 := Lib.hid hL2;
        have hown : ∀ j, (Value.slice A n c).ownBlock = some j → OwnsF F j := fun j hj => valP_own (by rw [HV.out]; exact hj);
        have hg2 : g2 ≠ gp ∧ ((Value.slice A n c).ownBlock = some g2 ∨ w.heap.size ≤ g2) := ⟨fun e => by
          rcases hL2 with h | h
          · exact (hown g2 h).ne HP.out e
          · have := HP.out.map.lt; omega, hL2⟩;
        have hT3 : Touch w (w2.setCell ⟨g2, pos * 2 + 1, none⟩ (.int .i64 1)) (fun j => j = gp ∨ (Value.slice A n c).ownBlock = some j) := (((Touch.of_below (HB1.out.trans (((Below.refl _ _).alloc (Nat.le_refl _) (.cells #[.int .u64 (id : Int), .int .i64 0] 137)).mono HB1.out.size)) _).trans (Touch.of_grown (S := fun j => (Value.slice A n c).ownBlock = some j) hG2 (fun j hj => hj)) (fun j hj => .inl (.inr hj))).setCell _ _ (hg2.2.imp .inr (fun h => h)));
        have hM3 := HP.out.map.at_ (w' := w2.setCell ⟨g2, pos * 2 + 1, none⟩ (.int .i64 1)) (((heap_setCell_other _ ⟨g2, pos * 2 + 1, none⟩ gp _ (fun e => hg2.1 e.symm)).trans (hG2.block gp (by have := HB1.out.size; have := HP.out.map.lt; simp; omega) (fun e => (hown gp e.symm).ne HP.out rfl))).trans ((heap_alloc_lt _ _ (by have := HB1.out.size; have := HP.out.map.lt; omega)).trans (HB1.out.block gp HP.out.map.lt)));
        have HM3 := Lib.hid hM3;
        have HT3 := Lib.hid hT3;
        have HOW := Lib.hid hown;
        have HGG := Lib.hid hg2;
        clear hO2 hG2 hL2 hown hg2 hT3 hM3))
    | (at_mapUpdate; go_loud (
        refine wpList_store _ rfl (.tmp 53) (.tmp 54) (.tmp 55) 64 133 rfl Tryz.underlying64 gp (mapL Prod.fst F) rfl HM3.out hFm kid hk rfl (.slice (some ⟨g2, 0, none⟩) (n + 1) c2) rfl ?_;
        intro w4 hM4 hT4;
        have HM4 := Lib.hid hM4;
        have HT4 := Lib.hid hT4;
        clear hM4 hT4)))
  have hT := HT3.out.trans (Touch.turned (S := fun j => j = gp) HT4.out rfl) (fun j hj => .inl (.inl hj))
  have hO3 := HO2.out.set 1 HAT.out
  rw [HSET.out] at hO3
  have hO4 : POwn w4 base (.slice (some ⟨g2, 0, none⟩) (n + 1) c2) (putL' l id 1) := hO3.at_ fun g hg => HT4.out.grown.block g (hO3.block hg).2 (fun e => HGG.out.1 (by injection e with e; rw [← e]; exact Option.some.inj hg))
  have hPut := HP.out.put (k := kid) HM4.out hO4 (by
    intro e
    have h1 := congrArg List.length e
    rw [← HSET.out, List.length_set, HL0.out] at h1
    simp at h1) (HR.out.put id 1) (fun j hj hne => hT.block j (hj.lt HP.out).2 (fun e => by
      rcases e with e | e
      · exact hj.ne HP.out e
      · exact hne (by rw [HV.out]; exact e))) (fun j hj => by
      have e : g2 = j := Option.some.inj hj
      rw [HV.out, ← e]
      exact HGG.out.2.imp (fun h => h) fun h1 h2 => by have := (h2.lt HP.out).2; omega)
  have hFr := HP.out.rise
  go_end0
  refine ⟨rfl, _, hPut, fun k => rowP_put hFr kid _ _ k, ?_, hT.more fun j e => e.imp (fun h => h) fun h => HOW.out j h, fun j hj => own_put hFr (fun j hj => ?_) j hj⟩
  · rw [putL_length _ _ hFr]
    split <;> omega
  · have e : g2 = j := Option.some.inj hj
    rw [← e]
    exact HGG.out.2.imp (fun h => HOW.out _ h) (fun h => h)
end Go.Proofs.YtecbaceinifjiaaGreatDoor
