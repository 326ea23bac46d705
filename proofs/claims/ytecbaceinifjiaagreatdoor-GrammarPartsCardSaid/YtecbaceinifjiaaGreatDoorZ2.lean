/- ARow, AInsert: joined by program (tools/merge.py). -/
import Derived.Test.YtecbaceinifjiaaGreatDoorZ1
import Derived.Laws.CopyRow
import Derived.Lib.Overlaps
import Derived.Maps.AppendAt
import Derived.Deep.RegionLaw
import Derived.Lib.AppendZeros
namespace Go.Proofs.YtecbaceinifjiaaGreatDoor
open Go.RowKit
set_option linter.unusedSimpArgs false
set_option linter.unusedVariables false
set_option maxRecDepth 100000
def prow (l : List (Nat × Nat)) : List Value := l.flatMap fun p => [Value.int .u64 (p.1 : Int), Value.int .i64 (p.2 : Int)]
theorem prow_nil : prow [] = [] := rfl
theorem prow_cons (p : Nat × Nat) (l : List (Nat × Nat)) : prow (p :: l) = Value.int .u64 (p.1 : Int) :: Value.int .i64 (p.2 : Int) :: prow l := rfl
theorem prow_append (l m : List (Nat × Nat)) : prow (l ++ m) = prow l ++ prow m := by unfold prow; rw [List.flatMap_append]
theorem prow_length : ∀ l : List (Nat × Nat), (prow l).length = l.length * 2
  | [] => rfl
  | p :: l => by rw [prow_cons, List.length_cons, List.length_cons, prow_length l, List.length_cons]; omega
theorem prow_take : ∀ (l : List (Nat × Nat)) (k : Nat), (prow l).take (k * 2) = prow (l.take k)
  | [], k => by simp [prow_nil]
  | p :: l, 0 => by simp [prow_nil]
  | p :: l, k + 1 => by rw [prow_cons, show (k + 1) * 2 = k * 2 + 2 by omega, List.take_succ_cons, List.take_succ_cons, prow_take l k, List.take_succ_cons, prow_cons]
theorem prow_drop : ∀ (l : List (Nat × Nat)) (k : Nat), (prow l).drop (k * 2) = prow (l.drop k)
  | [], k => by simp [prow_nil]
  | p :: l, 0 => by simp
  | p :: l, k + 1 => by rw [prow_cons, show (k + 1) * 2 = k * 2 + 2 by omega, List.drop_succ_cons, List.drop_succ_cons, prow_drop l k, List.drop_succ_cons]
theorem prow_one {l : List (Nat × Nat)} : ∀ v ∈ prow l, v.oneCell' = true := fun v hv => by
  unfold prow at hv
  obtain ⟨p, _, hp⟩ := List.mem_flatMap.1 hv
  simp at hp
  rcases hp with rfl | rfl <;> rfl
theorem prow_at : ∀ {l : List (Nat × Nat)} {i : Nat} {p : Nat × Nat}, l[i]? = some p → (prow l)[i * 2]? = some (Value.int .u64 (p.1 : Int)) ∧ (prow l)[i * 2 + 1]? = some (Value.int .i64 (p.2 : Int))
  | [], i, p, h => by simp at h
  | q :: l, 0, p, h => by simp at h; subst h; exact ⟨rfl, rfl⟩
  | q :: l, i + 1, p, h => by
    have h2 := prow_at (l := l) (i := i) (p := p) (by simpa using h)
    rw [prow_cons, show (i + 1) * 2 = i * 2 + 2 by omega]
    exact h2
theorem infoPar : (Tryz.prog.info? 137).map (fun i => (i.zero, i.size, i.bytes)) = some (some (.agg #[.int .u64 0, .int .i64 0]), 2, 16) := by kernel_rfl
/-- A row of parents of one's own. -/
def POwn (w : World) (base : Nat) (v : Value) (l : List (Nat × Nat)) : Prop := w.ownsRow base 137 2 v l.length (prow l)
theorem POwn.nil (w : World) (base : Nat) : POwn w base (.slice none 0 0) [] := World.ownsRow_nil _ _ _ _
theorem POwn.form {w : World} {base : Nat} {v : Value} {l : List (Nat × Nat)} (h : POwn w base v l) : ∃ A c, v = .slice A l.length c := by
  rcases h.2 with ⟨rfl, h0⟩ | ⟨g, cap, cur, rfl, _⟩
  · exact ⟨_, _, by rw [h0]⟩
  · exact ⟨_, _, rfl⟩
theorem POwn.block {w : World} {base : Nat} {v : Value} {l : List (Nat × Nat)} (h : POwn w base v l) {g : Nat} (hg : v.ownBlock = some g) : base ≤ g ∧ g < w.heap.size := World.ownsRow.lt h g hg
theorem POwn.at_ {w w' : World} {base : Nat} {v : Value} {l : List (Nat × Nat)} (h : POwn w base v l) (hk : ∀ g, v.ownBlock = some g → w'.heap[g]? = w.heap[g]?) : POwn w' base v l := by
  refine ⟨h.1, ?_⟩
  rcases h.2 with h0 | ⟨g, cap, cur, rfl, h1, h2, h3⟩
  · exact .inl h0
  · exact .inr ⟨g, cap, cur, rfl, h1, (hk g rfl).trans h2, h3⟩
theorem POwn.lies {w : World} {base n c : Nat} {A : Option Addr} {l : List (Nat × Nat)} (h : POwn w base (.slice A n c) l) : PLies w w.heap.size A l := fun i p hp => by
  obtain ⟨h1, h2⟩ := prow_at hp
  rcases h.2 with ⟨h0, _⟩ | ⟨g, cap, cur, e, h3, h4, _⟩
  · injection h0 with hA hn0 _
    obtain ⟨A', c', e⟩ := POwn.form h
    injection e with _ e2 _
    have hn : l = [] := List.eq_nil_of_length_eq_zero (by omega)
    rw [hn] at hp
    cases hp
  · injection e with hA _ _
    subst hA
    exact ⟨_, rfl, (Array.getElem?_eq_some_iff.1 h4).1, World.ownsRow.cells h (g := g) rfl _ _ h1, World.ownsRow.cells h (g := g) rfl _ _ h2⟩
theorem run_copy2 (w : World) (ty : TypeId) (g o dLen dCap : Nat) (ad : Addr) (sLen sCap : Nat) (cur : Array Value) (cs : List Value)
    (hg : w.heap[g]? = some (.cells cur 137 (0, 0))) (hn : cs.length = Nat.min sLen dLen * 2) (hsrc : ∀ (j : Nat) (v : Value), cs[j]? = some v → w.cell? (ad.add j) = some v) (hfit : o + cs.length ≤ cur.size) (h1 : ∀ v ∈ cs, v.oneCell' = true) :
    (Builtin.copy_ #[133, 133] ty #[.slice (some ⟨g, o, none⟩) dLen dCap, .slice (some ad) sLen sCap]).run Tryz.prog w =
      .ok (goInt (Nat.min sLen dLen)) (w.setRow g (cur.toList.take o ++ cs ++ cur.toList.drop (o + cs.length)).toArray) := by
  have hl := run_loadCells_list (P := Tryz.prog) w ad cs hsrc
  have hst := run_storeCells_at Tryz.prog g o 137 cs 0 cur w hg (by simpa using hfit) h1
  obtain ⟨i, hi, _, hs, _⟩ := info_parts infoPar
  simp [Builtin.copy_, run_underlying Tryz.underlying133, Builtin.lenOf, Builtin.firstCells, sizeOf, typeInfo, hi, hs, ← hn, hl, hst]
section
variable {P : Program} {ops : Array Oper} {rest : List Oper} {o : Oper} {a : Act} {Q : Exit → Act → World → Prop}
theorem wpList_copy_r (w : World) (hgd : o.guard = none) (d s : Operand) (t t' : TypeId) (ho : o.op = .call { callee := .builtin .copy, args := #[d, s], argTypes := #[t, t'] }) (v u : Value) (hd : a.eval d = v) (hs : a.eval s = u) {v' : Value} {w' : World}
    (hr : (Builtin.copy_ #[t, t'] o.type #[v, u]).run P w = .ok v' w') (h : wpList P ops Q rest (a.put o.dst v') w') : wpList P ops Q (o :: rest) a w := by
  refine wpList_plain hgd fun _ hK => ?_
  unfold Oper.wp execOp
  simp only [ho, resolve, invoke, builtin, Sem.run_bind, Sem.run_pure, Result.andThen_ok, List.map_toArray, List.map_cons, List.map_nil, hd, hs, hr]
  exact hK _ _ h
theorem step_copy_r {w : World} {K : Act → World → Prop} {E : Prop} (hg : o.guard = none) (d x : Operand) (dT sT : TypeId) (hop : o.op = Op.call { callee := Callee.builtin Builtin.copy, args := #[d, x], argTypes := #[dT, sT] })
    (v u : Value) (hd : a.eval d = v) (hx : a.eval x = u) {v' : Value} {w' : World} (hr : (Builtin.copy_ #[dT, sT] o.type #[v, u]).run P w = .ok v' w') (hK : K (a.put o.dst v') w') :
    if Region.wanted o (yielded ops a.tmps) = true then Oper.wp P o a w K Q else E := by
  have hw : Region.wanted o (yielded ops a.tmps) = true := by simp [Region.wanted, hg]
  rw [if_pos hw]
  unfold Oper.wp
  simp [execOp, hop, resolve, invoke, builtin, hd, hx, hr, Result.andThen]
  exact hK
end
end Go.Proofs.YtecbaceinifjiaaGreatDoor
namespace Go.Proofs.YtecbaceinifjiaaGreatDoor
open Go.RowKit
set_option linter.unusedSimpArgs false
set_option linter.unusedVariables false
set_option maxRecDepth 100000
theorem lt_of_heap2 {w : World} {j : Nat} {o : Obj} (h : w.heap[j]? = some o) : j < w.heap.size := (Array.getElem?_eq_some_iff.1 h).1
theorem heap_alloc_lt (w : World) (o : Obj) {r : Nat} (h : r < w.heap.size) : (w.alloc o).heap[r]? = w.heap[r]? := by first | exact Go.heap_alloc_old _ _ h | exact Go.heap_alloc_old _ _ _ h
def InsR (w : World) (base : Nat) (row : Option Nat) (l : List (Nat × Nat)) (e : Ending) (w' : World) : Prop :=
  ∃ v', e = .returned v' ∧ POwn w' base v' l ∧ w.grownBy w' row ∧ (v'.ownBlock = row ∨ ∃ g, v'.ownBlock = some g ∧ w.heap.size ≤ g)
theorem run_overlaps (w : World) (gv g off lb cb : Nat) (cv cur : Array Value) (hgv : w.heap[gv]? = some (.cells cv 137 (0, 0))) (hg : w.heap[g]? = some (.cells cur 137 (0, 0))) (hne : gv ≠ g) (hs : cur.size ≠ 0) :
    (callFunc 127 #[.slice (some ⟨gv, 0, none⟩) 1 1, .slice (some ⟨g, off, none⟩) lb cb]).run Tryz.prog w = .ok (.value (.bool false)) w := by
  have hf : Tryz.prog.funcs[127]? = some Tryz.f127 := by kernel_rfl
  obtain ⟨i, hi, _, hz, _⟩ := info_parts infoPar
  rw [run_callFunc_extern hf (by kernel_rfl) (by kernel_rfl) (by kernel_rfl) (e := Extern.SlicesOverlaps.overlaps #[133, 133] #[4]) (by kernel_rfl),
    Lib.run_overlaps_apart w 133 4 137 Tryz.underlying133 2 (fun w => by simp [sizeOf, typeInfo, hi, hz]) ⟨gv, 0, none⟩ ⟨g, off, none⟩ 1 1 lb cb hne 137 137 cv.size cur.size
      (by unfold World.shape?; rw [hgv]) (by unfold World.shape?; rw [hg]) hs (frozen_of_row w gv 0 _ _ hgv) (frozen_of_row w gv _ _ _ hgv)]
  rfl
set_option maxHeartbeats 4000000 in
theorem insert_end (w : World) (base : Nat) (v : Value) (l : List (Nat × Nat)) (k gv : Nat) (ho : POwn w base v l) (hgv : w.heap[gv]? = some (.cells #[.int .u64 (k : Int), .int .i64 0] 137 (0, 0))) (hbase : base ≤ w.heap.size) (hl : l.length ≤ 1000000000) :
    Calls Tryz.prog 108 #[v, .int .i64 (l.length : Int), .slice (some ⟨gv, 0, none⟩) 1 1] w (InsR w base v.ownBlock (l ++ [(k, 0)])) := by
  obtain ⟨A, c, rfl⟩ := ho.form
  obtain ⟨n, hn⟩ : ∃ n, n = l.length := ⟨_, rfl⟩
  obtain ⟨i0, hi0, hz0, hs0, hb0⟩ := info_parts infoPar
  have hown : w.ownsRow base 137 2 (.slice A n c) n (prow l) := by rw [hn]; exact ho
  rw [← hn] at hl ⊢
  have hcells : ∀ (j : Nat) (u : Value), [Value.int .u64 (k : Int), Value.int .i64 0][j]? = some u → w.cell? ((⟨gv, 0, none⟩ : Addr).add j) = some u := fun j u hj => by
    have e : (⟨gv, 0, none⟩ : Addr).add j = ⟨gv, j, none⟩ := by unfold Addr.add; split <;> simp_all
    rw [e]
    unfold World.cell?
    rw [hgv]
    simpa using hj
  obtain ⟨row, hrow⟩ : ∃ r, r = (Value.slice A n c).ownBlock := ⟨_, rfl⟩
  rw [← hrow]
  have HROW := Lib.hid hrow
  have HO := Lib.hid hown
  have HN := Lib.hid hn
  have HC := Lib.hid hcells
  clear ho hown hn hcells hrow
  go_enter Tryz.func108, Tryz.ntmps108
  go_wp2_with (at_builtin; go_loud (
    refine wpList_append_own_at w rfl (.tmp 23) (.tmp 24) 133 rfl base 137 i0 (.agg #[.int .u64 0, .int .i64 0]) 2 16 Tryz.underlying133 hi0 hz0 hs0 hb0 rfl (by decide) (.slice A n c) n _ rfl HO.out ⟨gv, 0, none⟩ 1 1 _ rfl rfl HC.out (by intro u hu; simp at hu; rcases hu with rfl | rfl <;> rfl) (by unfold maxLen; omega) (by omega) hbase ?_;
    intro v' w' hown' hgrow hnil hloc;
    have HO' := Lib.hid hown';
    rw [← HROW.out] at hgrow hloc;
    have HG' := Lib.hid hgrow;
    have HL' := Lib.hid hloc;
    clear hown' hgrow hnil hloc))
  all_goals
    go_ret
    refine ⟨v', rfl, ?_, HG'.out, HL'.out.imp id fun h => ⟨_, h, Nat.le_refl _⟩⟩
    have h1 := HO'.out
    rw [HN.out] at h1
    unfold POwn
    rw [List.length_append, prow_append]
    exact h1
theorem prow_ins (l : List (Nat × Nat)) (i k : Nat) (hi : i ≤ l.length) : prow (l.take i ++ (k, 0) :: l.drop i) = (prow l).take (i * 2) ++ [Value.int .u64 (k : Int), Value.int .i64 0] ++ (prow l).drop (i * 2) := by
  rw [prow_append, prow_cons, prow_take, prow_drop, List.append_assoc]
  rfl
theorem list_shift {R P : List Value} {i n : Nat} {x : List Value} (hP : P.length = n * 2) (hR : R.take (n * 2) = P) (hi : i ≤ n) (hx : x.length = 2) (hRl : (n + 1) * 2 ≤ R.length) :
    ∀ R1, R1 = R.take ((i + 1) * 2) ++ P.drop (i * 2) ++ R.drop ((i + 1) * 2 + (P.drop (i * 2)).length) → (R1.take (i * 2) ++ x ++ R1.drop (i * 2 + 2)).take ((n + 1) * 2) = P.take (i * 2) ++ x ++ P.drop (i * 2) := by
  intro R1 h1
  have e1 : R1.take (i * 2) = P.take (i * 2) := by
    rw [h1, List.append_assoc, List.take_append_of_le_length (by rw [List.length_take]; omega), List.take_take, ← hR, List.take_take]
    congr 1
    omega
  have hl : (R.take ((i + 1) * 2)).length = i * 2 + 2 := by rw [List.length_take]; omega
  have e2 : R1.drop (i * 2 + 2) = P.drop (i * 2) ++ R.drop ((i + 1) * 2 + (P.drop (i * 2)).length) := by
    rw [h1, List.append_assoc]
    exact List.drop_left' hl
  have hd : (P.drop (i * 2)).length = (n - i) * 2 := by rw [List.length_drop, hP]; omega
  have ht : (P.take (i * 2)).length = i * 2 := by rw [List.length_take]; omega
  rw [e1, e2, ← List.append_assoc]
  refine List.take_left' ?_
  rw [List.length_append, List.length_append, hx, hd, ht]
  omega
set_option maxHeartbeats 4000000 in
theorem insert_shift (w : World) (base g cap : Nat) (l : List (Nat × Nat)) (i k gv : Nat) (ho : POwn w base (.slice (some ⟨g, 0, none⟩) l.length cap) l) (hi : i < l.length) (hroom : l.length + 1 ≤ cap) (hgv : w.heap[gv]? = some (.cells #[.int .u64 (k : Int), .int .i64 0] 137 (0, 0))) (hne : gv ≠ g) (hl : l.length ≤ 1000000000) :
    Calls Tryz.prog 108 #[.slice (some ⟨g, 0, none⟩) l.length cap, .int .i64 (i : Int), .slice (some ⟨gv, 0, none⟩) 1 1] w (InsR w base (some g) (l.take i ++ (k, 0) :: l.drop i)) := by
  obtain ⟨hlen, hcase⟩ := id ho
  rcases hcase with ⟨h0, _⟩ | ⟨g', cap', cur, e, hbg, hg, hnc, hcm, hcs, htake⟩
  · cases h0
  injection e with e1 _ e2
  injection e1 with e1
  injection e1 with e1 _ _
  subst e1 e2
  obtain ⟨n, hn⟩ : ∃ n, n = l.length := ⟨_, rfl⟩
  rw [← hn] at hi hroom hl htake hlen ⊢
  have hz2 : ¬ ((i : Int) = (n : Int)) := by omega
  have hcell : ∀ j u, (prow l)[j]? = some u → w.cell? ⟨g, j, none⟩ = some u := fun j u hj => by
    unfold World.cell?
    rw [hg]
    show cur[j]? = some u
    rw [← htake, List.getElem?_take] at hj
    split at hj
    · simpa using hj
    · cases hj
  have hsz : cur.size ≠ 0 := by omega
  have hov : ∀ off lb cb, (callFunc 127 #[.slice (some ⟨gv, 0, none⟩) 1 1, .slice (some ⟨g, off, none⟩) lb cb]).run Tryz.prog w = .ok (.value (.bool false)) w := fun off lb cb => run_overlaps w gv g off lb cb _ _ hgv hg hne hsz
  have hcl : ¬ (cap : Int) < (n : Int) + 1 := by omega
  have hRl : (n + 1) * 2 ≤ cur.toList.length := by rw [Array.length_toList]; omega
  have hPl : (prow l).length = n * 2 := hlen
  have hdl : ((prow l).drop (i * 2)).length = (n - i) * 2 := by rw [List.length_drop, hPl]; omega
  obtain ⟨R1, hR1⟩ : ∃ R1 : List Value, R1 = cur.toList.take ((i + 1) * 2) ++ (prow l).drop (i * 2) ++ cur.toList.drop ((i + 1) * 2 + ((prow l).drop (i * 2)).length) := ⟨_, rfl⟩
  have hR1l : R1.length = cap * 2 := by
    rw [hR1, List.length_append, List.length_append, List.length_take, hdl, List.length_drop, Array.length_toList]
    omega
  have hfin := list_shift (x := [Value.int .u64 (k : Int), Value.int .i64 0]) hPl htake (by omega) rfl hRl R1 hR1
  have hcp1 : ∀ (W : World), W.heap[g]? = w.heap[g]? → ∀ ty dc sc, (Builtin.copy_ #[133, 133] ty #[.slice (some ⟨g, (i + 1) * 2, none⟩) (n - i) dc, .slice (some ⟨g, i * 2, none⟩) (n + 1 - i) sc]).run Tryz.prog W = .ok (goInt (n - i)) (W.setRow g R1.toArray) := fun W hW ty dc sc => by
    have h := run_copy2 W ty g ((i + 1) * 2) (n - i) dc ⟨g, i * 2, none⟩ (n + 1 - i) sc cur ((prow l).drop (i * 2)) (hW.trans hg) (by rw [hdl]; simp only [Nat.min_def]; split <;> omega) (fun j v hj => by
      have e : (⟨g, i * 2, none⟩ : Addr).add j = ⟨g, i * 2 + j, none⟩ := by unfold Addr.add; split <;> simp_all
      rw [e, World.cell?_of_block (w := w) (w' := W) (a := ⟨g, i * 2 + j, none⟩) hW]
      exact hcell _ _ (by rwa [List.getElem?_drop] at hj)) (by rw [hdl]; omega) (fun v hv => prow_one v (List.mem_of_mem_drop hv))
    rw [← hR1] at h
    rw [h]
    congr 2
    simp only [Nat.min_def]
    split <;> omega
  obtain ⟨R2, hR2⟩ : ∃ R2 : List Value, R2 = R1.take (i * 2) ++ [Value.int .u64 (k : Int), Value.int .i64 0] ++ R1.drop (i * 2 + 2) := ⟨_, rfl⟩
  have hR2l : R2.length = cap * 2 := by
    rw [hR2, List.length_append, List.length_append, List.length_take, List.length_drop, hR1l]
    show min (i * 2) (cap * 2) + 2 + _ = _
    omega
  have hcp2 : ∀ (W : World), W.heap[g]? = some (.cells R1.toArray 137 (0, 0)) → W.heap[gv]? = w.heap[gv]? → ∀ ty dc, (Builtin.copy_ #[133, 133] ty #[.slice (some ⟨g, i * 2, none⟩) (n + 1 - i) dc, .slice (some ⟨gv, 0, none⟩) 1 1]).run Tryz.prog W = .ok (goInt 1) (W.setRow g R2.toArray) := fun W hW hV ty dc => by
    have hm : Nat.min 1 (n + 1 - i) = 1 := by simp only [Nat.min_def]; split <;> omega
    have h := run_copy2 W ty g (i * 2) (n + 1 - i) dc ⟨gv, 0, none⟩ 1 1 R1.toArray [Value.int .u64 (k : Int), Value.int .i64 0] hW (by rw [hm]; rfl) (fun j v hj => by
      have e : (⟨gv, 0, none⟩ : Addr).add j = ⟨gv, j, none⟩ := by unfold Addr.add; split <;> simp_all
      rw [e]
      unfold World.cell?
      rw [hV, hgv]
      simpa using hj) (by show _ + 2 ≤ R1.toArray.size; rw [List.size_toArray, hR1l]; omega) (by intro v hv; simp at hv; rcases hv with rfl | rfl <;> rfl)
    rw [hm] at h
    have e2 : (R1.toArray.toList.take (i * 2) ++ [Value.int .u64 (k : Int), Value.int .i64 0] ++ R1.toArray.toList.drop (i * 2 + 2)) = R2 := by rw [hR2]
    rw [← e2]
    exact h
  have hout : ∀ (W : World), W.heap[g]? = some (.cells R2.toArray 137 (0, 0)) → POwn W base (.slice (some ⟨g, 0, none⟩) (n + 1) cap) (l.take i ++ (k, 0) :: l.drop i) := fun W hW => by
    have hll : (l.take i ++ (k, 0) :: l.drop i).length = n + 1 := by rw [List.length_append, List.length_cons, List.length_take, List.length_drop, ← hn]; omega
    unfold POwn
    rw [hll]
    refine ⟨by rw [prow_length, hll], .inr ⟨g, cap, R2.toArray, rfl, hbg, hW, hroom, hcm, by rw [List.size_toArray, hR2l], ?_⟩⟩
    show R2.take ((n + 1) * 2) = _
    rw [hR2, hfin, prow_ins l i k (by omega)]
  have hb1 : (0 : Int) ≤ (i : Int) + 1 := by omega
  have htn : ((i : Int) + 1).toNat = i + 1 := by omega
  have hb2 : ¬ (cap = i + 1) := by omega
  have hb3 : (i : Int) ≤ (n : Int) + 1 := by omega
  have hb4 : ¬ (cap = i) := by omega
  have hb5 : (i : Int) + 1 ≤ (n : Int) + 1 := by omega
  have hw1 : IntKind.i64.wrap ((i : Int) + 1) = (i : Int) + 1 := by rw [IntKind.wrap_i64]; omega
  have HG := Lib.hid hg
  have HGV := Lib.hid hgv
  have HOUT := Lib.hid hout
  have HC1 := Lib.hid hcp1
  have HC2 := Lib.hid hcp2
  clear hout hcp1 hcp2 hg hgv hcell hfin hR1 hR2 htake hlen hPl hdl hRl hR1l hR2l hn ho hsz hcs
  go_enter Tryz.func108, Tryz.ntmps108
  go_wp2_with (simp only [hov])
  go_region_law (refine step_copy_r rfl (.tmp 73) (.tmp 76) 133 133 rfl (.slice (some ⟨g, (i + 1) * 2, none⟩) (n - i) (cap - (i + 1))) (.slice (some ⟨g, i * 2, none⟩) (n + 1 - i) (cap - i)) (by simp [Act.eval, Act.put]) (by simp [Act.eval, Act.put]) (HC1.out w.drew rfl 3 (cap - (i + 1)) (cap - i)) ?_)
  all_goals
    have h2 := HC2.out (w.drew.setRow g R1.toArray) (setRow_heap _ _ _ _ _ _ HG.out) (setRow_other _ _ _ _ hne) 3 (cap - i)
    go_wp2_with fail
    go_ret
    refine ⟨_, rfl, HOUT.out _ (setRow_heap _ _ _ _ _ _ (setRow_heap _ _ _ _ _ _ HG.out)), ?_, .inl rfl⟩
    exact ⟨rfl, rfl, rfl, by simp [World.setRow], fun j hj hjg => ((setRow_other _ _ _ _ (fun e => hjg (by rw [e]))).trans (setRow_other _ _ _ _ (fun e => hjg (by rw [e]))))⟩
theorem run_append_zeros {P : Program} (w : World) (t tn ty e : TypeId) (i : TypeInfo) (z : Value) (ht : P.underlying t = some (.slice e)) (htn : P.underlying tn = some (.int .i64)) (hi : P.info? e = some i) (hz : i.zero = some z)
    (b : Addr) (sLen sCap : Nat) (olds : List Value) (hlo : olds.length = sLen * i.size) (holds : ∀ (j : Nat) (v : Value), olds[j]? = some v → w.cell? (b.add j) = some v)
    (n : Nat) (h0 : 0 < n) (hs : 0 < i.size) (hg : sCap < sLen + n) (h63 : ((sLen + n : Nat) : Int) ≤ 9223372036854775807) (hfit : Builtin.nextslicecap (sLen + n) sCap * i.bytes ≤ 281474976710656) (h48 : n * i.bytes ≤ 281474976710656) :
    (Builtin.append_ #[t, tn] ty #[.slice (some b) sLen sCap, .int .i64 (n : Int)]).run P w =
      .ok (.slice (some ⟨w.heap.size, 0, none⟩) (sLen + n) (grownCap w (sLen + n) sCap e)) (w.drew.alloc (.cells (olds.toArray ++ (Builtin.zeroCells z.cells n ++ Builtin.zeroCells z.cells (grownCap w (sLen + n) sCap e - (sLen + n)))) e)) := by
  have hn : n ≠ 0 := by omega
  have hw : IntKind.i64.wrap (n : Int) = n := by rw [IntKind.wrap_i64]; omega
  have hn2 : ¬ (sLen + n ≤ sCap) := by omega
  have h63' : ¬ (9223372036854775807 < ((sLen : Int) + (n : Int))) := by omega
  have h48' : ¬ (281474976710656 < Builtin.nextslicecap (sLen + n) sCap * i.bytes) := by omega
  have h48i : ¬ (281474976710656 < (n : Int) * (i.bytes : Int)) := by
    rw [← Int.natCast_mul]
    omega
  have hneg : ¬ ((n : Int) < 0) := by omega
  have hns : ¬ (n * i.size = 0) := Nat.mul_ne_zero hn (by omega)
  have hfo := run_firstCells_some (P := P) w.drew i.size sLen b sLen sCap olds hlo (by simpa using holds)
  simp [Builtin.append_, run_underlying ht, run_underlying htn, sizeOf, typeInfo, zeroValue, hi, hz, asInt, asIntOf, hw, hn, hneg, hns, hn2, h63', h48', h48i, Question.forced, hfo, newRow, grownCap, Builtin.lenOf]
theorem list_grow {P R : List Value} {i n : Nat} {x : List Value} (hP : P.length = n * 2) (hR : R.take (i * 2) = P.take (i * 2)) (hi : i ≤ n) (hx : x.length = 2) (hRl : (n + 1) * 2 ≤ R.length) :
    ∀ R1, R1 = R.take (i * 2) ++ x ++ R.drop (i * 2 + 2) → (R1.take ((i + 1) * 2) ++ P.drop (i * 2) ++ R1.drop ((i + 1) * 2 + (P.drop (i * 2)).length)).take ((n + 1) * 2) = P.take (i * 2) ++ x ++ P.drop (i * 2) := by
  intro R1 h1
  have ht : (P.take (i * 2)).length = i * 2 := by rw [List.length_take]; omega
  have hd : (P.drop (i * 2)).length = (n - i) * 2 := by rw [List.length_drop, hP]; omega
  have e1 : R1.take ((i + 1) * 2) = P.take (i * 2) ++ x := by
    rw [h1, hR]
    exact List.take_left' (by rw [List.length_append, ht, hx]; omega)
  rw [e1]
  refine List.take_left' ?_
  rw [List.length_append, List.length_append, hx, hd, ht]
  omega
set_option maxHeartbeats 4000000 in
theorem insert_grow (w : World) (base g cap : Nat) (l : List (Nat × Nat)) (i k gv : Nat) (ho : POwn w base (.slice (some ⟨g, 0, none⟩) l.length cap) l) (hi : i < l.length) (hroom : cap < l.length + 1) (hgv : w.heap[gv]? = some (.cells #[.int .u64 (k : Int), .int .i64 0] 137 (0, 0))) (hbase : base ≤ w.heap.size) (hl : l.length ≤ 1000000000) :
    Calls Tryz.prog 108 #[.slice (some ⟨g, 0, none⟩) l.length cap, .int .i64 (i : Int), .slice (some ⟨gv, 0, none⟩) 1 1] w (InsR w base (some g) (l.take i ++ (k, 0) :: l.drop i)) := by
  obtain ⟨hlen, hcase⟩ := id ho
  rcases hcase with ⟨h0, _⟩ | ⟨g', cap', cur, e, hbg, hg, hnc, hcm, hcs, htake⟩
  · cases h0
  injection e with e1 _ e2
  injection e1 with e1
  injection e1 with e1 _ _
  subst e1 e2
  obtain ⟨n, hn⟩ : ∃ n, n = l.length := ⟨_, rfl⟩
  rw [← hn] at hi hroom hl htake hlen hnc ⊢
  obtain rfl : cap = n := by omega
  have hz2 : ¬ ((i : Int) = (cap : Int)) := by omega
  have hz3 : ¬ (cap = i) := by omega
  have hcl : (cap : Int) < (cap : Int) + 1 := by omega
  obtain ⟨m, hm⟩ : ∃ m, m = cap + 1 - i := ⟨_, rfl⟩
  have hmi : (cap : Int) + 1 - (i : Int) = (m : Int) := by omega
  have him : i + m = cap + 1 := by omega
  have hPl : (prow l).length = cap * 2 := hlen
  have hcell : ∀ j u, (prow l)[j]? = some u → w.cell? ⟨g, j, none⟩ = some u := fun j u hj => by
    unfold World.cell?
    rw [hg]
    show cur[j]? = some u
    rw [← htake, List.getElem?_take] at hj
    split at hj
    · simpa using hj
    · cases hj
  have hadd : ∀ b o j : Nat, (⟨b, o, none⟩ : Addr).add j = ⟨b, o + j, none⟩ := fun b o j => by unfold Addr.add; split <;> simp_all
  obtain ⟨i0, hi0, hz0, hs0, hb0⟩ := info_parts infoPar
  have hap0 := fun ty => run_append_zeros (P := Tryz.prog) w 133 3 ty 137 i0 _ Tryz.underlying133 Tryz.underlying3 hi0 hz0 ⟨g, 0, none⟩ i cap ((prow l).take (i * 2)) (by rw [hs0, List.length_take]; omega) (fun j v hj => by
    rw [hadd, Nat.zero_add]
    rw [List.getElem?_take] at hj
    split at hj
    · exact hcell j v hj
    · cases hj) m (by omega) (by omega) (by omega) (by omega) (growslice_fits (by omega) (by rw [hb0]; omega)) (by rw [hb0]; omega)
  rw [him] at hap0
  obtain ⟨C2, hC2⟩ : ∃ C2, C2 = grownCap w (cap + 1) cap 137 := ⟨_, rfl⟩
  have hC2a : cap + 1 ≤ C2 := by rw [hC2]; exact grownCap_ge w (cap + 1) cap _
  have hC2b : C2 ≤ maxLen := by rw [hC2]; exact grownCap_le_maxLen w (cap + 1) cap _ (by unfold maxLen; omega)
  rw [← hC2] at hap0
  obtain ⟨CUR, hCUR⟩ : ∃ A : Array Value, A = ((prow l).take (i * 2)).toArray ++ (Builtin.zeroCells (Value.cells (.agg #[.int .u64 0, .int .i64 0])) m ++ Builtin.zeroCells (Value.cells (.agg #[.int .u64 0, .int .i64 0])) (C2 - (cap + 1))) := ⟨_, rfl⟩
  rw [← hCUR] at hap0
  have hCs : CUR.size = C2 * 2 := by
    rw [hCUR]
    simp only [Array.size_append, List.size_toArray, size_zeroCells, List.length_take, hPl]
    show min (i * 2) (cap * 2) + (m * 2 + (C2 - (cap + 1)) * 2) = C2 * 2
    omega
  have hCt : CUR.toList.take (i * 2) = (prow l).take (i * 2) := by
    rw [hCUR, Array.toList_append]
    exact List.take_left' (by rw [List.length_take]; omega)
  have hdl : ((prow l).drop (i * 2)).length = (cap - i) * 2 := by rw [List.length_drop, hPl]; omega
  obtain ⟨R1, hR1⟩ : ∃ R1 : List Value, R1 = CUR.toList.take (i * 2) ++ [Value.int .u64 (k : Int), Value.int .i64 0] ++ CUR.toList.drop (i * 2 + 2) := ⟨_, rfl⟩
  have hR1l : R1.length = C2 * 2 := by
    rw [hR1, List.length_append, List.length_append, List.length_take, List.length_drop, Array.length_toList, hCs]
    show min (i * 2) (C2 * 2) + 2 + _ = _
    omega
  obtain ⟨R2, hR2⟩ : ∃ R2 : List Value, R2 = R1.take ((i + 1) * 2) ++ (prow l).drop (i * 2) ++ R1.drop ((i + 1) * 2 + ((prow l).drop (i * 2)).length) := ⟨_, rfl⟩
  have hR2l : R2.length = C2 * 2 := by
    rw [hR2, List.length_append, List.length_append, List.length_take, hdl, List.length_drop, hR1l]
    omega
  have hfin := list_grow (x := [Value.int .u64 (k : Int), Value.int .i64 0]) hPl hCt (by omega) rfl (by rw [Array.length_toList, hCs]; omega) R1 hR1
  obtain ⟨W1, hW1⟩ : ∃ W1, W1 = w.drew.alloc (.cells CUR 137) := ⟨_, rfl⟩
  rw [← hW1] at hap0
  obtain ⟨g2, hg2⟩ : ∃ g2, g2 = w.heap.size := ⟨_, rfl⟩
  rw [← hg2] at hap0
  have hlt : g < w.heap.size := lt_of_heap2 hg
  have hltv : gv < w.heap.size := lt_of_heap2 hgv
  have hW1g2 : W1.heap[g2]? = some (.cells CUR 137 (0, 0)) := by rw [hW1, hg2]; exact Go.heap_alloc_new w.drew _
  have hW1o : ∀ j, j < g2 → W1.heap[j]? = w.heap[j]? := fun j hj => by rw [hW1]; exact heap_alloc_lt w.drew _ (by rw [← show g2 = w.drew.heap.size from hg2]; exact hj)
  have hcp1 : ∀ (W : World), W.heap[g2]? = some (.cells CUR 137 (0, 0)) → W.heap[gv]? = w.heap[gv]? → ∀ ty dc, (Builtin.copy_ #[133, 133] ty #[.slice (some ⟨g2, i * 2, none⟩) (cap + 1 - i) dc, .slice (some ⟨gv, 0, none⟩) 1 1]).run Tryz.prog W = .ok (goInt 1) (W.setRow g2 R1.toArray) := fun W hW hV ty dc => by
    have hmm : Nat.min 1 (cap + 1 - i) = 1 := by simp only [Nat.min_def]; split <;> omega
    have h := run_copy2 W ty g2 (i * 2) (cap + 1 - i) dc ⟨gv, 0, none⟩ 1 1 CUR [Value.int .u64 (k : Int), Value.int .i64 0] hW (by rw [hmm]; rfl) (fun j v hj => by
      rw [hadd, Nat.zero_add]
      unfold World.cell?
      rw [hV, hgv]
      simpa using hj) (by show _ + 2 ≤ CUR.size; rw [hCs]; omega) (by intro v hv; simp at hv; rcases hv with rfl | rfl <;> rfl)
    rw [hmm] at h
    have e2 : (CUR.toList.take (i * 2) ++ [Value.int .u64 (k : Int), Value.int .i64 0] ++ CUR.toList.drop (i * 2 + 2)) = R1 := by rw [hR1]
    rw [← e2]
    exact h
  have hcp2 : ∀ (W : World), W.heap[g2]? = some (.cells R1.toArray 137 (0, 0)) → W.heap[g]? = w.heap[g]? → ∀ ty dc sc, (Builtin.copy_ #[133, 133] ty #[.slice (some ⟨g2, (i + 1) * 2, none⟩) (cap - i) dc, .slice (some ⟨g, i * 2, none⟩) (cap - i) sc]).run Tryz.prog W = .ok (goInt (cap - i)) (W.setRow g2 R2.toArray) := fun W hW hG ty dc sc => by
    have h := run_copy2 W ty g2 ((i + 1) * 2) (cap - i) dc ⟨g, i * 2, none⟩ (cap - i) sc R1.toArray ((prow l).drop (i * 2)) hW (by rw [hdl]; simp only [Nat.min_def]; split <;> omega) (fun j v hj => by
      rw [hadd, World.cell?_of_block (w := w) (w' := W) (a := ⟨g, i * 2 + j, none⟩) hG]
      exact hcell _ _ (by rwa [List.getElem?_drop] at hj)) (by rw [hdl, List.size_toArray, hR1l]; omega) (fun v hv => prow_one v (List.mem_of_mem_drop hv))
    have e2 : (R1.toArray.toList.take ((i + 1) * 2) ++ (prow l).drop (i * 2) ++ R1.toArray.toList.drop ((i + 1) * 2 + ((prow l).drop (i * 2)).length)) = R2 := by rw [hR2]
    rw [← e2]
    rw [h]
    congr 2
    simp only [Nat.min_def]
    split <;> omega
  have hout : ∀ (W : World), W.heap[g2]? = some (.cells R2.toArray 137 (0, 0)) → POwn W base (.slice (some ⟨g2, 0, none⟩) (cap + 1) C2) (l.take i ++ (k, 0) :: l.drop i) := fun W hW => by
    have hll : (l.take i ++ (k, 0) :: l.drop i).length = cap + 1 := by rw [List.length_append, List.length_cons, List.length_take, List.length_drop, ← hn]; omega
    unfold POwn
    rw [hll]
    refine ⟨by rw [prow_length, hll], .inr ⟨g2, C2, R2.toArray, rfl, by omega, hW, hC2a, hC2b, by rw [List.size_toArray, hR2l], ?_⟩⟩
    show R2.take ((cap + 1) * 2) = _
    rw [hR2, hfin, prow_ins l i k (by omega)]
  have hb1 : (0 : Int) ≤ (i : Int) + 1 := by omega
  have htn : ((i : Int) + 1).toNat = i + 1 := by omega
  have hb2 : ¬ (C2 = i + 1) := by omega
  have hb3 : (i : Int) ≤ (cap : Int) + 1 := by omega
  have hb4 : ¬ (C2 = i) := by omega
  have hb5 : (i : Int) + 1 ≤ (cap : Int) + 1 := by omega
  have hw1 : IntKind.i64.wrap ((i : Int) + 1) = (i : Int) + 1 := by rw [IntKind.wrap_i64]; omega
  have hb6 : (i : Int) ≤ (cap : Int) := by omega
  have hb7 : i ≤ cap := by omega
  have h1 := hcp1 W1 hW1g2 (hW1o gv (by omega)) 3 (C2 - i)
  have hR1g : (W1.setRow g2 R1.toArray).heap[g2]? = some (.cells R1.toArray 137 (0, 0)) := setRow_heap _ _ _ _ _ _ hW1g2
  have HC2 := Lib.hid (hcp2 (W1.setRow g2 R1.toArray).drew hR1g ((setRow_other _ _ _ _ (by omega)).trans (hW1o g (by omega))))
  have HAP := Lib.hid hap0
  have HOUT := Lib.hid hout
  have HR1G := Lib.hid hR1g
  have HGR : Hid (w.grownBy ((W1.setRow g2 R1.toArray).drew.setRow g2 R2.toArray) (some g)) := Lib.hid ⟨by rw [hW1]; rfl, by rw [hW1]; rfl, by rw [hW1]; rfl, by rw [hW1]; simp [World.setRow, World.alloc], fun j hj _ => ((setRow_other _ _ _ _ (by omega)).trans (setRow_other W1 _ _ _ (by omega))).trans (hW1o j (by omega))⟩
  have HG2 := Lib.hid hg2
  clear hcp1 hcp2 hap0 hout hfin hR1 hR2 hR1l hR2l hdl hCt hCs hCUR hC2 hW1 hg2 hW1g2 hW1o hlt hltv hcell hPl hg hgv htake hlen ho hcs hn hm him hadd hR1g hi0 hz0 hs0 hb0
  go_enter Tryz.func108, Tryz.ntmps108
  go_wp2_with (at_builtin; go_loud (refine Lib.wpList_append_run w rfl (.tmp 34) (.tmp 39) 133 3 rfl (.slice (some ⟨g, 0, none⟩) i cap) (.int .i64 (m : Int)) rfl rfl _ _ (HAP.out _) ?_))
  go_region_law (refine step_copy_r rfl (.tmp 50) (.tmp 53) 133 133 rfl (.slice (some ⟨g2, (i + 1) * 2, none⟩) (cap - i) (C2 - (i + 1))) (.slice (some ⟨g, i * 2, none⟩) (cap - i) (cap - i)) (by simp [Act.eval, Act.put]) (by simp [Act.eval, Act.put]) (HC2.out 3 (C2 - (i + 1)) (cap - i)) ?_)
  all_goals
    go_wp2_with fail
    go_ret
    exact ⟨_, rfl, HOUT.out _ (setRow_heap _ _ _ _ _ _ HR1G.out), HGR.out, .inr ⟨g2, rfl, by rw [HG2.out]; exact Nat.le_refl _⟩⟩
theorem insert_any (w : World) (base : Nat) (v : Value) (l : List (Nat × Nat)) (i k gv : Nat) (ho : POwn w base v l) (hi : i ≤ l.length) (hgv : w.heap[gv]? = some (.cells #[.int .u64 (k : Int), .int .i64 0] 137 (0, 0))) (hne : v.ownBlock ≠ some gv) (hbase : base ≤ w.heap.size) (hl : l.length ≤ 1000000000) :
    Calls Tryz.prog 108 #[v, .int .i64 (i : Int), .slice (some ⟨gv, 0, none⟩) 1 1] w (InsR w base v.ownBlock (l.take i ++ (k, 0) :: l.drop i)) := by
  rcases Nat.lt_or_ge i l.length with hlt | hge
  · rcases id ho.2 with ⟨rfl, h0⟩ | ⟨g, cap, cur, rfl, hbg, hg, hnc, _⟩
    · omega
    · rcases Nat.lt_or_ge cap (l.length + 1) with h | h
      · exact insert_grow w base g cap l i k gv ho hlt h hgv hbase hl
      · exact insert_shift w base g cap l i k gv ho hlt h hgv (fun e => hne (by rw [e]; rfl)) hl
  · obtain rfl : i = l.length := by omega
    have h := insert_end w base v l k gv ho hgv hbase hl
    rw [List.take_of_length_le (Nat.le_refl _), List.drop_of_length_le (Nat.le_refl _)]
    exact h
end Go.Proofs.YtecbaceinifjiaaGreatDoor
