/- AInsert, ADelete: joined by program (tools/merge.py). -/
import Derived.Test.YtdphpjlhkamadaaZ2
import Derived.Deep.RegionLaw
import Derived.Lib.AppendZeros
namespace Go.Proofs.Ytdphpjlhkamadaa
open Go.RowKit
set_option linter.unusedSimpArgs false
set_option linter.unusedVariables false
set_option maxRecDepth 100000
theorem lt_of_heap2 {w : World} {j : Nat} {o : Obj} (h : w.heap[j]? = some o) : j < w.heap.size := (Array.getElem?_eq_some_iff.1 h).1
theorem heap_alloc_lt (w : World) (o : Obj) {r : Nat} (h : r < w.heap.size) : (w.alloc o).heap[r]? = w.heap[r]? := by first | exact Go.heap_alloc_old _ _ h | exact Go.heap_alloc_old _ _ _ h
def InsR (w : World) (base : Nat) (row : Option Nat) (l : List (Nat × Nat)) (e : Ending) (w' : World) : Prop :=
  ∃ v', e = .returned v' ∧ POwn w' base v' l ∧ w.grownBy w' row ∧ (v'.ownBlock = row ∨ ∃ g, v'.ownBlock = some g ∧ w.heap.size ≤ g)
theorem run_overlaps (w : World) (gv g off lb cb : Nat) (cv cur : Array Value) (hgv : w.heap[gv]? = some (.cells cv 129 (0, 0))) (hg : w.heap[g]? = some (.cells cur 129 (0, 0))) (hne : gv ≠ g) (hs : cur.size ≠ 0) :
    (callFunc 102 #[.slice (some ⟨gv, 0, none⟩) 1 1, .slice (some ⟨g, off, none⟩) lb cb]).run Try.prog w = .ok (.value (.bool false)) w := by
  have hf : Try.prog.funcs[102]? = some Try.f102 := by kernel_rfl
  obtain ⟨i, hi, _, hz, _⟩ := info_parts infoPar
  rw [run_callFunc_extern hf (by kernel_rfl) (by kernel_rfl) (by kernel_rfl) (e := Extern.SlicesOverlaps.overlaps #[127, 127] #[4]) (by kernel_rfl),
    Lib.run_overlaps_apart w 127 4 129 Try.underlying127 2 (fun w => by simp [sizeOf, typeInfo, hi, hz]) ⟨gv, 0, none⟩ ⟨g, off, none⟩ 1 1 lb cb hne 129 129 cv.size cur.size
      (by unfold World.shape?; rw [hgv]) (by unfold World.shape?; rw [hg]) hs (frozen_of_row w gv 0 _ _ hgv) (frozen_of_row w gv _ _ _ hgv)]
  rfl
set_option maxHeartbeats 4000000 in
theorem insert_end (w : World) (base : Nat) (v : Value) (l : List (Nat × Nat)) (k gv : Nat) (ho : POwn w base v l) (hgv : w.heap[gv]? = some (.cells #[.int .u64 (k : Int), .int .i64 0] 129 (0, 0))) (hbase : base ≤ w.heap.size) (hl : l.length ≤ 1000000000) :
    Calls Try.prog 87 #[v, .int .i64 (l.length : Int), .slice (some ⟨gv, 0, none⟩) 1 1] w (InsR w base v.ownBlock (l ++ [(k, 0)])) := by
  obtain ⟨A, c, rfl⟩ := ho.form
  obtain ⟨n, hn⟩ : ∃ n, n = l.length := ⟨_, rfl⟩
  obtain ⟨i0, hi0, hz0, hs0, hb0⟩ := info_parts infoPar
  have hown : w.ownsRow base 129 2 (.slice A n c) n (prow l) := by rw [hn]; exact ho
  rw [← hn] at hl ⊢
  have hcells : ∀ (j : Nat) (u : Value), [Value.int .u64 (k : Int), Value.int .i64 0][j]? = some u → w.cell? ((⟨gv, 0, none⟩ : Addr).add j) = some u := fun j u hj => by
    have e : (⟨gv, 0, none⟩ : Addr).add j = ⟨gv, j, none⟩ := by unfold Addr.add; split <;> simp_all
    rw [e]
    unfold World.cell?
    rw [hgv]
    simpa using hj
  obtain ⟨row, hrow⟩ : ∃ r, r = (Value.slice A n c).ownBlock := ⟨_, rfl⟩
  rw [← hrow]
  have HROW := Lib.hid hrow
  have HO := Lib.hid hown
  have HN := Lib.hid hn
  have HC := Lib.hid hcells
  clear ho hown hn hcells hrow
  go_enter Try.func87, Try.ntmps87
  go_wp2_with (at_builtin; go_loud (
    refine wpList_append_own_at w rfl (.tmp 23) (.tmp 24) 127 rfl base 129 i0 (.agg #[.int .u64 0, .int .i64 0]) 2 16 Try.underlying127 hi0 hz0 hs0 hb0 rfl (by decide) (.slice A n c) n _ rfl HO.out ⟨gv, 0, none⟩ 1 1 _ rfl rfl HC.out (by intro u hu; simp at hu; rcases hu with rfl | rfl <;> rfl) (by unfold maxLen; omega) (by omega) hbase ?_;
    intro v' w' hown' hgrow hnil hloc;
    have HO' := Lib.hid hown';
    rw [← HROW.out] at hgrow hloc;
    have HG' := Lib.hid hgrow;
    have HL' := Lib.hid hloc;
    clear hown' hgrow hnil hloc))
  all_goals
    go_ret
    refine ⟨v', rfl, ?_, HG'.out, HL'.out.imp id fun h => ⟨_, h, Nat.le_refl _⟩⟩
    have h1 := HO'.out
    rw [HN.out] at h1
    unfold POwn
    rw [List.length_append, prow_append]
    exact h1
theorem prow_ins (l : List (Nat × Nat)) (i k : Nat) (hi : i ≤ l.length) : prow (l.take i ++ (k, 0) :: l.drop i) = (prow l).take (i * 2) ++ [Value.int .u64 (k : Int), Value.int .i64 0] ++ (prow l).drop (i * 2) := by
  rw [prow_append, prow_cons, prow_take, prow_drop, List.append_assoc]
  rfl
theorem list_shift {R P : List Value} {i n : Nat} {x : List Value} (hP : P.length = n * 2) (hR : R.take (n * 2) = P) (hi : i ≤ n) (hx : x.length = 2) (hRl : (n + 1) * 2 ≤ R.length) :
    ∀ R1, R1 = R.take ((i + 1) * 2) ++ P.drop (i * 2) ++ R.drop ((i + 1) * 2 + (P.drop (i * 2)).length) → (R1.take (i * 2) ++ x ++ R1.drop (i * 2 + 2)).take ((n + 1) * 2) = P.take (i * 2) ++ x ++ P.drop (i * 2) := by
  intro R1 h1
  have e1 : R1.take (i * 2) = P.take (i * 2) := by
    rw [h1, List.append_assoc, List.take_append_of_le_length (by rw [List.length_take]; omega), List.take_take, ← hR, List.take_take]
    congr 1
    omega
  have hl : (R.take ((i + 1) * 2)).length = i * 2 + 2 := by rw [List.length_take]; omega
  have e2 : R1.drop (i * 2 + 2) = P.drop (i * 2) ++ R.drop ((i + 1) * 2 + (P.drop (i * 2)).length) := by
    rw [h1, List.append_assoc]
    exact List.drop_left' hl
  have hd : (P.drop (i * 2)).length = (n - i) * 2 := by rw [List.length_drop, hP]; omega
  have ht : (P.take (i * 2)).length = i * 2 := by rw [List.length_take]; omega
  rw [e1, e2, ← List.append_assoc]
  refine List.take_left' ?_
  rw [List.length_append, List.length_append, hx, hd, ht]
  omega
set_option maxHeartbeats 4000000 in
theorem insert_shift (w : World) (base g cap : Nat) (l : List (Nat × Nat)) (i k gv : Nat) (ho : POwn w base (.slice (some ⟨g, 0, none⟩) l.length cap) l) (hi : i < l.length) (hroom : l.length + 1 ≤ cap) (hgv : w.heap[gv]? = some (.cells #[.int .u64 (k : Int), .int .i64 0] 129 (0, 0))) (hne : gv ≠ g) (hl : l.length ≤ 1000000000) :
    Calls Try.prog 87 #[.slice (some ⟨g, 0, none⟩) l.length cap, .int .i64 (i : Int), .slice (some ⟨gv, 0, none⟩) 1 1] w (InsR w base (some g) (l.take i ++ (k, 0) :: l.drop i)) := by
  obtain ⟨hlen, hcase⟩ := id ho
  rcases hcase with ⟨h0, _⟩ | ⟨g', cap', cur, e, hbg, hg, hnc, hcm, hcs, htake⟩
  · cases h0
  injection e with e1 _ e2
  injection e1 with e1
  injection e1 with e1 _ _
  subst e1 e2
  obtain ⟨n, hn⟩ : ∃ n, n = l.length := ⟨_, rfl⟩
  rw [← hn] at hi hroom hl htake hlen ⊢
  have hz2 : ¬ ((i : Int) = (n : Int)) := by omega
  have hcell : ∀ j u, (prow l)[j]? = some u → w.cell? ⟨g, j, none⟩ = some u := fun j u hj => by
    unfold World.cell?
    rw [hg]
    show cur[j]? = some u
    rw [← htake, List.getElem?_take] at hj
    split at hj
    · simpa using hj
    · cases hj
  have hsz : cur.size ≠ 0 := by omega
  have hov : ∀ off lb cb, (callFunc 102 #[.slice (some ⟨gv, 0, none⟩) 1 1, .slice (some ⟨g, off, none⟩) lb cb]).run Try.prog w = .ok (.value (.bool false)) w := fun off lb cb => run_overlaps w gv g off lb cb _ _ hgv hg hne hsz
  have hcl : ¬ (cap : Int) < (n : Int) + 1 := by omega
  have hRl : (n + 1) * 2 ≤ cur.toList.length := by rw [Array.length_toList]; omega
  have hPl : (prow l).length = n * 2 := hlen
  have hdl : ((prow l).drop (i * 2)).length = (n - i) * 2 := by rw [List.length_drop, hPl]; omega
  obtain ⟨R1, hR1⟩ : ∃ R1 : List Value, R1 = cur.toList.take ((i + 1) * 2) ++ (prow l).drop (i * 2) ++ cur.toList.drop ((i + 1) * 2 + ((prow l).drop (i * 2)).length) := ⟨_, rfl⟩
  have hR1l : R1.length = cap * 2 := by
    rw [hR1, List.length_append, List.length_append, List.length_take, hdl, List.length_drop, Array.length_toList]
    omega
  have hfin := list_shift (x := [Value.int .u64 (k : Int), Value.int .i64 0]) hPl htake (by omega) rfl hRl R1 hR1
  have hcp1 : ∀ (W : World), W.heap[g]? = w.heap[g]? → ∀ ty dc sc, (Builtin.copy_ #[127, 127] ty #[.slice (some ⟨g, (i + 1) * 2, none⟩) (n - i) dc, .slice (some ⟨g, i * 2, none⟩) (n + 1 - i) sc]).run Try.prog W = .ok (goInt (n - i)) (W.setRow g R1.toArray) := fun W hW ty dc sc => by
    have h := run_copy2 W ty g ((i + 1) * 2) (n - i) dc ⟨g, i * 2, none⟩ (n + 1 - i) sc cur ((prow l).drop (i * 2)) (hW.trans hg) (by rw [hdl]; simp only [Nat.min_def]; split <;> omega) (fun j v hj => by
      have e : (⟨g, i * 2, none⟩ : Addr).add j = ⟨g, i * 2 + j, none⟩ := by unfold Addr.add; split <;> simp_all
      rw [e, World.cell?_of_block (w := w) (w' := W) (a := ⟨g, i * 2 + j, none⟩) hW]
      exact hcell _ _ (by rwa [List.getElem?_drop] at hj)) (by rw [hdl]; omega) (fun v hv => prow_one v (List.mem_of_mem_drop hv))
    rw [← hR1] at h
    rw [h]
    congr 2
    simp only [Nat.min_def]
    split <;> omega
  obtain ⟨R2, hR2⟩ : ∃ R2 : List Value, R2 = R1.take (i * 2) ++ [Value.int .u64 (k : Int), Value.int .i64 0] ++ R1.drop (i * 2 + 2) := ⟨_, rfl⟩
  have hR2l : R2.length = cap * 2 := by
    rw [hR2, List.length_append, List.length_append, List.length_take, List.length_drop, hR1l]
    show min (i * 2) (cap * 2) + 2 + _ = _
    omega
  have hcp2 : ∀ (W : World), W.heap[g]? = some (.cells R1.toArray 129 (0, 0)) → W.heap[gv]? = w.heap[gv]? → ∀ ty dc, (Builtin.copy_ #[127, 127] ty #[.slice (some ⟨g, i * 2, none⟩) (n + 1 - i) dc, .slice (some ⟨gv, 0, none⟩) 1 1]).run Try.prog W = .ok (goInt 1) (W.setRow g R2.toArray) := fun W hW hV ty dc => by
    have hm : Nat.min 1 (n + 1 - i) = 1 := by simp only [Nat.min_def]; split <;> omega
    have h := run_copy2 W ty g (i * 2) (n + 1 - i) dc ⟨gv, 0, none⟩ 1 1 R1.toArray [Value.int .u64 (k : Int), Value.int .i64 0] hW (by rw [hm]; rfl) (fun j v hj => by
      have e : (⟨gv, 0, none⟩ : Addr).add j = ⟨gv, j, none⟩ := by unfold Addr.add; split <;> simp_all
      rw [e]
      unfold World.cell?
      rw [hV, hgv]
      simpa using hj) (by show _ + 2 ≤ R1.toArray.size; rw [List.size_toArray, hR1l]; omega) (by intro v hv; simp at hv; rcases hv with rfl | rfl <;> rfl)
    rw [hm] at h
    have e2 : (R1.toArray.toList.take (i * 2) ++ [Value.int .u64 (k : Int), Value.int .i64 0] ++ R1.toArray.toList.drop (i * 2 + 2)) = R2 := by rw [hR2]
    rw [← e2]
    exact h
  have hout : ∀ (W : World), W.heap[g]? = some (.cells R2.toArray 129 (0, 0)) → POwn W base (.slice (some ⟨g, 0, none⟩) (n + 1) cap) (l.take i ++ (k, 0) :: l.drop i) := fun W hW => by
    have hll : (l.take i ++ (k, 0) :: l.drop i).length = n + 1 := by rw [List.length_append, List.length_cons, List.length_take, List.length_drop, ← hn]; omega
    unfold POwn
    rw [hll]
    refine ⟨by rw [prow_length, hll], .inr ⟨g, cap, R2.toArray, rfl, hbg, hW, hroom, hcm, by rw [List.size_toArray, hR2l], ?_⟩⟩
    show R2.take ((n + 1) * 2) = _
    rw [hR2, hfin, prow_ins l i k (by omega)]
  have hb1 : (0 : Int) ≤ (i : Int) + 1 := by omega
  have htn : ((i : Int) + 1).toNat = i + 1 := by omega
  have hb2 : ¬ (cap = i + 1) := by omega
  have hb3 : (i : Int) ≤ (n : Int) + 1 := by omega
  have hb4 : ¬ (cap = i) := by omega
  have hb5 : (i : Int) + 1 ≤ (n : Int) + 1 := by omega
  have hw1 : IntKind.i64.wrap ((i : Int) + 1) = (i : Int) + 1 := by rw [IntKind.wrap_i64]; omega
  have HG := Lib.hid hg
  have HGV := Lib.hid hgv
  have HOUT := Lib.hid hout
  have HC1 := Lib.hid hcp1
  have HC2 := Lib.hid hcp2
  clear hout hcp1 hcp2 hg hgv hcell hfin hR1 hR2 htake hlen hPl hdl hRl hR1l hR2l hn ho hsz hcs
  go_enter Try.func87, Try.ntmps87
  go_wp2_with (simp only [hov])
  go_region_law (refine step_copy_r rfl (.tmp 73) (.tmp 76) 127 127 rfl (.slice (some ⟨g, (i + 1) * 2, none⟩) (n - i) (cap - (i + 1))) (.slice (some ⟨g, i * 2, none⟩) (n + 1 - i) (cap - i)) (by simp [Act.eval, Act.put]) (by simp [Act.eval, Act.put]) (HC1.out w.drew rfl 3 (cap - (i + 1)) (cap - i)) ?_)
  all_goals
    have h2 := HC2.out (w.drew.setRow g R1.toArray) (setRow_heap _ _ _ _ _ _ HG.out) (setRow_other _ _ _ _ hne) 3 (cap - i)
    go_wp2_with fail
    go_ret
    refine ⟨_, rfl, HOUT.out _ (setRow_heap _ _ _ _ _ _ (setRow_heap _ _ _ _ _ _ HG.out)), ?_, .inl rfl⟩
    exact ⟨rfl, rfl, rfl, by simp [World.setRow], fun j hj hjg => ((setRow_other _ _ _ _ (fun e => hjg (by rw [e]))).trans (setRow_other _ _ _ _ (fun e => hjg (by rw [e]))))⟩
theorem run_append_zeros {P : Program} (w : World) (t tn ty e : TypeId) (i : TypeInfo) (z : Value) (ht : P.underlying t = some (.slice e)) (htn : P.underlying tn = some (.int .i64)) (hi : P.info? e = some i) (hz : i.zero = some z)
    (b : Addr) (sLen sCap : Nat) (olds : List Value) (hlo : olds.length = sLen * i.size) (holds : ∀ (j : Nat) (v : Value), olds[j]? = some v → w.cell? (b.add j) = some v)
    (n : Nat) (h0 : 0 < n) (hs : 0 < i.size) (hg : sCap < sLen + n) (h63 : ((sLen + n : Nat) : Int) ≤ 9223372036854775807) (hfit : Builtin.nextslicecap (sLen + n) sCap * i.bytes ≤ 281474976710656) (h48 : n * i.bytes ≤ 281474976710656) :
    (Builtin.append_ #[t, tn] ty #[.slice (some b) sLen sCap, .int .i64 (n : Int)]).run P w =
      .ok (.slice (some ⟨w.heap.size, 0, none⟩) (sLen + n) (grownCap w (sLen + n) sCap e)) (w.drew.alloc (.cells (olds.toArray ++ (Builtin.zeroCells z.cells n ++ Builtin.zeroCells z.cells (grownCap w (sLen + n) sCap e - (sLen + n)))) e)) := by
  have hn : n ≠ 0 := by omega
  have hw : IntKind.i64.wrap (n : Int) = n := by rw [IntKind.wrap_i64]; omega
  have hn2 : ¬ (sLen + n ≤ sCap) := by omega
  have h63' : ¬ (9223372036854775807 < ((sLen : Int) + (n : Int))) := by omega
  have h48' : ¬ (281474976710656 < Builtin.nextslicecap (sLen + n) sCap * i.bytes) := by omega
  have h48i : ¬ (281474976710656 < (n : Int) * (i.bytes : Int)) := by
    rw [← Int.natCast_mul]
    omega
  have hneg : ¬ ((n : Int) < 0) := by omega
  have hns : ¬ (n * i.size = 0) := Nat.mul_ne_zero hn (by omega)
  have hfo := run_firstCells_some (P := P) w.drew i.size sLen b sLen sCap olds hlo (by simpa using holds)
  simp [Builtin.append_, run_underlying ht, run_underlying htn, sizeOf, typeInfo, zeroValue, hi, hz, asInt, asIntOf, hw, hn, hneg, hns, hn2, h63', h48', h48i, Question.forced, hfo, newRow, grownCap, Builtin.lenOf]
theorem list_grow {P R : List Value} {i n : Nat} {x : List Value} (hP : P.length = n * 2) (hR : R.take (i * 2) = P.take (i * 2)) (hi : i ≤ n) (hx : x.length = 2) (hRl : (n + 1) * 2 ≤ R.length) :
    ∀ R1, R1 = R.take (i * 2) ++ x ++ R.drop (i * 2 + 2) → (R1.take ((i + 1) * 2) ++ P.drop (i * 2) ++ R1.drop ((i + 1) * 2 + (P.drop (i * 2)).length)).take ((n + 1) * 2) = P.take (i * 2) ++ x ++ P.drop (i * 2) := by
  intro R1 h1
  have ht : (P.take (i * 2)).length = i * 2 := by rw [List.length_take]; omega
  have hd : (P.drop (i * 2)).length = (n - i) * 2 := by rw [List.length_drop, hP]; omega
  have e1 : R1.take ((i + 1) * 2) = P.take (i * 2) ++ x := by
    rw [h1, hR]
    exact List.take_left' (by rw [List.length_append, ht, hx]; omega)
  rw [e1]
  refine List.take_left' ?_
  rw [List.length_append, List.length_append, hx, hd, ht]
  omega
set_option maxHeartbeats 4000000 in
theorem insert_grow (w : World) (base g cap : Nat) (l : List (Nat × Nat)) (i k gv : Nat) (ho : POwn w base (.slice (some ⟨g, 0, none⟩) l.length cap) l) (hi : i < l.length) (hroom : cap < l.length + 1) (hgv : w.heap[gv]? = some (.cells #[.int .u64 (k : Int), .int .i64 0] 129 (0, 0))) (hbase : base ≤ w.heap.size) (hl : l.length ≤ 1000000000) :
    Calls Try.prog 87 #[.slice (some ⟨g, 0, none⟩) l.length cap, .int .i64 (i : Int), .slice (some ⟨gv, 0, none⟩) 1 1] w (InsR w base (some g) (l.take i ++ (k, 0) :: l.drop i)) := by
  obtain ⟨hlen, hcase⟩ := id ho
  rcases hcase with ⟨h0, _⟩ | ⟨g', cap', cur, e, hbg, hg, hnc, hcm, hcs, htake⟩
  · cases h0
  injection e with e1 _ e2
  injection e1 with e1
  injection e1 with e1 _ _
  subst e1 e2
  obtain ⟨n, hn⟩ : ∃ n, n = l.length := ⟨_, rfl⟩
  rw [← hn] at hi hroom hl htake hlen hnc ⊢
  obtain rfl : cap = n := by omega
  have hz2 : ¬ ((i : Int) = (cap : Int)) := by omega
  have hz3 : ¬ (cap = i) := by omega
  have hcl : (cap : Int) < (cap : Int) + 1 := by omega
  obtain ⟨m, hm⟩ : ∃ m, m = cap + 1 - i := ⟨_, rfl⟩
  have hmi : (cap : Int) + 1 - (i : Int) = (m : Int) := by omega
  have him : i + m = cap + 1 := by omega
  have hPl : (prow l).length = cap * 2 := hlen
  have hcell : ∀ j u, (prow l)[j]? = some u → w.cell? ⟨g, j, none⟩ = some u := fun j u hj => by
    unfold World.cell?
    rw [hg]
    show cur[j]? = some u
    rw [← htake, List.getElem?_take] at hj
    split at hj
    · simpa using hj
    · cases hj
  have hadd : ∀ b o j : Nat, (⟨b, o, none⟩ : Addr).add j = ⟨b, o + j, none⟩ := fun b o j => by unfold Addr.add; split <;> simp_all
  obtain ⟨i0, hi0, hz0, hs0, hb0⟩ := info_parts infoPar
  have hap0 := fun ty => run_append_zeros (P := Try.prog) w 127 3 ty 129 i0 _ Try.underlying127 Try.underlying3 hi0 hz0 ⟨g, 0, none⟩ i cap ((prow l).take (i * 2)) (by rw [hs0, List.length_take]; omega) (fun j v hj => by
    rw [hadd, Nat.zero_add]
    rw [List.getElem?_take] at hj
    split at hj
    · exact hcell j v hj
    · cases hj) m (by omega) (by omega) (by omega) (by omega) (growslice_fits (by omega) (by rw [hb0]; omega)) (by rw [hb0]; omega)
  rw [him] at hap0
  obtain ⟨C2, hC2⟩ : ∃ C2, C2 = grownCap w (cap + 1) cap 129 := ⟨_, rfl⟩
  have hC2a : cap + 1 ≤ C2 := by rw [hC2]; exact grownCap_ge w (cap + 1) cap _
  have hC2b : C2 ≤ maxLen := by rw [hC2]; exact grownCap_le_maxLen w (cap + 1) cap _ (by unfold maxLen; omega)
  rw [← hC2] at hap0
  obtain ⟨CUR, hCUR⟩ : ∃ A : Array Value, A = ((prow l).take (i * 2)).toArray ++ (Builtin.zeroCells (Value.cells (.agg #[.int .u64 0, .int .i64 0])) m ++ Builtin.zeroCells (Value.cells (.agg #[.int .u64 0, .int .i64 0])) (C2 - (cap + 1))) := ⟨_, rfl⟩
  rw [← hCUR] at hap0
  have hCs : CUR.size = C2 * 2 := by
    rw [hCUR]
    simp only [Array.size_append, List.size_toArray, size_zeroCells, List.length_take, hPl]
    show min (i * 2) (cap * 2) + (m * 2 + (C2 - (cap + 1)) * 2) = C2 * 2
    omega
  have hCt : CUR.toList.take (i * 2) = (prow l).take (i * 2) := by
    rw [hCUR, Array.toList_append]
    exact List.take_left' (by rw [List.length_take]; omega)
  have hdl : ((prow l).drop (i * 2)).length = (cap - i) * 2 := by rw [List.length_drop, hPl]; omega
  obtain ⟨R1, hR1⟩ : ∃ R1 : List Value, R1 = CUR.toList.take (i * 2) ++ [Value.int .u64 (k : Int), Value.int .i64 0] ++ CUR.toList.drop (i * 2 + 2) := ⟨_, rfl⟩
  have hR1l : R1.length = C2 * 2 := by
    rw [hR1, List.length_append, List.length_append, List.length_take, List.length_drop, Array.length_toList, hCs]
    show min (i * 2) (C2 * 2) + 2 + _ = _
    omega
  obtain ⟨R2, hR2⟩ : ∃ R2 : List Value, R2 = R1.take ((i + 1) * 2) ++ (prow l).drop (i * 2) ++ R1.drop ((i + 1) * 2 + ((prow l).drop (i * 2)).length) := ⟨_, rfl⟩
  have hR2l : R2.length = C2 * 2 := by
    rw [hR2, List.length_append, List.length_append, List.length_take, hdl, List.length_drop, hR1l]
    omega
  have hfin := list_grow (x := [Value.int .u64 (k : Int), Value.int .i64 0]) hPl hCt (by omega) rfl (by rw [Array.length_toList, hCs]; omega) R1 hR1
  obtain ⟨W1, hW1⟩ : ∃ W1, W1 = w.drew.alloc (.cells CUR 129) := ⟨_, rfl⟩
  rw [← hW1] at hap0
  obtain ⟨g2, hg2⟩ : ∃ g2, g2 = w.heap.size := ⟨_, rfl⟩
  rw [← hg2] at hap0
  have hlt : g < w.heap.size := lt_of_heap2 hg
  have hltv : gv < w.heap.size := lt_of_heap2 hgv
  have hW1g2 : W1.heap[g2]? = some (.cells CUR 129 (0, 0)) := by rw [hW1, hg2]; exact Go.heap_alloc_new w.drew _
  have hW1o : ∀ j, j < g2 → W1.heap[j]? = w.heap[j]? := fun j hj => by rw [hW1]; exact heap_alloc_lt w.drew _ (by rw [← show g2 = w.drew.heap.size from hg2]; exact hj)
  have hcp1 : ∀ (W : World), W.heap[g2]? = some (.cells CUR 129 (0, 0)) → W.heap[gv]? = w.heap[gv]? → ∀ ty dc, (Builtin.copy_ #[127, 127] ty #[.slice (some ⟨g2, i * 2, none⟩) (cap + 1 - i) dc, .slice (some ⟨gv, 0, none⟩) 1 1]).run Try.prog W = .ok (goInt 1) (W.setRow g2 R1.toArray) := fun W hW hV ty dc => by
    have hmm : Nat.min 1 (cap + 1 - i) = 1 := by simp only [Nat.min_def]; split <;> omega
    have h := run_copy2 W ty g2 (i * 2) (cap + 1 - i) dc ⟨gv, 0, none⟩ 1 1 CUR [Value.int .u64 (k : Int), Value.int .i64 0] hW (by rw [hmm]; rfl) (fun j v hj => by
      rw [hadd, Nat.zero_add]
      unfold World.cell?
      rw [hV, hgv]
      simpa using hj) (by show _ + 2 ≤ CUR.size; rw [hCs]; omega) (by intro v hv; simp at hv; rcases hv with rfl | rfl <;> rfl)
    rw [hmm] at h
    have e2 : (CUR.toList.take (i * 2) ++ [Value.int .u64 (k : Int), Value.int .i64 0] ++ CUR.toList.drop (i * 2 + 2)) = R1 := by rw [hR1]
    rw [← e2]
    exact h
  have hcp2 : ∀ (W : World), W.heap[g2]? = some (.cells R1.toArray 129 (0, 0)) → W.heap[g]? = w.heap[g]? → ∀ ty dc sc, (Builtin.copy_ #[127, 127] ty #[.slice (some ⟨g2, (i + 1) * 2, none⟩) (cap - i) dc, .slice (some ⟨g, i * 2, none⟩) (cap - i) sc]).run Try.prog W = .ok (goInt (cap - i)) (W.setRow g2 R2.toArray) := fun W hW hG ty dc sc => by
    have h := run_copy2 W ty g2 ((i + 1) * 2) (cap - i) dc ⟨g, i * 2, none⟩ (cap - i) sc R1.toArray ((prow l).drop (i * 2)) hW (by rw [hdl]; simp only [Nat.min_def]; split <;> omega) (fun j v hj => by
      rw [hadd, World.cell?_of_block (w := w) (w' := W) (a := ⟨g, i * 2 + j, none⟩) hG]
      exact hcell _ _ (by rwa [List.getElem?_drop] at hj)) (by rw [hdl, List.size_toArray, hR1l]; omega) (fun v hv => prow_one v (List.mem_of_mem_drop hv))
    have e2 : (R1.toArray.toList.take ((i + 1) * 2) ++ (prow l).drop (i * 2) ++ R1.toArray.toList.drop ((i + 1) * 2 + ((prow l).drop (i * 2)).length)) = R2 := by rw [hR2]
    rw [← e2]
    rw [h]
    congr 2
    simp only [Nat.min_def]
    split <;> omega
  have hout : ∀ (W : World), W.heap[g2]? = some (.cells R2.toArray 129 (0, 0)) → POwn W base (.slice (some ⟨g2, 0, none⟩) (cap + 1) C2) (l.take i ++ (k, 0) :: l.drop i) := fun W hW => by
    have hll : (l.take i ++ (k, 0) :: l.drop i).length = cap + 1 := by rw [List.length_append, List.length_cons, List.length_take, List.length_drop, ← hn]; omega
    unfold POwn
    rw [hll]
    refine ⟨by rw [prow_length, hll], .inr ⟨g2, C2, R2.toArray, rfl, by omega, hW, hC2a, hC2b, by rw [List.size_toArray, hR2l], ?_⟩⟩
    show R2.take ((cap + 1) * 2) = _
    rw [hR2, hfin, prow_ins l i k (by omega)]
  have hb1 : (0 : Int) ≤ (i : Int) + 1 := by omega
  have htn : ((i : Int) + 1).toNat = i + 1 := by omega
  have hb2 : ¬ (C2 = i + 1) := by omega
  have hb3 : (i : Int) ≤ (cap : Int) + 1 := by omega
  have hb4 : ¬ (C2 = i) := by omega
  have hb5 : (i : Int) + 1 ≤ (cap : Int) + 1 := by omega
  have hw1 : IntKind.i64.wrap ((i : Int) + 1) = (i : Int) + 1 := by rw [IntKind.wrap_i64]; omega
  have hb6 : (i : Int) ≤ (cap : Int) := by omega
  have hb7 : i ≤ cap := by omega
  have h1 := hcp1 W1 hW1g2 (hW1o gv (by omega)) 3 (C2 - i)
  have hR1g : (W1.setRow g2 R1.toArray).heap[g2]? = some (.cells R1.toArray 129 (0, 0)) := setRow_heap _ _ _ _ _ _ hW1g2
  have HC2 := Lib.hid (hcp2 (W1.setRow g2 R1.toArray).drew hR1g ((setRow_other _ _ _ _ (by omega)).trans (hW1o g (by omega))))
  have HAP := Lib.hid hap0
  have HOUT := Lib.hid hout
  have HR1G := Lib.hid hR1g
  have HGR : Hid (w.grownBy ((W1.setRow g2 R1.toArray).drew.setRow g2 R2.toArray) (some g)) := Lib.hid ⟨by rw [hW1]; rfl, by rw [hW1]; rfl, by rw [hW1]; rfl, by rw [hW1]; simp [World.setRow, World.alloc], fun j hj _ => ((setRow_other _ _ _ _ (by omega)).trans (setRow_other W1 _ _ _ (by omega))).trans (hW1o j (by omega))⟩
  have HG2 := Lib.hid hg2
  clear hcp1 hcp2 hap0 hout hfin hR1 hR2 hR1l hR2l hdl hCt hCs hCUR hC2 hW1 hg2 hW1g2 hW1o hlt hltv hcell hPl hg hgv htake hlen ho hcs hn hm him hadd hR1g hi0 hz0 hs0 hb0
  go_enter Try.func87, Try.ntmps87
  go_wp2_with (at_builtin; go_loud (refine Lib.wpList_append_run w rfl (.tmp 34) (.tmp 39) 127 3 rfl (.slice (some ⟨g, 0, none⟩) i cap) (.int .i64 (m : Int)) rfl rfl _ _ (HAP.out _) ?_))
  go_region_law (refine step_copy_r rfl (.tmp 50) (.tmp 53) 127 127 rfl (.slice (some ⟨g2, (i + 1) * 2, none⟩) (cap - i) (C2 - (i + 1))) (.slice (some ⟨g, i * 2, none⟩) (cap - i) (cap - i)) (by simp [Act.eval, Act.put]) (by simp [Act.eval, Act.put]) (HC2.out 3 (C2 - (i + 1)) (cap - i)) ?_)
  all_goals
    go_wp2_with fail
    go_ret
    exact ⟨_, rfl, HOUT.out _ (setRow_heap _ _ _ _ _ _ HR1G.out), HGR.out, .inr ⟨g2, rfl, by rw [HG2.out]; exact Nat.le_refl _⟩⟩
theorem insert_any (w : World) (base : Nat) (v : Value) (l : List (Nat × Nat)) (i k gv : Nat) (ho : POwn w base v l) (hi : i ≤ l.length) (hgv : w.heap[gv]? = some (.cells #[.int .u64 (k : Int), .int .i64 0] 129 (0, 0))) (hne : v.ownBlock ≠ some gv) (hbase : base ≤ w.heap.size) (hl : l.length ≤ 1000000000) :
    Calls Try.prog 87 #[v, .int .i64 (i : Int), .slice (some ⟨gv, 0, none⟩) 1 1] w (InsR w base v.ownBlock (l.take i ++ (k, 0) :: l.drop i)) := by
  rcases Nat.lt_or_ge i l.length with hlt | hge
  · rcases id ho.2 with ⟨rfl, h0⟩ | ⟨g, cap, cur, rfl, hbg, hg, hnc, _⟩
    · omega
    · rcases Nat.lt_or_ge cap (l.length + 1) with h | h
      · exact insert_grow w base g cap l i k gv ho hlt h hgv hbase hl
      · exact insert_shift w base g cap l i k gv ho hlt h hgv (fun e => hne (by rw [e]; rfl)) hl
  · obtain rfl : i = l.length := by omega
    have h := insert_end w base v l k gv ho hgv hbase hl
    rw [List.take_of_length_le (Nat.le_refl _), List.drop_of_length_le (Nat.le_refl _)]
    exact h
end Go.Proofs.Ytdphpjlhkamadaa
namespace Go.Proofs.Ytdphpjlhkamadaa
open Go.RowKit
set_option linter.unusedSimpArgs false
set_option linter.unusedVariables false
set_option maxRecDepth 100000
theorem run_clear2 (w : World) (ty : TypeId) (g o c : Nat) (cur : Array Value) (hg : w.heap[g]? = some (.cells cur 129 (0, 0))) (hfit : o + 2 ≤ cur.size) :
    (Builtin.clear_ #[127] ty #[.slice (some ⟨g, o, none⟩) 1 c]).run Try.prog w = .ok (.tuple #[]) (w.setRow g (cur.toList.take o ++ [Value.int .u64 0, Value.int .i64 0] ++ cur.toList.drop (o + 2)).toArray) := by
  have hst := run_storeCells_at Try.prog g o 129 [Value.int .u64 0, Value.int .i64 0] 0 cur w hg (by simpa using hfit) (by intro v hv; simp at hv; rcases hv with rfl | rfl <;> rfl)
  obtain ⟨i, hi, hz, hs, _⟩ := info_parts infoPar
  have hzc : (Builtin.zeroCells (Value.cells (.agg #[.int .u64 0, .int .i64 0])) 1).toList = [Value.int .u64 0, Value.int .i64 0] := by
    unfold Builtin.zeroCells
    rw [Array.toList_map, Array.toList_range]
    rfl
  simp [Builtin.clear_, run_underlying Try.underlying127, zeroValue, typeInfo, hi, hz, hzc, hst]
theorem step_append_r {P : Program} {ops : Array Oper} {o : Oper} {a : Act} {Q : Exit → Act → World → Prop} {w : World} {K : Act → World → Prop} {E : Prop} (hg : o.guard = none) (d x : Operand) (dT sT : TypeId) (hop : o.op = Op.call { callee := Callee.builtin Builtin.append, args := #[d, x], argTypes := #[dT, sT] })
    (v u : Value) (hd : a.eval d = v) (hx : a.eval x = u) {v' : Value} {w' : World} (hr : (Builtin.append_ #[dT, sT] o.type #[v, u]).run P w = .ok v' w') (hK : K (a.put o.dst v') w') :
    if Region.wanted o (yielded ops a.tmps) = true then Oper.wp P o a w K Q else E := by
  have hw : Region.wanted o (yielded ops a.tmps) = true := by simp [Region.wanted, hg]
  rw [if_pos hw]
  unfold Oper.wp
  simp [execOp, hop, resolve, invoke, builtin, hd, hx, hr, Result.andThen]
  exact hK
theorem prow_del (l : List (Nat × Nat)) (i : Nat) : prow (l.eraseIdx i) = (prow l).take (i * 2) ++ (prow l).drop ((i + 1) * 2) := by
  rw [List.eraseIdx_eq_take_drop_succ, prow_append, prow_take, prow_drop]
theorem list_less {P R : List Value} {i n : Nat} {x : List Value} (hP : P.length = n * 2) (hR : R.take (n * 2) = P) (hi : i < n) (hRl : n * 2 ≤ R.length) :
    ∀ R1, R1 = R.take (i * 2) ++ P.drop ((i + 1) * 2) ++ R.drop (i * 2 + (P.drop ((i + 1) * 2)).length) → (R1.take ((n - 1) * 2) ++ x ++ R1.drop ((n - 1) * 2 + 2)).take ((n - 1) * 2) = P.take (i * 2) ++ P.drop ((i + 1) * 2) := by
  intro R1 h1
  have hd : (P.drop ((i + 1) * 2)).length = (n - 1 - i) * 2 := by rw [List.length_drop, hP]; omega
  have ht : R.take (i * 2) = P.take (i * 2) := by rw [← hR, List.take_take]; congr 1; omega
  have hl : (P.take (i * 2)).length = i * 2 := by rw [List.length_take]; omega
  have e1 : R1.take ((n - 1) * 2) = P.take (i * 2) ++ P.drop ((i + 1) * 2) := by
    rw [h1, ht]
    exact List.take_left' (by rw [List.length_append, hl, hd]; omega)
  rw [e1, List.append_assoc]
  exact List.take_left' (by rw [List.length_append, hl, hd]; omega)
def DelR (w : World) (base g n cap : Nat) (l : List (Nat × Nat)) (e : Ending) (w' : World) : Prop :=
  e = .returned (.slice (some ⟨g, 0, none⟩) (n - 1) cap) ∧ POwn w' base (.slice (some ⟨g, 0, none⟩) (n - 1) cap) l ∧ w.grownBy w' (some g)
set_option maxHeartbeats 4000000 in
theorem delete_mid (w : World) (base g cap : Nat) (l : List (Nat × Nat)) (i : Nat) (ho : POwn w base (.slice (some ⟨g, 0, none⟩) l.length cap) l) (hi : i < l.length) (hc : ¬ cap = i + 1) (hl : l.length ≤ 1000000000) :
    Calls Try.prog 88 #[.slice (some ⟨g, 0, none⟩) l.length cap, .int .i64 (i : Int), .int .i64 ((i : Int) + 1)] w (DelR w base g l.length cap (l.eraseIdx i)) := by
  obtain ⟨hlen, hcase⟩ := id ho
  rcases hcase with ⟨h0, _⟩ | ⟨g', cap', cur, e, hbg, hg, hnc, hcm, hcs, htake⟩
  · cases h0
  injection e with e1 _ e2
  injection e1 with e1
  injection e1 with e1 _ _
  subst e1 e2
  obtain ⟨n, hn⟩ : ∃ n, n = l.length := ⟨_, rfl⟩
  rw [← hn] at hi hl htake hlen hnc ⊢
  have hPl : (prow l).length = n * 2 := hlen
  have hcell : ∀ j u, (prow l)[j]? = some u → w.cell? ⟨g, j, none⟩ = some u := fun j u hj => by
    unfold World.cell?
    rw [hg]
    show cur[j]? = some u
    rw [← htake, List.getElem?_take] at hj
    split at hj
    · simpa using hj
    · cases hj
  have hadd : ∀ b o j : Nat, (⟨b, o, none⟩ : Addr).add j = ⟨b, o + j, none⟩ := fun b o j => by unfold Addr.add; split <;> simp_all
  obtain ⟨i0, hi0, hz0, hs0, hb0⟩ := info_parts infoPar
  have hdl : ((prow l).drop ((i + 1) * 2)).length = (n - 1 - i) * 2 := by rw [List.length_drop, hPl]; omega
  obtain ⟨R1, hR1⟩ : ∃ R1 : List Value, R1 = cur.toList.take (i * 2) ++ (prow l).drop ((i + 1) * 2) ++ cur.toList.drop (i * 2 + ((prow l).drop ((i + 1) * 2)).length) := ⟨_, rfl⟩
  have hR1l : R1.length = cap * 2 := by
    rw [hR1, List.length_append, List.length_append, List.length_take, hdl, List.length_drop, Array.length_toList]
    omega
  obtain ⟨R2, hR2⟩ : ∃ R2 : List Value, R2 = R1.take ((n - 1) * 2) ++ [Value.int .u64 0, Value.int .i64 0] ++ R1.drop ((n - 1) * 2 + 2) := ⟨_, rfl⟩
  have hR2l : R2.length = cap * 2 := by
    rw [hR2, List.length_append, List.length_append, List.length_take, List.length_drop, hR1l]
    show min ((n - 1) * 2) (cap * 2) + 2 + _ = _
    omega
  have hfin := list_less (x := [Value.int .u64 0, Value.int .i64 0]) hPl htake hi (by rw [Array.length_toList]; omega) R1 hR1
  have hap : ∀ (W : World), W.heap[g]? = w.heap[g]? → ∀ ty c, (Builtin.append_ #[127, 127] ty #[.slice (some ⟨g, 0, none⟩) i cap, .slice (some ⟨g, (i + 1) * 2, none⟩) (n - (i + 1)) c]).run Try.prog W = .ok (.slice (some ⟨g, 0, none⟩) (n - 1) cap) (W.setRow g R1.toArray) := fun W hW ty c => by
    have h := run_append_room (P := Try.prog) (w := W) 127 ty 129 i0 Try.underlying127 hi0 g i cap cur (hW.trans hg) ⟨g, (i + 1) * 2, none⟩ (n - (i + 1)) c ((prow l).drop ((i + 1) * 2)) (by rw [hs0, hdl]; omega) (fun j u hj => by
      rw [hadd, World.cell?_of_block (w := w) (w' := W) (a := ⟨g, (i + 1) * 2 + j, none⟩) hW]
      exact hcell _ _ (by rwa [List.getElem?_drop] at hj)) (fun v hv => prow_one v (List.mem_of_mem_drop hv)) (by omega) (by rw [hs0, hdl]; omega)
    rw [hs0, ← hR1, show i + (n - (i + 1)) = n - 1 by omega] at h
    exact h
  have hcle : ∀ (W : World), W.heap[g]? = some (.cells R1.toArray 129 (0, 0)) → ∀ ty c, (Builtin.clear_ #[127] ty #[.slice (some ⟨g, (n - 1) * 2, none⟩) 1 c]).run Try.prog W = .ok (.tuple #[]) (W.setRow g R2.toArray) := fun W hW ty c => by
    have h := run_clear2 W ty g ((n - 1) * 2) c R1.toArray hW (by rw [List.size_toArray, hR1l]; omega)
    have e2 : (R1.toArray.toList.take ((n - 1) * 2) ++ [Value.int .u64 0, Value.int .i64 0] ++ R1.toArray.toList.drop ((n - 1) * 2 + 2)) = R2 := by rw [hR2]
    rw [e2] at h
    exact h
  have hout : ∀ (W : World), W.heap[g]? = some (.cells R2.toArray 129 (0, 0)) → POwn W base (.slice (some ⟨g, 0, none⟩) (n - 1) cap) (l.eraseIdx i) := fun W hW => by
    have hll : (l.eraseIdx i).length = n - 1 := by rw [List.length_eraseIdx, if_pos (by omega), ← hn]
    unfold POwn
    rw [hll]
    refine ⟨by rw [prow_length, hll], .inr ⟨g, cap, R2.toArray, rfl, hbg, hW, by omega, hcm, by rw [List.size_toArray, hR2l], ?_⟩⟩
    show R2.take ((n - 1) * 2) = _
    rw [hR2, hfin, prow_del l i]
  have hz2 : ¬ ((i : Int) = (i : Int) + 1) := by omega
  have hb1 : (0 : Int) ≤ (i : Int) + 1 := by omega
  have htn : ((i : Int) + 1).toNat = i + 1 := by omega
  have hb3 : (i : Int) ≤ (n : Int) := by omega
  have hb4 : ¬ (cap = i) := by omega
  have hb5 : (i : Int) + 1 ≤ (n : Int) := by omega
  have hb6 : (i : Int) ≤ (i : Int) + 1 := by omega
  have hb7 : i ≤ cap := by omega
  have hb8 : (i : Int) ≤ (cap : Int) := by omega
  have hb9 : (n : Int) ≤ (cap : Int) := by omega
  have hb10 : ¬ (cap = n - 1) := by omega
  have hb11 : ((n - 1 : Nat) : Int) ≤ (n : Int) := by omega
  have hb12 : n - (n - 1) = 1 := by omega
  have HG := Lib.hid hg
  have HAP := Lib.hid hap
  have HCL := Lib.hid hcle
  have HOUT := Lib.hid hout
  clear hap hcle hout hfin hR1 hR2 hR1l hR2l hdl hcell hPl hg htake hlen ho hcs hn hadd hi0 hz0 hs0 hb0
  go_enter Try.func88, Try.ntmps88
  go_wp2_with fail
  go_region_law (refine step_append_r rfl (.tmp 22) (.tmp 25) 127 127 rfl (.slice (some ⟨g, 0, none⟩) i cap) (.slice (some ⟨g, (i + 1) * 2, none⟩) (n - (i + 1)) (cap - (i + 1))) (by simp [Act.eval, Act.put]) (by simp [Act.eval, Act.put]) (HAP.out w.drew rfl 127 (cap - (i + 1))) ?_)
  all_goals
    have h2 := HCL.out (w.drew.setRow g R1.toArray) (setRow_heap _ _ _ _ _ _ HG.out) 0 (cap - (n - 1))
    go_wp2_with fail
    go_ret
    exact ⟨rfl, HOUT.out _ (setRow_heap _ _ _ _ _ _ (setRow_heap _ _ _ _ _ _ HG.out)), ⟨rfl, rfl, rfl, by simp [World.setRow], fun j hj hjg => ((setRow_other _ _ _ _ (fun e => hjg (by rw [e]))).trans (setRow_other _ _ _ _ (fun e => hjg (by rw [e]))))⟩⟩
set_option maxHeartbeats 4000000 in
theorem delete_last (w : World) (base g : Nat) (l : List (Nat × Nat)) (i : Nat) (ho : POwn w base (.slice (some ⟨g, 0, none⟩) l.length (i + 1)) l) (hi : i + 1 = l.length) (hl : l.length ≤ 1000000000) :
    Calls Try.prog 88 #[.slice (some ⟨g, 0, none⟩) (i + 1) (i + 1), .int .i64 (i : Int), .int .i64 ((i : Int) + 1)] w (DelR w base g (i + 1) (i + 1) (l.eraseIdx i)) := by
  obtain ⟨hlen, hcase⟩ := id ho
  rcases hcase with ⟨h0, _⟩ | ⟨g', cap', cur, e, hbg, hg, hnc, hcm, hcs, htake⟩
  · cases h0
  injection e with e1 _ e2
  injection e1 with e1
  injection e1 with e1 _ _
  subst e1 e2
  rw [← hi] at hl htake hlen hnc
  have hPl : (prow l).length = (i + 1) * 2 := hlen
  obtain ⟨i0, hi0, hz0, hs0, hb0⟩ := info_parts infoPar
  obtain ⟨R2, hR2⟩ : ∃ R2 : List Value, R2 = cur.toList.take (i * 2) ++ [Value.int .u64 0, Value.int .i64 0] ++ cur.toList.drop (i * 2 + 2) := ⟨_, rfl⟩
  have hR2l : R2.length = (i + 1) * 2 := by
    rw [hR2, List.length_append, List.length_append, List.length_take, List.length_drop, Array.length_toList]
    show min (i * 2) _ + 2 + _ = _
    omega
  have hap : ∀ (W : World), W.heap[g]? = w.heap[g]? → ∀ ty c, (Builtin.append_ #[127, 127] ty #[.slice (some ⟨g, 0, none⟩) i (i + 1), .slice (some ⟨g, 0, none⟩) 0 c]).run Try.prog W = .ok (.slice (some ⟨g, 0, none⟩) i (i + 1)) W := fun W hW ty c => by
    have h := run_append_room (P := Try.prog) (w := W) 127 ty 129 i0 Try.underlying127 hi0 g i (i + 1) cur (hW.trans hg) ⟨g, 0, none⟩ 0 c [] (by simp) (fun j u hj => by simp at hj) (by simp) (by omega) (by rw [hs0]; simp; omega)
    rw [List.append_nil, List.length_nil, Nat.add_zero, Nat.add_zero (i * i0.size), List.take_append_drop, Array.toArray_toList, setRow_self W g cur 129 (0, 0) (hW.trans hg)] at h
    exact h
  have hcle : ∀ (W : World), W.heap[g]? = w.heap[g]? → ∀ ty c, (Builtin.clear_ #[127] ty #[.slice (some ⟨g, i * 2, none⟩) 1 c]).run Try.prog W = .ok (.tuple #[]) (W.setRow g R2.toArray) := fun W hW ty c => by
    have h := run_clear2 W ty g (i * 2) c cur (hW.trans hg) (by omega)
    rw [← hR2] at h
    exact h
  have hout : ∀ (W : World), W.heap[g]? = some (.cells R2.toArray 129 (0, 0)) → POwn W base (.slice (some ⟨g, 0, none⟩) i (i + 1)) (l.eraseIdx i) := fun W hW => by
    have hll : (l.eraseIdx i).length = i := by rw [List.length_eraseIdx, if_pos (by omega), ← hi]; rfl
    unfold POwn
    rw [hll]
    refine ⟨by rw [prow_length, hll], .inr ⟨g, i + 1, R2.toArray, rfl, hbg, hW, by omega, hcm, by rw [List.size_toArray, hR2l], ?_⟩⟩
    show R2.take (i * 2) = _
    have e1 : cur.toList.take (i * 2) = (prow l).take (i * 2) := by rw [← htake, List.take_take]; congr 1; omega
    rw [hR2, e1, List.append_assoc, List.take_left' (by rw [List.length_take]; omega), prow_del l i, List.drop_of_length_le (by omega), List.append_nil]
  have hz2 : ¬ ((i : Int) = (i : Int) + 1) := by omega
  have hb1 : (0 : Int) ≤ (i : Int) + 1 := by omega
  have htn : ((i : Int) + 1).toNat = i + 1 := by omega
  have hb4 : ¬ (i + 1 = i) := by omega
  have hb6 : (i : Int) ≤ (i : Int) + 1 := by omega
  have hb12 : i + 1 - i = 1 := by omega
  have hgr : ∀ q : Nat, w.grownBy ((w.drewN q).setRow g R2.toArray) (some g) := fun q => ⟨rfl, rfl, rfl, by simp [World.setRow, World.drewN], fun j hj hjg => (setRow_other _ _ _ _ (fun e => hjg (by rw [e])))⟩
  have HG := Lib.hid hg
  have HAP := Lib.hid hap
  have HCL := Lib.hid hcle
  have HOUT := Lib.hid hout
  have HGR := Lib.hid hgr
  have h2 := hcle w.drew rfl 0 1
  clear hap hcle hout hR2 hR2l hPl hg htake hlen ho hcs hi hi0 hz0 hs0 hb0 hgr hnc
  go_enter Try.func88, Try.ntmps88
  go_wp2_with fail
  go_region_law (refine step_append_r rfl (.tmp 22) (.tmp 25) 127 127 rfl (.slice (some ⟨g, 0, none⟩) i (i + 1)) (.slice (some ⟨g, 0, none⟩) 0 0) (by simp [Act.eval, Act.put]) (by simp [Act.eval, Act.put]) (HAP.out w.drew rfl 127 0) ?_)
  all_goals
    go_wp2_with fail
    go_ret
    exact ⟨rfl, HOUT.out _ (setRow_heap _ _ _ _ _ _ HG.out), HGR.out 1⟩
theorem delete_any (w : World) (base g cap : Nat) (l : List (Nat × Nat)) (i : Nat) (ho : POwn w base (.slice (some ⟨g, 0, none⟩) l.length cap) l) (hi : i < l.length) (hl : l.length ≤ 1000000000) :
    Calls Try.prog 88 #[.slice (some ⟨g, 0, none⟩) l.length cap, .int .i64 (i : Int), .int .i64 ((i : Int) + 1)] w (DelR w base g l.length cap (l.eraseIdx i)) := by
  by_cases hc : cap = i + 1
  · have h1 : i + 1 = l.length := by
      obtain ⟨_, h0⟩ := id ho
      rcases h0 with ⟨h0, _⟩ | ⟨g', cap', cur, e, _, _, hnc, _⟩
      · cases h0
      · injection e with _ _ e2
        omega
    subst hc
    have h := delete_last w base g l i ho h1 hl
    rw [h1] at h ⊢
    exact h
  · exact delete_mid w base g cap l i ho hi hc hl
end Go.Proofs.Ytdphpjlhkamadaa
