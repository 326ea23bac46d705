/- AAddB, ACnt: joined by program (tools/merge.py). -/
import Derived.Test.YtecbaceinifjiaaGreatDoorZ3
namespace Go.Proofs.YtecbaceinifjiaaGreatDoor
open Go.RowKit
set_option linter.unusedSimpArgs false
set_option linter.unusedVariables false
set_option maxRecDepth 100000
theorem old_at {m : List (Nat × Nat)} (hr : Rise m) {k c : Nat} (h : getL m k = some c) (u : Nat) : m[posL m k]? = some (k, c) ∧ m.set (posL m k) (k, u) = putL' m k u ∧ posL m k < m.length ∧ hasL m k = true := by
  have h1 := getL_pos hr h
  have h2 : hasL m k = true := by unfold hasL; rw [h]; rfl
  exact ⟨h1, (put_old hr k u h2).symm, (List.getElem?_eq_some_iff.1 h1).1, h2⟩
set_option maxHeartbeats 8000000 in
theorem add_old (w : World) (base gp : Nat) (F : PF) (kid id c c' : Nat) (t : Int) (hP : ParW w base gp F) (hk : kid < 18446744073709551616) (hid : id < 18446744073709551616) (hat : getL (rowP F kid) id = some c) (ht : (c : Int) + t = (c' : Int)) (ht1 : -1 ≤ t ∧ t ≤ 1) (hc' : c' ≠ 0) (hc : c ≤ 999999999) (hl : (rowP F kid).length ≤ 999999999) (hFl : F.length ≤ 1000000000) :
    Calls Tryz.prog 87 #[.map (some gp), .int .u64 (kid : Int), .int .u64 (id : Int), .int .i64 t] w (AddR w base gp kid F (putL' (rowP F kid) id c')) := by
  obtain ⟨l, hL⟩ : ∃ l, l = rowP F kid := ⟨_, rfl⟩
  obtain ⟨ho, hr⟩ := hP.row kid
  rw [← hL] at ho hr hat hl ⊢
  obtain ⟨hat0, hset, hplt, hhas⟩ := old_at hr hat c'
  have hlne : l ≠ [] := fun e => by rw [e] at hplt; simp at hplt
  obtain ⟨g, cp, hv, hgb, hgl⟩ := ho.some_ hlne
  obtain ⟨n, hn⟩ : ∃ n, n = l.length := ⟨_, rfl⟩
  rw [← hn] at hv hl hplt
  rw [hv] at ho
  have hlook : (getL (mapL Prod.fst F) kid).getD (.slice none 0 0) = .slice (some ⟨g, 0, none⟩) n cp := by rw [valP_look, hv]
  obtain ⟨pos, hpos⟩ : ∃ p, p = posL l id := ⟨_, rfl⟩
  rw [← hpos] at hat0 hset hplt
  have hown : OwnsF F g := valP_own (k := kid) (by rw [hv]; rfl)
  have HFI : Hid (Calls Tryz.prog 105 #[.slice (some ⟨g, 0, none⟩) n cp, .int .u64 (id : Int), .func (.func 106) #[] #[]] w fun e w' => e = .returned (.tuple #[.int .i64 (pos : Int), .bool true]) ∧ Below w.heap.size w w') := Lib.hid (by
    have h := find_any w (some ⟨g, 0, none⟩) n cp l id (POwn.lies ho) hn.symm hr (by omega)
    rw [hhas, ← hpos] at h
    exact h)
  have hFm : (mapL Prod.fst F).length < maxLen := by unfold mapL maxLen; rw [List.length_map]; omega
  have hc0 : ¬ (c' : Int) = 0 := by omega
  have hc1 : ((c' : Int) == 0) = false := by rw [beq_eq_false_iff_ne]; exact hc0
  have HV := Lib.hid hv
  have HAT := Lib.hid hat0
  have HSET := Lib.hid hset
  have HP := Lib.hid hP
  have HO := Lib.hid ho
  have HN := Lib.hid hn
  have HR := Lib.hid hr
  have HLK := Lib.hid hlook
  have HOW := Lib.hid hown
  have hnz : ¬ (n : Int) = 0 := by omega
  have hnz2 : ((n : Int) == 0) = false := by rw [beq_eq_false_iff_ne]; exact hnz
  clear hP ho hn hpos hr hlook hv hL hat hat0 hset hhas hown hlne hc'
  go_enter Tryz.func87, Tryz.ntmps87
  go_wp2_with (first
    | (at_lookup; go_loud (
        refine wpList_look w rfl _ _ 64 133 rfl Tryz.underlying64 (.slice none 0 0) (zeroRow w) gp (mapL Prod.fst F) rfl HP.out.map kid hk rfl ?_;
        rw [HLK.out]))
    | (go_at_call 105; (with_reducible refine (HFI.out).mono ?_); rintro e w1 ⟨rfl, hb1⟩; go_loud (
        have hO1 := HO.out.at_ (w' := w1) (fun j hj => hb1.block j (HO.out.block hj).2);
        obtain ⟨q1, q2⟩ := hO1.cell_ HAT.out;
        dsimp only at q1;
        have hg2 : g ≠ gp := HOW.out.ne HP.out;
        have hT3 : Touch w (w1.setCell ⟨g, pos * 2 + 1, none⟩ (.int .i64 (c' : Int))) (fun j => j = gp ∨ j = g) := (Touch.of_below hb1 _).setCell _ _ (.inl (.inr rfl));
        have hM3 := HP.out.map.at_ (w' := w1.setCell ⟨g, pos * 2 + 1, none⟩ (.int .i64 (c' : Int))) ((heap_setCell_other _ ⟨g, pos * 2 + 1, none⟩ gp _ (fun e => hg2 e.symm)).trans (hb1.block gp HP.out.map.lt));
        have hO3 := hO1.set c' HAT.out;
        rw [HSET.out] at hO3;
        have HO3 := Lib.hid hO3;
        have HM3 := Lib.hid hM3;
        have HT3 := Lib.hid hT3;
        have HGG := Lib.hid hg2;
        clear hO1 hg2 hT3 hM3 hO3 hb1))
    | (at_mapUpdate; go_loud (
        refine wpList_store _ rfl (.tmp 53) (.tmp 54) (.tmp 55) 64 133 rfl Tryz.underlying64 gp (mapL Prod.fst F) rfl HM3.out hFm kid hk rfl (.slice (some ⟨g, 0, none⟩) n cp) rfl ?_;
        intro w4 hM4 hT4;
        have HM4 := Lib.hid hM4;
        have HT4 := Lib.hid hT4;
        clear hM4 hT4)))
  have hT := HT3.out.trans (Touch.turned (S := fun j => j = gp) HT4.out rfl) (fun j hj => .inl (.inl hj))
  have hO4 : POwn w4 base (.slice (some ⟨g, 0, none⟩) n cp) (putL' l id c') := HO3.out.at_ fun j hj => HT4.out.grown.block j (HO3.out.block hj).2 (fun e => HGG.out (by injection e with e; rw [← e]; exact Option.some.inj hj))
  have hPut := HP.out.put (k := kid) HM4.out hO4 (by
    intro e
    have h1 := congrArg List.length e
    rw [← HSET.out, List.length_set, List.length_nil] at h1
    have h2 := HN.out
    omega) (HR.out.put id c') (fun j hj hne => hT.block j (hj.lt HP.out).2 (fun e => by
      rcases e with e | e
      · exact hj.ne HP.out e
      · exact hne (by rw [HV.out, e]; rfl))) (fun j hj => by
      rw [HV.out]
      exact .inl hj)
  have hFr := HP.out.rise
  go_end0
  refine ⟨rfl, _, hPut, fun k => rowP_put hFr kid _ _ k, ?_, hT.more fun j e => e.imp (fun h => h) fun h => (by rw [h]; exact HOW.out), fun j hj => own_put hFr (fun j hj => ?_) j hj⟩
  · rw [putL_length _ _ hFr]
    split <;> omega
  · have e : g = j := Option.some.inj hj
    rw [← e]
    exact .inl HOW.out
theorem del_at {m : List (Nat × Nat)} (hr : Rise m) {k c : Nat} (h : getL m k = some c) : (m.set (posL m k) (k, 0)).eraseIdx (posL m k) = delL m k ∧ (delL m k).length + 1 = m.length := by
  have h2 : hasL m k = true := by unfold hasL; rw [h]; rfl
  have h3 := (List.getElem?_eq_some_iff.1 (getL_pos hr h)).1
  have e : (m.set (posL m k) (k, 0)).eraseIdx (posL m k) = delL m k := by
    rw [del_old hr k h2, List.eraseIdx_eq_take_drop_succ, List.eraseIdx_eq_take_drop_succ, List.take_set, List.drop_set, if_pos (by omega)]
    congr 1
    exact List.set_eq_of_length_le (by rw [List.length_take]; omega)
  refine ⟨e, ?_⟩
  rw [del_old hr k h2, List.length_eraseIdx, if_pos h3]
  omega
set_option maxHeartbeats 8000000 in
theorem add_gone (w : World) (base gp : Nat) (F : PF) (kid id : Nat) (hP : ParW w base gp F) (hk : kid < 18446744073709551616) (hid : id < 18446744073709551616) (hat : getL (rowP F kid) id = some 1) (hl : (rowP F kid).length ≤ 999999999) (hFl : F.length ≤ 1000000000) :
    Calls Tryz.prog 87 #[.map (some gp), .int .u64 (kid : Int), .int .u64 (id : Int), .int .i64 (-1)] w (AddR w base gp kid F (delL (rowP F kid) id)) := by
  obtain ⟨l, hL⟩ : ∃ l, l = rowP F kid := ⟨_, rfl⟩
  obtain ⟨ho, hr⟩ := hP.row kid
  rw [← hL] at ho hr hat hl ⊢
  obtain ⟨hat0, _, hplt, hhas⟩ := old_at hr hat 0
  obtain ⟨hdel, hdl⟩ := del_at hr hat
  have hlne : l ≠ [] := fun e => by rw [e] at hplt; simp at hplt
  obtain ⟨g, cp, hv, hgb, hgl⟩ := ho.some_ hlne
  obtain ⟨n, hn⟩ : ∃ n, n = l.length := ⟨_, rfl⟩
  rw [← hn] at hv hl hplt hdl
  rw [hv] at ho
  have hlook : (getL (mapL Prod.fst F) kid).getD (.slice none 0 0) = .slice (some ⟨g, 0, none⟩) n cp := by rw [valP_look, hv]
  obtain ⟨pos, hpos⟩ : ∃ p, p = posL l id := ⟨_, rfl⟩
  rw [← hpos] at hat0 hplt hdel
  have hown : OwnsF F g := valP_own (k := kid) (by rw [hv]; rfl)
  have HFI : Hid (Calls Tryz.prog 105 #[.slice (some ⟨g, 0, none⟩) n cp, .int .u64 (id : Int), .func (.func 106) #[] #[]] w fun e w' => e = .returned (.tuple #[.int .i64 (pos : Int), .bool true]) ∧ Below w.heap.size w w') := Lib.hid (by
    have h := find_any w (some ⟨g, 0, none⟩) n cp l id (POwn.lies ho) hn.symm hr (by omega)
    rw [hhas, ← hpos] at h
    exact h)
  have HDE : Hid (∀ y, POwn y base (.slice (some ⟨g, 0, none⟩) n cp) (l.set pos (id, 0)) → Calls Tryz.prog 109 #[.slice (some ⟨g, 0, none⟩) n cp, .int .i64 (pos : Int), .int .i64 ((pos : Int) + 1)] y (DelR y base g n cp (delL l id))) := Lib.hid (fun y hy => by
    have hll : (l.set pos (id, 0)).length = n := by rw [List.length_set, ← hn]
    have h := delete_any y base g cp (l.set pos (id, 0)) pos (by rw [hll]; exact hy) (by omega) (by omega)
    rw [hll, hdel] at h
    exact h)
  have hFm : (mapL Prod.fst F).length < maxLen := by unfold mapL maxLen; rw [List.length_map]; omega
  have HV := Lib.hid hv
  have HAT := Lib.hid hat0
  have HP := Lib.hid hP
  have HO := Lib.hid ho
  have HN := Lib.hid hn
  have HR := Lib.hid hr
  have HLK := Lib.hid hlook
  have HOW := Lib.hid hown
  have HDL := Lib.hid hdl
  clear hP ho hn hpos hr hlook hv hL hat hat0 hhas hown hlne hdl hdel
  by_cases h1 : n = 1
  · subst h1
    go_enter Tryz.func87, Tryz.ntmps87
    go_wp2_with (first
      | (at_lookup; go_loud (
          refine wpList_look w rfl _ _ 64 133 rfl Tryz.underlying64 (.slice none 0 0) (zeroRow w) gp (mapL Prod.fst F) rfl HP.out.map kid hk rfl ?_;
          rw [HLK.out]))
      | (go_at_call 105; (with_reducible refine (HFI.out).mono ?_); rintro e w1 ⟨rfl, hb1⟩; go_loud (
          have hO1 := HO.out.at_ (w' := w1) (fun j hj => hb1.block j (HO.out.block hj).2);
          obtain ⟨q1, q2⟩ := hO1.cell_ HAT.out;
          dsimp only at q1;
          have hT3 : Touch w (w1.setCell ⟨g, pos * 2 + 1, none⟩ (.int .i64 0)) (fun j => j = gp ∨ j = g) := (Touch.of_below hb1 _).setCell _ _ (.inl (.inr rfl));
          have hO3 : POwn (w1.setCell ⟨g, pos * 2 + 1, none⟩ (.int .i64 0)) base (.slice (some ⟨g, 0, none⟩) 1 cp) (l.set pos (id, 0)) := hO1.set 0 HAT.out;
          have hgp3 : (w1.setCell ⟨g, pos * 2 + 1, none⟩ (.int .i64 0)).heap[gp]? = w.heap[gp]? := (heap_setCell_other _ ⟨g, pos * 2 + 1, none⟩ gp _ (fun e => HOW.out.ne HP.out e.symm)).trans (hb1.block gp HP.out.map.lt);
          have HO3 := Lib.hid hO3;
          have HT3 := Lib.hid hT3;
          have HGP3 := Lib.hid hgp3;
          clear hO1 hT3 hO3 hb1 hgp3))
      | (go_at_call 109; (with_reducible refine (HDE.out _ HO3.out).mono ?_); rintro e w2 ⟨rfl, hO2, hG2⟩; go_loud (
          have hT2 := HT3.out.trans (Touch.of_grown (S := fun j => j = g) hG2 (fun j e => (Option.some.inj e).symm)) (fun j e => .inl (.inr e));
          have hM2 := HP.out.map.at_ (w' := w2) ((hG2.block gp (by have := HP.out.map.lt; have := HT3.out.size; omega) (fun e => HOW.out.ne HP.out (Option.some.inj e).symm)).trans HGP3.out);
          have HO2 := Lib.hid hO2;
          have HM2 := Lib.hid hM2;
          have HT2 := Lib.hid hT2;
          clear hO2 hT2 hM2 hG2))
      | (at_delete; go_loud (
          refine wpList_less _ rfl _ _ 64 133 rfl Tryz.underlying64 gp (mapL Prod.fst F) rfl HM2.out kid hk rfl ?_;
          intro w4 hM4 hT4;
          have HM4 := Lib.hid hM4;
          have HT4 := Lib.hid hT4;
          clear hM4 hT4)))
    have hT := HT2.out.trans (Touch.turned (S := fun j => j = gp) HT4.out rfl) (fun j hj => .inl (.inl hj))
    have hPut := HP.out.del (k := kid) HM4.out (fun j hj hne => hT.block j (hj.lt HP.out).2 (fun e => by
      rcases e with e | e
      · exact hj.ne HP.out e
      · exact hne (by rw [HV.out, e]; rfl)))
    have hnil : delL l id = [] := List.eq_nil_of_length_eq_zero (by have := HDL.out; omega)
    refine bodyPost_ret (results_none rfl _ _ _) rfl ?_
    rw [hnil]
    refine ⟨rfl, _, hPut, fun k => rowP_del kid k, ?_, hT.more fun j e => e.imp (fun h => h) fun h => (by rw [h]; exact HOW.out), fun j hj => .inl (own_del hj)⟩
    unfold delL
    exact Nat.le_succ_of_le (List.length_filter_le _ _)
  · have hnz : ¬ ((n - 1 : Nat) : Int) = 0 := by omega
    have hnz2 : (((n - 1 : Nat) : Int) == 0) = false := by rw [beq_eq_false_iff_ne]; exact hnz
    have hnz3 : ¬ (n - 1 = 0) := by omega
    go_enter Tryz.func87, Tryz.ntmps87
    go_wp2_with (first
      | (at_lookup; go_loud (
          refine wpList_look w rfl _ _ 64 133 rfl Tryz.underlying64 (.slice none 0 0) (zeroRow w) gp (mapL Prod.fst F) rfl HP.out.map kid hk rfl ?_;
          rw [HLK.out]))
      | (go_at_call 105; (with_reducible refine (HFI.out).mono ?_); rintro e w1 ⟨rfl, hb1⟩; go_loud (
          have hO1 := HO.out.at_ (w' := w1) (fun j hj => hb1.block j (HO.out.block hj).2);
          obtain ⟨q1, q2⟩ := hO1.cell_ HAT.out;
          dsimp only at q1;
          have hT3 : Touch w (w1.setCell ⟨g, pos * 2 + 1, none⟩ (.int .i64 0)) (fun j => j = gp ∨ j = g) := (Touch.of_below hb1 _).setCell _ _ (.inl (.inr rfl));
          have hO3 : POwn (w1.setCell ⟨g, pos * 2 + 1, none⟩ (.int .i64 0)) base (.slice (some ⟨g, 0, none⟩) n cp) (l.set pos (id, 0)) := hO1.set 0 HAT.out;
          have hgp3 : (w1.setCell ⟨g, pos * 2 + 1, none⟩ (.int .i64 0)).heap[gp]? = w.heap[gp]? := (heap_setCell_other _ ⟨g, pos * 2 + 1, none⟩ gp _ (fun e => HOW.out.ne HP.out e.symm)).trans (hb1.block gp HP.out.map.lt);
          have HO3 := Lib.hid hO3;
          have HT3 := Lib.hid hT3;
          have HGP3 := Lib.hid hgp3;
          clear hO1 hT3 hO3 hb1 hgp3))
      | (go_at_call 109; (with_reducible refine (HDE.out _ HO3.out).mono ?_); rintro e w2 ⟨rfl, hO2, hG2⟩; go_loud (
          have hT2 := HT3.out.trans (Touch.of_grown (S := fun j => j = g) hG2 (fun j e => (Option.some.inj e).symm)) (fun j e => .inl (.inr e));
          have hM2 := HP.out.map.at_ (w' := w2) ((hG2.block gp (by have := HP.out.map.lt; have := HT3.out.size; omega) (fun e => HOW.out.ne HP.out (Option.some.inj e).symm)).trans HGP3.out);
          have HO2 := Lib.hid hO2;
          have HM2 := Lib.hid hM2;
          have HT2 := Lib.hid hT2;
          clear hO2 hT2 hM2 hG2))
      | (at_mapUpdate; go_loud (
          refine wpList_store _ rfl (.tmp 53) (.tmp 54) (.tmp 55) 64 133 rfl Tryz.underlying64 gp (mapL Prod.fst F) rfl HM2.out hFm kid hk rfl (.slice (some ⟨g, 0, none⟩) (n - 1) cp) rfl ?_;
          intro w4 hM4 hT4;
          have HM4 := Lib.hid hM4;
          have HT4 := Lib.hid hT4;
          clear hM4 hT4)))
    have hT := HT2.out.trans (Touch.turned (S := fun j => j = gp) HT4.out rfl) (fun j hj => .inl (.inl hj))
    have hO4 : POwn w4 base (.slice (some ⟨g, 0, none⟩) (n - 1) cp) (delL l id) := HO2.out.at_ fun j hj => HT4.out.grown.block j (HO2.out.block hj).2 (fun e => HOW.out.ne HP.out (by have e2 := Option.some.inj e; rw [← e2]; exact Option.some.inj hj))
    have hPut := HP.out.put (k := kid) HM4.out hO4 (by
      intro e
      have h1 := congrArg List.length e
      have h2 := HDL.out
      rw [List.length_nil] at h1
      omega) (HR.out.del id) (fun j hj hne => hT.block j (hj.lt HP.out).2 (fun e => by
        rcases e with e | e
        · exact hj.ne HP.out e
        · exact hne (by rw [HV.out, e]; rfl))) (fun j hj => by
        rw [HV.out]
        exact .inl hj)
    have hFr := HP.out.rise
    go_end0
    refine ⟨rfl, _, hPut, fun k => rowP_put hFr kid _ _ k, ?_, hT.more fun j e => e.imp (fun h => h) fun h => (by rw [h]; exact HOW.out), fun j hj => own_put hFr (fun j hj => ?_) j hj⟩
    · rw [putL_length _ _ hFr]
      split <;> omega
    · have e : g = j := Option.some.inj hj
      rw [← e]
      exact .inl HOW.out
end Go.Proofs.YtecbaceinifjiaaGreatDoor
namespace Go.Proofs.YtecbaceinifjiaaGreatDoor
open Go.RowKit
set_option linter.unusedSimpArgs false
set_option linter.unusedVariables false
set_option maxRecDepth 100000
/-- How often a node (second) is a parent of a child (first). -/
abbrev Cnt := Nat → Nat → Nat
structure ParC (w : World) (base gp : Nat) (F : PF) (C : Cnt) (N : Nat) : Prop where
  par : ParW w base gp F
  cnt : ∀ k i, getL (rowP F k) i = if C k i = 0 then none else some (C k i)
  rows : ∀ k, (rowP F k).length ≤ N
  keys : F.length ≤ N
  few : ∀ k i, C k i ≤ N
def addC (C : Cnt) (kid id : Nat) (t : Int) : Cnt := fun k i => if k = kid ∧ i = id then ((C k i : Int) + t).toNat else C k i
def AddC (w : World) (base gp : Nat) (F : PF) (C : Cnt) (N : Nat) (e : Ending) (w' : World) : Prop :=
  e = .returned (.tuple #[]) ∧ ∃ F' : PF, ParC w' base gp F' C N ∧ Touch w w' (fun j => j = gp ∨ OwnsF F j) ∧ (∀ j, OwnsF F' j → OwnsF F j ∨ w.heap.size ≤ j)
theorem ParC.below {w w' : World} {base gp : Nat} {F : PF} {C : Cnt} {N : Nat} (h : ParC w base gp F C N) (hb : Below w.heap.size w w') : ParC w' base gp F C N := ⟨h.par.below hb, h.cnt, h.rows, h.keys, h.few⟩
theorem addC_mono {w : World} {base gp kid id N : Nat} {F : PF} {C : Cnt} {t : Int} {l' : List (Nat × Nat)} (hP : ParC w base gp F C N) (hl : l'.length ≤ N + 1) (hat : ∀ i, getL l' i = if addC C kid id t kid i = 0 then none else some (addC C kid id t kid i)) (hm : addC C kid id t kid id ≤ N + 1) (e : Ending) (w' : World) (h : AddR w base gp kid F l' e w') : AddC w base gp F (addC C kid id t) (N + 1) e w' := by
  obtain ⟨h1, F', h2, h3, h4, h5, h6⟩ := h
  have hk := hP.keys
  refine ⟨h1, F', ⟨h2, fun k i => ?_, fun k => ?_, by omega, fun k i => ?_⟩, h5, h6⟩
  · rw [h3 k]
    by_cases e : k = kid
    · rw [if_pos e, e]; exact hat i
    · have e2 : addC C kid id t k i = C k i := by unfold addC; rw [if_neg (fun h => e h.1)]
      rw [if_neg e, hP.cnt k i, e2]
  · rw [h3 k]
    by_cases e : k = kid
    · rw [if_pos e]; exact hl
    · rw [if_neg e]; exact Nat.le_succ_of_le (hP.rows k)
  · by_cases e : k = kid ∧ i = id
    · rw [e.1, e.2]; exact hm
    · unfold addC
      rw [if_neg e]
      exact Nat.le_succ_of_le (hP.few k i)
theorem add_any (w : World) (base gp : Nat) (F : PF) (C : Cnt) (N kid id : Nat) (t : Int) (hP : ParC w base gp F C N) (hk : kid < 18446744073709551616) (hid : id < 18446744073709551616) (ht : t = 1 ∨ (t = -1 ∧ 0 < C kid id)) (hN : N ≤ 999999990) (hbase : base ≤ w.heap.size) :
    Calls Tryz.prog 87 #[.map (some gp), .int .u64 (kid : Int), .int .u64 (id : Int), .int .i64 t] w (AddC w base gp F (addC C kid id t) (N + 1)) := by
  have hr := (hP.par.row kid).2
  have hlen := hP.rows kid
  have hcn := hP.cnt kid id
  have hfew := hP.few kid id
  have hkeys := hP.keys
  have hval : addC C kid id t kid id = ((C kid id : Int) + t).toNat := by unfold addC; rw [if_pos ⟨rfl, rfl⟩]
  have hoth : ∀ i, i ≠ id → addC C kid id t kid i = C kid i := fun i h => by unfold addC; rw [if_neg (fun e => h e.2)]
  -- what a row with another number says
  have hput : ∀ c', c' ≠ 0 → addC C kid id t kid id = c' → ∀ i, getL (putL' (rowP F kid) id c') i = if addC C kid id t kid i = 0 then none else some (addC C kid id t kid i) := fun c' h0 h1 i => by
    rw [getL_put hr]
    by_cases e : i = id
    · rw [if_pos e, e, h1, if_neg h0]
    · rw [if_neg e, hoth i e, hP.cnt kid i]
  by_cases h0 : C kid id = 0
  · rcases ht with rfl | ⟨_, h⟩
    · rw [if_pos h0] at hcn
      have hno : hasL (rowP F kid) id = false := by unfold hasL; rw [hcn]; rfl
      have hv : addC C kid id 1 kid id = 1 := by rw [hval, h0]; rfl
      refine (add_new w base gp F kid id hP.par hk hid hno (by omega) (by omega) hbase).mono fun e w' h => addC_mono hP ?_ (hput 1 (by omega) hv) (by omega) e w' h
      rw [putL_length _ _ hr]
      split <;> omega
    · omega
  · rw [if_neg h0] at hcn
    by_cases h1 : ((C kid id : Int) + t).toNat = 0
    · have h2 : t = -1 ∧ C kid id = 1 := by omega
      obtain ⟨rfl, h2⟩ := h2
      rw [h2] at hcn
      refine (add_gone w base gp F kid id hP.par hk hid hcn (by omega) (by omega)).mono fun e w' h => addC_mono hP ?_ (fun i => ?_) (by omega) e w' h
      · have := (del_at hr hcn).2
        omega
      · rw [getL_del]
        by_cases e : i = id
        · rw [if_pos e, e, hval, h1, if_pos rfl]
        · rw [if_neg e, hoth i e, hP.cnt kid i]
    · obtain ⟨c', hc'⟩ : ∃ c', c' = ((C kid id : Int) + t).toNat := ⟨_, rfl⟩
      rw [← hc'] at hval h1
      refine (add_old w base gp F kid id (C kid id) c' t hP.par hk hid hcn (by omega) (by omega) h1 (by omega) (by omega) (by omega)).mono fun e w' h => addC_mono hP ?_ (hput c' h1 hval) (by omega) e w' h
      rw [putL_length _ _ hr]
      split <;> omega
end Go.Proofs.YtecbaceinifjiaaGreatDoor
