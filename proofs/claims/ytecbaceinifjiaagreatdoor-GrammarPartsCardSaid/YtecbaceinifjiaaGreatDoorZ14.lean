/- GDefB, GShow, GNest: joined by program (tools/merge.py). -/
import Derived.Test.YtecbaceinifjiaaGreatDoorZ13
namespace Go.Proofs.YtecbaceinifjiaaGreatDoor
open Go.RowKit
set_option linter.unusedSimpArgs false
set_option linter.unusedVariables false
set_option maxRecDepth 100000
attribute [local go_sem] Oper.semAt_some undef
/-- A text that may be part of a key. -/
def GoodM (n : List Nat) : Prop := (∀ b ∈ n, b < 256) ∧ n.length ≤ 9223372036854775807
theorem GoodN.m {n : List Nat} (h : GoodN n) : GoodM n := ⟨h.1, Nat.le_trans h.2 (by decide)⟩
theorem pathKeyOf {a b : List Nat} (ha : GoodM a) (hb : GoodM b) : ∃ l, keyOf Tryz.prog 78 (.agg #[.string (ba a), .string (ba b)]) = some l :=
  path_key (by rw [← str_length, str_ba ha.1]; have := ha.2; unfold maxLen; omega) (by rw [← str_length, str_ba hb.1]; have := hb.2; unfold maxLen; omega)
set_option maxHeartbeats 4000000 in
theorem defFun_any (w : World) (base : Nat) (M : GM) (s : PS) (h : GR w base M s) (a n : List Nat) (id : Nat) (ha : GoodM a) (hn : GoodN n) (hs : s.left.length * 16 + s.nodes.length + (s.cnt + 1) ≤ 10000000) :
    Calls Tryz.prog 68 #[.pointer (some ⟨M.gp, 4, none⟩), .map (some M.bf), .agg #[.string (ba a), .string (ba n)], .int .u64 (id : Int)] w fun e w' => e = .returned (.tuple #[]) ∧ GR w' base M (defFunS a n id s) ∧ Touch w w' (OwnG M) := by
  obtain ⟨l, hk⟩ := pathKeyOf ha hn.m
  have hb : Below w.heap.size w (w.alloc (.cells #[.string (ba a), .string (ba n)] 78)) := (Below.refl _ _).alloc (Nat.le_refl _) _
  obtain ⟨W1, hW1⟩ : ∃ W1, W1 = w.alloc (.cells #[.string (ba a), .string (ba n)] 78) := ⟨_, rfl⟩
  have hx : W1.heap[w.heap.size]? = some (.cells #[.string (ba a), .string (ba n)] 78 (0, 0)) := by rw [hW1]; exact Go.heap_alloc_new _ _
  rw [← hW1] at hb
  have h1 := h.below hb
  have r1 := h1.funs.run_look pathKeyed Tryz.underlying52 (zeroID W1) hk
  have e1 : fP s.funs (.agg #[.string (ba a), .string (ba n)]) = s.funs a n := by show s.funs (str (ba a)) (str (ba n)) = _; rw [str_ba ha.1, str_ba hn.1]
  rw [e1] at r1
  have hbl := blame_any W1 base M s h1 10 (by decide)
  rw [show ((10 : Nat) : Int) = 10 from rfl] at hbl
  have HB := Lib.hid hbl
  have HH := Lib.hid h1
  have HS := Lib.hid hs
  have HN := Lib.hid hn
  have HA := Lib.hid ha
  have HK := Lib.hid hk
  have HBW := Lib.hid hb
  have HW1 := Lib.hid hW1
  have hcb : s.cnt ≤ 10000000 := by omega
  have q0 : W1.cell? ⟨w.heap.size, 0, none⟩ = some (.string (ba a)) := by unfold World.cell?; rw [hx]; rfl
  have q1 : W1.cell? ⟨w.heap.size, 1, none⟩ = some (.string (ba n)) := by unfold World.cell?; rw [hx]; rfl
  have HX := Lib.hid hx
  have HGN : Hid (w.heap.size ≠ M.gp) := Lib.hid (by have := h.gpL; omega)
  obtain ⟨v, hv⟩ : ∃ v, v = s.funs a n := ⟨_, rfl⟩
  rw [← hv] at r1
  have HV := Lib.hid hv
  clear h h1 hbl hs hn ha hk e1 hv hb hW1 hx
  by_cases h0 : v = 0
  · subst h0
    go_enter Tryz.func68, Tryz.ntmps68
    go_upto_region 1 with fail
    rw [← HW1.out]
    go_wp2_with (at_mapUpdate; refine wpList_gstore rfl _ _ _ rfl pathKeyed Tryz.underlying52 rfl HH.out.funs (by unfold maxLen; omega) (.agg #[.string (ba a), .string (ba n)]) l HK.out rfl id rfl (fP (put2 s.funs (str (ba a)) (str (ba n)) id)) (fP_put _ _ _ _) (fun u _ _ hu => fP_other _ _ _ _ u hu) ?_; intro w2 hm2 ht2; go_loud (
      rw [str_ba HN.out.1, str_ba HA.out.1] at hm2;
      have HG2 := Lib.hid (HH.out.setFun (put2 s.funs a n id) hm2 ht2.grown HS.out);
      have HT2 := Lib.hid ((Touch.of_below HBW.out (OwnG M)).trans (Touch.map (S := OwnG M) ht2.grown (.inr (.inr (.inr (.inr (.inl rfl)))))) fun j e => .inl e);
      clear hm2 ht2))
    go_end0
    refine ⟨rfl, ?_, HT2.out⟩
    unfold defFunS
    rw [← HV.out, if_neg (by simp)]
    exact HG2.out
  · have h1 : ¬ (v : Int) = 0 := by omega
    have h1b : ((v : Int) != 0) = true := by simpa using h1
    go_enter Tryz.func68, Tryz.ntmps68
    go_upto_region 1 with fail
    rw [← HW1.out]
    go_wp2_with (first
      | (go_at_call 32; (with_reducible refine (HB.out).mono ?_); rintro e w1 ⟨rfl, hg1, hT1⟩; go_loud (
          have hx1 := (hT1.block _ (lt_of_heap2 HX.out) (fun e => HGN.out e)).trans HX.out;
          have p0 : w1.cell? ⟨w.heap.size, 0, none⟩ = some (.string (ba a)) := (by unfold World.cell?; rw [hx1]; rfl);
          have p1 : w1.cell? ⟨w.heap.size, 1, none⟩ = some (.string (ba n)) := (by unfold World.cell?; rw [hx1]; rfl);
          have HG1 := Lib.hid hg1;
          have HT1 := Lib.hid hT1;
          clear hg1 hT1 hx1))
      | (at_mapUpdate; refine wpList_gstore rfl _ _ _ rfl pathKeyed Tryz.underlying52 rfl HG1.out.funs (by show s.cnt < maxLen; unfold maxLen; omega) (.agg #[.string (ba a), .string (ba n)]) l HK.out rfl id rfl (fP (put2 s.funs (str (ba a)) (str (ba n)) id)) (fP_put _ _ _ _) (fun u _ _ hu => fP_other _ _ _ _ u hu) ?_; intro w2 hm2 ht2; go_loud (
          rw [str_ba HN.out.1, str_ba HA.out.1] at hm2;
          have HG2 := Lib.hid (HG1.out.setFun (put2 s.funs a n id) hm2 ht2.grown HS.out);
          have HT2 := Lib.hid (((Touch.of_below HBW.out (OwnG M)).trans (HT1.out.more fun j e => .inl e) fun j e => .inl e).trans (Touch.map (S := OwnG M) ht2.grown (.inr (.inr (.inr (.inr (.inl rfl)))))) fun j e => .inl e);
          clear hm2 ht2)))
    go_end0
    refine ⟨rfl, ?_, HT2.out⟩
    unfold defFunS
    rw [if_pos (by rw [← HV.out]; exact h0)]
    exact HG2.out
theorem Touch.new {a b : World} {S : Nat → Prop} (h : Touch a b S) (o : Obj) : Touch a (b.alloc o) S := h.after ((Below.refl _ _).alloc (Nat.le_refl _) _)
theorem fS_none : ∀ v, fS (fun _ => 0) v = 0 := fun v => by cases v <;> rfl
set_option maxHeartbeats 4000000 in
theorem enter_any (w : World) (base : Nat) (M : GM) (s : PS) (h : GR w base M s) :
    Calls Tryz.prog 69 #[.pointer (some ⟨M.gp, 4, none⟩)] w fun e w' => e = .returned (.tuple #[]) ∧ ∃ g1 g2, GR w' base { M with vt := some g1, vv := some g2, sv := .slice none 0 0 } (enterS s) ∧ Touch w w' (Only M.gp) ∧ w.heap.size ≤ g1 ∧ w.heap.size ≤ g2 := by
  have hmm := @run_makeMap Tryz.prog
  obtain ⟨⟨c0, c1, c2, c3, c4, c5, c6, c7, c8, c9, c10⟩, hf⟩ := h.cells
  have f6 := hf 6
  have f7 := hf 7
  have f8 := hf 8
  have HH := Lib.hid h
  have hgl := h.gpL
  clear h hf
  go_enter Tryz.func69, Tryz.ntmps69
  go_wp2_with fail
  go_end0
  obtain ⟨W3, hW3⟩ : ∃ W3, W3 = ((w.setCell ⟨M.gp, 6, none⟩ (.map (some w.heap.size))).setCell ⟨M.gp, 7, none⟩ (.map (some (w.heap.size + 1)))).setCell ⟨M.gp, 8, none⟩ (.slice none 0 0) := ⟨_, rfl⟩
  rw [← hW3]
  have hsz : W3.heap.size = w.heap.size := by rw [hW3]; simp
  have hst3 : W3.heap[M.gp]? = some (.cells ((((pcells M s).setIfInBounds 6 (.map (some w.heap.size))).setIfInBounds 7 (.map (some (w.heap.size + 1)))).setIfInBounds 8 (.slice none 0 0)) 59 (0, 0)) := by
    rw [hW3]
    exact heap_setCell_same _ M.gp 8 _ _ _ (heap_setCell_same _ M.gp 7 _ _ _ (HH.out.setSt 6 _))
  have hk3 : ∀ j, j ≠ M.gp → W3.heap[j]? = w.heap[j]? := fun j hj => by
    rw [hW3]
    exact (heap_setCell_other _ ⟨M.gp, 8, none⟩ j _ hj).trans ((heap_setCell_other _ ⟨M.gp, 7, none⟩ j _ hj).trans (heap_setCell_other _ ⟨M.gp, 6, none⟩ j _ hj))
  have hT3 : Touch w W3 (Only M.gp) := by rw [hW3]; exact (((Touch.refl w _).fld 6 _).fld 7 _).fld 8 _
  clear hW3
  have hb4 : Below W3.heap.size W3 (W3.alloc (.map #[] 0)) := (Below.refl _ _).alloc (Nat.le_refl _) _
  have hb5 : Below (W3.alloc (.map #[] 0)).heap.size (W3.alloc (.map #[] 0)) ((W3.alloc (.map #[] 0)).alloc (.map #[] 0)) := (Below.refl _ _).alloc (Nat.le_refl _) _
  have hm1 := (MapF.made 9 W3 (fS fun _ => 0) fS_none)
  have hm2 := (MapF.made 9 (W3.alloc (.map #[] 0)) (fS fun _ => 0) fS_none)
  have hm1' := hm1.at_ (hb5.block _ hm1.lt)
  have hs4 : (W3.alloc (.map #[] 0)).heap.size = w.heap.size + 1 := by simp [hsz]
  rw [hsz] at hm1'
  rw [hs4] at hm2
  obtain ⟨W5, hW5⟩ : ∃ W5, W5 = (W3.alloc (.map #[] 0)).alloc (.map #[] 0) := ⟨_, rfl⟩
  have hb : Below W3.heap.size W3 W5 := by rw [hW5]; exact hb4.trans (hb5.mono hb4.size)
  rw [← hW5] at hm1' hm2 ⊢
  clear hW5 hb4 hb5 hs4 hm1
  have hkk : ∀ j, j < w.heap.size → j ≠ M.gp → W5.heap[j]? = w.heap[j]? := fun j hj hne => (hb.block j (by rw [hsz]; exact hj)).trans (hk3 j hne)
  have hc : ∀ {j : Nat} {cs : Array Value} {t : TypeId} {z : Nat × Nat}, t ≠ 59 → w.heap[j]? = some (.cells cs t z) → W5.heap[j]? = w.heap[j]? := fun {j cs t z} ht hj => hkk j (lt_of_heap2 hj) (diff_block HH.out.st hj fun e => ht (by injection e with e; exact e.symm))
  have h := HH.out
  refine ⟨rfl, w.heap.size, w.heap.size + 1, ⟨(hb.block _ (by rw [hsz]; exact hgl)).trans hst3, h.left.at_ fun j cs z hj => hc (by decide) hj, h.nodes.at_ (fun j cs hj => hc (by decide) hj) (fun j cs hj => hc (by decide) hj), h.mods.at_ (hkk _ h.mods.lt (h.mods.ne_cells h.st)), h.funs.at_ (hkk _ h.funs.lt (h.funs.ne_cells h.st)),
    .inr ⟨_, rfl, hm1'.more (Nat.zero_le _)⟩, .inr ⟨_, rfl, hm2.more (Nat.zero_le _)⟩, World.ownsRow_nil _ _ _ _, ownsRow_at h.calls fun j cs hj => hc (by decide) hj, h.o1, h.o2, h.o3, fun g e => ?_, fun g e => ?_, h.n1, fun g e => ?_, fun g e => ?_, ?_, h.goodT, by simp [enterS], h.goodC, h.sum, Nat.zero_le _, h.ca, h.dep, h.flt, h.vs.on ((hT3.below h.hb fun j e => by rw [show j = M.gp from e]; exact h.o1).trans (hb.mono (by rw [hsz]; exact h.hb))) h.gb, h.gb, fun _ => by show 0 < 18446744073709551616; omega⟩, hT3.after hb, Nat.le_refl _, Nat.le_succ _⟩
  · injection e with e; rw [← e]; exact h.hb
  · injection e with e; rw [← e]; exact Nat.le_trans h.hb (Nat.le_succ _)
  · injection e with e
    subst e
    have h1 := h.mods.lt
    have h2 := h.funs.lt
    exact ⟨by show _ ≠ M.bm; omega, by show _ ≠ M.bf; omega, fun e2 => by injection e2 with e2; omega⟩
  · injection e with e
    subst e
    have h1 := h.mods.lt
    have h2 := h.funs.lt
    exact ⟨by show _ ≠ M.bm; omega, by show _ ≠ M.bf; omega⟩
  · exact Nat.le_trans h.hb (Nat.le_trans (by rw [hsz]; exact Nat.le_refl _) hb.size)
end Go.Proofs.YtecbaceinifjiaaGreatDoor
namespace Go.Proofs.YtecbaceinifjiaaGreatDoor
open Go.RowKit
set_option linter.unusedSimpArgs false
set_option linter.unusedVariables false
set_option maxRecDepth 100000
attribute [local go_sem] Oper.semAt_some undef
theorem strC_snoc (l : List (List Nat)) (n : List Nat) : strC (l ++ [n]) = strC l ++ [.string (ba n)] := by unfold strC; rw [List.map_append]; rfl
theorem defTak_facts (n : List Nat) (id : Nat) (s : PS) : (defTakS n id s).cnt = s.cnt + 1 ∧ (defTakS n id s).left = s.left ∧ (defTakS n id s).nodes = s.nodes ∧ (defTakS n id s).shown = s.shown := by
  unfold defTakS
  by_cases h : s.taken n ≠ 0
  · rw [if_pos h]; exact ⟨rfl, rfl, rfl, rfl⟩
  · rw [if_neg h]; exact ⟨rfl, rfl, rfl, rfl⟩
/-- One shown name more. -/
theorem GR.addShown {w x w5 : World} {base g cap : Nat} {M : GM} {s : PS} {n : List Nat} (h : GR w base M s) (hx : Below w.heap.size w x) (hg : x.grownBy w5 M.sv.ownBlock)
    (hown : w5.ownsRow base 9 1 (.slice (some ⟨g, 0, none⟩) (s.shown.length + 1) cap) (s.shown.length + 1) (strC s.shown ++ [.string (ba n)])) (hloc : M.sv.ownBlock = some g ∨ g = x.heap.size) (hn : GoodN n) (hs : s.shown.length + 1 ≤ s.cnt) :
    GR (w5.setCell ⟨M.gp, 8, none⟩ (.slice (some ⟨g, 0, none⟩) (s.shown.length + 1) cap)) base { M with sv := .slice (some ⟨g, 0, none⟩) (s.shown.length + 1) cap } { s with shown := s.shown ++ [n] } ∧
      Touch w (w5.setCell ⟨M.gp, 8, none⟩ (.slice (some ⟨g, 0, none⟩) (s.shown.length + 1) cap)) (OwnG M) ∧
      ∀ j, OwnG { M with sv := .slice (some ⟨g, 0, none⟩) (s.shown.length + 1) cap } j → OwnG M j ∨ w.heap.size ≤ j := by
  have h1 := h.below hx
  have hr : ∀ j, M.sv.ownBlock = some j → ∃ cs, x.heap[j]? = some (.cells cs 9 (0, 0)) := fun j e => own_ty h1.shown e
  have hst5 : w5.heap[M.gp]? = some (.cells (pcells M s) 59 (0, 0)) := (kept_cells hg hr (by decide) h1.st).trans h1.st
  obtain ⟨nv', hnv⟩ : ∃ v : Value, v = .slice (some ⟨g, 0, none⟩) (s.shown.length + 1) cap := ⟨_, rfl⟩
  rw [← hnv] at hown ⊢
  have hnd : NodeRow w5 base M.nv M.kvs s.nodes := h1.nodes.at_ (fun j cs hj => kept_cells hg hr (by decide) hj) (fun j cs hj => kept_cells hg hr (by decide) hj)
  have hca : w5.ownsRow base 80 3 M.cv s.calls.length (callC s.calls) := ownsRow_at h1.calls fun j cs hj => kept_cells hg hr (by decide) hj
  have hR := (h1.rest hg hr (by decide)).at_ (y := w5.setCell ⟨M.gp, 8, none⟩ nv') hst5 fun j _ hj => heap_setCell_other w5 ⟨M.gp, 8, none⟩ j nv' hj
  refine ⟨⟨heap_setCell_same _ M.gp 8 _ _ _ hst5, hR.left, hnd.at_ (fun j cs hj => setSt_other hst5 (by decide) hj) (fun j cs hj => setSt_other hst5 (by decide) hj), hR.mods, hR.funs, hR.taken, hR.vis,
    by rw [List.length_append, strC_snoc]; exact ownsRow_at hown fun j cs hj => setSt_other hst5 (by decide) hj, ownsRow_at hca fun j cs hj => setSt_other hst5 (by decide) hj, h.o1, h.o2, h.o3, h.o4, h.o5, h.n1, h.n2, h.n3, ?_, h.goodT, fun m hm => ?_, h.goodC, h.sum, by rw [List.length_append]; exact hs, h.ca, h.dep, h.flt, h.vs.on (((hx.mono h.hb).grown hg (Nat.le_trans h.hb hx.size) (fun g e => (h.own (.inr (.inr (.inr (.inr (.inr (.inr (.inr (.inl e))))))))).1)).setCell (p := ⟨M.gp, 8, none⟩) h.o1 _) h.gb, h.gb, h.vb⟩, ?_, ?_⟩
  · exact Nat.le_trans h.hb (Nat.le_trans hx.size (Nat.le_trans hg.size (by simp)))
  · rcases List.mem_append.1 hm with hm | hm
    · exact h.goodS m hm
    · rw [List.mem_singleton] at hm; rw [hm]; exact hn
  · have hT : Touch w w5 (OwnG M) := (Touch.of_below hx _).trans (Touch.of_grown hg (S := OwnG M) fun j e => .inr (.inr (.inr (.inr (.inr (.inr (.inr (.inl e)))))))) fun j e => .inl e
    exact hT.setCell ⟨M.gp, 8, none⟩ _ (.inl (.inl rfl))
  · intro j hj
    rcases hj with e | e | e | e | e | e | e | e | e
    · exact .inl (.inl e)
    · exact .inl (.inr (.inl e))
    · exact .inl (.inr (.inr (.inl e)))
    · exact .inl (.inr (.inr (.inr (.inl e))))
    · exact .inl (.inr (.inr (.inr (.inr (.inl e)))))
    · exact .inl (.inr (.inr (.inr (.inr (.inr (.inl e))))))
    · exact .inl (.inr (.inr (.inr (.inr (.inr (.inr (.inl e)))))))
    · rw [hnv] at e
      injection e with e
      subst e
      rcases hloc with h9 | h9
      · exact .inl (.inr (.inr (.inr (.inr (.inr (.inr (.inr (.inl h9))))))))
      · exact .inr (by show w.heap.size ≤ g; rw [h9]; exact hx.size)
    · exact .inl (.inr (.inr (.inr (.inr (.inr (.inr (.inr (.inr e))))))))
theorem infoStr : (Tryz.prog.info? 9).map (fun i => (i.zero, i.size, i.bytes)) = some (some (.string ⟨#[]⟩), 1, 16) := by kernel_rfl
set_option maxHeartbeats 8000000 in
theorem show_any (w : World) (base : Nat) (M : GM) (s : PS) (h : GR w base M s) (n : List Nat) (id gt gv : Nat) (hn : GoodN n) (hgt : M.vt = some gt) (hgv : M.vv = some gv) (hs : s.left.length * 16 + s.nodes.length + (s.cnt + 2) ≤ 10000000) (hidb : id < 18446744073709551616) :
    Calls Tryz.prog 84 #[.pointer (some ⟨M.gp, 4, none⟩), .string (ba n), .int .u64 (id : Int)] w fun e w' => e = .returned (.tuple #[]) ∧ GStep w base M (showS n id s) w' := by
  obtain ⟨iS, hiS, hzS, hsS, hbS⟩ := info_parts infoStr
  have HIDB := Lib.hid hidb
  clear hidb
  obtain ⟨l, hk⟩ := strKeyOf hn
  obtain ⟨⟨c0, c1, c2, c3, c4, c5, c6, c7, c8, c9, c10⟩, hf⟩ := h.cells
  rw [hgt] at c6
  have HD := Lib.hid (defTak_any w base M s h n id hn gt hgt (by omega))
  have HI := Lib.hid hiS
  have H0 := Lib.hid hzS
  have H1 := Lib.hid hsS
  have H2 := Lib.hid hbS
  have HK := Lib.hid hk
  have HN := Lib.hid hn
  have HGV := Lib.hid hgv
  have hcb : s.cnt ≤ 10000000 := by omega
  have HSH := Lib.hid h.sh
  have HSUM := Lib.hid hs
  obtain ⟨S, hS⟩ : ∃ S, S = s.shown.length := ⟨_, rfl⟩
  have hSb : S ≤ 10000000 := by rw [hS]; have := h.sh; omega
  have HSS := Lib.hid hS
  clear h hn hgt hgv hs hk hf hiS hzS hsS hbS hS c0 c1 c2 c3 c4 c5 c7 c8 c9 c10
  go_enter Tryz.func84, Tryz.ntmps84
  go_wp2_with (first
    | (go_at_call 47; (with_reducible refine (HD.out).mono ?_); rintro e w1 ⟨rfl, hg1, hT1⟩; go_loud (
        obtain ⟨s1, hs1⟩ : ∃ s1, s1 = defTakS n id s := ⟨_, rfl⟩;
        rw [← hs1] at hg1;
        obtain ⟨⟨_, _, _, _, _, _, _, d7, _, _, _⟩, _⟩ := hg1.cells;
        rw [HGV.out] at d7;
        have HG1 := Lib.hid hg1;
        have HT1 := Lib.hid hT1;
        have HS1 := Lib.hid hs1;
        have hfa := defTak_facts n id s;
        rw [← hs1] at hfa;
        obtain ⟨e1, e2, e3, e4⟩ := hfa;
        have hcb1 : s1.cnt ≤ 10000001 := (by omega);
        have HFA := Lib.hid (show s1.left.length * 16 + s1.nodes.length + (s1.cnt + 1) ≤ 10000000 by rw [e2, e3, e1]; have := HSUM.out; omega);
        have HFS := Lib.hid e4;
        have HFC := Lib.hid e1;
        clear e1 e2 e3 e4;
        clear hg1 hT1 hs1))
    | (at_mapUpdate; refine wpList_gstore rfl _ _ _ rfl strKeyed Tryz.underlying51 rfl (HG1.out.visF HGV.out) (by unfold maxLen; omega) (.string (ba n)) l HK.out rfl id rfl (fS (put1 s1.vis (str (ba n)) id)) (fS_put _ _ _) (fS_other _ _ _) ?_; intro w2 hm2 ht2; go_loud (
        rw [str_ba HN.out.1] at hm2;
        have hg2 := HG1.out.setVis HGV.out (put1 s1.vis n id) hm2 ht2.grown (fun x => by unfold put1; split; exact HIDB.out; exact HG1.out.vb x) HFA.out;
        obtain ⟨⟨_, _, _, _, _, _, _, _, d8, _, _⟩, hf2⟩ := hg2.cells;
        have f8 := hf2 8;
        have hal : Below w2.heap.size w2 (w2.alloc (.cells #[.string (ba n)] 9)) := (Below.refl _ _).alloc (Nat.le_refl _) _;
        have HAL := Lib.hid hal;
        have HO2 : Hid (w2.ownsRow base 9 1 M.sv S (strC s1.shown)) := Lib.hid (by rw [HSS.out, ← HFS.out]; exact hg2.shown);
        have HNE : Hid (some M.gp ≠ M.sv.ownBlock) := Lib.hid (fun e => by obtain ⟨cs, h9⟩ := own_ty hg2.shown e.symm; rw [hg2.st] at h9; injection h9 with h9; injection h9 with _ h9 _; revert h9; decide);
        have HGPL : Hid (M.gp < w2.heap.size) := Lib.hid hg2.gpL;
        have HD8 := Lib.hid d8;
        have HF8 := Lib.hid f8;
        have HG2 := Lib.hid hg2;
        have HT2 := Lib.hid (HT1.out.trans (Touch.map (S := OwnG M) ht2.grown (.inr (.inr (.inr (.inr (.inr (.inr (.inl HGV.out)))))))) fun j e => .inl e);
        have HB2 : Hid (base ≤ w2.heap.size) := Lib.hid hg2.hb;
        clear hm2 ht2 hg2 hf2 hal))
    | (at_builtin; go_loud (
        (refine wpList_append_lies _ (by rfl) _ _ _ (by rfl) base 9 iS _ 1 16 Tryz.underlying23 HI.out H0.out H1.out H2.out (by rfl) (by omega) M.sv S (strC s1.shown) (by rfl) (own_belowG HO2.out HAL.out) ⟨w2.heap.size, 0, none⟩ 1 1 [.string (ba n)] (by rfl) (by rfl) (World.news_of_block (Go.heap_alloc_new _ _)) (by intro u hu; simp at hu; rcases hu with rfl; rfl) (by omega) (by unfold maxLen; omega) (by omega) (Nat.le_trans HB2.out (by simp)) (w2.heap.size + 1) (by simp) ?_);
        intro qq cap2 w9 hown9 hg9 hat9 hlt9;
        have k9 := (hg9.cell_far ⟨M.gp, 8, none⟩ (Nat.lt_of_lt_of_le HGPL.out HAL.out.size) HNE.out).trans ((HAL.out.cell (p := ⟨M.gp, 8, none⟩) HGPL.out).trans HD8.out);
        have f9 := (hg9.frozen_far ⟨M.gp, 8, none⟩ (Nat.lt_of_lt_of_le HGPL.out HAL.out.size) HNE.out).trans ((HAL.out.frozen (p := ⟨M.gp, 8, none⟩) HGPL.out).trans HF8.out);
        have hsl : S = s1.shown.length := (by rw [HSS.out, HFS.out]);
        have HA9 := Lib.hid (HG2.out.addShown (n := n) HAL.out hg9 (by show w9.ownsRow base 9 1 (.slice (some ⟨qq, 0, none⟩) (s1.shown.length + 1) cap2) (s1.shown.length + 1) (strC s1.shown ++ [.string (ba n)]); rw [← hsl]; exact hown9) (by rw [show (w2.alloc (.cells #[.string (ba n)] 9)).heap.size = w2.heap.size + 1 by simp]; exact hat9) HN.out (by show s1.shown.length + 1 ≤ s1.cnt + 1; rw [HFS.out, HFC.out]; have := HSH.out; omega));
        rw [show ({ s1 with vis := put1 s1.vis n id, cnt := s1.cnt + 1 } : PS).shown.length = S from hsl.symm] at HA9;
        clear hown9 hg9 hat9 hlt9 hsl)))
  go_end0
  refine ⟨rfl, ?_⟩
  obtain ⟨hG9, hT9, hO9⟩ := HA9.out
  have hfin : showS n id s = { s1 with vis := put1 s1.vis n id, shown := s1.shown ++ [n], cnt := s1.cnt + 1 } := by unfold showS; rw [← HS1.out]
  rw [hfin]
  exact GStep.trans (M1 := M) rfl HT2.out (fun j h => .inl h) (fun h => h) ⟨_, hG9, rfl, hT9, hO9, fun h => h⟩
end Go.Proofs.YtecbaceinifjiaaGreatDoor
namespace Go.Proofs.YtecbaceinifjiaaGreatDoor
open Go.RowKit
set_option linter.unusedSimpArgs false
set_option linter.unusedVariables false
set_option maxRecDepth 100000
attribute [local go_sem] Oper.semAt_some undef
/-- A function without parameters that goes from one state to another. -/
def PartC (fn : FuncId) (caps : Array Value) (w : World) (base : Nat) (M : GM) (s' : PS) : Prop :=
  Calls Tryz.prog fn caps w fun e w' => e = .returned (.tuple #[]) ∧ GStep w base M s' w'
set_option maxHeartbeats 4000000 in
theorem nestBlock_any (w : World) (base : Nat) (M : GM) (s : PS) (h : GR w base M s) (caps : Array Value) (f : PS → PS)
    (H : s.depth ≠ 90 → ∀ w1, GR w1 base M { s with depth := s.depth + 1 } → Touch w w1 (Only M.gp) → PartC 120 caps w1 base M (f { s with depth := s.depth + 1 }))
    (hd : (f { s with depth := s.depth + 1 }).depth = s.depth + 1) :
    Calls Tryz.prog 119 #[.pointer (some ⟨M.gp, 0, none⟩), .func (.func 120) #[] caps] w fun e w' => e = .returned (.tuple #[]) ∧ GStep w base M (nestS f s) w' := by
  obtain ⟨⟨c0, c1, c2, c3, c4, c5, c6, c7, c8, c9, c10⟩, hf⟩ := h.cells
  have f2 := hf 2
  have HF := Lib.hid (fail_any w base M s h)
  have HH := Lib.hid h
  have HD := Lib.hid hd
  have HP := Lib.hid H
  have hdep := h.dep
  obtain ⟨d, hdd⟩ : ∃ d, d = s.depth := ⟨_, rfl⟩
  rw [← hdd] at c2 hdep
  have HDD := Lib.hid hdd
  clear h hf hd H hdd c0 c1 c3 c4 c5 c6 c7 c8 c9 c10
  by_cases h90 : d = 90
  · subst h90
    rw [show ((90 : Nat) : Int) = 90 from rfl] at c2
    go_enter Tryz.func119, Tryz.ntmps119
    go_wp2_with (go_at_call 66; (with_reducible refine (HF.out).mono ?_); rintro e w2 ⟨rfl, hw2⟩; go_loud (
      have HW2 := Lib.hid hw2;
      clear hw2))
    refine bodyPost_ret (results_none (by rfl) _ _ _) rfl ?_
    refine ⟨rfl, ?_⟩
    unfold nestS
    rw [if_pos HDD.out.symm]
    exact HW2.out.step
  · have h90I : ¬ (d : Int) = 90 := by omega
    have hT1 : Touch w (w.setCell ⟨M.gp, 2, none⟩ (.int .i64 ((d : Int) + 1))) (Only M.gp) := (Touch.refl w _).fld 2 _
    have hG1 : GR (w.setCell ⟨M.gp, 2, none⟩ (.int .i64 ((d : Int) + 1))) base M { s with depth := s.depth + 1 } :=
      HH.out.put M.left s.left s.wrong (s.depth + 1) s.fault hT1 (by rw [HH.out.setSt 2 _, HDD.out]; rfl) HH.out.left (List.suffix_refl _) (by rw [← HDD.out]; omega) HH.out.flt
    have hc := HP.out (by rw [← HDD.out]; exact h90) _ hG1 hT1
    unfold PartC at hc
    have HC := Lib.hid hc
    clear hc
    have HT1 := Lib.hid hT1
    clear hT1 hG1
    go_enter Tryz.func119, Tryz.ntmps119
    go_wp2_with (first
      | (go_at_call 120; (with_reducible refine (HC.out).mono ?_); rintro e w2 ⟨rfl, M2, hg2, hgp2, hT2, hO2, hl2⟩; go_loud (
          obtain ⟨⟨_, _, d2, _⟩, hf2⟩ := hg2.cells;
          have f22 := hf2 2;
          rw [hgp2] at d2 f22;
          rw [HD.out, ← HDD.out] at d2;
          have HG2 := Lib.hid hg2;
          have HGP2 := Lib.hid hgp2;
          have HT2 := Lib.hid hT2;
          have HO2 := Lib.hid hO2;
          have HL2 := Lib.hid hl2;
          clear hg2 hgp2 hT2 hO2 hl2 hf2)))
    go_end0
    have hT3 : Touch w2 (w2.setCell ⟨M.gp, 2, none⟩ (.int .i64 (d : Int))) (Only M2.gp) := by rw [← HGP2.out]; exact (Touch.refl w2 _).fld 2 _
    have hG3 := HG2.out.put M2.left (f { s with depth := s.depth + 1 }).left (f { s with depth := s.depth + 1 }).wrong d (f { s with depth := s.depth + 1 }).fault hT3 (by rw [← HGP2.out, HG2.out.setSt 2 _]; rfl) HG2.out.left (List.suffix_refl _) hdep HG2.out.flt
    refine ⟨rfl, ?_⟩
    unfold nestS
    rw [if_neg (by rw [← HDD.out]; exact h90)]
    rw [show (f { s with depth := s.depth + 1 }).depth - 1 = d by rw [HD.out, ← HDD.out]; rfl]
    have hT12 : Touch w w2 (OwnG M) := (HT1.out.more fun j e => .inl e).trans HT2.out fun j e => .inl e
    exact GStep.trans HGP2.out hT12 (fun j hj => by rcases HO2.out j hj with h9 | h9; exact .inl h9; exact .inr (by simpa using h9)) HL2.out ⟨M2, hG3, rfl, hT3.more fun j e => .inl e, fun j h => .inl h, fun h => h⟩
set_option maxHeartbeats 4000000 in
theorem nestCall_any (w : World) (base : Nat) (M : GM) (s : PS) (h : GR w base M s) (caps : Array Value) (f : PS → PS)
    (H : s.depth ≠ 90 → ∀ w1, GR w1 base M { s with depth := s.depth + 1 } → Touch w w1 (Only M.gp) → PartC 122 caps w1 base M (f { s with depth := s.depth + 1 }))
    (hd : (f { s with depth := s.depth + 1 }).depth = s.depth + 1) :
    Calls Tryz.prog 119 #[.pointer (some ⟨M.gp, 0, none⟩), .func (.func 122) #[] caps] w fun e w' => e = .returned (.tuple #[]) ∧ GStep w base M (nestS f s) w' := by
  obtain ⟨⟨c0, c1, c2, c3, c4, c5, c6, c7, c8, c9, c10⟩, hf⟩ := h.cells
  have f2 := hf 2
  have HF := Lib.hid (fail_any w base M s h)
  have HH := Lib.hid h
  have HD := Lib.hid hd
  have HP := Lib.hid H
  have hdep := h.dep
  obtain ⟨d, hdd⟩ : ∃ d, d = s.depth := ⟨_, rfl⟩
  rw [← hdd] at c2 hdep
  have HDD := Lib.hid hdd
  clear h hf hd H hdd c0 c1 c3 c4 c5 c6 c7 c8 c9 c10
  by_cases h90 : d = 90
  · subst h90
    rw [show ((90 : Nat) : Int) = 90 from rfl] at c2
    go_enter Tryz.func119, Tryz.ntmps119
    go_wp2_with (go_at_call 66; (with_reducible refine (HF.out).mono ?_); rintro e w2 ⟨rfl, hw2⟩; go_loud (
      have HW2 := Lib.hid hw2;
      clear hw2))
    refine bodyPost_ret (results_none (by rfl) _ _ _) rfl ?_
    refine ⟨rfl, ?_⟩
    unfold nestS
    rw [if_pos HDD.out.symm]
    exact HW2.out.step
  · have h90I : ¬ (d : Int) = 90 := by omega
    have hT1 : Touch w (w.setCell ⟨M.gp, 2, none⟩ (.int .i64 ((d : Int) + 1))) (Only M.gp) := (Touch.refl w _).fld 2 _
    have hG1 : GR (w.setCell ⟨M.gp, 2, none⟩ (.int .i64 ((d : Int) + 1))) base M { s with depth := s.depth + 1 } :=
      HH.out.put M.left s.left s.wrong (s.depth + 1) s.fault hT1 (by rw [HH.out.setSt 2 _, HDD.out]; rfl) HH.out.left (List.suffix_refl _) (by rw [← HDD.out]; omega) HH.out.flt
    have hc := HP.out (by rw [← HDD.out]; exact h90) _ hG1 hT1
    unfold PartC at hc
    have HC := Lib.hid hc
    clear hc
    have HT1 := Lib.hid hT1
    clear hT1 hG1
    go_enter Tryz.func119, Tryz.ntmps119
    go_wp2_with (first
      | (go_at_call 122; (with_reducible refine (HC.out).mono ?_); rintro e w2 ⟨rfl, M2, hg2, hgp2, hT2, hO2, hl2⟩; go_loud (
          obtain ⟨⟨_, _, d2, _⟩, hf2⟩ := hg2.cells;
          have f22 := hf2 2;
          rw [hgp2] at d2 f22;
          rw [HD.out, ← HDD.out] at d2;
          have HG2 := Lib.hid hg2;
          have HGP2 := Lib.hid hgp2;
          have HT2 := Lib.hid hT2;
          have HO2 := Lib.hid hO2;
          have HL2 := Lib.hid hl2;
          clear hg2 hgp2 hT2 hO2 hl2 hf2)))
    go_end0
    have hT3 : Touch w2 (w2.setCell ⟨M.gp, 2, none⟩ (.int .i64 (d : Int))) (Only M2.gp) := by rw [← HGP2.out]; exact (Touch.refl w2 _).fld 2 _
    have hG3 := HG2.out.put M2.left (f { s with depth := s.depth + 1 }).left (f { s with depth := s.depth + 1 }).wrong d (f { s with depth := s.depth + 1 }).fault hT3 (by rw [← HGP2.out, HG2.out.setSt 2 _]; rfl) HG2.out.left (List.suffix_refl _) hdep HG2.out.flt
    refine ⟨rfl, ?_⟩
    unfold nestS
    rw [if_neg (by rw [← HDD.out]; exact h90)]
    rw [show (f { s with depth := s.depth + 1 }).depth - 1 = d by rw [HD.out, ← HDD.out]; rfl]
    have hT12 : Touch w w2 (OwnG M) := (HT1.out.more fun j e => .inl e).trans HT2.out fun j e => .inl e
    exact GStep.trans HGP2.out hT12 (fun j hj => by rcases HO2.out j hj with h9 | h9; exact .inl h9; exact .inr (by simpa using h9)) HL2.out ⟨M2, hG3, rfl, hT3.more fun j e => .inl e, fun j h => .inl h, fun h => h⟩
set_option maxHeartbeats 4000000 in
theorem nestUnary_any (w : World) (base : Nat) (M : GM) (s : PS) (h : GR w base M s) (caps : Array Value) (f : PS → PS)
    (H : s.depth ≠ 90 → ∀ w1, GR w1 base M { s with depth := s.depth + 1 } → Touch w w1 (Only M.gp) → PartC 124 caps w1 base M (f { s with depth := s.depth + 1 }))
    (hd : (f { s with depth := s.depth + 1 }).depth = s.depth + 1) :
    Calls Tryz.prog 119 #[.pointer (some ⟨M.gp, 0, none⟩), .func (.func 124) #[] caps] w fun e w' => e = .returned (.tuple #[]) ∧ GStep w base M (nestS f s) w' := by
  obtain ⟨⟨c0, c1, c2, c3, c4, c5, c6, c7, c8, c9, c10⟩, hf⟩ := h.cells
  have f2 := hf 2
  have HF := Lib.hid (fail_any w base M s h)
  have HH := Lib.hid h
  have HD := Lib.hid hd
  have HP := Lib.hid H
  have hdep := h.dep
  obtain ⟨d, hdd⟩ : ∃ d, d = s.depth := ⟨_, rfl⟩
  rw [← hdd] at c2 hdep
  have HDD := Lib.hid hdd
  clear h hf hd H hdd c0 c1 c3 c4 c5 c6 c7 c8 c9 c10
  by_cases h90 : d = 90
  · subst h90
    rw [show ((90 : Nat) : Int) = 90 from rfl] at c2
    go_enter Tryz.func119, Tryz.ntmps119
    go_wp2_with (go_at_call 66; (with_reducible refine (HF.out).mono ?_); rintro e w2 ⟨rfl, hw2⟩; go_loud (
      have HW2 := Lib.hid hw2;
      clear hw2))
    refine bodyPost_ret (results_none (by rfl) _ _ _) rfl ?_
    refine ⟨rfl, ?_⟩
    unfold nestS
    rw [if_pos HDD.out.symm]
    exact HW2.out.step
  · have h90I : ¬ (d : Int) = 90 := by omega
    have hT1 : Touch w (w.setCell ⟨M.gp, 2, none⟩ (.int .i64 ((d : Int) + 1))) (Only M.gp) := (Touch.refl w _).fld 2 _
    have hG1 : GR (w.setCell ⟨M.gp, 2, none⟩ (.int .i64 ((d : Int) + 1))) base M { s with depth := s.depth + 1 } :=
      HH.out.put M.left s.left s.wrong (s.depth + 1) s.fault hT1 (by rw [HH.out.setSt 2 _, HDD.out]; rfl) HH.out.left (List.suffix_refl _) (by rw [← HDD.out]; omega) HH.out.flt
    have hc := HP.out (by rw [← HDD.out]; exact h90) _ hG1 hT1
    unfold PartC at hc
    have HC := Lib.hid hc
    clear hc
    have HT1 := Lib.hid hT1
    clear hT1 hG1
    go_enter Tryz.func119, Tryz.ntmps119
    go_wp2_with (first
      | (go_at_call 124; (with_reducible refine (HC.out).mono ?_); rintro e w2 ⟨rfl, M2, hg2, hgp2, hT2, hO2, hl2⟩; go_loud (
          obtain ⟨⟨_, _, d2, _⟩, hf2⟩ := hg2.cells;
          have f22 := hf2 2;
          rw [hgp2] at d2 f22;
          rw [HD.out, ← HDD.out] at d2;
          have HG2 := Lib.hid hg2;
          have HGP2 := Lib.hid hgp2;
          have HT2 := Lib.hid hT2;
          have HO2 := Lib.hid hO2;
          have HL2 := Lib.hid hl2;
          clear hg2 hgp2 hT2 hO2 hl2 hf2)))
    go_end0
    have hT3 : Touch w2 (w2.setCell ⟨M.gp, 2, none⟩ (.int .i64 (d : Int))) (Only M2.gp) := by rw [← HGP2.out]; exact (Touch.refl w2 _).fld 2 _
    have hG3 := HG2.out.put M2.left (f { s with depth := s.depth + 1 }).left (f { s with depth := s.depth + 1 }).wrong d (f { s with depth := s.depth + 1 }).fault hT3 (by rw [← HGP2.out, HG2.out.setSt 2 _]; rfl) HG2.out.left (List.suffix_refl _) hdep HG2.out.flt
    refine ⟨rfl, ?_⟩
    unfold nestS
    rw [if_neg (by rw [← HDD.out]; exact h90)]
    rw [show (f { s with depth := s.depth + 1 }).depth - 1 = d by rw [HD.out, ← HDD.out]; rfl]
    have hT12 : Touch w w2 (OwnG M) := (HT1.out.more fun j e => .inl e).trans HT2.out fun j e => .inl e
    exact GStep.trans HGP2.out hT12 (fun j hj => by rcases HO2.out j hj with h9 | h9; exact .inl h9; exact .inr (by simpa using h9)) HL2.out ⟨M2, hG3, rfl, hT3.more fun j e => .inl e, fun j h => .inl h, fun h => h⟩
set_option maxHeartbeats 4000000 in
theorem nestBinary_any (w : World) (base : Nat) (M : GM) (s : PS) (h : GR w base M s) (caps : Array Value) (f : PS → PS)
    (H : s.depth ≠ 90 → ∀ w1, GR w1 base M { s with depth := s.depth + 1 } → Touch w w1 (Only M.gp) → PartC 125 caps w1 base M (f { s with depth := s.depth + 1 }))
    (hd : (f { s with depth := s.depth + 1 }).depth = s.depth + 1) :
    Calls Tryz.prog 119 #[.pointer (some ⟨M.gp, 0, none⟩), .func (.func 125) #[] caps] w fun e w' => e = .returned (.tuple #[]) ∧ GStep w base M (nestS f s) w' := by
  obtain ⟨⟨c0, c1, c2, c3, c4, c5, c6, c7, c8, c9, c10⟩, hf⟩ := h.cells
  have f2 := hf 2
  have HF := Lib.hid (fail_any w base M s h)
  have HH := Lib.hid h
  have HD := Lib.hid hd
  have HP := Lib.hid H
  have hdep := h.dep
  obtain ⟨d, hdd⟩ : ∃ d, d = s.depth := ⟨_, rfl⟩
  rw [← hdd] at c2 hdep
  have HDD := Lib.hid hdd
  clear h hf hd H hdd c0 c1 c3 c4 c5 c6 c7 c8 c9 c10
  by_cases h90 : d = 90
  · subst h90
    rw [show ((90 : Nat) : Int) = 90 from rfl] at c2
    go_enter Tryz.func119, Tryz.ntmps119
    go_wp2_with (go_at_call 66; (with_reducible refine (HF.out).mono ?_); rintro e w2 ⟨rfl, hw2⟩; go_loud (
      have HW2 := Lib.hid hw2;
      clear hw2))
    refine bodyPost_ret (results_none (by rfl) _ _ _) rfl ?_
    refine ⟨rfl, ?_⟩
    unfold nestS
    rw [if_pos HDD.out.symm]
    exact HW2.out.step
  · have h90I : ¬ (d : Int) = 90 := by omega
    have hT1 : Touch w (w.setCell ⟨M.gp, 2, none⟩ (.int .i64 ((d : Int) + 1))) (Only M.gp) := (Touch.refl w _).fld 2 _
    have hG1 : GR (w.setCell ⟨M.gp, 2, none⟩ (.int .i64 ((d : Int) + 1))) base M { s with depth := s.depth + 1 } :=
      HH.out.put M.left s.left s.wrong (s.depth + 1) s.fault hT1 (by rw [HH.out.setSt 2 _, HDD.out]; rfl) HH.out.left (List.suffix_refl _) (by rw [← HDD.out]; omega) HH.out.flt
    have hc := HP.out (by rw [← HDD.out]; exact h90) _ hG1 hT1
    unfold PartC at hc
    have HC := Lib.hid hc
    clear hc
    have HT1 := Lib.hid hT1
    clear hT1 hG1
    go_enter Tryz.func119, Tryz.ntmps119
    go_wp2_with (first
      | (go_at_call 125; (with_reducible refine (HC.out).mono ?_); rintro e w2 ⟨rfl, M2, hg2, hgp2, hT2, hO2, hl2⟩; go_loud (
          obtain ⟨⟨_, _, d2, _⟩, hf2⟩ := hg2.cells;
          have f22 := hf2 2;
          rw [hgp2] at d2 f22;
          rw [HD.out, ← HDD.out] at d2;
          have HG2 := Lib.hid hg2;
          have HGP2 := Lib.hid hgp2;
          have HT2 := Lib.hid hT2;
          have HO2 := Lib.hid hO2;
          have HL2 := Lib.hid hl2;
          clear hg2 hgp2 hT2 hO2 hl2 hf2)))
    go_end0
    have hT3 : Touch w2 (w2.setCell ⟨M.gp, 2, none⟩ (.int .i64 (d : Int))) (Only M2.gp) := by rw [← HGP2.out]; exact (Touch.refl w2 _).fld 2 _
    have hG3 := HG2.out.put M2.left (f { s with depth := s.depth + 1 }).left (f { s with depth := s.depth + 1 }).wrong d (f { s with depth := s.depth + 1 }).fault hT3 (by rw [← HGP2.out, HG2.out.setSt 2 _]; rfl) HG2.out.left (List.suffix_refl _) hdep HG2.out.flt
    refine ⟨rfl, ?_⟩
    unfold nestS
    rw [if_neg (by rw [← HDD.out]; exact h90)]
    rw [show (f { s with depth := s.depth + 1 }).depth - 1 = d by rw [HD.out, ← HDD.out]; rfl]
    have hT12 : Touch w w2 (OwnG M) := (HT1.out.more fun j e => .inl e).trans HT2.out fun j e => .inl e
    exact GStep.trans HGP2.out hT12 (fun j hj => by rcases HO2.out j hj with h9 | h9; exact .inl h9; exact .inr (by simpa using h9)) HL2.out ⟨M2, hG3, rfl, hT3.more fun j e => .inl e, fun j h => .inl h, fun h => h⟩
end Go.Proofs.YtecbaceinifjiaaGreatDoor
