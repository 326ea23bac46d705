/- GLink, GPlant: joined by program (tools/merge.py). -/
import Derived.Test.YtecbaceinifjiaaGreatDoorZ27
import Derived.Deep.QuietTactic
import Derived.BigQuiet
import Derived.Test.YtecbaceinifjiaaGreatDoorZ7
namespace Go.Proofs.YtecbaceinifjiaaGreatDoor
open Go.RowKit
set_option linter.unusedSimpArgs false
set_option linter.unusedVariables false
set_option maxRecDepth 100000
attribute [local go_sem] Oper.semAt_some undef
/-- One call is led. -/
def link1 (c : Nat × List Nat × List Nat) (s : PS) : PS := refOf c.1 (s.funs c.2.1 c.2.2) (if s.funs c.2.1 c.2.2 = 0 then blameS 9 s else s)
theorem linkL_cons (c : Nat × List Nat × List Nat) (r : List (Nat × List Nat × List Nat)) (s : PS) : linkL (c :: r) s = linkL r (link1 c s) := rfl
theorem link1_facts (c : Nat × List Nat × List Nat) (s : PS) : (link1 c s).calls = s.calls ∧ (link1 c s).funs = s.funs ∧ (link1 c s).nodes.length = s.nodes.length := by
  unfold link1 refOf setN
  refine ⟨?_, ?_, ?_⟩
  · split <;> rfl
  · split <;> rfl
  · show (List.modify _ _ _).length = _
    rw [List.length_modify]
    split <;> rfl
theorem callC_at : ∀ {l : List (Nat × List Nat × List Nat)} {k : Nat} {c : Nat × List Nat × List Nat}, l[k]? = some c → (callC l)[k * 3]? = some (.int .u64 (c.1 : Int)) ∧ (callC l)[k * 3 + 1]? = some (.string (ba c.2.1)) ∧ (callC l)[k * 3 + 2]? = some (.string (ba c.2.2))
  | [], k, c, h => by simp at h
  | d :: l, 0, c, h => by
    simp at h
    subst h
    exact ⟨rfl, rfl, rfl⟩
  | d :: l, k + 1, c, h => by
    have h1 := callC_at (l := l) (k := k) (c := c) (by simpa using h)
    have e : callC (d :: l) = [.int .u64 (d.1 : Int), .string (ba d.2.1), .string (ba d.2.2)] ++ callC l := rfl
    rw [e]
    refine ⟨?_, ?_, ?_⟩
    · rw [List.getElem?_append_right (by simp; omega), show (k + 1) * 3 - [Value.int .u64 (d.1 : Int), .string (ba d.2.1), .string (ba d.2.2)].length = k * 3 by simp; omega]; exact h1.1
    · rw [List.getElem?_append_right (by simp; omega), show (k + 1) * 3 + 1 - [Value.int .u64 (d.1 : Int), .string (ba d.2.1), .string (ba d.2.2)].length = k * 3 + 1 by simp; omega]; exact h1.2.1
    · rw [List.getElem?_append_right (by simp; omega), show (k + 1) * 3 + 2 - [Value.int .u64 (d.1 : Int), .string (ba d.2.1), .string (ba d.2.2)].length = k * 3 + 2 by simp; omega]; exact h1.2.2
/-- Where the loop over calls stands. -/
def LinkI (w : World) (base : Nat) (M : GM) (s S : PS) (n : Nat) (iv : Value) (wr : World) : Prop :=
  ∃ (k : Nat) (s1 : PS), iv = .int .i64 (k : Int) ∧ k ≤ n ∧ GR wr base M s1 ∧ Touch w wr (OwnG M) ∧ linkL (s.calls.drop k) s1 = S ∧ s1.calls = s.calls ∧ s1.nodes.length = s.nodes.length ∧ s1.funs = s.funs
set_option maxHeartbeats 16000000 in
theorem link_some (w : World) (base : Nat) (M : GM) (s : PS) (h : GR w base M s) (hc : CallsOk s) (gc cc : Nat) (hcv : M.cv = .slice (some ⟨gc, 0, none⟩) s.calls.length cc) (hfb : FunsOk s) :
    Calls Tryz.prog 21 #[.pointer (some ⟨M.gp, 0, none⟩)] w fun e w' => e = .returned (.tuple #[]) ∧ GR w' base M (linkL s.calls s) ∧ Touch w w' (OwnG M) := by
  obtain ⟨⟨c0, c1, c2, c3, c4, c5, c6, c7, c8, c9, c10⟩, hf⟩ := h.cells
  rw [hcv] at c9
  obtain ⟨n, hn⟩ : ∃ n, n = s.calls.length := ⟨_, rfl⟩
  obtain ⟨S, hS⟩ : ∃ S, S = linkL s.calls s := ⟨_, rfl⟩
  have hnb : n ≤ 10000000 := by rw [hn]; have := h.ca; have := h.sum; omega
  rw [← hn] at c9
  rw [← hS]
  have HREL : Hid (LinkI w base M s S n (.int .i64 0) w) := Lib.hid ⟨0, s, rfl, Nat.zero_le _, h, Touch.refl _ _, hS.symm, rfl, rfl, rfl⟩
  have HC := Lib.hid hc
  have HCV := Lib.hid hcv
  have HFB := Lib.hid hfb
  have HN := Lib.hid hn
  clear h hc hcv hn hS hf c0 c1 c2 c3 c4 c5 c6 c7 c8 c10 hfb
  go_enter Tryz.func21, Tryz.ntmps21
  go_wp2_with fail
  go_loopw [11] (fun iv wr => LinkI w base M s S n iv wr) (fun iv _ => n - (intOf iv).toNat)
  case atStart => exact HREL.out
  case round =>
    obtain ⟨k, s1, rfl, hk, hg, hT, hL, hcs, hnl, hfu⟩ := hrel
    by_cases hlt : k < n
    · have hltI : (k : Int) < (n : Int) := by omega
      obtain ⟨c, hck⟩ : ∃ c, s.calls[k]? = some c := ⟨_, List.getElem?_eq_getElem (by rw [← HN.out]; exact hlt)⟩
      obtain ⟨hq0, hq1⟩ := HC.out c (List.mem_of_getElem? hck)
      obtain ⟨cid, cm, cn⟩ := c
      dsimp only at hq0 hq1
      have hgc := hg.goodC (cid, cm, cn) (by rw [hcs]; exact List.mem_of_getElem? hck)
      have hcr := hg.calls
      rw [hcs, HCV.out, ← HN.out] at hcr
      obtain ⟨k0, k1, k2⟩ := callC_at hck
      have x0 : wr.cell? ⟨gc, k * 3, none⟩ = some (.int .u64 (cid : Int)) := by rw [hcr.cellAt (k * 3) (by omega)]; exact k0
      have x1 : wr.cell? ⟨gc, k * 3 + 1, none⟩ = some (.string (ba cm)) := by rw [hcr.cellAt (k * 3 + 1) (by omega)]; exact k1
      have x2 : wr.cell? ⟨gc, k * 3 + 2, none⟩ = some (.string (ba cn)) := by rw [hcr.cellAt (k * 3 + 2) (by omega)]; exact k2
      have hfbs : s1.funs cm cn < 18446744073709551616 := by rw [hfu]; have := HFB.out cm cn; have := hg.sum; rw [hnl] at this; omega
      have HFU := Lib.hid hfu
      have HG := Lib.hid hg
      have HT := Lib.hid hT
      have HL := Lib.hid hL
      have HCS := Lib.hid hcs
      have HNL := Lib.hid hnl
      have HCK := Lib.hid hck
      have HGC := Lib.hid hgc
      clear hg hT hL hcs hnl hfu hck hgc hcr k0 k1 k2
      obtain ⟨fv, hfe⟩ : ∃ fv, fv = s1.funs cm cn := ⟨_, rfl⟩
      have HFE : Hid (s1.funs cm cn = fv) := Lib.hid hfe.symm
      have HFB1 : Hid (fv < 18446744073709551616) := Lib.hid (by rw [hfe]; exact hfbs)
      clear hfe hfbs
      by_cases hf0 : fv = 0
      · subst hf0
        go_upto_region 3 with fail
        obtain ⟨W2, hW2⟩ : ∃ W2, W2 = wr.alloc (.cells #[.int .u64 (cid : Int), .string (ba cm), .string (ba cn)] 80) := ⟨_, rfl⟩
        rw [← hW2]
        have hb2 : Below wr.heap.size wr W2 := by rw [hW2]; exact (Below.refl _ _).alloc (Nat.le_refl _) _
        have hx2 : W2.heap[wr.heap.size]? = some (.cells #[.int .u64 (cid : Int), .string (ba cm), .string (ba cn)] 80 (0, 0)) := by rw [hW2]; exact Go.heap_alloc_new _ _
        have hg2 := HG.out.below hb2
        have HG2 := Lib.hid hg2
        have y0 : W2.cell? ⟨wr.heap.size, 0, none⟩ = some (.int .u64 (cid : Int)) := by unfold World.cell?; rw [hx2]; rfl
        have y1 : W2.cell? ⟨wr.heap.size, 1, none⟩ = some (.string (ba cm)) := by unfold World.cell?; rw [hx2]; rfl
        have y2 : W2.cell? ⟨wr.heap.size, 2, none⟩ = some (.string (ba cn)) := by unfold World.cell?; rw [hx2]; rfl
        have hgpl : M.gp < W2.heap.size := hg2.gpL
        have hrl : wr.heap.size < W2.heap.size := lt_of_heap2 hx2
        have d5 : W2.cell? ⟨M.gp, 5, none⟩ = some (.map (some M.bf)) := hg2.cells.1.2.2.2.2.2.1
        obtain ⟨lk, hlk⟩ := pathKeyOf HGC.out.1.m HGC.out.2.1.m
        have hfv : fP s1.funs (.agg #[.string (ba cm), .string (ba cn)]) = 0 := by show s1.funs (str (ba cm)) (str (ba cn)) = _; rw [str_ba HGC.out.1.1, str_ba HGC.out.2.1.1, HFE.out]
        have HFV := Lib.hid hfv
        have HKEY := Lib.hid hlk
        have HSK : Hid (∀ x, Below W2.heap.size W2 x → x.cell? ⟨M.gp, 5, none⟩ = some (.map (some M.bf)) ∧ x.cell? ⟨wr.heap.size, 1, none⟩ = some (.string (ba cm)) ∧ x.cell? ⟨wr.heap.size, 2, none⟩ = some (.string (ba cn)) ∧ Below W2.heap.size W2 x) := Lib.hid (fun x hb => ⟨(hb.cell (p := ⟨M.gp, 5, none⟩) hgpl).trans d5, (hb.cell (p := ⟨wr.heap.size, 1, none⟩) hrl).trans y1, (hb.cell (p := ⟨wr.heap.size, 2, none⟩) hrl).trans y2, hb⟩)
        have HB2 := Lib.hid hb2
        have HX2 := Lib.hid hx2
        clear hfv hlk d5 hgpl hrl hg2 hb2 hx2 hW2 y0 y1 y2
        refine wp_region_noPanic ?_
        refine wp_region_held_drew (S := fun x => x.cell? ⟨M.gp, 5, none⟩ = some (.map (some M.bf)) ∧ x.cell? ⟨wr.heap.size, 1, none⟩ = some (.string (ba cm)) ∧ x.cell? ⟨wr.heap.size, 2, none⟩ = some (.string (ba cn)) ∧ Below W2.heap.size W2 x) (by kernel_rfl) (HSK.out _ (ride_drew (Below.refl _ _))) (fun hHeld => ?_)
        refine take_at (i := 0) (v := ?_) (some 15) rfl rfl (by kernel_rfl) (by kernel_rfl) (by kernel_rfl) (fun _ _ _ h => h) (Or.inl ⟨by rfl, ?_⟩) (by assumption) ?_
        rotate_left
        · intro w hSw
          obtain ⟨z0, z1, z2, zb⟩ := hSw; have r1 := (HG2.out.below zb).funs.run_look pathKeyed Tryz.underlying52 (zeroID _) HKEY.out; rw [HFV.out] at r1
          first | (go_simp; done) | (go_simp; with_reducible rfl)
        try simp only [Act.put, List.setIfInBounds_toArray, List.set_cons_zero, List.set_cons_succ]
        refine take_at (i := 1) (v := ?_) (some 16) rfl rfl (by kernel_rfl) (by kernel_rfl) (by kernel_rfl) (fun _ _ _ h => h) (Or.inl ⟨by rfl, ?_⟩) (by assumption) ?_
        rotate_left
        · intro w hSw
          obtain ⟨z0, z1, z2, zb⟩ := hSw; have r1 := (HG2.out.below zb).funs.run_look pathKeyed Tryz.underlying52 (zeroID _) HKEY.out; rw [HFV.out] at r1
          first | (go_simp; done) | (go_simp; with_reducible rfl)
        try simp only [Act.put, List.setIfInBounds_toArray, List.set_cons_zero, List.set_cons_succ]
        refine take_at (i := 2) (v := ?_) (some 17) rfl rfl (by kernel_rfl) (by kernel_rfl) (by kernel_rfl) (fun _ _ _ h => h) (Or.inl ⟨by rfl, ?_⟩) (by assumption) ?_
        rotate_left
        · intro w hSw
          obtain ⟨z0, z1, z2, zb⟩ := hSw; have r1 := (HG2.out.below zb).funs.run_look pathKeyed Tryz.underlying52 (zeroID _) HKEY.out; rw [HFV.out] at r1
          first | (go_simp; done) | (go_simp; with_reducible rfl)
        try simp only [Act.put, List.setIfInBounds_toArray, List.set_cons_zero, List.set_cons_succ]
        refine take_at (i := 3) (v := ?_) (some 18) rfl rfl (by kernel_rfl) (by kernel_rfl) (by kernel_rfl) (fun _ _ _ h => h) (Or.inl ⟨by rfl, ?_⟩) (by assumption) ?_
        rotate_left
        · intro w hSw
          obtain ⟨z0, z1, z2, zb⟩ := hSw; have r1 := (HG2.out.below zb).funs.run_look pathKeyed Tryz.underlying52 (zeroID _) HKEY.out; rw [HFV.out] at r1
          first | (go_simp; done) | (go_simp; with_reducible rfl)
        try simp only [Act.put, List.setIfInBounds_toArray, List.set_cons_zero, List.set_cons_succ]
        refine take_at (i := 4) (v := ?_) (some 19) rfl rfl (by kernel_rfl) (by kernel_rfl) (by kernel_rfl) (fun _ _ _ h => h) (Or.inl ⟨by rfl, ?_⟩) (by assumption) ?_
        rotate_left
        · intro w hSw
          obtain ⟨z0, z1, z2, zb⟩ := hSw; have r1 := (HG2.out.below zb).funs.run_look pathKeyed Tryz.underlying52 (zeroID _) HKEY.out; rw [HFV.out] at r1
          first | (go_simp; done) | (go_simp; with_reducible rfl)
        try simp only [Act.put, List.setIfInBounds_toArray, List.set_cons_zero, List.set_cons_succ]
        refine take_at (i := 5) (v := ?_) (some 20) rfl rfl (by kernel_rfl) (by kernel_rfl) (by kernel_rfl) (fun _ _ _ h => h) (Or.inl ⟨by rfl, ?_⟩) (by assumption) ?_
        rotate_left
        · intro w hSw
          obtain ⟨z0, z1, z2, zb⟩ := hSw; have r1 := (HG2.out.below zb).funs.run_look pathKeyed Tryz.underlying52 (zeroID _) HKEY.out; rw [HFV.out] at r1
          first | (go_simp; done) | (go_simp; with_reducible rfl)
        try simp only [Act.put, List.setIfInBounds_toArray, List.set_cons_zero, List.set_cons_succ]
        refine take_at (i := 6) (v := ?_) (some 21) rfl rfl (by kernel_rfl) (by kernel_rfl) (by kernel_rfl) (fun _ _ _ h => h) (Or.inl ⟨by rfl, ?_⟩) (by assumption) ?_
        rotate_left
        · intro w hSw
          obtain ⟨z0, z1, z2, zb⟩ := hSw; have r1 := (HG2.out.below zb).funs.run_look pathKeyed Tryz.underlying52 (zeroID _) HKEY.out; rw [HFV.out] at r1
          first | (go_simp; done) | (go_simp; with_reducible rfl)
        try simp only [Act.put, List.setIfInBounds_toArray, List.set_cons_zero, List.set_cons_succ]
        refine take_at (i := 7) (v := ?_) (some 22) rfl rfl (by kernel_rfl) (by kernel_rfl) (by kernel_rfl) (fun _ _ _ h => h) (Or.inl ⟨by rfl, ?_⟩) (by assumption) ?_
        rotate_left
        · intro w hSw
          obtain ⟨z0, z1, z2, zb⟩ := hSw; have r1 := (HG2.out.below zb).funs.run_look pathKeyed Tryz.underlying52 (zeroID _) HKEY.out; rw [HFV.out] at r1
          first | (go_simp; done) | (go_simp; with_reducible rfl)
        try simp only [Act.put, List.setIfInBounds_toArray, List.set_cons_zero, List.set_cons_succ]
        refine take_at (i := 8) (v := ?_) (some 4) rfl rfl (by kernel_rfl) (by kernel_rfl) (by kernel_rfl) (fun _ _ _ h => h) (Or.inl ⟨by rfl, ?_⟩) (by assumption) ?_
        rotate_left
        · intro w hSw
          obtain ⟨z0, z1, z2, zb⟩ := hSw; have r1 := (HG2.out.below zb).funs.run_look pathKeyed Tryz.underlying52 (zeroID _) HKEY.out; rw [HFV.out] at r1
          first | (go_simp; done) | (go_simp; with_reducible rfl)
        try simp only [Act.put, List.setIfInBounds_toArray, List.set_cons_zero, List.set_cons_succ]
        refine wpAnyH_done (by kernel_rfl) ?_ _
        refine NoPanic.normal ?_
        clear hHeld
        have hbD : Below W2.heap.size W2 W2.drew := ride_drew (Below.refl _ _)
        have hgD := HG2.out.below hbD
        have hbl := blame_any W2.drew base M s1 hgD 9 (by decide)
        rw [show ((9 : Nat) : Int) = 9 from rfl] at hbl
        have HBL := Lib.hid hbl
        clear hbl hgD
        go_upto_region 6 with (go_at_call 32; (with_reducible refine (HBL.out).mono ?_); rintro e w5 ⟨rfl, hg5, hT5⟩; go_loud (have HG5 := Lib.hid hg5; have HT5 := Lib.hid hT5; clear hg5 hT5))
        have hx5 : w5.heap[wr.heap.size]? = some (.cells #[.int .u64 (cid : Int), .string (ba cm), .string (ba cn)] 80 (0, 0)) := (HT5.out.block _ (lt_of_heap2 ((hbD.block _ (lt_of_heap2 HX2.out)).trans HX2.out)) (fun e9 => by have := HG.out.gpL; have e9 : wr.heap.size = M.gp := e9; omega)).trans ((hbD.block _ (lt_of_heap2 HX2.out)).trans HX2.out)
        have hT05 : Touch wr w5 (OwnG M) := ((Touch.of_below HB2.out _).after hbD).trans (HT5.out.more fun j e => .inl e) fun j e => .inl e
        have hg5 := HG5.out
        obtain ⟨s5, hs5⟩ : ∃ s5, s5 = blameS 9 s1 := ⟨_, rfl⟩
        rw [← hs5] at hg5
        have hn5 : s5.nodes.length = s1.nodes.length := by rw [hs5]; rfl
        have hl5 : link1 (cid, cm, cn) s1 = refOf cid 0 s5 := by unfold link1; dsimp only; rw [HFE.out, if_pos rfl, ← hs5]
        have y0 : w5.cell? ⟨wr.heap.size, 0, none⟩ = some (.int .u64 (cid : Int)) := by unfold World.cell?; rw [hx5]; rfl
        obtain ⟨g3, c3, i3, k1, k2, k3, ⟨kv, k4⟩, k5, k6, k7, k8, k9⟩ := hg5.refAt cid 0 hq0 (by rw [hn5, HNL.out]; exact hq1) HFB1.out
        have hnd := node_any w5 base M s5 hg5 i3 g3 c3 k2 k3
        rw [← k1] at hnd
        have HND := Lib.hid hnd
        have HK8 := Lib.hid k8
        have HK9 := Lib.hid k9
        have HT05 := Lib.hid hT05
        have HL5 := Lib.hid hl5
        clear hbD hx5 hT05 hg5 hs5 hn5 hl5 k1 k2 k3 k6 k7 k8 k9 hnd
        go_wp2_with (go_at_call 33; (with_reducible refine (HND.out).mono ?_); rintro e w6 ⟨rfl, rfl⟩)
        have hfin : LinkI w base M s S n (.int .i64 ((k + 1 : Nat) : Int)) (w5.setCell ⟨g3, i3 * 6 + 4, none⟩ (.int .u64 0)) := by
          have hfx := link1_facts (cid, cm, cn) s1
          refine ⟨k + 1, link1 (cid, cm, cn) s1, rfl, by omega, by rw [HL5.out]; exact HK8.out, (HT.out.trans HT05.out fun j e => .inl e).trans HK9.out fun j e => .inl e, ?_, hfx.1.trans HCS.out, hfx.2.2.trans HNL.out, hfx.2.1.trans HFU.out⟩
          have e9 : s.calls[k]'(by rw [← HN.out]; exact hlt) = (cid, cm, cn) := by have := HCK.out; rw [List.getElem?_eq_getElem (by rw [← HN.out]; exact hlt)] at this; injection this
          rw [← HL.out, show s.calls.drop k = s.calls[k]'(by rw [← HN.out]; exact hlt) :: s.calls.drop (k + 1) from List.drop_eq_getElem_cons _, linkL_cons, e9]
        first
          | (go_roundw; (case rel => exact hfin); (case measure => simp [intOf]; omega))
          | (refine ⟨?rel, ?measure⟩; (case rel => ((repeat apply Exists.intro); exact ⟨hfin, rfl⟩)); (case measure => simp [intOf]; omega))
      · have HF0 := Lib.hid hf0
        have hf0I : ¬ (fv : Int) = 0 := by omega
        have hf0b : ((fv : Int) == 0) = false := by rw [beq_eq_false_iff_ne]; exact hf0I
        clear hf0
        go_upto_region 3 with fail
        obtain ⟨W2, hW2⟩ : ∃ W2, W2 = wr.alloc (.cells #[.int .u64 (cid : Int), .string (ba cm), .string (ba cn)] 80) := ⟨_, rfl⟩
        rw [← hW2]
        have hb2 : Below wr.heap.size wr W2 := by rw [hW2]; exact (Below.refl _ _).alloc (Nat.le_refl _) _
        have hx2 : W2.heap[wr.heap.size]? = some (.cells #[.int .u64 (cid : Int), .string (ba cm), .string (ba cn)] 80 (0, 0)) := by rw [hW2]; exact Go.heap_alloc_new _ _
        have hg2 := HG.out.below hb2
        have HG2 := Lib.hid hg2
        have y0 : W2.cell? ⟨wr.heap.size, 0, none⟩ = some (.int .u64 (cid : Int)) := by unfold World.cell?; rw [hx2]; rfl
        have y1 : W2.cell? ⟨wr.heap.size, 1, none⟩ = some (.string (ba cm)) := by unfold World.cell?; rw [hx2]; rfl
        have y2 : W2.cell? ⟨wr.heap.size, 2, none⟩ = some (.string (ba cn)) := by unfold World.cell?; rw [hx2]; rfl
        have hgpl : M.gp < W2.heap.size := hg2.gpL
        have hrl : wr.heap.size < W2.heap.size := lt_of_heap2 hx2
        have d5 : W2.cell? ⟨M.gp, 5, none⟩ = some (.map (some M.bf)) := hg2.cells.1.2.2.2.2.2.1
        obtain ⟨lk, hlk⟩ := pathKeyOf HGC.out.1.m HGC.out.2.1.m
        have hfv : fP s1.funs (.agg #[.string (ba cm), .string (ba cn)]) = fv := by show s1.funs (str (ba cm)) (str (ba cn)) = _; rw [str_ba HGC.out.1.1, str_ba HGC.out.2.1.1, HFE.out]
        have HFV := Lib.hid hfv
        have HKEY := Lib.hid hlk
        have HSK : Hid (∀ x, Below W2.heap.size W2 x → x.cell? ⟨M.gp, 5, none⟩ = some (.map (some M.bf)) ∧ x.cell? ⟨wr.heap.size, 1, none⟩ = some (.string (ba cm)) ∧ x.cell? ⟨wr.heap.size, 2, none⟩ = some (.string (ba cn)) ∧ Below W2.heap.size W2 x) := Lib.hid (fun x hb => ⟨(hb.cell (p := ⟨M.gp, 5, none⟩) hgpl).trans d5, (hb.cell (p := ⟨wr.heap.size, 1, none⟩) hrl).trans y1, (hb.cell (p := ⟨wr.heap.size, 2, none⟩) hrl).trans y2, hb⟩)
        have HB2 := Lib.hid hb2
        have HX2 := Lib.hid hx2
        clear hfv hlk d5 hgpl hrl hg2 hb2 hx2 hW2 y0 y1 y2
        refine wp_region_noPanic ?_
        refine wp_region_held_drew (S := fun x => x.cell? ⟨M.gp, 5, none⟩ = some (.map (some M.bf)) ∧ x.cell? ⟨wr.heap.size, 1, none⟩ = some (.string (ba cm)) ∧ x.cell? ⟨wr.heap.size, 2, none⟩ = some (.string (ba cn)) ∧ Below W2.heap.size W2 x) (by kernel_rfl) (HSK.out _ (ride_drew (Below.refl _ _))) (fun hHeld => ?_)
        refine take_at (i := 0) (v := ?_) (some 15) rfl rfl (by kernel_rfl) (by kernel_rfl) (by kernel_rfl) (fun _ _ _ h => h) (Or.inl ⟨by rfl, ?_⟩) (by assumption) ?_
        rotate_left
        · intro w hSw
          obtain ⟨z0, z1, z2, zb⟩ := hSw; have r1 := (HG2.out.below zb).funs.run_look pathKeyed Tryz.underlying52 (zeroID _) HKEY.out; rw [HFV.out] at r1
          first | (go_simp; done) | (go_simp; with_reducible rfl)
        try simp only [Act.put, List.setIfInBounds_toArray, List.set_cons_zero, List.set_cons_succ]
        refine take_at (i := 1) (v := ?_) (some 16) rfl rfl (by kernel_rfl) (by kernel_rfl) (by kernel_rfl) (fun _ _ _ h => h) (Or.inl ⟨by rfl, ?_⟩) (by assumption) ?_
        rotate_left
        · intro w hSw
          obtain ⟨z0, z1, z2, zb⟩ := hSw; have r1 := (HG2.out.below zb).funs.run_look pathKeyed Tryz.underlying52 (zeroID _) HKEY.out; rw [HFV.out] at r1
          first | (go_simp; done) | (go_simp; with_reducible rfl)
        try simp only [Act.put, List.setIfInBounds_toArray, List.set_cons_zero, List.set_cons_succ]
        refine take_at (i := 2) (v := ?_) (some 17) rfl rfl (by kernel_rfl) (by kernel_rfl) (by kernel_rfl) (fun _ _ _ h => h) (Or.inl ⟨by rfl, ?_⟩) (by assumption) ?_
        rotate_left
        · intro w hSw
          obtain ⟨z0, z1, z2, zb⟩ := hSw; have r1 := (HG2.out.below zb).funs.run_look pathKeyed Tryz.underlying52 (zeroID _) HKEY.out; rw [HFV.out] at r1
          first | (go_simp; done) | (go_simp; with_reducible rfl)
        try simp only [Act.put, List.setIfInBounds_toArray, List.set_cons_zero, List.set_cons_succ]
        refine take_at (i := 3) (v := ?_) (some 18) rfl rfl (by kernel_rfl) (by kernel_rfl) (by kernel_rfl) (fun _ _ _ h => h) (Or.inl ⟨by rfl, ?_⟩) (by assumption) ?_
        rotate_left
        · intro w hSw
          obtain ⟨z0, z1, z2, zb⟩ := hSw; have r1 := (HG2.out.below zb).funs.run_look pathKeyed Tryz.underlying52 (zeroID _) HKEY.out; rw [HFV.out] at r1
          first | (go_simp; done) | (go_simp; with_reducible rfl)
        try simp only [Act.put, List.setIfInBounds_toArray, List.set_cons_zero, List.set_cons_succ]
        refine take_at (i := 4) (v := ?_) (some 19) rfl rfl (by kernel_rfl) (by kernel_rfl) (by kernel_rfl) (fun _ _ _ h => h) (Or.inl ⟨by rfl, ?_⟩) (by assumption) ?_
        rotate_left
        · intro w hSw
          obtain ⟨z0, z1, z2, zb⟩ := hSw; have r1 := (HG2.out.below zb).funs.run_look pathKeyed Tryz.underlying52 (zeroID _) HKEY.out; rw [HFV.out] at r1
          first | (go_simp; done) | (go_simp; with_reducible rfl)
        try simp only [Act.put, List.setIfInBounds_toArray, List.set_cons_zero, List.set_cons_succ]
        refine take_at (i := 5) (v := ?_) (some 20) rfl rfl (by kernel_rfl) (by kernel_rfl) (by kernel_rfl) (fun _ _ _ h => h) (Or.inl ⟨by rfl, ?_⟩) (by assumption) ?_
        rotate_left
        · intro w hSw
          obtain ⟨z0, z1, z2, zb⟩ := hSw; have r1 := (HG2.out.below zb).funs.run_look pathKeyed Tryz.underlying52 (zeroID _) HKEY.out; rw [HFV.out] at r1
          first | (go_simp; done) | (go_simp; with_reducible rfl)
        try simp only [Act.put, List.setIfInBounds_toArray, List.set_cons_zero, List.set_cons_succ]
        refine take_at (i := 6) (v := ?_) (some 21) rfl rfl (by kernel_rfl) (by kernel_rfl) (by kernel_rfl) (fun _ _ _ h => h) (Or.inl ⟨by rfl, ?_⟩) (by assumption) ?_
        rotate_left
        · intro w hSw
          obtain ⟨z0, z1, z2, zb⟩ := hSw; have r1 := (HG2.out.below zb).funs.run_look pathKeyed Tryz.underlying52 (zeroID _) HKEY.out; rw [HFV.out] at r1
          first | (go_simp; done) | (go_simp; with_reducible rfl)
        try simp only [Act.put, List.setIfInBounds_toArray, List.set_cons_zero, List.set_cons_succ]
        refine take_at (i := 7) (v := ?_) (some 22) rfl rfl (by kernel_rfl) (by kernel_rfl) (by kernel_rfl) (fun _ _ _ h => h) (Or.inl ⟨by rfl, ?_⟩) (by assumption) ?_
        rotate_left
        · intro w hSw
          obtain ⟨z0, z1, z2, zb⟩ := hSw; have r1 := (HG2.out.below zb).funs.run_look pathKeyed Tryz.underlying52 (zeroID _) HKEY.out; rw [HFV.out] at r1
          first | (go_simp; done) | (go_simp; with_reducible rfl)
        try simp only [Act.put, List.setIfInBounds_toArray, List.set_cons_zero, List.set_cons_succ]
        refine take_at (i := 8) (v := ?_) (some 4) rfl rfl (by kernel_rfl) (by kernel_rfl) (by kernel_rfl) (fun _ _ _ h => h) (Or.inl ⟨by rfl, ?_⟩) (by assumption) ?_
        rotate_left
        · intro w hSw
          obtain ⟨z0, z1, z2, zb⟩ := hSw; have r1 := (HG2.out.below zb).funs.run_look pathKeyed Tryz.underlying52 (zeroID _) HKEY.out; rw [HFV.out] at r1
          first | (go_simp; done) | (go_simp; with_reducible rfl)
        try simp only [Act.put, List.setIfInBounds_toArray, List.set_cons_zero, List.set_cons_succ]
        refine wpAnyH_done (by kernel_rfl) ?_ _
        refine NoPanic.normal ?_
        clear hHeld
        have hbD : Below W2.heap.size W2 W2.drew := ride_drew (Below.refl _ _)
        have hgD := HG2.out.below hbD
        go_upto_region 6 with fail
        obtain ⟨w5, hw5⟩ : ∃ w5, w5 = W2.drew := ⟨_, rfl⟩
        rw [← hw5] at hbD hgD ⊢
        have hx5 : w5.heap[wr.heap.size]? = some (.cells #[.int .u64 (cid : Int), .string (ba cm), .string (ba cn)] 80 (0, 0)) := (hbD.block _ (lt_of_heap2 HX2.out)).trans HX2.out
        have hT05 : Touch wr w5 (OwnG M) := (Touch.of_below HB2.out _).after hbD
        have hg5 := hgD
        obtain ⟨s5, hs5⟩ : ∃ s5, s5 = s1 := ⟨_, rfl⟩
        rw [← hs5] at hg5
        have hn5 : s5.nodes.length = s1.nodes.length := by rw [hs5]
        have hl5 : link1 (cid, cm, cn) s1 = refOf cid fv s5 := by unfold link1; dsimp only; rw [HFE.out, if_neg HF0.out, hs5]
        clear hgD hw5
        have y0 : w5.cell? ⟨wr.heap.size, 0, none⟩ = some (.int .u64 (cid : Int)) := by unfold World.cell?; rw [hx5]; rfl
        obtain ⟨g3, c3, i3, k1, k2, k3, ⟨kv, k4⟩, k5, k6, k7, k8, k9⟩ := hg5.refAt cid fv hq0 (by rw [hn5, HNL.out]; exact hq1) HFB1.out
        have hnd := node_any w5 base M s5 hg5 i3 g3 c3 k2 k3
        rw [← k1] at hnd
        have HND := Lib.hid hnd
        have HK8 := Lib.hid k8
        have HK9 := Lib.hid k9
        have HT05 := Lib.hid hT05
        have HL5 := Lib.hid hl5
        clear hbD hx5 hT05 hg5 hs5 hn5 hl5 k1 k2 k3 k6 k7 k8 k9 hnd
        go_wp2_with (go_at_call 33; (with_reducible refine (HND.out).mono ?_); rintro e w6 ⟨rfl, rfl⟩)
        have hfin : LinkI w base M s S n (.int .i64 ((k + 1 : Nat) : Int)) (w5.setCell ⟨g3, i3 * 6 + 4, none⟩ (.int .u64 (fv : Int))) := by
          have hfx := link1_facts (cid, cm, cn) s1
          refine ⟨k + 1, link1 (cid, cm, cn) s1, rfl, by omega, by rw [HL5.out]; exact HK8.out, (HT.out.trans HT05.out fun j e => .inl e).trans HK9.out fun j e => .inl e, ?_, hfx.1.trans HCS.out, hfx.2.2.trans HNL.out, hfx.2.1.trans HFU.out⟩
          have e9 : s.calls[k]'(by rw [← HN.out]; exact hlt) = (cid, cm, cn) := by have := HCK.out; rw [List.getElem?_eq_getElem (by rw [← HN.out]; exact hlt)] at this; injection this
          rw [← HL.out, show s.calls.drop k = s.calls[k]'(by rw [← HN.out]; exact hlt) :: s.calls.drop (k + 1) from List.drop_eq_getElem_cons _, linkL_cons, e9]
        first
          | (go_roundw; (case rel => exact hfin); (case measure => simp [intOf]; omega))
          | (refine ⟨?rel, ?measure⟩; (case rel => ((repeat apply Exists.intro); exact ⟨hfin, rfl⟩)); (case measure => simp [intOf]; omega))
    · have hnI : ¬ (k : Int) < (n : Int) := by omega
      obtain rfl : k = n := by omega
      rw [HN.out, List.drop_length] at hL
      have hfin : GR wr base M S := by rw [← hL]; exact hg
      have HFIN := Lib.hid hfin
      have HT := Lib.hid hT
      clear hg hT hL hcs hnl hfu hfin hk
      go_wp2_with fail
      go_end0
      exact ⟨rfl, HFIN.out, HT.out⟩
theorem link_any (w : World) (base : Nat) (M : GM) (s : PS) (h : GR w base M s) (hc : CallsOk s) (hfb : FunsOk s) :
    Calls Tryz.prog 21 #[.pointer (some ⟨M.gp, 0, none⟩)] w fun e w' => e = .returned (.tuple #[]) ∧ GR w' base M (linkL s.calls s) ∧ Touch w w' (OwnG M) := by
  rcases h.calls.2 with ⟨e, h0⟩ | ⟨g, cap, cur, e, _⟩
  · obtain ⟨⟨c0, c1, c2, c3, c4, c5, c6, c7, c8, c9, c10⟩, hf⟩ := h.cells
    rw [e] at c9
    have hcn : s.calls = [] := List.eq_nil_of_length_eq_zero h0
    rw [hcn]
    have HH := Lib.hid h
    clear h hc hfb e h0 hf c0 c1 c2 c3 c4 c5 c6 c7 c8 c10 hcn
    go_enter Tryz.func21, Tryz.ntmps21
    go_wp2_with fail
    go_loopw [11] (fun iv wr => iv = .int .i64 0 ∧ wr = w) (fun _ _ => 0)
    case atStart => exact ⟨rfl, rfl⟩
    case round =>
      obtain ⟨rfl, rfl⟩ := hrel
      go_wp2_with fail
      go_end0
      exact ⟨rfl, HH.out, Touch.refl _ _⟩
  · exact link_some w base M s h hc g cap e hfb
end Go.Proofs.YtecbaceinifjiaaGreatDoor
namespace Go.Proofs.YtecbaceinifjiaaGreatDoor
open Go.RowKit
set_option linter.unusedSimpArgs false
set_option linter.unusedVariables false
set_option maxRecDepth 100000
attribute [local go_sem] Oper.semAt_some undef
/-- What is in the arena when so many nodes were put. -/
def plantL (k : Nat) (ns : List Nd) : List (Nat × Nd) := if k = 0 then [(1, progNd)] else idsFrom 1 (ns.take k)
theorem idsFrom_length : ∀ (ns : List Nd) (k : Nat), (idsFrom k ns).length = ns.length
  | [], _ => rfl
  | n :: r, k => by show (idsFrom (k + 1) r).length + 1 = r.length + 1; rw [idsFrom_length r]
theorem idsFrom_snoc : ∀ (ns : List Nd) (k : Nat) (n : Nd), idsFrom k (ns ++ [n]) = idsFrom k ns ++ [(k + ns.length, n)]
  | [], k, n => rfl
  | m :: r, k, n => by
    show (k, m) :: idsFrom (k + 1) (r ++ [n]) = (k, m) :: (idsFrom (k + 1) r ++ [(k + (r.length + 1), n)])
    rw [idsFrom_snoc r, show k + 1 + r.length = k + (r.length + 1) by omega]
theorem idsFrom_lt : ∀ (ns : List Nd) (k : Nat) (p : Nat × Nd), p ∈ idsFrom k ns → k ≤ p.1 ∧ p.1 < k + ns.length
  | [], k, p, h => by cases h
  | m :: r, k, p, h => by
    rcases List.mem_cons.1 h with e | h
    · rw [e]; exact ⟨Nat.le_refl _, by show k < k + (r.length + 1); omega⟩
    · have := idsFrom_lt r (k + 1) p h
      exact ⟨by omega, by show p.1 < k + (r.length + 1); omega⟩
theorem putL_last {α : Type} : ∀ (l : List (Nat × α)) (k : Nat) (v : α), (∀ p ∈ l, p.1 < k) → putL' l k v = l ++ [(k, v)]
  | [], k, v, h => rfl
  | p :: r, k, v, h => by
    show (if p.1 < k then p :: putL' r k v else if p.1 = k then (k, v) :: r else (k, v) :: p :: r) = p :: (r ++ [(k, v)])
    rw [if_pos (h p List.mem_cons_self), putL_last r k v fun q hq => h q (List.mem_cons_of_mem _ hq)]
theorem getL_idsFrom_none {ns : List Nd} {k j : Nat} (h : k + ns.length ≤ j) : getL (idsFrom k ns) j = none := getL_none fun p hp => by have := idsFrom_lt ns k p hp; omega
theorem plant_more {ns : List Nd} {k : Nat} {n : Nd} (hn : ns[k]? = some n) : putL' (plantL k ns) (k + 1) n = plantL (k + 1) ns ∧ ((getL (plantL k ns) (k + 1)).getD zeroNd).kids = [] ∧ (hasL (plantL k ns) (k + 1) = true ∨ (plantL k ns).length = k) ∧ (plantL k ns).length ≤ k + 1 := by
  have hlt := (List.getElem?_eq_some_iff.1 hn).1
  have ht : ns.take (k + 1) = ns.take k ++ [n] := by rw [List.take_add_one, hn]; rfl
  unfold plantL
  rw [if_neg (Nat.succ_ne_zero k), ht, idsFrom_snoc]
  by_cases h0 : k = 0
  · subst h0
    rw [if_pos rfl]
    exact ⟨rfl, rfl, .inl rfl, Nat.le_refl _⟩
  · have hl : (ns.take k).length = k := by rw [List.length_take]; omega
    rw [if_neg h0, hl]
    refine ⟨?_, ?_, .inr ?_, ?_⟩
    · rw [show 1 + k = k + 1 by omega]
      exact putL_last _ _ _ fun p hp => by have := idsFrom_lt _ _ p hp; omega
    · rw [getL_idsFrom_none (by omega)]; rfl
    · rw [idsFrom_length, hl]
    · rw [idsFrom_length, hl]; omega
def PlantR (w : World) (ns : List Nd) (e : Ending) (w' : World) : Prop :=
  ∃ ga gm gp F vs N, e = .returned (.pointer (some ⟨ga, 0, none⟩)) ∧ AR w' w.heap.size ga gm gp F vs (idsFrom 1 ns) N ∧ N ≤ 400000000 ∧ Below w.heap.size w w'
/-- Where the loop over nodes stands. -/
def PlantI (w : World) (ga gm gp n : Nat) (ns : List Nd) (iv : Value) (wr : World) : Prop :=
  ∃ (k : Nat) (F : PF) (vs : List (Nat × Value)) (N : Nat), iv = .int .i64 (k : Int) ∧ k ≤ n ∧ AR wr w.heap.size ga gm gp F vs (plantL k ns) N ∧ N ≤ k * 20000 ∧ Below w.heap.size w wr
theorem slForm {w : World} {base n size : Nat} {t : TypeId} {v : Value} {xs : List Value} (h : w.ownsRow base t size v n xs) : ∃ A c, v = .slice A n c := by
  rcases h.2 with ⟨e, h0⟩ | ⟨g, cap, cur, e, _⟩
  · exact ⟨none, 0, by rw [e, h0]⟩
  · exact ⟨_, cap, e⟩
set_option maxHeartbeats 16000000 in
theorem planted_any (w : World) (base : Nat) (M : GM) (s : PS) (h : GR w base M s) (hpos : 0 < s.nodes.length) (hle : s.nodes.length ≤ 20000) :
    Calls Tryz.prog 22 #[M.nv] w (PlantR w s.nodes) := by
  obtain ⟨gn, cn, hnv⟩ := h.nvForm hpos
  obtain ⟨n, hn⟩ : ∃ n, n = s.nodes.length := ⟨_, rfl⟩
  have HNR := Lib.hid h.nodes
  rw [← hn] at hnv hle hpos
  have HNV := Lib.hid hnv
  have HN := Lib.hid hn
  have hNEW := new_any w
  have HNEW := Lib.hid hNEW
  rw [hnv]
  have hnb : n ≤ 20000 := hle
  have hnI : (0 : Int) < (n : Int) := by omega
  clear h hnv hn hle hNEW
  go_enter Tryz.func22, Tryz.ntmps22
  go_wp2_with (first
    | (go_at_call 34; (with_reducible refine (HNEW.out).mono ?_); rintro e w1 ⟨ga, gm, gp, F, vs, rfl, hA, hb⟩; go_loud (
        have HREL : Hid (PlantI w ga gm gp n s.nodes (.int .i64 0) w1) := Lib.hid ⟨0, F, vs, 0, rfl, Nat.zero_le _, hA, Nat.zero_le _, hb⟩;
        clear hA hb)))
  go_loopw [9] (fun iv wr => PlantI w ga gm gp n s.nodes iv wr) (fun iv _ => n - (intOf iv).toNat)
  case atStart => exact HREL.out
  case round =>
    obtain ⟨k, F1, vs1, N, rfl, hk, hA, hN, hb⟩ := hrel
    by_cases hlt : k < n
    · have hltI : (k : Int) < (n : Int) := by omega
      obtain ⟨m, hm⟩ : ∃ m, s.nodes[k]? = some m := ⟨_, List.getElem?_eq_getElem (by rw [← HN.out]; exact hlt)⟩
      obtain ⟨kv, hkv⟩ := (⟨_, List.getElem?_eq_getElem (by rw [HNR.out.len, ← HN.out]; exact hlt)⟩ : ∃ kv, M.kvs[k]? = some kv)
      have hrow := own_belowG HNR.out.own hb
      rw [HNV.out, ← HN.out] at hrow
      have hcell : ∀ j, j < 6 → wr.cell? ⟨gn, k * 6 + j, none⟩ = (nCells m kv)[j]? := fun j hj => by rw [hrow.cellAt (k * 6 + j) (by omega), rowC_at hm hkv hj]
      have x0 : wr.cell? ⟨gn, k * 6, none⟩ = some (.int .u8 (m.kind : Int)) := hcell 0 (by omega)
      have x1 : wr.cell? ⟨gn, k * 6 + 1, none⟩ = some (.string m.name) := hcell 1 (by omega)
      have x2 : wr.cell? ⟨gn, k * 6 + 2, none⟩ = some (.int .i64 m.num) := hcell 2 (by omega)
      have x3 : wr.cell? ⟨gn, k * 6 + 3, none⟩ = some (.int .u8 (m.typ : Int)) := hcell 3 (by omega)
      have x4 : wr.cell? ⟨gn, k * 6 + 4, none⟩ = some (.int .u64 (m.ref : Int)) := hcell 4 (by omega)
      have x5 : wr.cell? ⟨gn, k * 6 + 5, none⟩ = some kv := hcell 5 (by omega)
      obtain ⟨hok, hks, hkl⟩ := HNR.out.ok m (List.mem_of_getElem? hm)
      have hkid := own_belowG (HNR.out.kid k m kv hm hkv) hb
      obtain ⟨A, c, hkf⟩ := slForm hkid
      subst hkf
      rw [← HN.out] at hkl
      obtain ⟨p1, p2, p3, p4⟩ := plant_more hm
      have HPUT : Hid (∀ y, Below wr.heap.size wr y → Calls Tryz.prog 35 #[.pointer (some ⟨ga, 0, none⟩), .int .u64 ((k + 1 : Nat) : Int), ndV m (.slice A m.kids.length c)] y (PutR y w.heap.size ga gm gp F1 0 (plantL (k + 1) s.nodes) (N + m.kids.length))) := Lib.hid fun y hy => by
        have hkid' := own_belowG hkid hy
        have hid := IdSl.of_own hkid' hks (by omega)
        have := put_good y w.heap.size ga gm gp (k + 1) N F1 vs1 (plantL k s.nodes) m A c (hA.below hy) (by omega) (by omega) (by rcases p3 with h9 | h9; exact .inl h9; exact .inr (by omega)) ⟨⟨A, c, rfl, hid⟩, hok⟩ hid (by rw [p2]; show N + 0 + m.kids.length ≤ _; have : k * 20000 ≤ 20000 * 20000 := Nat.mul_le_mul_right _ (by omega); omega) (by omega)
        rw [p1, p2] at this
        exact this
      rw [show ((k + 1 : Nat) : Int) = (k : Int) + 1 by omega] at HPUT
      have HB := Lib.hid hb
      have HAL := Lib.hid hA
      have HNN := Lib.hid hN
      have HKL := Lib.hid hkl
      clear hm hkv hrow hcell hok hks hkid hA hN hb p1 p2 p3 p4 hkl
      unfold ndV at HPUT
      have hal : Below wr.heap.size wr (wr.alloc (.cells #[.int .u8 (m.kind : Int), .string m.name, .int .i64 m.num, .int .u8 (m.typ : Int), .int .u64 (m.ref : Int), .slice A m.kids.length c] 44)) := (Below.refl _ _).alloc (Nat.le_refl _) _
      have HBA := Lib.hid hal
      clear hal
      have hkI : 0 ≤ (k : Int) + 1 := by omega
      go_wp2_with (first
        | (go_at_call 35; (with_reducible refine (HPUT.out _ HBA.out).mono ?_); rintro e w6 ⟨rfl, F6, vs6, hA6, hT6, hO6⟩; go_loud (
            have HA6 := Lib.hid hA6;
            have HB6 := Lib.hid ((HB.out.trans (HBA.out.mono HB.out.size)).trans (hT6.below (Nat.le_trans HB.out.size HBA.out.size) fun j e => HAL.out.low e));
            clear hA6 hT6 hO6)))
      have hfin : PlantI w ga gm gp n s.nodes (.int .i64 ((k : Int) + 1)) w6 := ⟨k + 1, F6, vs6, N + m.kids.length, by rw [show ((k + 1 : Nat) : Int) = (k : Int) + 1 by omega], by omega, HA6.out, by have := HNN.out; have := HKL.out; omega, HB6.out⟩
      first
        | (go_roundw; (case rel => exact hfin); (case measure => simp [intOf]; omega))
        | (refine ⟨?rel, ?measure⟩; (case rel => ((repeat apply Exists.intro); exact ⟨hfin, rfl⟩)); (case measure => simp [intOf]; omega))
    · have hnI2 : ¬ (k : Int) < (n : Int) := by omega
      obtain rfl : k = n := by omega
      have hfin : PlantR w s.nodes (.returned (.pointer (some ⟨ga, 0, none⟩))) wr := by
        refine ⟨ga, gm, gp, F1, vs1, N, rfl, ?_, by have : k * 20000 ≤ 20000 * 20000 := Nat.mul_le_mul_right _ (by omega); omega, hb⟩
        have e : plantL k s.nodes = idsFrom 1 s.nodes := by
          unfold plantL
          rw [if_neg (by omega), HN.out, List.take_length]
        rw [← e]
        exact hA
      have HFIN := Lib.hid hfin
      clear hA hN hb hk hfin
      go_wp2_with fail
      go_ret
      exact HFIN.out
end Go.Proofs.YtecbaceinifjiaaGreatDoor
