/- GGrow, GDef: joined by program (tools/merge.py). -/
import Derived.Test.YtecbaceinifjiaaGreatDoorZ12
namespace Go.Proofs.YtecbaceinifjiaaGreatDoor
open Go.RowKit
set_option linter.unusedSimpArgs false
set_option linter.unusedVariables false
set_option maxRecDepth 100000
attribute [local go_sem] Oper.semAt_some undef
theorem GR.nvForm {w : World} {base : Nat} {M : GM} {s : PS} (h : GR w base M s) (hpos : 0 < s.nodes.length) : ∃ g c, M.nv = .slice (some ⟨g, 0, none⟩) s.nodes.length c := by
  rcases h.nodes.own.2 with ⟨e, h0⟩ | ⟨g, cap, cur, e, _⟩
  · omega
  · exact ⟨g, cap, e⟩
set_option maxHeartbeats 4000000 in
theorem node_any (w : World) (base : Nat) (M : GM) (s : PS) (h : GR w base M s) (i g c : Nat) (hi : i < s.nodes.length) (hnv : M.nv = .slice (some ⟨g, 0, none⟩) s.nodes.length c) :
    Calls Tryz.prog 33 #[.pointer (some ⟨M.gp, 0, none⟩), .int .u64 ((i + 1 : Nat) : Int)] w fun e w' => e = .returned (.pointer (some ⟨g, i * 6, none⟩)) ∧ w = w' := by
  obtain ⟨⟨c0, c1, c2, c3, c4, c5, c6, c7, c8, c9, c10⟩, hf⟩ := h.cells
  rw [hnv] at c3
  obtain ⟨N, hN⟩ : ∃ N, N = s.nodes.length := ⟨_, rfl⟩
  rw [← hN] at c3 hi
  have hNb : N ≤ 10000000 := by rw [hN]; have := h.sum; omega
  have hiI : (i : Int) < (N : Int) := by omega
  clear h hf hN c0 c1 c2 c4 c5 c6 c7 c8 c9 c10
  go_enter Tryz.func33, Tryz.ntmps33
  go_wp2_with fail
  go_ret
  exact ⟨rfl, rfl⟩
theorem infoNode : (Tryz.prog.info? 44).map (fun i => (i.zero, i.size, i.bytes)) = some (some (.agg #[.int .u8 0, .string ⟨#[]⟩, .int .i64 0, .int .u8 0, .int .u64 0, .slice none 0 0]), 6, 72) := by kernel_rfl
theorem infoID : (Tryz.prog.info? 30).map (fun i => (i.zero, i.size, i.bytes)) = some (some (.int .u64 0), 1, 8) := by kernel_rfl
theorem new_drew (w : World) (o : Obj) (x : World) (hx : x = (w.alloc o).drew) : x.heap[w.heap.size]? = some o := by rw [hx]; exact Go.heap_alloc_new w o
theorem setN_at {ns : List Nd} {u i : Nat} {m : Nd} {f : Nd → Nd} (hi : i = u - 1) (hm : ns[i]? = some m) : setN u f ns = ns.set i (f m) := by
  unfold setN
  rw [← hi]
  refine List.ext_getElem? fun j => ?_
  rw [List.getElem?_modify]
  by_cases e : i = j
  · subst e
    rw [List.getElem?_set_self (List.getElem?_eq_some_iff.1 hm).1, hm]
    simp
  · rw [List.getElem?_set_ne e]
    simp [e]
theorem GR.ndCells {w : World} {base g N c i : Nat} {M : GM} {s : PS} {m : Nd} {kv : Value} (h : GR w base M s) (hnv : M.nv = .slice (some ⟨g, 0, none⟩) N c) (hm : s.nodes[i]? = some m) (hkv : M.kvs[i]? = some kv) : (∀ j, j < 6 → w.cell? ⟨g, i * 6 + j, none⟩ = (nCells m kv)[j]?) ∧ (∀ j, w.frozen? ⟨g, j, none⟩ = false) ∧ ∃ cs, w.heap[g]? = some (.cells cs 44 (0, 0)) := by
  have hown := h.nodes.own
  have hN : N = s.nodes.length := by
    rcases hown.2 with ⟨e, h0⟩ | ⟨g2, cap, cur, e, _⟩
    · rw [hnv] at e; cases e
    · rw [hnv] at e; injection e
  subst hN
  rw [hnv] at hown
  have hi := (List.getElem?_eq_some_iff.1 hm).1
  exact ⟨fun j hj => by rw [hown.cellAt (i * 6 + j) (by omega), rowC_at hm hkv hj], fun j => hown.frozenAt j, own_ty hown (j := g) rfl⟩
set_option maxHeartbeats 16000000 in
theorem grow_any (w : World) (base : Nat) (M : GM) (s : PS) (h : GR w base M s) (u : Nat) (n : Nd) (hu : u ≤ s.nodes.length) (hn : NdOk n) (hk : n.kids = []) (hsum : s.left.length * 16 + (s.nodes.length + 1) + s.cnt ≤ 10000000) :
    Calls Tryz.prog 30 #[.pointer (some ⟨M.gp, 0, none⟩), .int .u64 (u : Int), ndV n (.slice none 0 0)] w fun e w' => e = .returned (.int .u64 (growId s : Int)) ∧ GStep w base M (growS u n s) w' := by
  obtain ⟨i6, hi6, hz6, hs6, hb6⟩ := info_parts infoNode
  have hbw : Below w.heap.size w (w.alloc (.cells #[.int .u8 (n.kind : Int), .string n.name, .int .i64 n.num, .int .u8 (n.typ : Int), .int .u64 (n.ref : Int), .slice none 0 0] 44)) := (Below.refl _ _).alloc (Nat.le_refl _) _
  have hxw : (w.alloc (.cells #[.int .u8 (n.kind : Int), .string n.name, .int .i64 n.num, .int .u8 (n.typ : Int), .int .u64 (n.ref : Int), .slice none 0 0] 44)).heap[w.heap.size]? = some (.cells #[.int .u8 (n.kind : Int), .string n.name, .int .i64 n.num, .int .u8 (n.typ : Int), .int .u64 (n.ref : Int), .slice none 0 0] 44 (0, 0)) := Go.heap_alloc_new _ _
  have HI := Lib.hid hi6
  have H0 := Lib.hid hz6
  have H1 := Lib.hid hs6
  have H2 := Lib.hid hb6
  have HH := Lib.hid h
  have HBW := Lib.hid hbw
  have HXW := Lib.hid hxw
  have HU := Lib.hid hu
  have HN := Lib.hid hn
  have HK := Lib.hid hk
  have HS := Lib.hid hsum
  unfold ndV
  clear h hbw hxw hi6 hz6 hs6 hb6 hu hn hk hsum
  go_enter Tryz.func30, Tryz.ntmps30
  go_wp2_with fail
  obtain ⟨W1, hW1⟩ : ∃ W1, W1 = w.alloc (.cells #[.int .u8 (n.kind : Int), .string n.name, .int .i64 n.num, .int .u8 (n.typ : Int), .int .u64 (n.ref : Int), .slice none 0 0] 44) := ⟨_, rfl⟩
  rw [← hW1]
  rw [← hW1] at HBW HXW
  clear hW1
  have h1 := HH.out.below HBW.out
  obtain ⟨⟨c0, c1, c2, c3, c4, c5, c6, c7, c8, c9, c10⟩, hf⟩ := h1.cells
  have f3 := hf 3
  obtain ⟨⟨b0, b1, b2, b3, b4, b5⟩, _⟩ := (show (W1.cell? ⟨w.heap.size, 0, none⟩ = some (.int .u8 (n.kind : Int)) ∧ W1.cell? ⟨w.heap.size, 1, none⟩ = some (.string n.name) ∧ W1.cell? ⟨w.heap.size, 2, none⟩ = some (.int .i64 n.num) ∧ W1.cell? ⟨w.heap.size, 3, none⟩ = some (.int .u8 (n.typ : Int)) ∧ W1.cell? ⟨w.heap.size, 4, none⟩ = some (.int .u64 (n.ref : Int)) ∧ W1.cell? ⟨w.heap.size, 5, none⟩ = some (.slice none 0 0)) ∧ True from by
    refine ⟨⟨?_, ?_, ?_, ?_, ?_, ?_⟩, trivial⟩ <;> (unfold World.cell?; rw [HXW.out]; rfl))
  obtain ⟨N, hN⟩ : ∃ N, N = s.nodes.length := ⟨_, rfl⟩
  have HNN := Lib.hid hN
  have hNb : N ≤ 10000000 := by rw [hN]; have := HH.out.sum; omega
  have hgpl : M.gp < W1.heap.size := h1.gpL
  have HO1 : Hid (W1.ownsRow base 44 6 M.nv N (rowC s.nodes M.kvs)) := Lib.hid (by rw [hN]; exact h1.nodes.own)
  have HNE : Hid (some M.gp ≠ M.nv.ownBlock) := Lib.hid (fun e => by obtain ⟨cs, h9⟩ := own_ty h1.nodes.own e.symm; rw [h1.st] at h9; injection h9 with h9; injection h9 with _ h9 _; revert h9; decide)
  have HC3 := Lib.hid c3
  have HF3 := Lib.hid f3
  have HB1 : Hid (base ≤ W1.heap.size) := Lib.hid h1.hb
  have HH1 := Lib.hid h1
  clear hf h1 hN c0 c1 c2 c4 c5 c6 c7 c8 c9 c10
  go_region_law ((refine step_append_lies _ (by rfl) _ _ _ (by rfl) base 44 i6 _ 6 72 Tryz.underlying57 HI.out H0.out H1.out H2.out (by rfl) (by omega) M.nv N (rowC s.nodes M.kvs) (by rfl) (own_belowG HO1.out (by repeat (with_reducible (first | exact Below.refl _ _ | refine ride_alloc ?_ _ | refine ride_drew ?_ | refine below_drewN ?_ _)))) _ 1 1 [.int .u8 (n.kind : Int), .string n.name, .int .i64 n.num, .int .u8 (n.typ : Int), .int .u64 (n.ref : Int), .slice none 0 0] (by rfl) (by rfl) (by first | exact World.news_of_block (Go.heap_alloc_new _ _) | exact World.news_of_block (new_drew _ _ _ rfl) | exact World.news_of_block (new_drew _ _ _ (by simp))) (by intro u hu; simp at hu; rcases hu with rfl | rfl | rfl | rfl | rfl | rfl <;> rfl) (by omega) (by unfold maxLen; omega) (by omega) (Nat.le_trans HB1.out (by simp)) _ rfl ?_; intro gg cap w5 hown5 hg5 hat5 hlt5; have hc5 := (hg5.cell_far ⟨M.gp, 3, none⟩ (Nat.lt_of_lt_of_le hgpl (Below.size (show Below W1.heap.size W1 _ from (by repeat (with_reducible (first | exact Below.refl _ _ | refine ride_alloc ?_ _ | refine ride_drew ?_ | refine below_drewN ?_ _)))))) HNE.out).trans ((Below.cell (show Below W1.heap.size W1 _ from (by repeat (with_reducible (first | exact Below.refl _ _ | refine ride_alloc ?_ _ | refine ride_drew ?_ | refine below_drewN ?_ _)))) (p := ⟨M.gp, 3, none⟩) hgpl).trans HC3.out); have hf5 := (hg5.frozen_far ⟨M.gp, 3, none⟩ (Nat.lt_of_lt_of_le hgpl (Below.size (show Below W1.heap.size W1 _ from (by repeat (with_reducible (first | exact Below.refl _ _ | refine ride_alloc ?_ _ | refine ride_drew ?_ | refine below_drewN ?_ _)))))) HNE.out).trans ((Below.frozen (show Below W1.heap.size W1 _ from (by repeat (with_reducible (first | exact Below.refl _ _ | refine ride_alloc ?_ _ | refine ride_drew ?_ | refine below_drewN ?_ _)))) (p := ⟨M.gp, 3, none⟩) hgpl).trans HF3.out)))
  all_goals
    obtain ⟨x, hgx, hxb, hatx⟩ : ∃ x, World.grownBy x w5 M.nv.ownBlock ∧ Below W1.heap.size W1 x ∧ (M.nv.ownBlock = some gg ∨ gg = x.heap.size) := ⟨_, hg5, (by repeat (with_reducible (first | exact Below.refl _ _ | refine ride_alloc ?_ _ | refine ride_drew ?_ | refine below_drewN ?_ _))), hat5⟩
    have hadd := HH.out.addNode (n := n) (HBW.out.trans (hxb.mono HBW.out.size)) hgx (by rw [← HNN.out]; exact hown5) hatx HN.out HK.out HS.out
    rw [← HNN.out] at hadd
    obtain ⟨W5, hW5⟩ : ∃ W5, W5 = w5.setCell ⟨M.gp, 3, none⟩ (.slice (some ⟨gg, 0, none⟩) (N + 1) cap) := ⟨_, rfl⟩
    rw [← hW5]
    rw [← hW5] at hadd
    obtain ⟨M5, hM5⟩ : ∃ M5 : GM, M5 = { M with nv := .slice (some ⟨gg, 0, none⟩) (N + 1) cap, kvs := M.kvs ++ [.slice none 0 0] } := ⟨_, rfl⟩
    rw [← hM5] at hadd
    have hgp5 : M5.gp = M.gp := by rw [hM5]
    have hnv5 : M5.nv = .slice (some ⟨gg, 0, none⟩) (N + 1) cap := by rw [hM5]
    have HLV : Hid (Live M → Live M5) := Lib.hid (by rw [hM5]; exact fun h => h)
    obtain ⟨hG5, hT5, hO5⟩ := hadd
    obtain ⟨⟨_, _, _, d3, _, _, _, _, _, _, _⟩, _⟩ := hG5.cells
    rw [hnv5, hgp5] at d3
    have hlen5 : (s.nodes ++ [n]).length = N + 1 := by rw [List.length_append, HNN.out]; rfl
    have HG5 := Lib.hid hG5
    have HT5 := Lib.hid hT5
    have HO5 := Lib.hid hO5
    have HGP5 := Lib.hid hgp5
    have HNV5 := Lib.hid hnv5
    have HL5 := Lib.hid hlen5
    clear hW5 hM5 hgp5 hnv5 hG5 hT5 hO5 hlen5 hc5 hf5 hown5 hg5 hat5 hlt5 hgx hxb hatx x c3 f3 b0 b1 b2 b3 b4 b5 hgpl
    rcases Nat.eq_zero_or_pos u with hu0 | hu0
    · subst hu0
      go_wp2_with fail
      go_ret
      refine ⟨by unfold growId; rw [← HNN.out]; rfl, ?_⟩
      unfold growS
      rw [if_pos rfl]
      exact ⟨M5, HG5.out, HGP5.out, HT5.out, HO5.out, HLV.out⟩
    · have hu1 : ¬ (u : Int) = 0 := by omega
      obtain ⟨i, hi⟩ : ∃ i, i = u - 1 := ⟨_, rfl⟩
      have hil : i < N + 1 := by have := HU.out; rw [← HNN.out] at this; omega
      have hnd := node_any W5 base M5 _ HG5.out i gg cap (by show i < (s.nodes ++ [n]).length; rw [HL5.out]; exact hil) (by show M5.nv = .slice (some ⟨gg, 0, none⟩) (s.nodes ++ [n]).length cap; rw [HL5.out]; exact HNV5.out)
      rw [show ((i + 1 : Nat) : Int) = (u : Int) by omega, HGP5.out] at hnd
      obtain ⟨m, hm⟩ : ∃ m, (s.nodes ++ [n])[i]? = some m := ⟨_, List.getElem?_eq_getElem (by rw [HL5.out]; exact hil)⟩
      obtain ⟨kv, hkv⟩ : ∃ kv, M5.kvs[i]? = some kv := ⟨_, List.getElem?_eq_getElem (by rw [HG5.out.nodes.len]; show i < (s.nodes ++ [n]).length; rw [HL5.out]; exact hil)⟩
      obtain ⟨hcs, hfz, cs5, hgc⟩ := HG5.out.ndCells HNV5.out hm hkv
      have k5 := hcs 5 (by omega)
      rw [show (nCells m kv)[5]? = some kv from rfl] at k5
      have f5 := hfz (i * 6 + 5)
      have hgl : gg < W5.heap.size := lt_of_heap2 hgc
      obtain ⟨iI, hiI, hzI, hsI, hbI⟩ := info_parts infoID
      obtain ⟨kl, hkl⟩ : ∃ kl, kl = m.kids.length := ⟨_, rfl⟩
      have hklN : kl ≤ N := by
        rw [hkl, HNN.out]
        rcases List.mem_append.1 (List.mem_of_getElem? hm) with h9 | h9
        · exact (HH.out.nodes.ok m h9).2.2
        · rw [List.mem_singleton] at h9; rw [h9, HK.out]; exact Nat.zero_le _
      have hklb : kl ≤ 90000000 := by omega
      have HKLN := Lib.hid hklN
      clear hklN
      have HOK : Hid (W5.ownsRow base 30 1 kv kl (ids m.kids)) := Lib.hid (by rw [hkl]; exact HG5.out.nodes.kid i m kv hm hkv)
      have HNE5 : Hid (some gg ≠ kv.ownBlock) := Lib.hid (fun e => by obtain ⟨cs, h9⟩ := own_ty HOK.out e.symm; rw [hgc] at h9; injection h9 with h9; injection h9 with _ h9 _; revert h9; decide)
      have HND := Lib.hid hnd
      have HK5 := Lib.hid k5
      have HF5 := Lib.hid f5
      have HI2 := Lib.hid hiI
      have HZ2 := Lib.hid hzI
      have HS2 := Lib.hid hsI
      have HBY2 := Lib.hid hbI
      have HB5 : Hid (base ≤ W5.heap.size) := Lib.hid HG5.out.hb
      have HM := Lib.hid hm
      have HKV := Lib.hid hkv
      have HKL := Lib.hid hkl
      have HII := Lib.hid hi
      clear hnd hcs hfz hgc hiI hzI hsI hbI hm hkv hkl hi
      have hal : Below W5.heap.size W5 (W5.alloc (.cells #[.int .u64 ((N : Int) + 1)] 30)) := (Below.refl _ _).alloc (Nat.le_refl _) _
      have HAL := Lib.hid hal
      have HGL := Lib.hid hgl
      clear hal hgl
      go_wp2_with (first
        | (go_at_call 33; (with_reducible refine (HND.out).mono ?_); rintro e w8 ⟨rfl, rfl⟩)
        | (at_builtin; go_loud (
            (refine wpList_append_lies _ (by rfl) _ _ _ (by rfl) base 30 iI _ 1 8 Tryz.underlying42 HI2.out HZ2.out HS2.out HBY2.out (by rfl) (by omega) kv kl (ids m.kids) (by rfl) (own_belowG HOK.out HAL.out) ⟨W5.heap.size, 0, none⟩ 1 1 [.int .u64 ((N : Int) + 1)] (by rfl) (by rfl) (World.news_of_block (Go.heap_alloc_new _ _)) (by intro u hu; simp at hu; rcases hu with rfl; rfl) (by omega) (by unfold maxLen; omega) (by omega) (Nat.le_trans HB5.out (by simp)) (W5.heap.size + 1) (by simp) ?_);
            intro qq cap2 w9 hown9 hg9 hat9 hlt9;
            have k9 := (hg9.cell_far ⟨gg, i * 6 + 5, none⟩ (Nat.lt_of_lt_of_le HGL.out HAL.out.size) HNE5.out).trans ((HAL.out.cell (p := ⟨gg, i * 6 + 5, none⟩) HGL.out).trans HK5.out);
            have f9 := (hg9.frozen_far ⟨gg, i * 6 + 5, none⟩ (Nat.lt_of_lt_of_le HGL.out HAL.out.size) HNE5.out).trans ((HAL.out.frozen (p := ⟨gg, i * 6 + 5, none⟩) HGL.out).trans HF5.out);
            have HKM := Lib.hid (HG5.out.kidMore (id := growId s) HNV5.out HM.out HKV.out HAL.out hg9 (by rw [← HKL.out]; unfold growId; rw [← HNN.out]; exact hown9) (by rw [show (W5.alloc (.cells #[.int .u64 ((N : Int) + 1)] 30)).heap.size = W5.heap.size + 1 by simp]; exact hat9) (by unfold growId; rw [← HNN.out]; omega) (by show m.kids.length + 1 ≤ (s.nodes ++ [n]).length; rw [HL5.out, ← HKL.out]; have := HKLN.out; omega));
            rw [← HKL.out] at HKM;
            clear hown9 hg9 hat9 hlt9)))
      go_ret
      refine ⟨by unfold growId; rw [← HNN.out]; rfl, ?_⟩
      unfold growS
      rw [if_neg (by omega), setN_at HII.out HM.out]
      obtain ⟨hG9, hT9, hO9⟩ := HKM.out
      exact GStep.trans HGP5.out HT5.out HO5.out HLV.out ⟨_, hG9, rfl, hT9, hO9, fun h => h⟩
end Go.Proofs.YtecbaceinifjiaaGreatDoor
namespace Go.Proofs.YtecbaceinifjiaaGreatDoor
open Go.RowKit
set_option linter.unusedSimpArgs false
set_option linter.unusedVariables false
set_option maxRecDepth 100000
attribute [local go_sem] Oper.semAt_some undef
theorem MapO.more {K : TypeId} {w : World} {b : Option Nat} {n m : Nat} {f : Value → Nat} (h : MapO K w b n f) (hm : n ≤ m) : MapO K w b m f := by
  rcases h with h | ⟨g, e, h⟩
  · exact .inl h
  · exact .inr ⟨g, e, h.more hm⟩
/-- While a map is written. -/
structure Turn (w w' : World) (base : Nat) (M : GM) (s : PS) : Prop where
  st : w'.heap[M.gp]? = some (.cells (pcells M s) 59 (0, 0))
  left : TokIn w' M.left s.left
  nodes : NodeRow w' base M.nv M.kvs s.nodes
  shown : w'.ownsRow base 9 1 M.sv s.shown.length (strC s.shown)
  calls : w'.ownsRow base 80 3 M.cv s.calls.length (callC s.calls)
  hb : base ≤ w'.heap.size
theorem GR.turn {w w' : World} {base b : Nat} {M : GM} {s : PS} (h : GR w base M s) {es : Array MapEntry} {ck : Nat} (hb : w.heap[b]? = some (.map es ck)) (hg : w.grownBy w' (some b)) : Turn w w' base M s := by
  have hc : ∀ {j : Nat} {cs : Array Value} {t : TypeId} {z : Nat × Nat}, w.heap[j]? = some (.cells cs t z) → w'.heap[j]? = w.heap[j]? := fun {j cs t z} hj => hg.block j (lt_of_heap2 hj) fun e => by
    injection e with e
    rw [e, hb] at hj
    cases hj
  exact ⟨(hc h.st).trans h.st, h.left.at_ fun j cs z hj => hc hj, h.nodes.at_ (fun j cs hj => hc hj) (fun j cs hj => hc hj), ownsRow_at h.shown fun j cs hj => hc hj, ownsRow_at h.calls fun j cs hj => hc hj, Nat.le_trans h.hb hg.size⟩
theorem MapF.turn {K : TypeId} {w w' : World} {b b2 n : Nat} {f : Value → Nat} (h : MapF K w b2 n f) (hg : w.grownBy w' (some b)) (hne : b2 ≠ b) : MapF K w' b2 n f := h.at_ (hg.block b2 h.lt fun e => hne (by injection e))
theorem MapO.turn {K : TypeId} {w w' : World} {b n : Nat} {b2 : Option Nat} {f : Value → Nat} (h : MapO K w b2 n f) (hg : w.grownBy w' (some b)) (hne : b2 ≠ some b) : MapO K w' b2 n f := by
  rcases h with h | ⟨g, e, h⟩
  · exact .inl h
  · exact .inr ⟨g, e, h.turn hg fun e2 => hne (by rw [e, e2])⟩
theorem Touch.map {w w' : World} {b : Nat} {S : Nat → Prop} (hg : w.grownBy w' (some b)) (hS : S b) : Touch w w' S := .of_grown hg fun j e => by injection e with e; rw [← e]; exact hS
/-- A module's name leads to a node. -/
theorem GR.setMod {w w' : World} {base : Nat} {M : GM} {s : PS} (h : GR w base M s) (f : List Nat → Nat) (hm : MapF 9 w' M.bm (s.cnt + 1) (fS f)) (hg : w.grownBy w' (some M.bm)) (hs : s.left.length * 16 + s.nodes.length + (s.cnt + 1) ≤ 10000000) :
    GR w' base M { s with mods := f, cnt := s.cnt + 1 } := by
  obtain ⟨es, ck, hb⟩ := h.mods.obj
  have ht := h.turn hb hg
  exact ⟨ht.st, ht.left, ht.nodes, hm, (h.funs.turn hg (Ne.symm h.n1)).more (Nat.le_succ _), (h.taken.turn hg fun e => (h.n2 _ e).1 rfl).more (Nat.le_succ _), (h.vis.turn hg fun e => (h.n3 _ e).1 rfl).more (Nat.le_succ _), ht.shown, ht.calls, h.o1, h.o2, h.o3, h.o4, h.o5, h.n1, h.n2, h.n3, ht.hb, h.goodT, h.goodS, h.goodC, hs, by have := h.sh; show s.shown.length ≤ s.cnt + 1; omega, by have := h.ca; show s.calls.length ≤ s.cnt + 1; omega, h.dep, h.flt, h.vs.on ((Below.refl base w).grown hg h.hb (fun g e => by injection e with e; rw [← e]; exact h.o2)) h.gb, h.gb, h.vb⟩
theorem GR.setFun {w w' : World} {base : Nat} {M : GM} {s : PS} (h : GR w base M s) (f : List Nat → List Nat → Nat) (hm : MapF 78 w' M.bf (s.cnt + 1) (fP f)) (hg : w.grownBy w' (some M.bf)) (hs : s.left.length * 16 + s.nodes.length + (s.cnt + 1) ≤ 10000000) :
    GR w' base M { s with funs := f, cnt := s.cnt + 1 } := by
  obtain ⟨es, ck, hb⟩ := h.funs.obj
  have ht := h.turn hb hg
  exact ⟨ht.st, ht.left, ht.nodes, (h.mods.turn hg h.n1).more (Nat.le_succ _), hm, (h.taken.turn hg fun e => (h.n2 _ e).2.1 rfl).more (Nat.le_succ _), (h.vis.turn hg fun e => (h.n3 _ e).2 rfl).more (Nat.le_succ _), ht.shown, ht.calls, h.o1, h.o2, h.o3, h.o4, h.o5, h.n1, h.n2, h.n3, ht.hb, h.goodT, h.goodS, h.goodC, hs, by have := h.sh; show s.shown.length ≤ s.cnt + 1; omega, by have := h.ca; show s.calls.length ≤ s.cnt + 1; omega, h.dep, h.flt, h.vs.on ((Below.refl base w).grown hg h.hb (fun g e => by injection e with e; rw [← e]; exact h.o3)) h.gb, h.gb, h.vb⟩
theorem GR.setTak {w w' : World} {base g : Nat} {M : GM} {s : PS} (h : GR w base M s) (hv : M.vt = some g) (f : List Nat → Nat) (hm : MapF 9 w' g (s.cnt + 1) (fS f)) (hg : w.grownBy w' (some g)) (hs : s.left.length * 16 + s.nodes.length + (s.cnt + 1) ≤ 10000000) :
    GR w' base M { s with taken := f, cnt := s.cnt + 1 } := by
  obtain ⟨es, ck, hb⟩ : ∃ es ck, w.heap[g]? = some (.map es ck) := by
    rcases h.taken with ⟨h1, _⟩ | ⟨g', h1, h2⟩
    · rw [hv] at h1; cases h1
    · rw [hv] at h1; injection h1 with h1; rw [h1]; exact h2.obj
  have ht := h.turn hb hg
  have hn := h.n2 g hv
  exact ⟨ht.st, ht.left, ht.nodes, (h.mods.turn hg (Ne.symm hn.1)).more (Nat.le_succ _), (h.funs.turn hg (Ne.symm hn.2.1)).more (Nat.le_succ _), .inr ⟨g, hv, hm⟩, (h.vis.turn hg hn.2.2).more (Nat.le_succ _), ht.shown, ht.calls, h.o1, h.o2, h.o3, h.o4, h.o5, h.n1, h.n2, h.n3, ht.hb, h.goodT, h.goodS, h.goodC, hs, by have := h.sh; show s.shown.length ≤ s.cnt + 1; omega, by have := h.ca; show s.calls.length ≤ s.cnt + 1; omega, h.dep, h.flt, h.vs.on ((Below.refl base w).grown hg h.hb (fun g e => by injection e with e; rw [← e]; exact h.o4 _ hv)) h.gb, h.gb, h.vb⟩
theorem GR.setVis {w w' : World} {base g : Nat} {M : GM} {s : PS} (h : GR w base M s) (hv : M.vv = some g) (f : List Nat → Nat) (hm : MapF 9 w' g (s.cnt + 1) (fS f)) (hg : w.grownBy w' (some g)) (hvb : ∀ n, f n < 18446744073709551616) (hs : s.left.length * 16 + s.nodes.length + (s.cnt + 1) ≤ 10000000) :
    GR w' base M { s with vis := f, cnt := s.cnt + 1 } := by
  obtain ⟨es, ck, hb⟩ : ∃ es ck, w.heap[g]? = some (.map es ck) := by
    rcases h.vis with ⟨h1, _⟩ | ⟨g', h1, h2⟩
    · rw [hv] at h1; cases h1
    · rw [hv] at h1; injection h1 with h1; rw [h1]; exact h2.obj
  have ht := h.turn hb hg
  have hn := h.n3 g hv
  exact ⟨ht.st, ht.left, ht.nodes, (h.mods.turn hg (Ne.symm hn.1)).more (Nat.le_succ _), (h.funs.turn hg (Ne.symm hn.2)).more (Nat.le_succ _), (h.taken.turn hg (fun e => (h.n2 g e).2.2 hv)).more (Nat.le_succ _), .inr ⟨g, hv, hm⟩, ht.shown, ht.calls, h.o1, h.o2, h.o3, h.o4, h.o5, h.n1, h.n2, h.n3, ht.hb, h.goodT, h.goodS, h.goodC, hs, by have := h.sh; show s.shown.length ≤ s.cnt + 1; omega, by have := h.ca; show s.calls.length ≤ s.cnt + 1; omega, h.dep, h.flt, h.vs.on ((Below.refl base w).grown hg h.hb (fun g e => by injection e with e; rw [← e]; exact h.o5 _ hv)) h.gb, h.gb, hvb⟩
theorem blame_cnt (e : Nat) (s : PS) : (blameS e s).cnt = s.cnt ∧ (blameS e s).mods = s.mods ∧ (blameS e s).taken = s.taken ∧ (blameS e s).funs = s.funs ∧ (blameS e s).vis = s.vis ∧ (blameS e s).left = s.left ∧ (blameS e s).nodes = s.nodes := ⟨rfl, rfl, rfl, rfl, rfl, rfl, rfl⟩
theorem GR.takF {w : World} {base g : Nat} {M : GM} {s : PS} (h : GR w base M s) (hv : M.vt = some g) : MapF 9 w g s.cnt (fS s.taken) := by
  rcases h.taken with ⟨h1, _⟩ | ⟨g', h1, h2⟩
  · rw [hv] at h1; cases h1
  · rw [hv] at h1; injection h1 with h1; rw [h1]; exact h2
theorem GR.visF {w : World} {base g : Nat} {M : GM} {s : PS} (h : GR w base M s) (hv : M.vv = some g) : MapF 9 w g s.cnt (fS s.vis) := by
  rcases h.vis with ⟨h1, _⟩ | ⟨g', h1, h2⟩
  · rw [hv] at h1; cases h1
  · rw [hv] at h1; injection h1 with h1; rw [h1]; exact h2
set_option maxHeartbeats 4000000 in
theorem defMod_any (w : World) (base : Nat) (M : GM) (s : PS) (h : GR w base M s) (n : List Nat) (id : Nat) (hn : GoodN n) (hs : s.left.length * 16 + s.nodes.length + (s.cnt + 1) ≤ 10000000) :
    Calls Tryz.prog 47 #[.pointer (some ⟨M.gp, 4, none⟩), .map (some M.bm), .string (ba n), .int .u64 (id : Int)] w fun e w' => e = .returned (.tuple #[]) ∧ GR w' base M (defModS n id s) ∧ Touch w w' (OwnG M) := by
  obtain ⟨l, hk⟩ := strKeyOf hn
  have r1 := (h.mods).run_look strKeyed Tryz.underlying51 (zeroID w) hk
  have e1 : fS s.mods (.string (ba n)) = s.mods n := by show s.mods (str (ba n)) = _; rw [str_ba hn.1]
  rw [e1] at r1
  have hbl := blame_any w base M s h 10 (by decide)
  rw [show ((10 : Nat) : Int) = 10 from rfl] at hbl
  have HB := Lib.hid hbl
  have HH := Lib.hid h
  have HS := Lib.hid hs
  have HN := Lib.hid hn
  have HK := Lib.hid hk
  have hcb : s.cnt ≤ 10000000 := by omega
  obtain ⟨v, hv⟩ : ∃ v, v = s.mods n := ⟨_, rfl⟩
  rw [← hv] at r1
  have HV := Lib.hid hv
  clear h hbl hs hn hk e1 hv
  by_cases h0 : v = 0
  · subst h0
    go_enter Tryz.func47, Tryz.ntmps47
    go_wp2_with (at_mapUpdate; refine wpList_gstore rfl _ _ _ rfl strKeyed Tryz.underlying51 rfl (HH.out.mods) (by unfold maxLen; omega) (.string (ba n)) l HK.out rfl id rfl (fS (put1 s.mods (str (ba n)) id)) (fS_put _ _ _) (fS_other _ _ _) ?_; intro w2 hm2 ht2; go_loud (
      rw [str_ba HN.out.1] at hm2;
      have HG2 := Lib.hid (HH.out.setMod (put1 s.mods n id) hm2 ht2.grown HS.out);
      have HT2 := Lib.hid (Touch.map (S := OwnG M) ht2.grown (.inr (.inr (.inr (.inl rfl)))));
      clear hm2 ht2))
    go_end0
    refine ⟨rfl, ?_, HT2.out⟩
    unfold defModS
    rw [← HV.out, if_neg (by simp)]
    exact HG2.out
  · have h1 : ¬ (v : Int) = 0 := by omega
    have h1b : ((v : Int) != 0) = true := by simpa using h1
    go_enter Tryz.func47, Tryz.ntmps47
    go_wp2_with (first
      | (go_at_call 32; (with_reducible refine (HB.out).mono ?_); rintro e w1 ⟨rfl, hg1, hT1⟩; go_loud (
          have HG1 := Lib.hid hg1;
          have HT1 := Lib.hid hT1;
          clear hg1 hT1))
      | (at_mapUpdate; refine wpList_gstore rfl _ _ _ rfl strKeyed Tryz.underlying51 rfl (HG1.out.mods) (by show s.cnt < maxLen; unfold maxLen; omega) (.string (ba n)) l HK.out rfl id rfl (fS (put1 s.mods (str (ba n)) id)) (fS_put _ _ _) (fS_other _ _ _) ?_; intro w2 hm2 ht2; go_loud (
          rw [str_ba HN.out.1] at hm2;
          have HG2 := Lib.hid (HG1.out.setMod (put1 s.mods n id) hm2 ht2.grown HS.out);
          have HT2 := Lib.hid ((HT1.out.more fun j e => .inl e).trans (Touch.map (S := OwnG M) ht2.grown (.inr (.inr (.inr (.inl rfl))))) fun j e => .inl e);
          clear hm2 ht2)))
    go_end0
    refine ⟨rfl, ?_, HT2.out⟩
    unfold defModS
    rw [if_pos (by rw [← HV.out]; exact h0)]
    exact HG2.out
set_option maxHeartbeats 4000000 in
theorem defTak_any (w : World) (base : Nat) (M : GM) (s : PS) (h : GR w base M s) (n : List Nat) (id : Nat) (hn : GoodN n) (gt : Nat) (hgt : M.vt = some gt) (hs : s.left.length * 16 + s.nodes.length + (s.cnt + 1) ≤ 10000000) :
    Calls Tryz.prog 47 #[.pointer (some ⟨M.gp, 4, none⟩), .map (some gt), .string (ba n), .int .u64 (id : Int)] w fun e w' => e = .returned (.tuple #[]) ∧ GR w' base M (defTakS n id s) ∧ Touch w w' (OwnG M) := by
  obtain ⟨l, hk⟩ := strKeyOf hn
  have r1 := (h.takF hgt).run_look strKeyed Tryz.underlying51 (zeroID w) hk
  have e1 : fS s.taken (.string (ba n)) = s.taken n := by show s.taken (str (ba n)) = _; rw [str_ba hn.1]
  rw [e1] at r1
  have hbl := blame_any w base M s h 10 (by decide)
  rw [show ((10 : Nat) : Int) = 10 from rfl] at hbl
  have HB := Lib.hid hbl
  have HH := Lib.hid h
  have HS := Lib.hid hs
  have HN := Lib.hid hn
  have HK := Lib.hid hk
  have hcb : s.cnt ≤ 10000000 := by omega
  obtain ⟨v, hv⟩ : ∃ v, v = s.taken n := ⟨_, rfl⟩
  rw [← hv] at r1
  have HV := Lib.hid hv
  clear h hbl hs hn hk e1 hv
  by_cases h0 : v = 0
  · subst h0
    go_enter Tryz.func47, Tryz.ntmps47
    go_wp2_with (at_mapUpdate; refine wpList_gstore rfl _ _ _ rfl strKeyed Tryz.underlying51 rfl (HH.out.takF hgt) (by unfold maxLen; omega) (.string (ba n)) l HK.out rfl id rfl (fS (put1 s.taken (str (ba n)) id)) (fS_put _ _ _) (fS_other _ _ _) ?_; intro w2 hm2 ht2; go_loud (
      rw [str_ba HN.out.1] at hm2;
      have HG2 := Lib.hid (HH.out.setTak hgt (put1 s.taken n id) hm2 ht2.grown HS.out);
      have HT2 := Lib.hid (Touch.map (S := OwnG M) ht2.grown (.inr (.inr (.inr (.inr (.inr (.inl hgt)))))));
      clear hm2 ht2))
    go_end0
    refine ⟨rfl, ?_, HT2.out⟩
    unfold defTakS
    rw [← HV.out, if_neg (by simp)]
    exact HG2.out
  · have h1 : ¬ (v : Int) = 0 := by omega
    have h1b : ((v : Int) != 0) = true := by simpa using h1
    go_enter Tryz.func47, Tryz.ntmps47
    go_wp2_with (first
      | (go_at_call 32; (with_reducible refine (HB.out).mono ?_); rintro e w1 ⟨rfl, hg1, hT1⟩; go_loud (
          have HG1 := Lib.hid hg1;
          have HT1 := Lib.hid hT1;
          clear hg1 hT1))
      | (at_mapUpdate; refine wpList_gstore rfl _ _ _ rfl strKeyed Tryz.underlying51 rfl (HG1.out.takF hgt) (by show s.cnt < maxLen; unfold maxLen; omega) (.string (ba n)) l HK.out rfl id rfl (fS (put1 s.taken (str (ba n)) id)) (fS_put _ _ _) (fS_other _ _ _) ?_; intro w2 hm2 ht2; go_loud (
          rw [str_ba HN.out.1] at hm2;
          have HG2 := Lib.hid (HG1.out.setTak hgt (put1 s.taken n id) hm2 ht2.grown HS.out);
          have HT2 := Lib.hid ((HT1.out.more fun j e => .inl e).trans (Touch.map (S := OwnG M) ht2.grown (.inr (.inr (.inr (.inr (.inr (.inl hgt))))))) fun j e => .inl e);
          clear hm2 ht2)))
    go_end0
    refine ⟨rfl, ?_, HT2.out⟩
    unfold defTakS
    rw [if_pos (by rw [← HV.out]; exact h0)]
    exact HG2.out
end Go.Proofs.YtecbaceinifjiaaGreatDoor
