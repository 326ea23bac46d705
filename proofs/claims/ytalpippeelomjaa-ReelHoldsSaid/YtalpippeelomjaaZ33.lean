/- LSmall, LEnd: joined by program (tools/merge.py). -/
import Derived.Test.YtalpippeelomjaaZ32
import Derived.Test.YtalpippeelomjaaZ19
namespace Go.Proofs.Ytalpippeelomjaa
open Go.RowKit Go.Shelf
set_option linter.unusedSimpArgs false
set_option linter.unusedVariables false
theorem Reel.w {w : World} {gr gs gen ser first secs size count : Nat} {pv : Value} {ps : List PV} (h : Reel w gr gs gen ser first secs pv ps size count) : ReelW w gr gs gen ser first secs pv ps size count (.slice none 0 0) 0 :=
  ⟨h.st, h.pages, h.long, [], World.ownsRow_nil _ _ _ _⟩
section
variable {w : World} {gr gs gen ser first secs size count k : Nat} {pv rv : Value} {ps : List PV}
theorem count_any (h : ReelW w gr gs gen ser first secs pv ps size count rv k) : Calls Try.prog 23 #[.pointer (some ⟨gr, 0, none⟩)] w fun e w' => e = .returned (.int .i64 (count : Int)) ∧ w = w' := by
  have c0 : w.cell? ⟨gr, 7, none⟩ = some (.int .i64 (count : Int)) := by unfold World.cell?; rw [h.st]; rfl
  clear h
  go_enter Try.func23, Try.ntmps23
  go_wp2
  go_ret
  exact ⟨rfl, rfl⟩
theorem serial_any (h : ReelW w gr gs gen ser first secs pv ps size count rv k) : Calls Try.prog 34 #[.pointer (some ⟨gr, 0, none⟩)] w fun e w' => e = .returned (.int .u32 (ser : Int)) ∧ w = w' := by
  have c0 : w.cell? ⟨gr, 2, none⟩ = some (.int .u32 (ser : Int)) := by unfold World.cell?; rw [h.st]; rfl
  clear h
  go_enter Try.func34, Try.ntmps34
  go_wp2
  go_ret
  exact ⟨rfl, rfl⟩
theorem size_any (h : ReelW w gr gs gen ser first secs pv ps size count rv k) : Calls Try.prog 24 #[.pointer (some ⟨gr, 0, none⟩)] w fun e w' => e = .returned (.int .i64 (size : Int)) ∧ w = w' := by
  have c0 : w.cell? ⟨gr, 6, none⟩ = some (.int .i64 (size : Int)) := by unfold World.cell?; rw [h.st]; rfl
  clear h
  go_enter Try.func24, Try.ntmps24
  go_wp2
  go_ret
  exact ⟨rfl, rfl⟩
theorem room_any (h : ReelW w gr gs gen ser first secs pv ps size count rv k) (h1 : secs ≤ 4096) (h2 : size ≤ secs * 487) : Calls Try.prog 18 #[.pointer (some ⟨gr, 0, none⟩)] w fun e w' => e = .returned (.int .i64 ((secs * 487 - size : Nat) : Int)) ∧ Below w.heap.size w w' := by
  have c0 : w.cell? ⟨gr, 6, none⟩ = some (.int .i64 (size : Int)) := by unfold World.cell?; rw [h.st]; rfl
  have c1 : w.cell? ⟨gr, 4, none⟩ = some (.int .i64 (secs : Int)) := by unfold World.cell?; rw [h.st]; rfl
  have e1 : IntKind.i64.wrap ((secs : Int) * 487) = (secs : Int) * 487 := IntWalk.i64_in _ (by omega)
  have e2 : IntKind.i64.wrap ((secs : Int) * 487 - (size : Int)) = ((secs * 487 - size : Nat) : Int) := by rw [IntWalk.i64_in _ (by omega)]; omega
  clear h
  go_enter Try.func18, Try.ntmps18
  go_wp2
  try go_quiet (fail)
  try go_wp2
  go_ret
  refine ⟨?_, ?_⟩
  · first | rfl | (simp; omega)
  · repeat (with_reducible (first | exact Below.refl _ _ | assumption | refine ride_alloc ?_ _ | refine ride_drew ?_ | refine below_drewN ?_ _))
theorem mend_any (h : ReelW w gr gs gen ser first secs pv ps size count (.slice none 0 0) 0) : Calls Try.prog 50 #[.pointer (some ⟨gr, 0, none⟩)] w fun e w' => e = .returned (.int .i64 0) ∧ w = w' := by
  have c0 : w.cell? ⟨gr, 8, none⟩ = some (.slice none 0 0) := by unfold World.cell?; rw [h.st]; rfl
  clear h
  go_enter Try.func50, Try.ntmps50
  go_wp2
  go_ret
  exact ⟨rfl, rfl⟩
set_option maxRecDepth 100000 in
theorem rsync_any (h : ReelW w gr gs gen ser first secs pv ps size count rv k) {b : DB} {dur : List (List Nat)} {pend : List (Nat × List Nat)} {nw bud : Int} (hD : Disk w gs b dur pend nw bud) (hb : bud ≠ 0) (hb2 : -9223372036854775808 ≤ bud ∧ bud ≤ 9223372036854775807) :
    Calls Try.prog 13 #[.pointer (some ⟨gr, 0, none⟩)] w fun e w' => e = .returned (.int .i64 0) ∧ Disk w' gs ⟨b.gd, b.cd, b.gl, b.cl, .slice none 0 0⟩ (applied pend dur) [] nw (less bud) ∧
      OnlyAt w w' (fun k => k = gs ∨ k = b.gd ∨ k = b.gl) := by
  have c0 : w.cell? ⟨gr, 0, none⟩ = some (.pointer (some ⟨gs, 0, none⟩)) := by unfold World.cell?; rw [h.st]; rfl
  have HS := hide (sync_good hD hb hb2)
  clear h hD
  go_enter Try.func13, Try.ntmps13
  go_wp2_with (go_at_call 33; (with_reducible refine (unhide HS).mono ?_); rintro e w2 ⟨rfl, hD2, hO2⟩)
  go_ret
  exact ⟨rfl, hD2, hO2⟩
end
end Go.Proofs.Ytalpippeelomjaa
namespace Go.Proofs.Ytalpippeelomjaa
open Go.RowKit Go.Shelf
set_option linter.unusedSimpArgs false
set_option linter.unusedVariables false
/-- The first of a row that is owned. -/
theorem own_cut {w : World} {base n size c : Nat} {t : TypeId} {A : Option Addr} {xs : List Value} (h : w.ownsRow base t size (.slice A n c) n xs) {f : Nat} (hf : f ≤ n) : w.ownsRow base t size (.slice A f c) f (xs.take (f * size)) := by
  obtain ⟨hl, h2⟩ := h
  have hfm : f * size ≤ n * size := Nat.mul_le_mul_right _ hf
  refine ⟨by rw [List.length_take]; omega, ?_⟩
  rcases h2 with ⟨hv, hn⟩ | ⟨g, cap, cur, hv, hb, hg, hc, hm, hs, ht⟩
  · injection hv with h1 h2 h3
    subst h1 h2 h3
    exact .inl ⟨by rw [show f = 0 by omega], by omega⟩
  · injection hv with h1 h2 h3
    subst h1 h3
    refine .inr ⟨g, c, cur, rfl, hb, hg, by omega, hm, hs, ?_⟩
    rw [← ht, List.take_take, Nat.min_eq_left hfm]
theorem pcells_take : ∀ (ps : List PV) (f : Nat), (pcells ps).take (f * 5) = pcells (ps.take f)
  | [], f => by simp [pcells]
  | p :: ps, 0 => by simp [pcells]
  | p :: ps, f + 1 => by
    have h := pcells_take ps f
    unfold pcells at h ⊢
    rw [List.map_cons, List.flatten_cons, List.take_succ_cons, List.map_cons, List.flatten_cons, ← h]
    rw [show (f + 1) * 5 = (pcell p).length + f * 5 by show _ = 5 + _; omega, List.take_length_add_append]
theorem Pages.cut {w : World} {base c n f : Nat} {A : Option Addr} {ps : List PV} (h : Pages w base (.slice A n c) ps) (hn : n = ps.length) (hf : f ≤ n) : Pages w base (.slice A f c) (ps.take f) := by
  subst hn
  refine ⟨?_, fun p hp => h.ok p (List.mem_of_mem_take hp)⟩
  have h2 := own_cut h.own hf
  rw [pcells_take] at h2
  have e : (ps.take f).length = f := by rw [List.length_take]; omega
  rw [e]
  exact h2
set_option maxRecDepth 100000 in
/-- Behind the append of the pages. -/
theorem append_end {wr w2 : World} {gr gs gen ser first secs size count k size' count' f n5 cp g2 k2 : Nat} {Ap : Option Addr} {rv v5 : Value} {ps ps5 : List PV} (hR : ReelW wr gr gs gen ser first secs (.slice Ap ps.length cp) ps size count rv k) {b : DB} {dur : List (List Nat)} {pend : List (Nat × List Nat)} {nw bud : Int} (hD : Disk wr gs b dur pend nw bud) (hP : Pages wr 0 v5 ps5) (hf : f ≤ ps.length) (h4 : ∀ p ∈ ps5, 4 ≤ p.data.length) (hn5 : n5 = ps5.length)
    (ho : (wr.setCell ⟨gr, 8, none⟩ (.slice none 0 0)).ownsRow 0 85 5 (.slice Ap f cp) f (pcells (ps.take f)))
    (hg : (wr.setCell ⟨gr, 8, none⟩ (.slice none 0 0)).grownBy w2 (Value.slice Ap f cp).ownBlock) (ho2 : w2.ownsRow 0 85 5 (.slice (some ⟨g2, 0, none⟩) (f + n5) k2) (f + n5) (pcells (ps.take f) ++ pcells ps5)) (a5 a6 a7 : Value) (e5 : a5 = .slice (some ⟨g2, 0, none⟩) (f + n5) k2) (e6 : a6 = .int .i64 (size' : Int)) (e7 : a7 = .int .i64 (count' : Int)) :
    Disk (((w2.setCell ⟨gr, 5, none⟩ a5).setCell ⟨gr, 6, none⟩ a6).setCell ⟨gr, 7, none⟩ a7) gs b dur pend nw bud ∧
    Reel (((w2.setCell ⟨gr, 5, none⟩ a5).setCell ⟨gr, 6, none⟩ a6).setCell ⟨gr, 7, none⟩ a7) gr gs gen ser first secs (.slice (some ⟨g2, 0, none⟩) (f + n5) k2) (ps.take f ++ ps5) size' count' ∧
    OnlyAt wr (((w2.setCell ⟨gr, 5, none⟩ a5).setCell ⟨gr, 6, none⟩ a6).setCell ⟨gr, 7, none⟩ a7) (fun j => j = gr ∨ some j = (Value.slice Ap ps.length cp).ownBlock) := by
  subst e5 e6 e7
  have hst1 : (wr.setCell ⟨gr, 8, none⟩ (.slice none 0 0)).heap[gr]? = some (.cells (rcells gs gen ser first secs (.slice Ap ps.length cp) size count (.slice none 0 0)) 84 (0, 0)) := by rw [heap_setCell_same wr gr 8 _ _ _ hR.st]; rfl
  have hst2 := keep_ty hg ho hst1 (by decide)
  have hgr : ∀ (j : Nat) (cs : Array Value) (t : TypeId), wr.heap[j]? = some (.cells cs t (0, 0)) → t ≠ 84 → j ≠ gr := fun j cs t hj ht e => by
    rw [e, hR.st] at hj
    injection hj with hj
    injection hj with _ hj _
    exact ht hj.symm
  have hz : ∀ (j : Nat), j ≠ gr → (((w2.setCell ⟨gr, 5, none⟩ (.slice (some ⟨g2, 0, none⟩) (f + n5) k2)).setCell ⟨gr, 6, none⟩ (.int .i64 (size' : Int))).setCell ⟨gr, 7, none⟩ (.int .i64 (count' : Int))).heap[j]? = w2.heap[j]? := fun j hj => by
    rw [heap_setCell_other _ ⟨gr, 7, none⟩ j _ hj, heap_setCell_other _ ⟨gr, 6, none⟩ j _ hj, heap_setCell_other _ ⟨gr, 5, none⟩ j _ hj]
  have h6 : ∀ (j : Nat) (cs : Array Value) (t : TypeId), wr.heap[j]? = some (.cells cs t (0, 0)) → t ≠ 85 → t ≠ 84 → (((w2.setCell ⟨gr, 5, none⟩ (.slice (some ⟨g2, 0, none⟩) (f + n5) k2)).setCell ⟨gr, 6, none⟩ (.int .i64 (size' : Int))).setCell ⟨gr, 7, none⟩ (.int .i64 (count' : Int))).heap[j]? = some (.cells cs t (0, 0)) := fun j cs t hj ht ht2 => by
    have e1 := hgr j cs t hj ht2
    rw [hz j e1]
    refine keep_ty hg ho ?_ ht
    rw [heap_setCell_other _ ⟨gr, 8, none⟩ j _ e1]
    exact hj
  have hpok : ∀ p, POk wr p → POk (((w2.setCell ⟨gr, 5, none⟩ (.slice (some ⟨g2, 0, none⟩) (f + n5) k2)).setCell ⟨gr, 6, none⟩ (.int .i64 (size' : Int))).setCell ⟨gr, 7, none⟩ (.int .i64 (count' : Int))) p := fun p hp =>
    ⟨⟨own_kty hp.mine.own (fun j cs hj => h6 j cs _ hj (by decide) (by decide)), hp.mine.len, hp.mine.small⟩, hp.gen, hp.ser, hp.num, hp.kind, hp.few⟩
  have hg2 : g2 ≠ gr := fun e => by
    obtain ⟨cs, hcs⟩ := row_heap ho2 (k := g2) rfl
    rw [e, hst2] at hcs
    injection hcs with hcs
    injection hcs with _ hcs _
    revert hcs
    decide
  have htl : (ps.take f).length = f := by rw [List.length_take]; omega
  refine ⟨hD.kty fun j cs t hj ht => h6 j cs t hj ?_ ?_, ⟨?_, ⟨?_, fun p hp => ?_⟩, fun p hp => ?_⟩, ⟨?_, ?_, ?_, ?_, fun j hj hp => ?_⟩⟩
  · rcases ht with rfl | rfl | rfl | rfl <;> decide
  · rcases ht with rfl | rfl | rfl | rfl <;> decide
  · rw [heap_setCell_same _ gr 7 _ _ _ (heap_setCell_same _ gr 6 _ _ _ (heap_setCell_same _ gr 5 _ _ _ hst2))]
    rfl
  · rw [List.length_append, htl, ← hn5, pcells_append]
    refine ownsRow_keep ho2 fun j e => hz j (fun e2 => ?_)
    injection e with e
    exact hg2 (e.trans e2)
  · rcases List.mem_append.1 hp with h | h
    · exact hpok p (hR.pages.ok p (List.mem_of_mem_take h))
    · exact hpok p (hP.ok p h)
  · rcases List.mem_append.1 hp with h | h
    · exact hR.long p (List.mem_of_mem_take h)
    · exact h4 p h
  · exact hg.os
  · exact hg.tape
  · exact hg.output
  · have := hg.size; simp [World.setCell] at this ⊢; omega
  · have hj1 : j ≠ gr := fun e => hp (.inl e)
    rw [hz j hj1, hg.block j (by simp [World.setCell]; omega) (fun e => hp (.inr (e.trans (by cases Ap <;> rfl)))), heap_setCell_other _ ⟨gr, 8, none⟩ j _ hj1]
end Go.Proofs.Ytalpippeelomjaa
