/- LHas, LWrite: joined by program (tools/merge.py). -/
import Derived.Test.YtalpippeelomjaaZ31
import Derived.Test.YtalpippeelomjaaZ22
import Derived.Test.YtalpippeelomjaaZ17
import Derived.Test.YtalpippeelomjaaZ12
import Derived.Test.YtalpippeelomjaaZ21
namespace Go.Proofs.Ytalpippeelomjaa
open Go.RowKit Go.Shelf
set_option linter.unusedSimpArgs false
set_option linter.unusedVariables false
set_option maxRecDepth 100000 in
set_option maxHeartbeats 4000000 in
theorem has_any {w : World} {gr gs gen ser first secs size count : Nat} {pv rv : Value} {ps : List PV} (hst : w.heap[gr]? = some (.cells (rcells gs gen ser first secs pv size count rv) 84 (0, 0))) (hP : Pages w 0 pv ps) (hl : ps.length ≤ 1048576) (x0 x1 x2 x3 : Nat) (hx2 : x2 < 4294967296) (A : Option Addr) (n c : Nat) (d : List Nat) (hp : Bytes w w.heap.size (.slice A n c) d) :
    Calls Try.prog 52 #[.pointer (some ⟨gr, 0, none⟩), .agg #[.int .u32 (x0 : Int), .int .u32 (x1 : Int), .int .u32 (x2 : Int), .int .u8 (x3 : Int), .slice A n c]] w fun e w' =>
      ∃ b : Bool, e = .returned (.bool b) ∧ (b = true ↔ (pgs ps)[x2]? = some ⟨x0, x1, x2, x3, d⟩) ∧ Below w.heap.size w w' := by
  obtain ⟨Ap, cp, rfl⟩ := hP.form
  obtain ⟨np, hnp⟩ : ∃ np, np = ps.length := ⟨_, rfl⟩
  rw [← hnp] at hl
  have hgl := lt_of_heap hst
  have c5 : w.cell? ⟨gr, 5, none⟩ = some (.slice Ap np cp) := by rw [hnp]; unfold World.cell?; rw [hst]; rfl
  have HNP := Lib.hid hnp
  have HP := Lib.hid hP
  have HST := Lib.hid hst
  have HB := Lib.hid hp
  clear hnp hP hst hp
  have hw0 : IntKind.i64.wrap (x2 : Int) = (x2 : Int) := IntWalk.i64_in _ (by omega)
  go_enter Try.func52, Try.ntmps52
  by_cases hx : x2 < np
  · have hxI : (x2 : Int) < (np : Int) := by omega
    have hx0 : (0 : Int) ≤ (x2 : Int) := by omega
    obtain ⟨p, hp⟩ : ∃ p, ps[x2]? = some p := ⟨_, List.getElem?_eq_getElem (by rw [← HNP.out]; exact hx)⟩
    obtain ⟨gp, cp', hv, d0, d1, d2, d3, d4⟩ := HP.out.at_ hp
    rw [← HNP.out] at hv
    injection hv with hv1 _ hv3
    subst hv1
    subst hv3
    have hok := (HP.out.ok p (List.mem_of_getElem? hp))
    have hpg : (pgs ps)[x2]? = some p.pg := by unfold pgs; rw [List.getElem?_map, hp]; rfl
    obtain ⟨pg, pser, pnum, pk, PA, pm, pc, dat⟩ := p
    dsimp only at hok d0 d1 d2 d3 d4
    have hgpl : gp < w.heap.size := World.block_lt_of_cell? w _ d4
    obtain ⟨W, hW⟩ : ∃ W, W = w.alloc (.cells #[.int .u32 (x0 : Int), .int .u32 (x1 : Int), .int .u32 (x2 : Int), .int .u8 (x3 : Int), .slice A n c] 85) := ⟨_, rfl⟩
    have hWb : Below w.heap.size w W := by rw [hW]; exact (Below.refl _ _).alloc (Nat.le_refl _) _
    have hW0 : W.heap[w.heap.size]? = some (.cells #[.int .u32 (x0 : Int), .int .u32 (x1 : Int), .int .u32 (x2 : Int), .int .u8 (x3 : Int), .slice A n c] 85 (0, 0)) := by rw [hW]; exact Go.heap_alloc_new w _
    have HC : Hid (∀ x, Below W.heap.size W x → Below W.heap.size W x ∧ x.cell? ⟨gr, 5, none⟩ = some (.slice (some ⟨gp, 0, none⟩) np cp) ∧
        x.cell? ⟨w.heap.size, 0, none⟩ = some (.int .u32 (x0 : Int)) ∧ x.cell? ⟨w.heap.size, 1, none⟩ = some (.int .u32 (x1 : Int)) ∧ x.cell? ⟨w.heap.size, 2, none⟩ = some (.int .u32 (x2 : Int)) ∧ x.cell? ⟨w.heap.size, 3, none⟩ = some (.int .u8 (x3 : Int)) ∧ x.cell? ⟨w.heap.size, 4, none⟩ = some (.slice A n c) ∧
        x.cell? ⟨gp, x2 * 5, none⟩ = some (.int .u32 (pg : Int)) ∧ x.cell? ⟨gp, x2 * 5 + 1, none⟩ = some (.int .u32 (pser : Int)) ∧ x.cell? ⟨gp, x2 * 5 + 2, none⟩ = some (.int .u32 (pnum : Int)) ∧ x.cell? ⟨gp, x2 * 5 + 3, none⟩ = some (.int .u8 (pk : Int)) ∧ x.cell? ⟨gp, x2 * 5 + 4, none⟩ = some (.slice PA pm pc)) := Lib.hid fun x hx => by
      have e := hWb.trans (hx.mono hWb.size)
      have e1 := (hx.block _ (lt_of_heap hW0)).trans hW0
      obtain ⟨y0, y1, y2, y3, y4, _⟩ := fives e1
      exact ⟨hx, (e.cell (p := ⟨gr, 5, none⟩) hgl).trans c5, y0, y1, y2, y3, y4, (e.cell (p := ⟨gp, x2 * 5, none⟩) hgpl).trans d0, (e.cell (p := ⟨gp, x2 * 5 + 1, none⟩) hgpl).trans d1, (e.cell (p := ⟨gp, x2 * 5 + 2, none⟩) hgpl).trans d2, (e.cell (p := ⟨gp, x2 * 5 + 3, none⟩) hgpl).trans d3, (e.cell (p := ⟨gp, x2 * 5 + 4, none⟩) hgpl).trans d4⟩
    have HSA : Hid (∀ x, Below W.heap.size W x → Calls Try.prog 79 #[.agg #[.int .u32 (x0 : Int), .int .u32 (x1 : Int), .int .u32 (x2 : Int), .int .u8 (x3 : Int), .slice A n c], .agg #[.int .u32 (pg : Int), .int .u32 (pser : Int), .int .u32 (pnum : Int), .int .u8 (pk : Int), .slice PA pm pc]] x fun e w' =>
        e = .returned (.bool (decide (x0 = pg ∧ x1 = pser ∧ x2 = pnum ∧ x3 = pk ∧ d = dat))) ∧ Below x.heap.size x w') := Lib.hid fun x hx => by
      have e := hWb.trans (hx.mono hWb.size)
      exact same_page x x0 x1 x2 x3 pg pser pnum pk A PA n pm c pc d dat (HB.out.along e) (hok.mine.bytes.along e)
    obtain ⟨r, hr⟩ : ∃ r, r = decide (x0 = pg ∧ x1 = pser ∧ x2 = pnum ∧ x3 = pk ∧ d = dat) := ⟨_, rfl⟩
    rw [← hr] at HSA
    have HR := Lib.hid hr
    have HPG := Lib.hid hpg
    have HWB := Lib.hid hWb
    have HWE := Lib.hid hW
    clear hr hp d0 d1 d2 d3 d4 hok hpg hWb hW hW0 c5
    go_wp2
    rw [← HWE.out]
    go_region_held3 (fun x => Below W.heap.size W x ∧ x.cell? ⟨gr, 5, none⟩ = some (.slice (some ⟨gp, 0, none⟩) np cp) ∧
        x.cell? ⟨w.heap.size, 0, none⟩ = some (.int .u32 (x0 : Int)) ∧ x.cell? ⟨w.heap.size, 1, none⟩ = some (.int .u32 (x1 : Int)) ∧ x.cell? ⟨w.heap.size, 2, none⟩ = some (.int .u32 (x2 : Int)) ∧ x.cell? ⟨w.heap.size, 3, none⟩ = some (.int .u8 (x3 : Int)) ∧ x.cell? ⟨w.heap.size, 4, none⟩ = some (.slice A n c) ∧
        x.cell? ⟨gp, x2 * 5, none⟩ = some (.int .u32 (pg : Int)) ∧ x.cell? ⟨gp, x2 * 5 + 1, none⟩ = some (.int .u32 (pser : Int)) ∧ x.cell? ⟨gp, x2 * 5 + 2, none⟩ = some (.int .u32 (pnum : Int)) ∧ x.cell? ⟨gp, x2 * 5 + 3, none⟩ = some (.int .u8 (pk : Int)) ∧ x.cell? ⟨gp, x2 * 5 + 4, none⟩ = some (.slice PA pm pc))
      ((refine HC.out _ ?_; repeat (with_reducible (first | exact Below.refl _ _ | assumption | refine ride_alloc ?_ _ | refine ride_drew ?_ | refine below_drewN ?_ _ | refine ride_call (by assumption) ?_))))
      ((go_at_call 79; (with_reducible refine (HSA.out _ (by repeat (with_reducible (first | exact Below.refl _ _ | assumption | refine ride_alloc ?_ _ | refine ride_drew ?_ | refine below_drewN ?_ _ | refine ride_call (by assumption) ?_)))).mono ?_); rintro e w2 ⟨rfl, hb2⟩))
    have hz : Below W.heap.size W w2 := (by repeat (with_reducible (first | exact Below.refl _ _ | assumption | refine ride_alloc ?_ _ | refine ride_drew ?_ | refine below_drewN ?_ _ | refine ride_call (by assumption) ?_)))
    have HZ := Lib.hid hz
    clear hz hb2
    go_wp2
    go_ret
    refine ⟨r, rfl, ?_, HWB.out.trans (HZ.out.mono HWB.out.size)⟩
    rw [HR.out, decide_eq_true_iff, HPG.out]
    constructor
    · rintro ⟨rfl, rfl, rfl, rfl, rfl⟩
      rfl
    · intro e
      injection e with e
      unfold PV.pg at e
      injection e with e0 e1 e2 e3 e4
      exact ⟨e0.symm, e1.symm, e2.symm, e3.symm, e4.symm⟩
  · have hxI : ¬ (x2 : Int) < (np : Int) := by omega
    have hxd : decide ((x2 : Int) < (np : Int)) = false := decide_eq_false hxI
    go_wp2
    go_quiet (fail)
    go_wp2
    go_ret
    refine ⟨false, rfl, ?_, ?_⟩
    · rw [List.getElem?_eq_none (by rw [pgs_length, ← HNP.out]; omega)]
      exact ⟨fun e => (by cases e), fun e => (by cases e)⟩
    · repeat (with_reducible (first | exact Below.refl _ _ | assumption | refine ride_alloc ?_ _ | refine ride_drew ?_ | refine below_drewN ?_ _))
end Go.Proofs.Ytalpippeelomjaa
namespace Go.Proofs.Ytalpippeelomjaa
open Go.RowKit Go.Shelf
set_option linter.unusedSimpArgs false
set_option linter.unusedVariables false
/-- A Reel as it lies, with k sectors replaced. -/
structure ReelW (w : World) (gr gs gen ser first secs : Nat) (pv : Value) (ps : List PV) (size count : Nat) (rv : Value) (k : Nat) : Prop where
  st : w.heap[gr]? = some (.cells (rcells gs gen ser first secs pv size count rv) 84 (0, 0))
  pages : Pages w 0 pv ps
  long : ∀ p ∈ ps, 4 ≤ p.data.length
  rep : ∃ xs, w.ownsRow 0 125 2 rv k xs
theorem own_kty {w w' : World} {base n size : Nat} {t : TypeId} {v : Value} {xs : List Value} (h : w.ownsRow base t size v n xs) (hk : ∀ (j : Nat) (cs : Array Value), w.heap[j]? = some (.cells cs t (0, 0)) → w'.heap[j]? = some (.cells cs t (0, 0))) : w'.ownsRow base t size v n xs :=
  ownsRow_keep h fun j e => by
    obtain ⟨cs, hcs⟩ := row_heap h e
    rw [hk j cs hcs, hcs]
theorem Pages.kty {w w' : World} {base : Nat} {v : Value} {ps : List PV} (h : Pages w base v ps) (hk : ∀ (j : Nat) (cs : Array Value) (t : TypeId), w.heap[j]? = some (.cells cs t (0, 0)) → (t = 85 ∨ t = 5) → w'.heap[j]? = some (.cells cs t (0, 0))) : Pages w' base v ps :=
  ⟨own_kty h.own (fun j cs hj => hk j cs _ hj (.inl rfl)), fun p hp => ⟨⟨own_kty (h.ok p hp).mine.own (fun j cs hj => hk j cs _ hj (.inr rfl)), (h.ok p hp).mine.len, (h.ok p hp).mine.small⟩, (h.ok p hp).gen, (h.ok p hp).ser, (h.ok p hp).num, (h.ok p hp).kind, (h.ok p hp).few⟩⟩
theorem Disk.kty {w w' : World} {gs : Nat} {b : DB} {dur : List (List Nat)} {pend : List (Nat × List Nat)} {nw bud : Int} (h : Disk w gs b dur pend nw bud) (hk : ∀ (j : Nat) (cs : Array Value) (t : TypeId), w.heap[j]? = some (.cells cs t (0, 0)) → (t = 95 ∨ t = 92 ∨ t = 97 ∨ t = 3) → w'.heap[j]? = some (.cells cs t (0, 0))) : Disk w' gs b dur pend nw bud :=
  ⟨hk _ _ _ h.st (.inl rfl), own_kty h.du (fun j cs hj => hk j cs _ hj (.inr (.inl rfl))), own_kty h.pe (fun j cs hj => hk j cs _ hj (.inr (.inr (.inl rfl)))), own_kty h.la (fun j cs hj => hk j cs _ hj (.inr (.inr (.inr rfl)))), h.sec, h.wri, h.few, h.many⟩
theorem ReelW.kty {w w' : World} {gr gs gen ser first secs size count k : Nat} {pv rv : Value} {ps : List PV} (h : ReelW w gr gs gen ser first secs pv ps size count rv k) (hk : ∀ (j : Nat) (cs : Array Value) (t : TypeId), w.heap[j]? = some (.cells cs t (0, 0)) → (t = 84 ∨ t = 125 ∨ t = 85 ∨ t = 5) → w'.heap[j]? = some (.cells cs t (0, 0))) : ReelW w' gr gs gen ser first secs pv ps size count rv k :=
  ⟨hk _ _ _ h.st (.inl rfl), h.pages.kty (fun j cs t hj ht => hk j cs t hj (.inr (.inr ht))), h.long, h.rep.elim fun xs hx => ⟨xs, own_kty hx (fun j cs hj => hk j cs _ hj (.inr (.inl rfl)))⟩⟩
theorem ReelW.below {w w' : World} {gr gs gen ser first secs size count k : Nat} {pv rv : Value} {ps : List PV} (h : ReelW w gr gs gen ser first secs pv ps size count rv k) (hb : Below w.heap.size w w') : ReelW w' gr gs gen ser first secs pv ps size count rv k :=
  h.kty fun j cs t hj _ => (hb.block j (lt_of_heap hj)).trans hj
/-- A write to the disk leaves the Reel as it lies. -/
theorem ReelW.disk {w w' : World} {gr gs gen ser first secs size count k : Nat} {pv rv : Value} {ps : List PV} (h : ReelW w gr gs gen ser first secs pv ps size count rv k) {b : DB} {dur : List (List Nat)} {pend : List (Nat × List Nat)} {nw bud : Int} (hD : Disk w gs b dur pend nw bud)
    (hO : OnlyAt w w' (fun j => j = gs ∨ j = b.gl ∨ some j = b.pv.ownBlock)) : ReelW w' gr gs gen ser first secs pv ps size count rv k :=
  h.kty fun j cs t hj ht => by
    refine (hO.block j (lt_of_heap hj) ?_).trans hj
    have hne : ∀ (t' : TypeId) (cs' : Array Value), w.heap[j]? = some (.cells cs' t' (0, 0)) → t = t' := fun t' cs' h' => by
      rw [hj] at h'
      injection h' with h'
      injection h' with _ h' _
    rintro (e | e | e)
    · have := hne _ _ (e ▸ hD.st)
      rcases ht with rfl | rfl | rfl | rfl <;> revert this <;> decide
    · obtain ⟨cs', h'⟩ := row_heap hD.la (k := j) (by rw [e]; rfl)
      have := hne _ _ h'
      rcases ht with rfl | rfl | rfl | rfl <;> revert this <;> decide
    · obtain ⟨cs', h'⟩ := row_heap hD.pe e.symm
      have := hne _ _ h'
      rcases ht with rfl | rfl | rfl | rfl <;> revert this <;> decide
theorem row_slice2 {w : World} {base n size : Nat} {t : TypeId} {v : Value} {xs : List Value} (h : w.ownsRow base t size v n xs) : ∃ A c, v = .slice A n c := by
  rcases h.2 with ⟨rfl, hn⟩ | ⟨g, cap, cur, rfl, _⟩
  · exact ⟨none, 0, by rw [hn]⟩
  · exact ⟨_, _, rfl⟩
theorem infoSct : (Try.prog.info? 125).map (fun i => (i.zero, i.size, i.bytes)) = some (some (.agg #[.int .i64 0, .slice none 0 0]), 2, 32) := by kernel_rfl
/-- Behind the append of one that is replaced. -/
theorem write_end {w4 wx w5 : World} {gr gs gen ser first secs size count k : Nat} {pv rv rv2 : Value} {ps : List PV} {xs ys : List Value} (h : ReelW w4 gr gs gen ser first secs pv ps size count rv k) {b : DB} {dur : List (List Nat)} {pend : List (Nat × List Nat)} {nw bud : Int} (hD : Disk w4 gs b dur pend nw bud)
    (hb : Below w4.heap.size w4 wx) (ho : wx.ownsRow 0 125 2 rv k xs) (hg : wx.grownBy w5 rv.ownBlock) (ho5 : w5.ownsRow 0 125 2 rv2 (k + 1) ys) :
    Disk (w5.setCell ⟨gr, 8, none⟩ rv2) gs b dur pend nw bud ∧ ReelW (w5.setCell ⟨gr, 8, none⟩ rv2) gr gs gen ser first secs pv ps size count rv2 (k + 1) ∧ OnlyAt w4 (w5.setCell ⟨gr, 8, none⟩ rv2) (fun j => j = gr ∨ some j = rv.ownBlock) := by
  have h5 : ∀ (j : Nat) (cs : Array Value) (t : TypeId), w4.heap[j]? = some (.cells cs t (0, 0)) → t ≠ 125 → w5.heap[j]? = some (.cells cs t (0, 0)) := fun j cs t hj ht => keep_ty hg ho ((hb.block j (lt_of_heap hj)).trans hj) ht
  have hst := h5 _ _ _ h.st (by decide)
  have h6 : ∀ (j : Nat) (cs : Array Value) (t : TypeId), w4.heap[j]? = some (.cells cs t (0, 0)) → t ≠ 125 → t ≠ 84 → (w5.setCell ⟨gr, 8, none⟩ rv2).heap[j]? = some (.cells cs t (0, 0)) := fun j cs t hj ht ht2 => by
    rw [heap_setCell_other w5 ⟨gr, 8, none⟩ j rv2 (fun e => ?_)]
    · exact h5 j cs t hj ht
    · have e' : j = gr := e
      rw [e', h.st] at hj
      injection hj with hj
      injection hj with _ hj _
      exact ht2 hj.symm
  refine ⟨hD.kty fun j cs t hj ht => h6 j cs t hj ?_ ?_, ⟨?_, h.pages.kty fun j cs t hj ht => h6 j cs t hj ?_ ?_, h.long, ys, ?_⟩, ⟨?_, ?_, ?_, ?_, fun j hj hp => ?_⟩⟩
  · rcases ht with rfl | rfl | rfl | rfl <;> decide
  · rcases ht with rfl | rfl | rfl | rfl <;> decide
  · rw [heap_setCell_same w5 gr 8 _ _ _ hst]; rfl
  · rcases ht with rfl | rfl <;> decide
  · rcases ht with rfl | rfl <;> decide
  · refine ownsRow_keep ho5 fun j e => heap_setCell_other w5 ⟨gr, 8, none⟩ j rv2 (fun e2 => ?_)
    obtain ⟨cs, hcs⟩ := row_heap ho5 e
    have e' : j = gr := e2
    rw [e', hst] at hcs
    injection hcs with hcs
    injection hcs with _ hcs _
    revert hcs
    decide
  · exact hg.os.trans hb.os
  · exact hg.tape.trans hb.tape
  · exact hg.output.trans hb.output
  · have := hb.size; have := hg.size; simp [World.setCell]; omega
  · rw [heap_setCell_other w5 ⟨gr, 8, none⟩ j rv2 (fun e => hp (.inl e)), hg.block j (Nat.lt_of_lt_of_le hj hb.size) (fun e => hp (.inr e)), hb.block j hj]
set_option maxRecDepth 100000 in
set_option maxHeartbeats 8000000 in
theorem write_any {w : World} {gr gs gen ser first secs size count k : Nat} {pv rv : Value} {ps : List PV} (hR : ReelW w gr gs gen ser first secs pv ps size count rv k) (hk : k ≤ 1000000)
    {b : DB} {dur : List (List Nat)} {pend : List (Nat × List Nat)} {nw bud : Int} (hD : Disk w gs b dur pend nw bud) (hb : bud ≠ 0) (hb2 : -9223372036854775808 ≤ bud ∧ bud ≤ 9223372036854775807) (hwr : 0 ≤ nw ∧ nw ≤ 1048576) (hmany : pend.length < 1048576)
    (x0 x1 x2 x3 : Nat) (h0 : x0 < 4294967296) (h1 : x1 < 4294967296) (h2 : x2 < 4294967296) (h3 : 0 < x3 ∧ x3 < 256) (A : Option Addr) (n c : Nat) (d : List Nat) (hp : Bytes w w.heap.size (.slice A n c) d) (hn : n ≤ 491) (hi : first + x2 < dur.length) :
    Calls Try.prog 53 #[.pointer (some ⟨gr, 0, none⟩), .agg #[.int .u32 (x0 : Int), .int .u32 (x1 : Int), .int .u32 (x2 : Int), .int .u8 (x3 : Int), .slice A n c]] w fun e w' => e = .returned (.int .i64 0) ∧
      ∃ b2 rv2, Disk w' gs b2 dur (pend ++ [(first + x2, Go.Proofs.Ytalpippeelomjaa.page x0 x1 x2 x3 d)]) (nw + 1) (less bud) ∧ ReelW w' gr gs gen ser first secs pv ps size count rv2 (k + 1) ∧
        OnlyAt w w' (fun j => j = gs ∨ j = gr ∨ j = b.gl ∨ some j = b.pv.ownBlock ∨ some j = rv.ownBlock) ∧ b2.gd = b.gd ∧ b2.cd = b.cd ∧ b2.gl = b.gl ∧ (b2.pv.ownBlock = b.pv.ownBlock ∨ ∃ g, b2.pv.ownBlock = some g ∧ w.heap.size ≤ g) ∧ (rv2.ownBlock = rv.ownBlock ∨ ∃ g, rv2.ownBlock = some g ∧ w.heap.size ≤ g) := by
  obtain ⟨rA, rc0, rfl⟩ : ∃ A c, rv = .slice A k c := hR.rep.elim fun xs hx => row_slice2 hx
  have hgl := lt_of_heap hR.st
  have hdl := hD.few.2
  have c0 : w.cell? ⟨gr, 0, none⟩ = some (.pointer (some ⟨gs, 0, none⟩)) := by unfold World.cell?; rw [hR.st]; rfl
  have c3 : w.cell? ⟨gr, 3, none⟩ = some (.int .i64 (first : Int)) := by unfold World.cell?; rw [hR.st]; rfl
  have c8 : w.cell? ⟨gr, 8, none⟩ = some (.slice rA k rc0) := by unfold World.cell?; rw [hR.st]; rfl
  have HD := Lib.hid hD
  have HR := Lib.hid hR
  have HB := Lib.hid hp
  clear hD hR hp
  have hw0 : IntKind.i64.wrap (x2 : Int) = (x2 : Int) := IntWalk.i64_in _ (by omega)
  have hw1 : IntKind.i64.wrap ((first : Int) + (x2 : Int)) = (first : Int) + (x2 : Int) := IntWalk.i64_in _ (by omega)
  go_enter Try.func53, Try.ntmps53
  obtain ⟨i, hi2⟩ : ∃ i, i = first + x2 := ⟨_, rfl⟩
  have hiI : (first : Int) + (x2 : Int) = (i : Int) := by omega
  rw [← hi2] at hi ⊢
  rw [hiI] at hw1
  obtain ⟨S, hS⟩ : ∃ s, (applied pend dur)[i]? = some s := ⟨_, List.getElem?_eq_getElem (by rw [applied_length]; exact hi)⟩
  have hdn : d.length ≤ 491 := by
    obtain ⟨⟨_, _, hv, _⟩, _, _⟩ := HB.out
    injection hv with _ h _
    omega
  have hsec : IsSec (Go.Proofs.Ytalpippeelomjaa.page x0 x1 x2 x3 d) := ⟨page_length hdn, fun b hb => by
    rcases List.mem_append.1 hb with h1 | h1
    · exact pg_small h3.2 HB.out.small b h1
    · exact le4_small _ b h1⟩
  have HSEC := Lib.hid hsec
  have HS := Lib.hid hS
  have HII := Lib.hid hi2
  clear hi2 hsec hS
  go_wp2_with (go_at_call 80; (with_reducible refine (bytes_good _ x0 x1 x2 x3 A n c d h0 h1 h2 h3 (HB.out.along ((Below.refl _ _).alloc (Nat.le_refl _) _)) hn).mono ?_); rintro e w2 ⟨A2, n2, c2, rfl, hM2, hb2'⟩)
  have hM2' : Mine w2 (w.alloc (.cells #[.int .u32 (x0 : Int), .int .u32 (x1 : Int), .int .u32 (x2 : Int), .int .u8 (x3 : Int), .slice A n c] 85)).heap.size A2 n2 c2 (Go.Proofs.Ytalpippeelomjaa.page x0 x1 x2 x3 d) := hM2
  obtain rfl : n2 = 512 := hM2'.len.trans HSEC.out.1
  have hbw2 : Below w.heap.size w w2 := ((Below.refl w.heap.size w).alloc (Nat.le_refl _) _).trans (hb2'.mono (by simp))
  have hg2 := (hb2'.block w.heap.size (by simp)).trans (Go.heap_alloc_new w _)
  obtain ⟨y0, y1, y2, y3, y4, _⟩ := fives hg2
  have z0 := (hbw2.cell (p := ⟨gr, 0, none⟩) hgl).trans c0
  have z3 := (hbw2.cell (p := ⟨gr, 3, none⟩) hgl).trans c3
  have z8 := (hbw2.cell (p := ⟨gr, 8, none⟩) hgl).trans c8
  have HBW2 := Lib.hid hbw2
  have HM2 := Lib.hid hM2'
  have HD2 := Lib.hid (HD.out.below hbw2)
  clear hM2 hM2' hbw2 hb2' hg2 y0 y1 y3 y4 c0 c3 c8
  have HRD : Hid (∀ y, Below w2.heap.size w2 y → Calls Try.prog 37 #[.pointer (some ⟨gs, 0, none⟩), .int .i64 (i : Int)] y fun e w' => ∃ g, e = .returned (.tuple #[.slice (some ⟨g, 0, none⟩) 512 512, .int .i64 0]) ∧ Mine w' y.heap.size (some ⟨g, 0, none⟩) 512 512 S ∧ Below y.heap.size y w') := Lib.hid fun y hy => read_any (HD2.out.below hy) i hi S HS.out
  have HWR : Hid (∀ y, Below w2.heap.size w2 y → Calls Try.prog 32 #[.pointer (some ⟨gs, 0, none⟩), .int .i64 (i : Int), .slice A2 512 c2] y fun e w' => e = .returned (.int .i64 0) ∧ ∃ b2, Disk w' gs b2 dur (pend ++ [(i, Go.Proofs.Ytalpippeelomjaa.page x0 x1 x2 x3 d)]) (nw + 1) (less bud) ∧
      ReelW w' gr gs gen ser first secs pv ps size count (.slice rA k rc0) k ∧ OnlyAt w w' (fun k => k = gs ∨ k = b.gl ∨ some k = b.pv.ownBlock) ∧ b2.gd = b.gd ∧ b2.cd = b.cd ∧ b2.gl = b.gl ∧ (b2.pv.ownBlock = b.pv.ownBlock ∨ ∃ g, b2.pv.ownBlock = some g ∧ w.heap.size ≤ g)) := Lib.hid fun y hy => by
    have hwy := HBW2.out.trans (hy.mono HBW2.out.size)
    refine (write_good (HD2.out.below hy) hb hb2 hwr hmany i hi A2 c2 _ (HM2.out.bytes.along hy) HSEC.out).mono ?_
    rintro e w' ⟨he, b2, hD, i1, i2, i3, _, i5, hO⟩
    exact ⟨he, b2, hD, (HR.out.below hwy).disk (HD2.out.below hy) hO, ⟨hO.os.trans hwy.os, hO.tape.trans hwy.tape, hO.output.trans hwy.output, Nat.le_trans hwy.size hO.size, fun j hj hp => (hO.block j (Nat.lt_of_lt_of_le hj hwy.size) hp).trans (hwy.block j hj)⟩, i1, i2, i3, i5.imp_right fun ⟨g, e1, e2⟩ => ⟨g, e1, Nat.le_trans hwy.size e2⟩⟩
  obtain ⟨e0', he0, he1, he2, he3⟩ := info_parts infoSct
  have HE0 := Lib.hid he0
  have HE1 := Lib.hid he1
  have HE2 := Lib.hid he2
  have HE3 := Lib.hid he3
  clear he0 he1 he2 he3
  go_quiet (fail)
  go_wp2_with (first
    | (go_at_call 37; (with_reducible refine (HRD.out _ (by repeat (with_reducible (first | exact Below.refl _ _ | assumption | refine ride_alloc ?_ _ | refine ride_drew ?_ | refine below_drewN ?_ _ | refine ride_call (by assumption) ?_)))).mono ?_); rintro e w3 ⟨g3, rfl, hM3, hb3⟩; go_loud (have hz3 := hb3.cell (p := ⟨gr, 0, none⟩) (Nat.lt_of_lt_of_le hgl HBW2.out.size)))
    | (go_at_call 32; (with_reducible refine (HWR.out _ (by repeat (with_reducible (first | exact Below.refl _ _ | assumption | refine ride_alloc ?_ _ | refine ride_drew ?_ | refine below_drewN ?_ _ | refine ride_call (by assumption) ?_)))).mono ?_); rintro e w4 ⟨rfl, b4, hD4, hR4, hO4, hI4⟩; go_loud (
       have HI4 := Lib.hid hI4;
       have u0 : w4.cell? ⟨gr, 8, none⟩ = some (.slice rA k rc0) := by unfold World.cell?; rw [hR4.st]; rfl;
       have HR4 := Lib.hid hR4;
       have HD4 := Lib.hid hD4;
       have HO4 := Lib.hid hO4;
       obtain ⟨xs4, hx4⟩ := hR4.rep;
       have HRX := Lib.hid hx4))
    | (at_builtin; refine wpList_append_lies _ (by rfl) _ _ _ (by rfl) 0 125 e0' _ 2 32 Try.underlying82 HE0.out HE1.out HE2.out HE3.out (by rfl) (by omega) (.slice rA k rc0) k _ (by rfl) (ownsRow_below HRX.out ((Below.refl _ _).alloc (Nat.le_refl _) _)) _ 1 1 [.int .i64 (i : Int), .slice (some ⟨g3, 0, none⟩) 512 512] (by rfl) (by rfl) (World.news_of_block (Go.heap_alloc_new _ _)) (by intro u hu; simp at hu; rcases hu with rfl | rfl <;> rfl) (by omega) (by unfold maxLen; omega) (by omega) (Nat.zero_le _) _ rfl ?_; intro g5 k5 w5 hown5 hg5 hat5 hlt5; have HAT5 := Lib.hid hat5; have hbA := (Below.refl w4.heap.size w4).alloc (Nat.le_refl _) (.cells #[.int .i64 (i : Int), .slice (some ⟨g3, 0, none⟩) 512 512] 125); have hoA := ownsRow_below HRX.out hbA; have st5 := keep_ty hg5 hoA ((hbA.block gr (lt_of_heap HR4.out.st)).trans HR4.out.st) (by decide); have u5 : w5.cell? ⟨gr, 8, none⟩ = some (.slice rA k rc0) := (by unfold World.cell?; rw [st5]; rfl); have f5 : w5.frozen? ⟨gr, 8, none⟩ = false := frozen_of_row w5 gr _ _ _ st5; have HBA := Lib.hid hbA; have HOA := Lib.hid hoA; have HG5 := Lib.hid hg5; have HW5 := Lib.hid hown5; clear hbA hoA st5 hg5 hown5 hat5))
  go_ret
  obtain ⟨e1, e2, e3⟩ := write_end HR4.out HD4.out HBA.out HOA.out HG5.out HW5.out
  refine ⟨rfl, b4, .slice (some ⟨g5, 0, none⟩) (k + 1) k5, e1, e2, ⟨e3.os.trans HO4.out.os, e3.tape.trans HO4.out.tape, e3.output.trans HO4.out.output, Nat.le_trans HO4.out.size e3.size, fun j hj hp => (e3.block j (Nat.lt_of_lt_of_le hj HO4.out.size) (fun h => hp ?_)).trans (HO4.out.block j hj (fun h => hp ?_))⟩, HI4.out.1, HI4.out.2.1, HI4.out.2.2.1, HI4.out.2.2.2, HAT5.out.imp (fun h => h.symm) (fun h => ⟨g5, rfl, by rw [h]; have := HO4.out.size; simp; omega⟩)⟩
  · rcases h with h | h
    · exact .inr (.inl h)
    · exact .inr (.inr (.inr (.inr h)))
  · rcases h with h | h | h
    · exact .inl h
    · exact .inr (.inr (.inl h))
    · exact .inr (.inr (.inr (.inl h)))
end Go.Proofs.Ytalpippeelomjaa
