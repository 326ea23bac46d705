/- LOpen: joined by program (tools/merge.py). -/
import Derived.Test.YtalpippeelomjaaZ24
import Derived.BigQuiet
import Derived.Deep.RegionHeldLaw
import Derived.Deep.AppendLies
import Derived.Deep.RegionLaw
import Derived.Deep.QuietTactic
namespace Go.Proofs.Ytalpippeelomjaa
open Go.RowKit
set_option linter.unusedSimpArgs false
set_option linter.unusedVariables false
theorem nextP_len {gen : Nat} {qs : List Pg} {q : Pg} (h : nextP gen qs q = true) : 4 ≤ q.data.length := by
  unfold nextP at h
  simp only [Bool.and_eq_true, decide_eq_true_eq] at h
  have := congrArg List.length h.2
  rw [List.length_take] at this
  have e : (be4 (serP qs qs.length)).length = 4 := rfl
  omega
/-- A Reel as it lies, at rest: nothing has been replaced. -/
structure Reel (w : World) (gr gs gen ser first secs : Nat) (pv : Value) (ps : List PV) (size count : Nat) : Prop where
  st : w.heap[gr]? = some (.cells (rcells gs gen ser first secs pv size count (.slice none 0 0)) 84 (0, 0))
  pages : Pages w 0 pv ps
  long : ∀ p ∈ ps, 4 ≤ p.data.length
def OpenS (w : World) (gr gs gen ser0 first K : Nat) (X : List (List Nat)) (lk at_ : Value) (wr : World) : Prop :=
  ∃ (k : Nat) (o : OS) (pv : Value) (ps : List PV), k ≤ K ∧ at_ = .int .i64 ((first + k : Nat) : Int) ∧ lk = .bool o.look ∧ openF gen o (X.drop k) k = openX gen ser0 X ∧ pgs ps = o.qs ∧ Reel wr gr gs gen o.ser first K pv ps 0 0 ∧ ps.length ≤ k ∧ o.ser < 4294967296 ∧ (∀ j, pv.ownBlock = some j → w.heap.size ≤ j) ∧ Below w.heap.size w wr
/-- What Open answers. -/
def ROpenR (gs gen first K : Nat) (r : Sum OS Nat) (w : World) (e : Ending) (w' : World) : Prop :=
  Below w.heap.size w w' ∧ match r with
  | .inr k => e = .returned (.tuple #[.pointer none, .int .i64 ((first + k : Nat) : Int), .int .i64 7])
  | .inl o => ∃ gr pv ps, e = .returned (.tuple #[.pointer (some ⟨gr, 0, none⟩), .int .i64 0, .int .i64 0]) ∧ w.heap.size ≤ gr ∧ pgs ps = o.qs ∧ Reel w' gr gs gen ((o.ser + 1) % 4294967296) first K pv ps (layR (cutL (rowP o.qs))).length (cutL (rowP o.qs)).length ∧ (∀ j, pv.ownBlock = some j → w.heap.size ≤ j) ∧ ps.length ≤ K
theorem open_stop {gen ser0 k : Nat} {X : List (List Nat)} {o : OS} {s : List Nat} (ho : openF gen o (X.drop k) k = openX gen ser0 X) (hs : X[k]? = some s) (hb : o.bad s = true) : openX gen ser0 X = .inr k := by
  obtain ⟨hk, hx⟩ := List.getElem?_eq_some_iff.1 hs
  rw [← ho, List.drop_eq_getElem_cons hk, hx, openF_bad hb]
theorem open_on {gen ser0 k : Nat} {X : List (List Nat)} {o : OS} {s : List Nat} (ho : openF gen o (X.drop k) k = openX gen ser0 X) (hs : X[k]? = some s) (hb : o.bad s = false) : openF gen (o.step gen s) (X.drop (k + 1)) (k + 1) = openX gen ser0 X := by
  obtain ⟨hk, hx⟩ := List.getElem?_eq_some_iff.1 hs
  rw [← ho, List.drop_eq_getElem_cons hk, hx, openF_step hb]
theorem open_end {gen ser0 k : Nat} {X : List (List Nat)} {o : OS} (ho : openF gen o (X.drop k) k = openX gen ser0 X) (hk : X.length ≤ k) : openX gen ser0 X = .inl o := by
  rw [← ho, List.drop_of_length_le hk, openF_nil]
theorem Reel.below {w w' : World} {gr gs gen ser first secs size count : Nat} {pv : Value} {ps : List PV} (h : Reel w gr gs gen ser first secs pv ps size count) (hb : Below w.heap.size w w') : Reel w' gr gs gen ser first secs pv ps size count :=
  ⟨(hb.block gr (lt_of_heap h.st)).trans h.st, h.pages.below hb, h.long⟩
/-- Behind a round in which nothing of the Reel has changed, and it doesn't look on. -/
theorem openS_same {w wr w' : World} {gr gs gen ser0 F K k a : Nat} {X : List (List Nat)} {o : OS} {pv : Value} {ps : List PV} {s : List Nat} (hk : k < K) (ha : a = F + k) (ho : openF gen o (X.drop k) k = openX gen ser0 X) (hs : X[k]? = some s) (hb : o.bad s = false) (hstep : o.step gen s = ⟨o.ser, o.qs, false⟩)
    (hps : pgs ps = o.qs) (hR : Reel wr gr gs gen o.ser F K pv ps 0 0) (hpl : ps.length ≤ k) (hos : o.ser < 4294967296) (hpw : ∀ j, pv.ownBlock = some j → w.heap.size ≤ j) (hB : Below w.heap.size w wr) (hB2 : Below wr.heap.size wr w') (v : Value) (hv : v = .int .i64 ((a : Int) + 1)) : OpenS w gr gs gen ser0 F K X (.bool false) v w' := by
  have h1 := open_on ho hs hb
  rw [hstep] at h1
  exact ⟨k + 1, ⟨o.ser, o.qs, false⟩, pv, ps, by omega, by rw [hv]; exact int_i64 (by omega), rfl, h1, hps, hR.below hB2, by omega, hos, hpw, hB.trans (hB2.mono hB.size)⟩
theorem step_err {o : OS} {gen : Nat} {s : List Nat} (h : errOf s ≠ 0) : o.step gen s = ⟨o.ser, o.qs, false⟩ := by
  unfold OS.step OS.next OS.top
  rw [decide_eq_false h, Bool.and_false, Bool.false_and, if_neg (by simp), if_neg (fun e => h e.1)]
theorem step_gen {o : OS} {gen : Nat} {s : List Nat} (h : genOf s ≠ gen) : o.step gen s = ⟨o.ser, o.qs, false⟩ := by
  have e : nextP gen o.qs (pgOf s) = false := by
    unfold nextP
    rw [show (pgOf s).gen = genOf s from rfl, decide_eq_false h]
    rfl
  unfold OS.step OS.next OS.top
  rw [e, Bool.and_false, if_neg (by simp), if_neg (fun e => h e.2)]
/-- Pages lie elsewhere than a block of another type. -/
theorem Pages.other {w w' : World} {base g : Nat} {v : Value} {ps : List PV} {cs : Array Value} {t : TypeId} (h : Pages w base v ps) (hg : w.heap[g]? = some (.cells cs t (0, 0))) (h1 : 85 ≠ t) (h2 : 5 ≠ t) (hk : ∀ k, k < w.heap.size → k ≠ g → w'.heap[k]? = w.heap[k]?) : Pages w' base v ps :=
  ⟨ownsRow_keep h.own fun k e => hk k (own_block_lt h.own e).2 (fun e2 => own_ne h.own hg h1 (e2 ▸ e)), fun p hp => (h.ok p hp).keep fun k e => hk k (own_block_lt (h.ok p hp).mine.own e).2 (fun e2 => own_ne (h.ok p hp).mine.own hg h2 (e2 ▸ e))⟩
theorem setCell_heap_ne (w : World) (g i : Nat) (v : Value) : ∀ k, k < w.heap.size → k ≠ g → (w.setCell ⟨g, i, none⟩ v).heap[k]? = w.heap[k]? := fun k _ h => heap_setCell_other w ⟨g, i, none⟩ k v h
/-- Another serial. -/
theorem Reel.set_ser {w : World} {gr gs gen ser first secs size count : Nat} {pv : Value} {ps : List PV} (h : Reel w gr gs gen ser first secs pv ps size count) (m : Nat) : Reel (w.setCell ⟨gr, 2, none⟩ (.int .u32 (m : Int))) gr gs gen m first secs pv ps size count :=
  ⟨by rw [heap_setCell_same w gr 2 _ _ _ h.st]; rfl, h.pages.other h.st (by decide) (by decide) (setCell_heap_ne w gr 2 _), h.long⟩
theorem cell5 {w : World} {g : Nat} {v0 v1 v2 v3 v4 : Value} {t : TypeId} (h : w.heap[g]? = some (.cells #[v0, v1, v2, v3, v4] t (0, 0))) : w.cell? ⟨g, 0, none⟩ = some v0 ∧ w.cell? ⟨g, 1, none⟩ = some v1 ∧ w.cell? ⟨g, 2, none⟩ = some v2 ∧ w.cell? ⟨g, 3, none⟩ = some v3 ∧ w.cell? ⟨g, 4, none⟩ = some v4 := by
  refine ⟨?_, ?_, ?_, ?_, ?_⟩ <;> (rw [cell_of_row w g _ _ _ _ h]; rfl)
theorem row_heap {w : World} {base n size : Nat} {t : TypeId} {v : Value} {xs : List Value} (h : w.ownsRow base t size v n xs) {k : Nat} (e : v.ownBlock = some k) : ∃ cs, w.heap[k]? = some (.cells cs t (0, 0)) := by
  rcases h.2 with ⟨rfl, _⟩ | ⟨g, cap, cur, rfl, h1, h2, _⟩
  · cases e
  · simp [Value.ownBlock] at e
    subst e
    exact ⟨cur, h2⟩
/-- Behind the append of a page, and the store of its row. -/
theorem Reel.grow {w4 x w5 : World} {gr gs gen ser first secs size count : Nat} {pv v' : Value} {ps : List PV} {p : PV} (hR : Reel w4 gr gs gen ser first secs pv ps size count) (hx : Below w4.heap.size w4 x) (hg : x.grownBy w5 pv.ownBlock)
    (hown : w5.ownsRow 0 85 5 v' (ps.length + 1) (pcells ps ++ pcell p)) (hp : POk w4 p) (h4 : 4 ≤ p.data.length) : Reel (w5.setCell ⟨gr, 5, none⟩ v') gr gs gen ser first secs v' (ps ++ [p]) size count := by
  have hRx := hR.below hx
  have hne : some gr ≠ pv.ownBlock := fun e => own_ne hRx.pages.own hRx.st (by decide) e.symm
  have hst5 := (hg.block gr (lt_of_heap hRx.st) hne).trans hRx.st
  have hpok : ∀ q, POk x q → POk (w5.setCell ⟨gr, 5, none⟩ v') q := fun q hq => hq.keep fun k e => by
    have e1 := (own_block_lt hq.mine.own e).2
    have e2 : k ≠ gr := fun e2 => own_ne hq.mine.own hRx.st (by decide) (e2 ▸ e)
    have e3 : some k ≠ pv.ownBlock := fun e3 => by
      obtain ⟨cs, hcs⟩ := row_heap hRx.pages.own e3.symm
      exact own_ne hq.mine.own hcs (by decide) e
    rw [heap_setCell_other _ ⟨gr, 5, none⟩ k _ e2]
    exact hg.block k e1 e3
  refine ⟨by rw [heap_setCell_same w5 gr 5 _ _ _ hst5]; rfl, ⟨?_, fun q hq => ?_⟩, fun q hq => ?_⟩
  · have h2 : (pcells (ps ++ [p])) = pcells ps ++ pcell p := by rw [pcells_append]; unfold pcells; simp
    rw [h2, List.length_append]
    refine ownsRow_keep hown fun k e => ?_
    have e2 : k ≠ gr := fun e2 => own_ne hown hst5 (by decide) (e2 ▸ e)
    exact heap_setCell_other _ ⟨gr, 5, none⟩ k _ e2
  · rcases List.mem_append.1 hq with h | h
    · exact hpok q (hRx.pages.ok q h)
    · rw [List.mem_singleton] at h
      rw [h]
      exact hpok p (hp.below hx)
  · rcases List.mem_append.1 hq with h | h
    · exact hR.long q h
    · rw [List.mem_singleton] at h; rw [h]; exact h4
theorem openS_more {w w' : World} {gr gs gen ser0 F K k a top : Nat} {X : List (List Nat)} {o : OS} {pv : Value} {ps : List PV} {s : List Nat} {f : Bool} (hk : k < K) (ha : a = F + k) (ho : openF gen o (X.drop k) k = openX gen ser0 X) (hs : X[k]? = some s) (hb : o.bad s = false) (hstep : o.step gen s = ⟨top, o.qs ++ [pgOf s], f⟩)
    (hps : pgs ps = o.qs ++ [pgOf s]) (hR : Reel w' gr gs gen top F K pv ps 0 0) (hpl : ps.length ≤ k + 1) (hos : top < 4294967296) (hpw : ∀ j, pv.ownBlock = some j → w.heap.size ≤ j) (hB : Below w.heap.size w w') (v : Value) (hv : v = .int .i64 ((a : Int) + 1)) (fv : Value) (hf : fv = .bool f) : OpenS w gr gs gen ser0 F K X fv v w' := by
  have h1 := open_on ho hs hb
  rw [hstep] at h1
  exact ⟨k + 1, ⟨top, o.qs ++ [pgOf s], f⟩, pv, ps, by omega, by rw [hv]; exact int_i64 (by omega), hf, h1, hps, hR, hpl, hos, hpw, hB⟩
theorem Reel.set_two {w : World} {gr gs gen ser first secs size count : Nat} {pv : Value} {ps : List PV} (h : Reel w gr gs gen ser first secs pv ps size count) (a b : Nat) : Reel ((w.setCell ⟨gr, 7, none⟩ (.int .i64 (b : Int))).setCell ⟨gr, 6, none⟩ (.int .i64 (a : Int))) gr gs gen ser first secs pv ps a b := by
  have h1 : (w.setCell ⟨gr, 7, none⟩ (.int .i64 (b : Int))).heap[gr]? = some (.cells (rcells gs gen ser first secs pv size b (.slice none 0 0)) 84 (0, 0)) := by rw [heap_setCell_same w gr 7 _ _ _ h.st]; rfl
  have p1 := h.pages.other h.st (by decide) (by decide) (setCell_heap_ne w gr 7 (.int .i64 (b : Int)))
  exact ⟨by rw [heap_setCell_same _ gr 6 _ _ _ h1]; rfl, p1.other h1 (by decide) (by decide) (setCell_heap_ne _ gr 6 _), h.long⟩
theorem max_if (a b : Nat) : (if a < b then (b : Int) else (a : Int)) = ((max a b : Nat) : Int) := by
  by_cases h : a < b
  · rw [if_pos h, Nat.max_eq_right (by omega)]
  · rw [if_neg h, Nat.max_eq_left (by omega)]
theorem openS_ser {w w' : World} {gr gs gen ser0 F K k a top : Nat} {X : List (List Nat)} {o : OS} {pv : Value} {ps : List PV} {s : List Nat} (hk : k < K) (ha : a = F + k) (ho : openF gen o (X.drop k) k = openX gen ser0 X) (hs : X[k]? = some s) (hb : o.bad s = false) (hstep : o.step gen s = ⟨top, o.qs, false⟩)
    (hps : pgs ps = o.qs) (hR : Reel w' gr gs gen top F K pv ps 0 0) (hpl : ps.length ≤ k) (hos : top < 4294967296) (hpw : ∀ j, pv.ownBlock = some j → w.heap.size ≤ j) (hB : Below w.heap.size w w') (v : Value) (hv : v = .int .i64 ((a : Int) + 1)) : OpenS w gr gs gen ser0 F K X (.bool false) v w' := by
  have h1 := open_on ho hs hb
  rw [hstep] at h1
  exact ⟨k + 1, ⟨top, o.qs, false⟩, pv, ps, by omega, by rw [hv]; exact int_i64 (by omega), rfl, h1, hps, hR, by omega, hos, hpw, hB⟩
theorem step_no {o : OS} {gen : Nat} {s : List Nat} (h0 : errOf s = 0) (hg : genOf s = gen) (hn : (o.look && nextP gen o.qs (pgOf s)) = false) : o.step gen s = ⟨max o.ser (serOf s), o.qs, false⟩ := by
  have e : o.next gen s = false := by
    unfold OS.next
    rw [decide_eq_true h0, Bool.and_true]
    exact hn
  unfold OS.step OS.top
  rw [e, if_neg (by simp), if_pos ⟨h0, hg⟩]
theorem step_yes {o : OS} {gen : Nat} {s : List Nat} (h0 : errOf s = 0) (hg : genOf s = gen) (hl : o.look = true) (hn : nextP gen o.qs (pgOf s) = true) : o.step gen s = ⟨max o.ser (serOf s), o.qs ++ [pgOf s], decide ((dataOf s).length = 491)⟩ := by
  have e : o.next gen s = true := by
    unfold OS.next
    rw [decide_eq_true h0, Bool.and_true, hl, hn]
    rfl
  unfold OS.step OS.top
  rw [e, if_pos rfl, if_pos ⟨h0, hg⟩]
set_option maxRecDepth 100000 in
set_option maxHeartbeats 4000000 in
theorem ropen_good {w : World} {gs : Nat} {b : DB} {dur : List (List Nat)} {pend : List (Nat × List Nat)} {nw bud : Int} (hD : Disk w gs b dur pend nw bud) (gen h ser : Nat) (hg : gen < 4294967296) (hsr : ser < 4294967296) (h4 : 4 ≤ dur.length) (hh : h ≤ 1) (X : List (List Nat)) (hX : X = ((applied pend dur).drop (halfN dur.length h)).take (halfK dur.length h)) :
    Calls Try.prog 12 #[.pointer (some ⟨gs, 0, none⟩), .agg #[.int .u32 (gen : Int), .int .u8 (h : Int), .int .u32 (ser : Int)]] w (ROpenR gs gen (halfN dur.length h) (halfK dur.length h) (openX gen ser X) w) := by
  have hfew := hD.few
  obtain ⟨n, hn⟩ : ∃ n, n = dur.length := ⟨_, rfl⟩
  have hS : ∀ x, Below w.heap.size w x → Calls Try.prog 28 #[.pointer (some ⟨gs, 0, none⟩)] x fun e w' => e = .returned (.int .i64 (n : Int)) ∧ x = w' := fun x hx => by rw [hn]; exact sectors_any (hD.below hx)
  have hn2 : n < 65536 := by omega
  have hXl : X.length = halfK n h ∧ ∀ k s, X[k]? = some s → (applied pend dur)[halfN n h + k]? = some s ∧ halfN n h + k < dur.length := by
    rw [hX, ← hn]
    have ha : (applied pend dur).length = n := by rw [applied_length, hn]
    constructor
    · rw [List.length_take, List.length_drop, ha]
      unfold halfN halfK
      rw [if_neg (by omega), if_neg (by omega)]
      rcases (show h = 0 ∨ h = 1 by omega) with rfl | rfl <;> omega
    · intro k s hs
      rw [List.getElem?_take] at hs
      split at hs
      · rw [List.getElem?_drop] at hs
        have := (List.getElem?_eq_some_iff.1 hs).1
        exact ⟨hs, by omega⟩
      · cases hs
  rw [← hn] at hX h4 ⊢
  obtain ⟨K, hK⟩ : ∃ K, K = halfK n h := ⟨_, rfl⟩
  obtain ⟨F, hF⟩ : ∃ F, F = halfN n h := ⟨_, rfl⟩
  have hKs : 1 ≤ K ∧ K ≤ 2048 ∧ F + K ≤ 4096 := by
    rw [hK, hF]
    unfold halfN halfK
    rw [if_neg (by omega), if_neg (by omega)]
    rcases (show h = 0 ∨ h = 1 by omega) with rfl | rfl <;> omega
  obtain ⟨hK1, hK2, hFK⟩ := hKs
  have hf := fun x => from_any x (gen : Int) (ser : Int) h n hn2
  rw [← hK, ← hF] at hXl hX ⊢
  simp only [← hK, ← hF] at hf
  have HF := Lib.hid hf
  have HD := Lib.hid hD
  have HX := Lib.hid hXl
  have HXE := Lib.hid hX
  clear hD hXl hX hn hK hF hfew
  have HS := Lib.hid hS
  clear hf hS
  have HW : Hid (∀ o, Below w.heap.size w (w.alloc o)) := Lib.hid fun o => (Below.refl _ _).alloc (Nat.le_refl _) o
  obtain ⟨W, hW⟩ : ∃ W, W = w.alloc (.cells #[.int .u32 (gen : Int), .int .u8 (h : Int), .int .u32 (ser : Int)] 24) := ⟨_, rfl⟩
  have hWb : Below w.heap.size w W := by rw [hW]; exact HW.out _
  have h0 : W.heap[w.heap.size]? = some (.cells #[.int .u32 (gen : Int), .int .u8 (h : Int), .int .u32 (ser : Int)] 24 (0, 0)) := by rw [hW]; exact Go.heap_alloc_new w _
  have HC : Hid (∀ x, Below W.heap.size W x → x.cell? ⟨w.heap.size, 0, none⟩ = some (.int .u32 (gen : Int)) ∧ x.cell? ⟨w.heap.size, 1, none⟩ = some (.int .u8 (h : Int)) ∧ x.cell? ⟨w.heap.size, 2, none⟩ = some (.int .u32 (ser : Int))) := Lib.hid fun x hx => by
    have h3 := (hx.block w.heap.size (lt_of_heap h0)).trans h0
    exact ⟨by unfold World.cell?; rw [h3]; rfl, by unfold World.cell?; rw [h3]; rfl, by unfold World.cell?; rw [h3]; rfl⟩
  have HS2 : Hid (∀ x, Below W.heap.size W x → Calls Try.prog 28 #[.pointer (some ⟨gs, 0, none⟩)] x fun e w' => e = .returned (.int .i64 (n : Int)) ∧ x = w') := Lib.hid fun x hx => HS.out x (hWb.trans (hx.mono hWb.size))
  have HWE := Lib.hid hW
  have HWB := Lib.hid hWb
  clear hW hWb h0
  go_enter Try.func12, Try.ntmps12
  go_wp2
  rw [← HWE.out]
  go_region_held3 (fun x => Below W.heap.size W x ∧ x.cell? ⟨w.heap.size, 0, none⟩ = some (.int .u32 (gen : Int)) ∧ x.cell? ⟨w.heap.size, 1, none⟩ = some (.int .u8 (h : Int)) ∧ x.cell? ⟨w.heap.size, 2, none⟩ = some (.int .u32 (ser : Int)))
    ((refine (fun h => ⟨h, HC.out _ h⟩) ?_; repeat (with_reducible (first | exact Below.refl _ _ | assumption | refine ride_alloc ?_ _ | refine ride_drew ?_ | refine below_drewN ?_ _ | refine ride_call (by assumption) ?_))))
    (first
      | (go_at_call 28; (with_reducible refine (HS2.out _ (by repeat (with_reducible (first | exact Below.refl _ _ | assumption | refine ride_alloc ?_ _ | refine ride_drew ?_ | refine below_drewN ?_ _ | refine ride_call (by assumption) ?_)))).mono ?_); rintro e w1 ⟨rfl, rfl⟩)
      | (go_at_call 27; (with_reducible refine (HF.out _).mono ?_); rintro e w2 ⟨rfl, hb2⟩))
  have hz : Below W.heap.size W w2 := (by repeat (with_reducible (first | exact Below.refl _ _ | assumption | refine ride_alloc ?_ _ | refine ride_drew ?_ | refine below_drewN ?_ _ | refine ride_call (by assumption) ?_)))
  obtain ⟨c0, c1, c2⟩ := HC.out w2 hz
  have HZ := Lib.hid hz
  clear hz hb2
  have h1 : ¬ (h : Int) > 1 := by omega
  have h2 : ((K : Int) == 0) = false := by rw [beq_eq_false_iff_ne]; omega
  go_wp2
  obtain ⟨gr, hgr⟩ : ∃ gr, gr = w2.heap.size := ⟨_, rfl⟩
  rw [← hgr]
  have hb02 : Below w.heap.size w w2 := HWB.out.trans (HZ.out.mono HWB.out.size)
  have hgw : w.heap.size ≤ gr := by rw [hgr]; exact hb02.size
  have HB2 : Hid (Below w.heap.size w (w2.alloc (.cells (rcells gs gen ser F K (.slice none 0 0) 0 0 (.slice none 0 0)) 84))) := Lib.hid (hb02.alloc hb02.size _)
  have HST : Hid ((w2.alloc (.cells (rcells gs gen ser F K (.slice none 0 0) 0 0 (.slice none 0 0)) 84)).heap[gr]? = some (.cells (rcells gs gen ser F K (.slice none 0 0) 0 0 (.slice none 0 0)) 84 (0, 0))) := Lib.hid (by rw [hgr]; exact Go.heap_alloc_new w2 _)
  have HGR := Lib.hid hgr
  clear hgr hb02 c0 c1 c2
  go_loopw [10, 11] (fun lk at_ wr => OpenS w gr gs gen ser F K X lk at_ wr) (fun _ at_ _ => F + K - (intOf at_).toNat)
  case atStart =>
    exact ⟨0, ⟨ser, [], true⟩, .slice none 0 0, [], by omega, by rw [Nat.add_zero], rfl, rfl, rfl, ⟨HST.out, Pages.nil _ _, fun p hp => by cases hp⟩, by simp, hsr, (fun j e => by cases e), HB2.out⟩
  case round =>
    obtain ⟨k, o, pv, ps, hk, rfl, rfl, ho, hps, hR, hpl, hos, hpw, hB⟩ := hrel
    have HPW := Lib.hid hpw
    have HO := Lib.hid ho
    have HPS := Lib.hid hps
    have HR := Lib.hid hR
    have HB := Lib.hid hB
    obtain ⟨at_, hat⟩ : ∃ a, a = F + k := ⟨_, rfl⟩
    have hatk : at_ ≤ F + K := by omega
    rw [← hat]
    have HAT := Lib.hid hat
    have hgrl := lt_of_heap hR.st
    have HPL : Hid (∀ j, pv.ownBlock = some j → j < wr.heap.size) := Lib.hid (fun j e => (own_block_lt hR.pages.own e).2)
    clear ho hps hR hB hpw
    by_cases hlt : k < K
    · have hlt2 : (at_ : Int) < (F : Int) + (K : Int) := by omega
      clear hat
      obtain ⟨s, hs⟩ : ∃ s, X[k]? = some s := ⟨_, List.getElem?_eq_getElem (by have := HX.out.1; omega)⟩
      obtain ⟨hs2, hs3⟩ := HX.out.2 k s hs
      rw [← HAT.out] at hs2 hs3
      have HRD := hide (read_page (HD.out.below HB.out) at_ hs3 s hs2)
      obtain ⟨el, hel⟩ : ∃ e, e = errOf s := ⟨_, rfl⟩
      obtain ⟨lk, hlk⟩ : ∃ l, l = o.look := ⟨_, rfl⟩
      unfold Parsed at HRD
      rw [← hel] at HRD
      rw [← hlk]
      have HEL := Lib.hid hel
      have HLK := Lib.hid hlk
      have HS1 := Lib.hid hs
      clear hs hs2 hs3 hel hlk
      by_cases hbad : lk = true ∧ el ≠ 0 ∧ el ≠ 3
      · obtain ⟨rfl, he0, he3⟩ := hbad
        have e1 : ((el : Int) != 0) = true := by simp; omega
        have e2 : ((el : Int) != 3) = true := by simp; omega
        have e3 : ¬ (el : Int) = 0 := by omega
        have e4 : ¬ (el : Int) = 3 := by omega
        go_wp2_with (go_at_call 45; (with_reducible refine (unhide HRD).mono ?_); rintro e w3 ⟨A3, n3, c3, rfl, hM3, hb3⟩)
        go_ret3
        have hst := open_stop HO.out HS1.out (by unfold OS.bad; rw [← HLK.out, ← HEL.out, decide_eq_true he0, decide_eq_true he3]; rfl)
        refine ⟨?_, ?_⟩
        · exact (HB.out.trans (hb3.mono HB.out.size)).alloc (HB.out.trans (hb3.mono HB.out.size)).size _
        · rw [hst]
          show Ending.returned _ = Ending.returned _
          rw [← HAT.out]
          rfl
      · have hnb : o.bad s = false := by
          unfold OS.bad
          rw [← HLK.out, ← HEL.out]
          cases lk
          · rfl
          · by_cases h0 : el = 0
            · rw [h0]; rfl
            · have h3 : el = 3 := by
                apply Classical.byContradiction
                intro h3
                exact hbad ⟨rfl, h0, h3⟩
              rw [h3]; rfl
        have HNB := Lib.hid hnb
        have HBAD := Lib.hid hbad
        clear hnb hbad
        by_cases he0 : el = 0
        · subst he0
          rw [show ((0 : Nat) : Int) = 0 from rfl] at HRD
          by_cases hgn : genOf s = gen
          · have g1 : ((genOf s : Int) == (gen : Int)) = true := by rw [beq_iff_eq, hgn]
            have c1 : wr.cell? ⟨gr, 1, none⟩ = some (.int .u32 (gen : Int)) := by unfold World.cell?; rw [HR.out.st]; rfl
            have c2 : wr.cell? ⟨gr, 2, none⟩ = some (.int .u32 (o.ser : Int)) := by unfold World.cell?; rw [HR.out.st]; rfl
            have f2 : wr.frozen? ⟨gr, 2, none⟩ = false := frozen_of_row wr gr _ _ _ HR.out.st
            have HGN := Lib.hid hgn
            clear hgn
            have hss : serOf s < 4294967296 := by
              have hsec : IsSec s := applied_sec HD.out.sec (fun p hp => (HD.out.wri p hp).2) s (List.mem_of_getElem? (HX.out.2 k s HS1.out).1)
              exact (parts_page hsec.2 HEL.out.symm).2.2.2.2.1
            have hmx : max o.ser (serOf s) < 4294967296 := by omega
            cases lk
            · go_wp2_with (go_at_call 45; (with_reducible refine (unhide HRD).mono ?_); rintro e w3 ⟨A3, n3, c3, rfl, hM3, hb3⟩; go_loud (
                have c31 := (hb3.cell (p := ⟨gr, 1, none⟩) hgrl).trans c1;
                have c32 := (hb3.cell (p := ⟨gr, 2, none⟩) hgrl).trans c2;
                have f32 := (hb3.frozen (p := ⟨gr, 2, none⟩) hgrl).trans f2;
                have hgr3 := Nat.lt_of_lt_of_le hgrl hb3.size;
                have HB3 := Lib.hid hb3;
                have HM3 := Lib.hid hM3;
                clear hM3 hb3))
              go_quiet (fail)
              go_wp2
              go_region
              rw [max_if]
              have hY := ((HR.out.below (HB3.out.trans (below_drewN ((Below.refl w3.heap.size w3).alloc (Nat.le_refl _) (.cells #[.int .u32 (genOf s : Int), .int .u32 (serOf s : Int), .int .u32 (numbOf s : Int), .int .u8 (kinOf s : Int), .slice A3 n3 c3] 85)) (nq + 1) |>.mono (HB3.out.size)))).set_ser (max o.ser (serOf s)))
              have hYb : Below w.heap.size w ((((w3.alloc (.cells #[.int .u32 (genOf s : Int), .int .u32 (serOf s : Int), .int .u32 (numbOf s : Int), .int .u8 (kinOf s : Int), .slice A3 n3 c3] 85)).drewN (nq + 1)).setCell ⟨gr, 2, none⟩ (.int .u32 ((max o.ser (serOf s) : Nat) : Int)))) := ((HB.out.trans (HB3.out.mono HB.out.size)).trans ((below_drewN ((Below.refl w3.heap.size w3).alloc (Nat.le_refl _) (.cells #[.int .u32 (genOf s : Int), .int .u32 (serOf s : Int), .int .u32 (numbOf s : Int), .int .u8 (kinOf s : Int), .slice A3 n3 c3] 85)) (nq + 1)).mono (Nat.le_trans HB.out.size HB3.out.size))).setCell (p := ⟨gr, 2, none⟩) hgw _
              have HY := Lib.hid hY
              have HYB := Lib.hid hYb
              clear hY hYb
              go_wp2
              refine ⟨openS_ser hlt HAT.out HO.out HS1.out HNB.out (step_no HEL.out.symm HGN.out (by rw [← HLK.out]; rfl)) HPS.out HY.out hpl hmx HPW.out HYB.out _ rfl, ?_⟩
              simp [intOf]
              omega
            · go_wp2_with (go_at_call 45; (with_reducible refine (unhide HRD).mono ?_); rintro e w3 ⟨A3, n3, c3, rfl, hM3, hb3⟩; go_loud (
                have c31 := (hb3.cell (p := ⟨gr, 1, none⟩) hgrl).trans c1;
                have c32 := (hb3.cell (p := ⟨gr, 2, none⟩) hgrl).trans c2;
                have f32 := (hb3.frozen (p := ⟨gr, 2, none⟩) hgrl).trans f2;
                have hgr3 := Nat.lt_of_lt_of_le hgrl hb3.size;
                have HB3 := Lib.hid hb3;
                have HM3 := Lib.hid hM3;
                clear hM3 hb3))
              go_quiet (fail)
              go_wp2
              go_region
              rw [max_if]
              have hY := ((HR.out.below (HB3.out.trans (below_drewN ((Below.refl w3.heap.size w3).alloc (Nat.le_refl _) (.cells #[.int .u32 (genOf s : Int), .int .u32 (serOf s : Int), .int .u32 (numbOf s : Int), .int .u8 (kinOf s : Int), .slice A3 n3 c3] 85)) (nq + 1) |>.mono (HB3.out.size)))).set_ser (max o.ser (serOf s)))
              have hYb : Below w.heap.size w ((((w3.alloc (.cells #[.int .u32 (genOf s : Int), .int .u32 (serOf s : Int), .int .u32 (numbOf s : Int), .int .u8 (kinOf s : Int), .slice A3 n3 c3] 85)).drewN (nq + 1)).setCell ⟨gr, 2, none⟩ (.int .u32 ((max o.ser (serOf s) : Nat) : Int)))) := ((HB.out.trans (HB3.out.mono HB.out.size)).trans ((below_drewN ((Below.refl w3.heap.size w3).alloc (Nat.le_refl _) (.cells #[.int .u32 (genOf s : Int), .int .u32 (serOf s : Int), .int .u32 (numbOf s : Int), .int .u8 (kinOf s : Int), .slice A3 n3 c3] 85)) (nq + 1)).mono (Nat.le_trans HB.out.size HB3.out.size))).setCell (p := ⟨gr, 2, none⟩) hgw _
              have hne3 : w3.heap.size ≠ gr := by omega
              have hx3 : (((((w3.alloc (.cells #[.int .u32 (genOf s : Int), .int .u32 (serOf s : Int), .int .u32 (numbOf s : Int), .int .u8 (kinOf s : Int), .slice A3 n3 c3] 85)).drewN (nq + 1)).setCell ⟨gr, 2, none⟩ (.int .u32 ((max o.ser (serOf s) : Nat) : Int))))).heap[w3.heap.size]? = some (.cells #[.int .u32 (genOf s : Int), .int .u32 (serOf s : Int), .int .u32 (numbOf s : Int), .int .u8 (kinOf s : Int), .slice A3 n3 c3] 85 (0, 0)) := by
                rw [heap_setCell_other _ ⟨gr, 2, none⟩ _ _ hne3]
                exact Go.heap_alloc_new w3 _
              have hm3 : Mine (((((w3.alloc (.cells #[.int .u32 (genOf s : Int), .int .u32 (serOf s : Int), .int .u32 (numbOf s : Int), .int .u8 (kinOf s : Int), .slice A3 n3 c3] 85)).drewN (nq + 1)).setCell ⟨gr, 2, none⟩ (.int .u32 ((max o.ser (serOf s) : Nat) : Int))))) 0 A3 n3 c3 (dataOf s) := (HM3.out.lower (Nat.zero_le _)).keep fun k e => by
                have e1 := (own_block_lt HM3.out.own e).2
                have e2 : k ≠ gr := fun e2 => own_ne HM3.out.own (HR.out.below HB3.out).st (by decide) (e2 ▸ e)
                rw [heap_setCell_other _ ⟨gr, 2, none⟩ k _ e2]
                exact Go.heap_alloc_old w3 _ e1
              generalize hYE : ((((w3.alloc (.cells #[.int .u32 (genOf s : Int), .int .u32 (serOf s : Int), .int .u32 (numbOf s : Int), .int .u8 (kinOf s : Int), .slice A3 n3 c3] 85)).drewN (nq + 1)).setCell ⟨gr, 2, none⟩ (.int .u32 ((max o.ser (serOf s) : Nat) : Int)))) = Y at hY hYb hx3 hm3 ⊢
              have hYs : Y.heap.size = w3.heap.size + 1 := by rw [← hYE, World.size_setCell]; exact World.size_alloc _ _
              have HYS := Lib.hid hYs
              have HY := Lib.hid hY
              have HYB := Lib.hid hYb
              have hx := cell5 hx3
              obtain ⟨x0, x1, x2, x3, x4⟩ := hx
              have HX3 := Lib.hid hx3
              have HMY := Lib.hid hm3
              have hb1 := bel_any
              clear hYE hY hYb hx3 hm3 hYs c31 c32 f32 c1 c2 f2
              cases hnx : nextP gen o.qs (pgOf s)
              · have HBE := Lib.hid (fun x (hx : Below Y.heap.size Y x) => by
                  have h := bel_any x gr gs gen (max o.ser (serOf s)) F K 0 0 pv (.slice none 0 0) ps ((HY.out.below hx).st) ((HY.out.below hx).pages) (by omega) (genOf s) (serOf s) (numbOf s) (kinOf s) A3 n3 c3 (dataOf s) (HMY.out.bytes.along hx)
                  rw [show nextIs gen ps (genOf s) (numbOf s) (kinOf s) (dataOf s) = false from (nextIs_pgs gen ps (pgOf s)).trans (by rw [HPS.out]; exact hnx)] at h
                  exact h)
                have HNX := Lib.hid hnx
                clear hnx
                go_wp2_with (go_at_call 46; (with_reducible refine (HBE.out _ (by repeat (with_reducible (first | exact Below.refl _ _ | assumption | refine ride_alloc ?_ _ | refine ride_drew ?_ | refine below_drewN ?_ _ | refine ride_call (by assumption) ?_)))).mono ?_); rintro e w4 ⟨rfl, hb4⟩)
                refine ⟨openS_ser hlt HAT.out HO.out HS1.out HNB.out (step_no HEL.out.symm HGN.out (by rw [HNX.out, Bool.and_false])) HPS.out (HY.out.below (by repeat (with_reducible (first | exact Below.refl _ _ | assumption | refine ride_alloc ?_ _ | refine ride_drew ?_ | refine below_drewN ?_ _ | refine ride_call (by assumption) ?_)))) hpl hmx HPW.out (HYB.out.trans ((show Below Y.heap.size Y w4 from (by repeat (with_reducible (first | exact Below.refl _ _ | assumption | refine ride_alloc ?_ _ | refine ride_drew ?_ | refine below_drewN ?_ _ | refine ride_call (by assumption) ?_)))).mono HYB.out.size)) _ rfl, ?_⟩
                simp [intOf]
                omega
              · have HBE := Lib.hid (fun x (hx : Below Y.heap.size Y x) => by
                  have h := bel_any x gr gs gen (max o.ser (serOf s)) F K 0 0 pv (.slice none 0 0) ps ((HY.out.below hx).st) ((HY.out.below hx).pages) (by omega) (genOf s) (serOf s) (numbOf s) (kinOf s) A3 n3 c3 (dataOf s) (HMY.out.bytes.along hx)
                  rw [show nextIs gen ps (genOf s) (numbOf s) (kinOf s) (dataOf s) = true from (nextIs_pgs gen ps (pgOf s)).trans (by rw [HPS.out]; exact hnx)] at h
                  exact h)
                have HNX := Lib.hid hnx
                clear hnx
                obtain ⟨i0, hi0, hz0, hz1, hz2⟩ := info_parts infoPage
                have HI := Lib.hid hi0
                have H0 := Lib.hid hz0
                have H1 := Lib.hid hz1
                have H2 := Lib.hid hz2
                clear hi0 hz0 hz1 hz2
                obtain ⟨Ap, cp, rfl⟩ := HY.out.pages.form
                obtain ⟨np, hnp⟩ : ∃ np, np = ps.length := ⟨_, rfl⟩
                have hnpl : np ≤ k := by omega
                rw [← hnp] at HY
                have HNP := Lib.hid hnp
                clear hnp
                go_wp2_with (go_at_call 46; (with_reducible refine (HBE.out _ (by repeat (with_reducible (first | exact Below.refl _ _ | assumption | refine ride_alloc ?_ _ | refine ride_drew ?_ | refine below_drewN ?_ _ | refine ride_call (by assumption) ?_)))).mono ?_); rintro e w4 ⟨rfl, hb4⟩; go_loud (
                  have hz : Below Y.heap.size Y w4 := (by repeat (with_reducible (first | exact Below.refl _ _ | assumption | refine ride_alloc ?_ _ | refine ride_drew ?_ | refine below_drewN ?_ _ | refine ride_call (by assumption) ?_)));
                  have HZ4 := Lib.hid hz;
                  have HR4 := Lib.hid (HY.out.below hz);
                  obtain ⟨y0, y1, y2, y3, y4⟩ := cell5 ((hz.block w3.heap.size (by rw [HYS.out]; omega)).trans HX3.out);
                  have c5 : w4.cell? ⟨gr, 5, none⟩ = some (.slice Ap np cp) := by unfold World.cell?; rw [HR4.out.st]; rfl;
                  have f5 : w4.frozen? ⟨gr, 5, none⟩ = false := frozen_of_row w4 gr _ _ _ HR4.out.st;
                  clear hz hb4))
                have hgr4 : gr < w4.heap.size := lt_of_heap HR4.out.st
                have HR5 : Hid (Reel w4 gr gs gen (max o.ser (serOf s)) F K (.slice Ap np cp) ps 0 0) := HR4
                have HPO : Hid (POk Y ⟨genOf s, serOf s, numbOf s, kinOf s, A3, n3, c3, dataOf s⟩) := Lib.hid (by
                  have hsec : IsSec s := applied_sec HD.out.sec (fun p hp => (HD.out.wri p hp).2) s (List.mem_of_getElem? (HX.out.2 k s HS1.out).1)
                  obtain ⟨_, _, q2, q3, q4, q5, q6, _⟩ := parts_page hsec.2 HEL.out.symm
                  exact ⟨HMY.out, q3, q4, q5, q6, q2⟩)
                have HD4 : Hid (4 ≤ (dataOf s).length) := Lib.hid (nextP_len (q := pgOf s) HNX.out)
                have HBX0 : w3.heap.size < w4.heap.size ∧ w4.heap[w3.heap.size]? = some (.cells #[.int .u32 (genOf s : Int), .int .u32 (serOf s : Int), .int .u32 (numbOf s : Int), .int .u8 (kinOf s : Int), .slice A3 n3 c3] 85 (0, 0)) := by
                  have h1 := (HZ4.out.block w3.heap.size (by rw [HYS.out]; omega)).trans HX3.out
                  exact ⟨lt_of_heap h1, h1⟩
                have HBXH := Lib.hid HBX0
                clear HBX0
                have HPL3 : Hid (∀ j, (Value.slice Ap np cp).ownBlock = some j → j < w3.heap.size) := Lib.hid (fun j e => Nat.lt_of_lt_of_le (HPL.out j (by rw [← HNP.out]; exact e)) HB3.out.size)
                have HPW3 : Hid (∀ j, (Value.slice Ap np cp).ownBlock = some j → w.heap.size ≤ j) := Lib.hid (fun j e => HPW.out j (by rw [← HNP.out]; exact e))
                have HOW4 : Hid (w4.ownsRow 0 85 5 (.slice Ap np cp) np (pcells ps)) := Lib.hid (by rw [HNP.out]; rw [HNP.out] at HR4; exact HR4.out.pages.own)
                have HNE : Hid (some gr ≠ (Value.slice Ap np cp).ownBlock) := Lib.hid (fun e => own_ne HOW4.out HR4.out.st (by decide) e.symm)
                have HC5 := Lib.hid c5
                have HF5 := Lib.hid f5
                clear x0 x1 x2 x3 x4
                go_region_law ((refine step_append_lies _ (by rfl) _ _ _ (by rfl) 0 85 i0 _ 5 40 Try.underlying81 HI.out H0.out H1.out H2.out (by rfl) (by omega) (.slice Ap np cp) np (pcells ps) (by rfl) (ownsRow_below HOW4.out (by repeat (with_reducible (first | exact Below.refl _ _ | refine ride_alloc ?_ _ | refine ride_drew ?_ | refine below_drewN ?_ _)))) _ 1 1 [.int .u32 (genOf s : Int), .int .u32 (serOf s : Int), .int .u32 (numbOf s : Int), .int .u8 (kinOf s : Int), .slice A3 n3 c3] (by rfl) (by rfl) (by first | exact World.news_of_block (Go.heap_alloc_new _ _) | exact World.news_of_block (new_drew _ _ _ rfl) | exact World.news_of_block (new_drew _ _ _ (by simp))) (by intro u hu; simp at hu; rcases hu with rfl | rfl | rfl | rfl | rfl <;> rfl) (by omega) (by unfold maxLen; omega) (by omega) (Nat.zero_le _) _ rfl ?_; intro gg cap w5 hown5 hg5 hat5 hlt5; have hc5 := (hg5.cell_far ⟨gr, 5, none⟩ (Nat.lt_of_lt_of_le hgr4 (Below.size (show Below w4.heap.size w4 _ from (by repeat (with_reducible (first | exact Below.refl _ _ | refine ride_alloc ?_ _ | refine ride_drew ?_ | refine below_drewN ?_ _)))))) HNE.out).trans ((Below.cell (show Below w4.heap.size w4 _ from (by repeat (with_reducible (first | exact Below.refl _ _ | refine ride_alloc ?_ _ | refine ride_drew ?_ | refine below_drewN ?_ _)))) (p := ⟨gr, 5, none⟩) hgr4).trans HC5.out); have hf5 := (hg5.frozen_far ⟨gr, 5, none⟩ (Nat.lt_of_lt_of_le hgr4 (Below.size (show Below w4.heap.size w4 _ from (by repeat (with_reducible (first | exact Below.refl _ _ | refine ride_alloc ?_ _ | refine ride_drew ?_ | refine below_drewN ?_ _)))))) HNE.out).trans ((Below.frozen (show Below w4.heap.size w4 _ from (by repeat (with_reducible (first | exact Below.refl _ _ | refine ride_alloc ?_ _ | refine ride_drew ?_ | refine below_drewN ?_ _)))) (p := ⟨gr, 5, none⟩) hgr4).trans HF5.out)))
                all_goals
                  obtain ⟨x, hgx, hxb, hatx⟩ : ∃ x, World.grownBy x w5 (Value.slice Ap np cp).ownBlock ∧ Below w4.heap.size w4 x ∧ ((Value.slice Ap np cp).ownBlock = some gg ∨ gg = x.heap.size) := ⟨_, hg5, (by repeat (with_reducible (first | exact Below.refl _ _ | refine ride_alloc ?_ _ | refine ride_drew ?_ | refine below_drewN ?_ _))), hat5⟩
                  have hRn := Reel.grow (p := ⟨genOf s, serOf s, numbOf s, kinOf s, A3, n3, c3, dataOf s⟩) HR5.out hxb hgx (by rw [← HNP.out]; exact hown5) (HPO.out.below (HZ4.out)) HD4.out
                  have hZb : Below w.heap.size w (w5.setCell ⟨gr, 5, none⟩ (.slice (some ⟨gg, 0, none⟩) (np + 1) cap)) := by
                    have h1 := HYB.out.trans (HZ4.out.mono HYB.out.size)
                    have h2 := h1.trans (hxb.mono h1.size)
                    exact (h2.grown hgx h2.size (fun j e => HPW3.out j e)).setCell (p := ⟨gr, 5, none⟩) hgw _
                  have hpw5 : ∀ j, (Value.slice (some ⟨gg, 0, none⟩) (np + 1) cap).ownBlock = some j → w.heap.size ≤ j := fun j e => by
                    have e1 : gg = j := by simpa [Value.ownBlock] using e
                    subst e1
                    rcases hatx with h | h
                    · exact HPW3.out _ h
                    · rw [h]
                      have h1 := HYB.out.trans (HZ4.out.mono HYB.out.size)
                      exact (h1.trans (hxb.mono h1.size)).size
                  have hbx := (heap_setCell_other w5 ⟨gr, 5, none⟩ w3.heap.size (.slice (some ⟨gg, 0, none⟩) (np + 1) cap) (show w3.heap.size ≠ gr by omega)).trans ((hgx.block w3.heap.size (Nat.lt_of_lt_of_le HBXH.out.1 hxb.size) (fun e => by have := HPL3.out _ e.symm; omega)).trans ((hxb.block w3.heap.size HBXH.out.1).trans HBXH.out.2))
                  obtain ⟨z0, z1, z2, z3, z4⟩ := cell5 hbx
                  have HRN := Lib.hid hRn
                  have HZB := Lib.hid hZb
                  have HP5 := Lib.hid hpw5
                  clear hxb hRn hZb hpw5 hbx hown5 hg5 hat5 hlt5 hc5 hf5 hgx hatx x
                  clear y0 y1 y2 y3 y4 c5 f5
                  go_wp2_with (go_at_call 47; (with_reducible refine (full_page _ _ _ _ _ _ _ _).mono ?_); rintro e w6 ⟨rfl, hb6⟩)
                  refine ⟨openS_more hlt HAT.out HO.out HS1.out HNB.out (step_yes HEL.out.symm HGN.out HLK.out.symm HNX.out) (by rw [pgs_append, HPS.out]; rfl) (HRN.out.below hb6) (by rw [List.length_append, List.length_singleton]; omega) hmx HP5.out (HZB.out.trans (hb6.mono HZB.out.size)) _ rfl _ (by rw [HMY.out.len]), ?_⟩
                  simp [intOf]
                  omega
          · have hstep : o.step gen s = ⟨o.ser, o.qs, false⟩ := step_gen hgn
            have HSTEP := Lib.hid hstep
            have HGN := Lib.hid hgn
            have g1 : ((genOf s : Int) == (gen : Int)) = false := by rw [beq_eq_false_iff_ne]; omega
            have c1 : wr.cell? ⟨gr, 1, none⟩ = some (.int .u32 (gen : Int)) := by unfold World.cell?; rw [HR.out.st]; rfl
            clear hstep hgn
            cases lk
            · go_wp2_with (go_at_call 45; (with_reducible refine (unhide HRD).mono ?_); rintro e w3 ⟨A3, n3, c3, rfl, hM3, hb3⟩; go_loud (
                have c31 := (hb3.cell (p := ⟨gr, 1, none⟩) hgrl).trans c1;
                have hgr3 := Nat.lt_of_lt_of_le hgrl hb3.size;
                have HB3 := Lib.hid hb3;
                clear hM3 hb3))
              go_quiet (fail)
              go_wp2
              refine ⟨openS_same hlt HAT.out HO.out HS1.out HNB.out HSTEP.out HPS.out HR.out hpl hos HPW.out HB.out (by first | exact below_drewN (HB3.out.alloc HB3.out.size _) nq | exact HB3.out.alloc HB3.out.size _) _ rfl, ?_⟩
              simp [intOf]
              omega
            · go_wp2_with (go_at_call 45; (with_reducible refine (unhide HRD).mono ?_); rintro e w3 ⟨A3, n3, c3, rfl, hM3, hb3⟩; go_loud (
                have c31 := (hb3.cell (p := ⟨gr, 1, none⟩) hgrl).trans c1;
                have hgr3 := Nat.lt_of_lt_of_le hgrl hb3.size;
                have HBE := Lib.hid (fun x (hx : Below w3.heap.size w3 x) => bel_gen x gr gs gen o.ser F K 0 0 pv (.slice none 0 0) ps (((HR.out.below hb3).below hx).st) (((HR.out.below hb3).below hx).pages) (by omega) (genOf s) (serOf s) (numbOf s) (kinOf s) A3 n3 c3 HGN.out);
                have HB3 := Lib.hid hb3;
                clear hM3 hb3))
              go_quiet (fail)
              go_wp2_with (go_at_call 46; (with_reducible refine (HBE.out _ (by repeat (with_reducible (first | exact Below.refl _ _ | assumption | refine ride_alloc ?_ _ | refine ride_drew ?_ | refine below_drewN ?_ _ | refine ride_call (by assumption) ?_)))).mono ?_); rintro e w4 ⟨rfl, hb4⟩)
              refine ⟨openS_same hlt HAT.out HO.out HS1.out HNB.out HSTEP.out HPS.out HR.out hpl hos HPW.out HB.out ?_ _ rfl, ?_⟩
              · have hz : Below w3.heap.size w3 w4 := (by repeat (with_reducible (first | exact Below.refl _ _ | assumption | refine ride_alloc ?_ _ | refine ride_drew ?_ | refine below_drewN ?_ _ | refine ride_call (by assumption) ?_)))
                exact HB3.out.trans (hz.mono HB3.out.size)
              · simp [intOf]
                omega
        · have hstep : o.step gen s = ⟨o.ser, o.qs, false⟩ := step_err (by rw [← HEL.out]; exact he0)
          have HSTEP := Lib.hid hstep
          clear hstep
          have e1 : ((el : Int) == 0) = false := by rw [beq_eq_false_iff_ne]; omega
          have e3 : ¬ (el : Int) = 0 := by omega
          have e1' : ((el : Int) != 0) = true := by simp; omega
          cases lk
          · go_wp2_with (go_at_call 45; (with_reducible refine (unhide HRD).mono ?_); rintro e w3 ⟨A3, n3, c3, rfl, hM3, hb3⟩; go_loud (
              have HB3 := Lib.hid hb3;
              clear hM3 hb3))
            go_quiet (fail)
            go_wp2
            refine ⟨openS_same hlt HAT.out HO.out HS1.out HNB.out HSTEP.out HPS.out HR.out hpl hos HPW.out HB.out (by first | exact below_drewN (HB3.out.alloc HB3.out.size _) nq | exact HB3.out.alloc HB3.out.size _) _ rfl, ?_⟩
            simp [intOf]
            omega
          · have h3 : el = 3 := by
              apply Classical.byContradiction
              intro h3
              exact HBAD.out ⟨rfl, he0, h3⟩
            subst h3
            rw [show ((3 : Nat) : Int) = 3 from rfl] at HRD
            clear e1 e3 e1'
            go_wp2_with (go_at_call 45; (with_reducible refine (unhide HRD).mono ?_); rintro e w3 ⟨A3, n3, c3, rfl, hM3, hb3⟩; go_loud (
              have HB3 := Lib.hid hb3;
              clear hM3 hb3))
            go_quiet (fail)
            go_wp2
            refine ⟨openS_same hlt HAT.out HO.out HS1.out HNB.out HSTEP.out HPS.out HR.out hpl hos HPW.out HB.out (by first | exact below_drewN (HB3.out.alloc HB3.out.size _) nq | exact HB3.out.alloc HB3.out.size _) _ rfl, ?_⟩
            simp [intOf]
            omega
    · obtain rfl : k = K := by omega
      have hlt2 : ¬ (at_ : Int) < (F : Int) + (k : Int) := by omega
      clear hat
      have hend := open_end HO.out (by rw [HX.out.1]; exact Nat.le_refl _)
      obtain ⟨m, hm⟩ : ∃ m : Nat, m = (o.ser + 1) % 4294967296 := ⟨_, rfl⟩
      have hmi : ((o.ser : Int) + 1) % 4294967296 = (m : Int) := by omega
      have c2 : wr.cell? ⟨gr, 2, none⟩ = some (.int .u32 (o.ser : Int)) := by unfold World.cell?; rw [HR.out.st]; rfl
      have f2 : wr.frozen? ⟨gr, 2, none⟩ = false := frozen_of_row wr gr _ _ _ HR.out.st
      have hR1 := HR.out.set_ser m
      have HROW := hide (row_any _ gr gs gen m F k 0 0 pv (.slice none 0 0) ps hR1.st hR1.pages hR1.long (by omega))
      have HR1 := Lib.hid hR1
      have HEND := Lib.hid hend
      have HM := Lib.hid hm
      have hrl : (rowOf ps).length ≤ 1048576 := by
        have h1 := rowOf_le ps (fun p hp => (HR.out.pages.ok p hp).few)
        omega
      clear hend hm hR1
      go_wp2_with (first
        | (go_at_call 48; (with_reducible refine (unhide HROW).mono ?_); rintro e w7 ⟨A7, n7, c7, rfl, hM7, hb7⟩; go_loud (
            have HCU := hide (cut_recs w7 _ _ hM7.bytes hrl);
            have HB7 := Lib.hid hb7;
            clear hM7 hb7))
        | (go_at_call 41; (with_reducible refine (unhide HCU).mono ?_); rintro e w8 ⟨u8, rfl, hR8, hb8⟩; go_loud (
            obtain ⟨A8, c8, rfl⟩ := hR8.len;
            have hb78 := HB7.out.trans (hb8.mono HB7.out.size);
            have hR8' := HR1.out.below hb78;
            have c6 : w8.cell? ⟨gr, 6, none⟩ = some (.int .i64 0) := by unfold World.cell?; rw [hR8'.st]; rfl;
            have f6 : w8.frozen? ⟨gr, 6, none⟩ = false := frozen_of_row w8 gr _ _ _ hR8'.st;
            have c7' : w8.cell? ⟨gr, 7, none⟩ = some (.int .i64 0) := by unfold World.cell?; rw [hR8'.st]; rfl;
            have f7 : w8.frozen? ⟨gr, 7, none⟩ = false := frozen_of_row w8 gr _ _ _ hR8'.st;
            have HR8 := Lib.hid hR8';
            have HB8 := Lib.hid hb78;
            clear hR8 hR8' hb8 hb78)))
      go_ret3
      refine ⟨?_, ?_⟩
      · have h1 := HB.out.setCell (p := ⟨gr, 2, none⟩) hgw (.int .u32 (m : Int))
        have h2 := h1.trans (HB8.out.mono h1.size)
        exact (h2.setCell (p := ⟨gr, 7, none⟩) hgw _).setCell (p := ⟨gr, 6, none⟩) hgw _
      · rw [HEND.out]
        refine ⟨gr, pv, ps, rfl, hgw, HPS.out, ?_⟩
        have h1 := HR8.out.set_two (layR (cutL (rowOf ps))).length (cutL (rowOf ps)).length
        rw [rowOf_pgs, HPS.out, HM.out] at h1
        rw [← HPS.out, ← rowOf_pgs] at h1 ⊢
        exact ⟨h1, HPW.out, hpl⟩
end Go.Proofs.Ytalpippeelomjaa
