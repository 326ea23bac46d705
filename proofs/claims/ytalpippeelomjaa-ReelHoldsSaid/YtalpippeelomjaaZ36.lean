/- LRecs, LLog: joined by program (tools/merge.py). -/
import Derived.Test.YtalpippeelomjaaZ33
import Derived.Deep.RegionHeld3
import Derived.Test.YtalpippeelomjaaZ35
import Derived.Test.YtalpippeelomjaaZ25
namespace Go.Proofs.Ytalpippeelomjaa
open Go.RowKit Go.Shelf
set_option linter.unusedSimpArgs false
set_option linter.unusedVariables false
theorem Mine.cut {w : World} {base m c k : Nat} {A : Option Addr} {l : List Nat} (h : Mine w base A m c l) (hk : k ≤ m) : Mine w base A k c (l.take k) := by
  have hl : (l.take k).length = k := by rw [List.length_take]; have := h.len; omega
  refine ⟨?_, hl.symm, fun b hb => h.small b (List.mem_of_mem_take hb)⟩
  have h2 := own_cut h.own hk
  rw [Nat.mul_one, ← byt_take] at h2
  exact h2
/-- Rows of bytes are handed back. -/
def RecsR (w : World) (ls : List (List Nat)) (e : Ending) (w' : World) : Prop := ∃ u, e = .returned u ∧ Rows2 w' w.heap.size w'.heap.size u ls ∧ Below w.heap.size w w'
set_option maxRecDepth 100000 in
set_option maxHeartbeats 4000000 in
theorem records_any {w : World} {gr gs gen ser first secs size count k : Nat} {pv rv : Value} {ps : List PV} (h : ReelW w gr gs gen ser first secs pv ps size count rv k) (hl : ps.length ≤ 2048) (hsz : size ≤ (rowOf ps).length) :
    Calls Try.prog 15 #[.pointer (some ⟨gr, 0, none⟩)] w (RecsR w (cutL ((rowOf ps).take size))) := by
  have c6 : w.cell? ⟨gr, 6, none⟩ = some (.int .i64 (size : Int)) := by unfold World.cell?; rw [h.st]; rfl
  have hgl := lt_of_heap h.st
  have hpl : size ≤ 1048576 := by
    have h1 := rowOf_le ps (fun p hp => (h.pages.ok p hp).few)
    omega
  have HC : Hid (∀ x, Below w.heap.size w x → x.cell? ⟨gr, 6, none⟩ = some (.int .i64 (size : Int))) := Lib.hid fun x hx => (hx.cell (p := ⟨gr, 6, none⟩) hgl).trans c6
  have HROW : Hid (∀ y, Below w.heap.size w y → Calls Try.prog 48 #[.pointer (some ⟨gr, 0, none⟩)] y fun e w' => ∃ A n c, e = .returned (.slice A n c) ∧ Mine w' y.heap.size A n c (rowOf ps) ∧ Below y.heap.size y w') :=
    Lib.hid fun y hy => row_any y gr gs gen ser first secs size count pv rv ps (h.below hy).st (h.below hy).pages h.long hl
  have HLT : Hid (((rowOf ps).take size).length ≤ 1048576) := Lib.hid (by rw [List.length_take]; omega)
  have hs0 : (0 : Int) ≤ (size : Int) := by omega
  clear h
  go_enter Try.func15, Try.ntmps15
  go_wp2_with fail
  go_region_held3 (fun x => Below w.heap.size w x ∧ x.cell? ⟨gr, 6, none⟩ = some (.int .i64 (size : Int)))
    ((refine (fun h => ⟨h, HC.out _ h⟩) ?_; repeat (with_reducible (first | exact Below.refl _ _ | assumption | refine ride_alloc ?_ _ | refine ride_drew ?_ | refine below_drewN ?_ _ | refine ride_call (by assumption) ?_))))
    (first
      | (go_at_call 48; (with_reducible refine (HROW.out _ (by repeat (with_reducible (first | exact Below.refl _ _ | assumption | refine ride_alloc ?_ _ | refine ride_drew ?_ | refine below_drewN ?_ _ | refine ride_call (by assumption) ?_)))).mono ?_); rintro e w1 ⟨A1, n1, k1, rfl, hM1, hb1⟩; have hk1 : size ≤ n1 ∧ n1 ≤ k1 := ⟨by rw [hM1.len]; exact hsz, mine_cap hM1⟩; have HM1 := Lib.hid (hM1.cut hk1.1); have hk3 : (size : Int) ≤ (k1 : Int) := (by have := hk1.1; have := hk1.2; omega); have hk4 : size ≤ k1 := (by have := hk1.1; have := hk1.2; omega); clear hM1 hk1)
      | (go_at_call 41; (with_reducible refine (cut_recs _ _ ((rowOf ps).take size) (HM1.out.bytes.along (by repeat (with_reducible (first | exact Below.refl _ _ | assumption | refine ride_alloc ?_ _ | refine ride_drew ?_ | refine below_drewN ?_ _ | refine ride_call (by assumption) ?_)))) HLT.out).mono ?_); rintro e w2 ⟨u2, rfl, hR2, hb2⟩))
  rename_i hHeld
  have HH := Lib.hid hHeld
  have HR2 := Lib.hid (hR2.lower (base' := w.heap.size) (by have := hb1.size; simp at this; omega))
  clear hHeld hR2
  go_wp2
  go_ret
  exact ⟨u2, rfl, HR2.out, HH.out.1⟩
end Go.Proofs.Ytalpippeelomjaa
namespace Go.Proofs.Ytalpippeelomjaa
open Go.RowKit
set_option linter.unusedSimpArgs false
set_option linter.unusedVariables false
/-- A block of another type than those of a disk and a log. -/
def NoLog (o : Obj) : Prop := ∀ (cs : Array Value) (t : TypeId), o = .cells cs t (0, 0) → t ≠ 95 ∧ t ≠ 92 ∧ t ≠ 97 ∧ t ≠ 3 ∧ t ≠ 84 ∧ t ≠ 85
structure Kept (base : Nat) (w w' : World) : Prop where
  below : Below base w w'
  ty : ∀ (j : Nat) (o : Obj), w.heap[j]? = some o → NoLog o → w'.heap[j]? = some o
theorem Kept.refl (base : Nat) (w : World) : Kept base w w := ⟨Below.refl _ _, fun _ _ h _ => h⟩
theorem Kept.trans {base : Nat} {a b c : World} (h : Kept base a b) (k : Kept base b c) : Kept base a c := ⟨h.below.trans k.below, fun j o h1 h2 => k.ty j o (h.ty j o h1 h2) h2⟩
theorem Kept.of_below {base : Nat} {w w' : World} (h : Below w.heap.size w w') (hb : base ≤ w.heap.size) : Kept base w w' := ⟨h.mono hb, fun j o h1 _ => (h.block j (lt_of_heap h1)).trans h1⟩
theorem noLog_of {cs : Array Value} {t : TypeId} {fr : Nat × Nat} (h1 : t ≠ 95) (h2 : t ≠ 92) (h3 : t ≠ 97) (h4 : t ≠ 3) (h5 : t ≠ 84) (h6 : t ≠ 85) : NoLog (.cells cs t fr) := fun cs' t' e => by
  injection e with _ e _
  subst e
  exact ⟨h1, h2, h3, h4, h5, h6⟩
theorem noLog_bytes {cs : Array Value} {fr : Nat × Nat} : NoLog (.cells cs 5 fr) := noLog_of (by decide) (by decide) (by decide) (by decide) (by decide) (by decide)
theorem noLog_rows {cs : Array Value} {fr : Nat × Nat} : NoLog (.cells cs 43 fr) := noLog_of (by decide) (by decide) (by decide) (by decide) (by decide) (by decide)
structure LogS (w : World) (base gs gr gen ser first secs N : Nat) (recs dur : List (List Nat)) (pend : List (Nat × List Nat)) (b : DB) (pv : Value) (ps : List PV) (nw : Int) : Prop where
  disk : Disk w gs b dur pend nw (-1)
  reel : Reel w gr gs gen ser first secs pv ps (layR recs).length recs.length
  clean : Clean gen ser (((applied pend dur).drop first).take secs) (pgs ps) recs
  hs : first + secs ≤ dur.length
  h2 : secs ≤ 2048
  hg : gen < 4294967296
  hr : ser < 4294967296
  hp : pend.length ≤ N
  hn : 0 ≤ nw ∧ nw ≤ (N : Int)
  o1 : base ≤ gs
  o2 : base ≤ gr
  o3 : base ≤ b.gd
  o4 : base ≤ b.gl
  o5 : ∀ g, b.pv.ownBlock = some g → base ≤ g
  o6 : ∀ g, pv.ownBlock = some g → base ≤ g
  hb : base ≤ w.heap.size
def Log (w : World) (base gs gr gen ser first secs N : Nat) (recs dur : List (List Nat)) (pend : List (Nat × List Nat)) : Prop := ∃ (b : DB) (pv : Value) (ps : List PV) (nw : Int), LogS w base gs gr gen ser first secs N recs dur pend b pv ps nw
section
variable {w : World} {base gs gr gen ser first secs N : Nat} {recs dur : List (List Nat)} {pend : List (Nat × List Nat)} {b : DB} {pv : Value} {ps : List PV} {nw : Int}
theorem LogS.below {w' : World} (h : LogS w base gs gr gen ser first secs N recs dur pend b pv ps nw) (hb : Below w.heap.size w w') : LogS w' base gs gr gen ser first secs N recs dur pend b pv ps nw :=
  ⟨h.disk.below hb, h.reel.below hb, h.clean, h.hs, h.h2, h.hg, h.hr, h.hp, h.hn, h.o1, h.o2, h.o3, h.o4, h.o5, h.o6, Nat.le_trans h.hb hb.size⟩
theorem Log.below {w' : World} (h : Log w base gs gr gen ser first secs N recs dur pend) (hb : Below w.heap.size w w') : Log w' base gs gr gen ser first secs N recs dur pend := by
  obtain ⟨b, pv, ps, nw, h⟩ := h
  exact ⟨b, pv, ps, nw, h.below hb⟩
theorem LogS.view (h : LogS w base gs gr gen ser first secs N recs dur pend b pv ps nw) : (((applied pend dur).drop first).take secs).length = secs := by
  have := h.hs
  rw [List.length_take, List.length_drop, applied_length]
  omega
theorem LogS.size_le (h : LogS w base gs gr gen ser first secs N recs dur pend b pv ps nw) : (layR recs).length ≤ secs * 487 := by
  have h1 := h.clean.few
  have h2 := h.clean.room
  rw [h.view] at h2
  unfold chunkM at h1
  omega
theorem LogS.pages_le (h : LogS w base gs gr gen ser first secs N recs dur pend b pv ps nw) : ps.length ≤ secs := by
  have h2 := h.clean.room
  rw [h.view, pgs_length] at h2
  exact h2
theorem LogS.count_le (h : LogS w base gs gr gen ser first secs N recs dur pend b pv ps nw) : recs.length ≤ 1000000 := by
  have h1 := layR_count recs
  have h2 := h.size_le
  have h3 := h.h2
  omega
theorem LogS.row (h : LogS w base gs gr gen ser first secs N recs dur pend b pv ps nw) : rowOf ps = layR recs := by rw [rowOf_pgs, h.clean.row]
theorem rec1_le {p : List Nat} (h : p.length ≤ 65536) : (rec1 p).length ≤ 65541 := by
  have h1 := num_length_le 2 p.length (by omega)
  unfold rec1
  rw [List.length_append]
  omega
/-- What an Append that fits leaves. -/
def LogAp (w : World) (base gs gr gen ser first secs N : Nat) (recs dur : List (List Nat)) (pend : List (Nat × List Nat)) (p : List Nat) (e : Ending) (w' : World) : Prop :=
  e = .returned (.int .i64 0) ∧ (∃ pend', Log w' base gs gr gen ser first secs (N + 2048) (recs ++ [p]) dur (pend ++ pend')) ∧ Kept base w w'
theorem append_log (h : Log w base gs gr gen ser first secs N recs dur pend) (hN : N ≤ 900000) (A : Option Addr) (n c : Nat) (p : List Nat) (hp : Bytes w w.heap.size (.slice A n c) p) (hn : n ≤ 65536) (hfit : (rec1 p).length + (layR recs).length ≤ secs * 487) :
    Calls Try.prog 20 #[.pointer (some ⟨gr, 0, none⟩), .slice A n c] w (LogAp w base gs gr gen ser first secs N recs dur pend p) := by
  obtain ⟨b, pv, ps, nw, h⟩ := h
  have hpl : p.length ≤ 65536 := by
    obtain ⟨⟨_, _, hv, _⟩, _, _⟩ := hp
    injection hv with _ h1 _
    omega
  have h1 := h.size_le
  have h2 := h.h2
  have h3 := h.pages_le
  have hcf := h.clean.few
  rw [pgs_length] at hcf
  have hr1 := rec1_pos p
  have hin : (layR recs).length % 487 ≠ 0 → ∃ q, ps[(layR recs).length / 487]? = some q ∧ 4 + (layR recs).length % 487 ≤ q.data.length := fun hne => by
    have hlt : (layR recs).length / 487 < ps.length := by rw [hcf]; unfold chunkM; omega
    refine ⟨ps[(layR recs).length / 487], List.getElem?_eq_getElem hlt, ?_⟩
    have hq : (pgs ps)[(layR recs).length / 487]? = some (ps[(layR recs).length / 487]).pg := by unfold pgs; rw [List.getElem?_map, List.getElem?_eq_getElem hlt]; rfl
    have h4 := congrArg List.length (h.clean.at_ _ _ hq).2.2.2.2.1
    rw [List.length_append, be4_length] at h4
    unfold partK at h4
    rw [List.length_take, List.length_drop] at h4
    have h5 : (ps[(layR recs).length / 487]).pg.data = (ps[(layR recs).length / 487]).data := rfl
    rw [h5] at h4
    omega
  refine (append_any h.reel h2 h1 A n c p hp hn hfit (by rw [hcf]; unfold chunkM; omega) (by omega) h.hg h.hr hin (rec1_le hpl) (fun e => by rw [e] at hr1; simp at hr1) h.clean.nums h.disk ⟨h.hn.1, by have := h.hn.2; omega⟩ (by have := h.hp; omega) h.hs h.count_le).mono ?_
  rintro e w' ⟨he, b2, pv2, ps2, e1, e2, e3, e4, e5, e6, e7, e8, e9⟩
  obtain ⟨k1, k2, k3, k4⟩ := clean_append (D := applied pend dur) h.clean (by rw [applied_length]; exact h.hs) p hpl hp.small hfit
  have hwl : (wrsF first (pgs ps) (newsA gen ser (pgs ps) (layR recs).length p)).length ≤ 2048 := by
    have h6 : (wrsF first (pgs ps) (newsA gen ser (pgs ps) (layR recs).length p)).length ≤ (newsA gen ser (pgs ps) (layR recs).length p).length := by
      unfold wrsF
      rw [List.length_map]
      exact List.length_filter_le _ _
    omega
  have happ : ∀ W, applied (pend ++ W) dur = applied W (applied pend dur) := fun W => by unfold applied; rw [List.foldl_append]
  have hsize : base ≤ w'.heap.size := Nat.le_trans h.hb e4.size
  refine ⟨he, ⟨_, b2, pv2, ps2, _, e2, ?_, ?_, h.hs, h.h2, h.hg, h.hr, ?_, ?_, h.o1, h.o2, ?_, ?_, ?_, ?_, hsize⟩, ⟨⟨e4.os, e4.tape, e4.output, e4.size, fun k hk => e4.block k (Nat.lt_of_lt_of_le hk h.hb) ?_⟩, fun j o hj hno => (e4.block j (lt_of_heap hj) ?_).trans hj⟩⟩
  · rw [layR_snoc, List.length_append, List.length_append]
    exact e3
  · rw [happ, e1]
    exact k1
  · rw [List.length_append]; have := h.hp; omega
  · have := h.hn; omega
  · rw [e5]; exact h.o3
  · rw [e7]; exact h.o4
  · intro g hg
    rcases e8 with e8 | ⟨g', e8, e8'⟩
    · rw [e8] at hg; exact h.o5 g hg
    · rw [e8] at hg; injection hg with hg; have := h.hb; omega
  · intro g hg
    rcases e9 with e9 | ⟨g', e9, e9'⟩
    · rw [e9] at hg; exact h.o6 g hg
    · rw [e9] at hg; injection hg with hg; have := h.hb; omega
  · have o1 := h.o1
    have o2 := h.o2
    have o4 := h.o4
    rintro (e | e | e | e | e)
    · omega
    · omega
    · omega
    · have := h.o5 k e.symm; omega
    · have := h.o6 k e.symm; omega
  · have hne : ∀ (cs' : Array Value) (t' : TypeId), w.heap[j]? = some (.cells cs' t' (0, 0)) → t' ≠ 95 ∧ t' ≠ 92 ∧ t' ≠ 97 ∧ t' ≠ 3 ∧ t' ≠ 84 ∧ t' ≠ 85 := fun cs' t' h' => by
      rw [hj] at h'
      injection h' with h'
      exact hno cs' t' h'
    rintro (e | e | e | e | e)
    · exact (hne _ _ (e ▸ h.disk.st)).1 rfl
    · exact (hne _ _ (e ▸ h.reel.st)).2.2.2.2.1 rfl
    · obtain ⟨cs', h'⟩ := row_heap h.disk.la (k := j) (by rw [e]; rfl)
      exact (hne _ _ h').2.2.2.1 rfl
    · obtain ⟨cs', h'⟩ := row_heap h.disk.pe e.symm
      exact (hne _ _ h').2.2.1 rfl
    · obtain ⟨cs', h'⟩ := row_heap h.reel.pages.own e.symm
      exact (hne _ _ h').2.2.2.2.2 rfl
/-- What Sync leaves. -/
theorem sync_log (h : Log w base gs gr gen ser first secs N recs dur pend) :
    Calls Try.prog 13 #[.pointer (some ⟨gr, 0, none⟩)] w fun e w' => e = .returned (.int .i64 0) ∧ Log w' base gs gr gen ser first secs N recs (applied pend dur) [] ∧ Kept base w w' := by
  obtain ⟨b, pv, ps, nw, h⟩ := h
  refine (rsync_any h.reel.w h.disk (by decide) (by decide)).mono ?_
  rintro e w' ⟨he, hD, hO⟩
  have hty : ∀ (j : Nat) (cs : Array Value) (t : TypeId), w.heap[j]? = some (.cells cs t (0, 0)) → t ≠ 95 → t ≠ 92 → t ≠ 3 → w'.heap[j]? = some (.cells cs t (0, 0)) := fun j cs t hj t1 t2 t3 => (hO.block j (lt_of_heap hj) (by
    have hne : ∀ (cs' : Array Value) (t' : TypeId), w.heap[j]? = some (.cells cs' t' (0, 0)) → t = t' := fun cs' t' h' => by
      rw [hj] at h'
      injection h' with h'
      injection h' with _ h' _
    rintro (e | e | e)
    · exact t1 (hne _ _ (e ▸ h.disk.st))
    · obtain ⟨cs', h'⟩ := row_heap h.disk.du (k := j) (by rw [e]; rfl)
      exact t2 (hne _ _ h')
    · obtain ⟨cs', h'⟩ := row_heap h.disk.la (k := j) (by rw [e]; rfl)
      exact t3 (hne _ _ h'))).trans hj
  have hRw := h.reel.w.kty fun j cs t hj ht => hty j cs t hj (by rcases ht with rfl | rfl | rfl | rfl <;> decide) (by rcases ht with rfl | rfl | rfl | rfl <;> decide) (by rcases ht with rfl | rfl | rfl | rfl <;> decide)
  refine ⟨he, ⟨_, pv, ps, nw, hD, ⟨hRw.st, hRw.pages, hRw.long⟩, h.clean, by rw [applied_length]; exact h.hs, h.h2, h.hg, h.hr, Nat.zero_le _, h.hn, h.o1, h.o2, h.o3, h.o4, (fun g e => by cases e), h.o6, Nat.le_trans h.hb hO.size⟩, ⟨⟨hO.os, hO.tape, hO.output, hO.size, fun k hk => hO.block k (Nat.lt_of_lt_of_le hk h.hb) ?_⟩, fun j o hj hno => (hO.block j (lt_of_heap hj) ?_).trans hj⟩⟩
  · have o1 := h.o1
    have o3 := h.o3
    have o4 := h.o4
    rintro (e | e | e) <;> omega
  · have hne : ∀ (cs' : Array Value) (t' : TypeId), w.heap[j]? = some (.cells cs' t' (0, 0)) → t' ≠ 95 ∧ t' ≠ 92 ∧ t' ≠ 97 ∧ t' ≠ 3 ∧ t' ≠ 84 ∧ t' ≠ 85 := fun cs' t' h' => by
      rw [hj] at h'
      injection h' with h'
      exact hno cs' t' h'
    rintro (e | e | e)
    · exact (hne _ _ (e ▸ h.disk.st)).1 rfl
    · obtain ⟨cs', h'⟩ := row_heap h.disk.du (k := j) (by rw [e]; rfl)
      exact (hne _ _ h').2.1 rfl
    · obtain ⟨cs', h'⟩ := row_heap h.disk.la (k := j) (by rw [e]; rfl)
      exact (hne _ _ h').2.2.2.1 rfl
theorem records_log (h : Log w base gs gr gen ser first secs N recs dur pend) : Calls Try.prog 15 #[.pointer (some ⟨gr, 0, none⟩)] w (RecsR w recs) := by
  obtain ⟨b, pv, ps, nw, h⟩ := h
  have hrow := h.row
  have hc := h.clean.fit
  have h1 := records_any h.reel.w (by have := h.pages_le; have := h.h2; omega) (by rw [hrow]; exact Nat.le_refl _)
  rw [hrow, List.take_of_length_le (Nat.le_refl _), cutL_lay hc] at h1
  exact h1
theorem count_log (h : Log w base gs gr gen ser first secs N recs dur pend) : Calls Try.prog 23 #[.pointer (some ⟨gr, 0, none⟩)] w fun e w' => e = .returned (.int .i64 (recs.length : Int)) ∧ w = w' := by
  obtain ⟨b, pv, ps, nw, h⟩ := h
  exact count_any h.reel.w
theorem serial_log (h : Log w base gs gr gen ser first secs N recs dur pend) : Calls Try.prog 34 #[.pointer (some ⟨gr, 0, none⟩)] w fun e w' => e = .returned (.int .u32 (ser : Int)) ∧ w = w' := by
  obtain ⟨b, pv, ps, nw, h⟩ := h
  exact serial_any h.reel.w
theorem size_log (h : Log w base gs gr gen ser first secs N recs dur pend) : Calls Try.prog 24 #[.pointer (some ⟨gr, 0, none⟩)] w fun e w' => e = .returned (.int .i64 ((layR recs).length : Int)) ∧ w = w' := by
  obtain ⟨b, pv, ps, nw, h⟩ := h
  exact size_any h.reel.w
theorem room_log (h : Log w base gs gr gen ser first secs N recs dur pend) : Calls Try.prog 18 #[.pointer (some ⟨gr, 0, none⟩)] w fun e w' => e = .returned (.int .i64 ((secs * 487 - (layR recs).length : Nat) : Int)) ∧ Below w.heap.size w w' := by
  obtain ⟨b, pv, ps, nw, h⟩ := h
  exact room_any h.reel.w (by have := h.h2; omega) h.size_le
/-- What Open makes of a log that lies whole. -/
def LogOp (w : World) (base gs gen ser0 first secs N : Nat) (recs dur : List (List Nat)) (pend : List (Nat × List Nat)) (qs : List Pg) (e : Ending) (w' : World) : Prop :=
  Below w.heap.size w w' ∧ ∃ gr, e = .returned (.tuple #[.pointer (some ⟨gr, 0, none⟩), .int .i64 0, .int .i64 0]) ∧ w.heap.size ≤ gr ∧ Log w' base gs gr gen ((topS ser0 qs + 1) % 4294967296) first secs N recs dur pend
theorem open_log (hD : Disk w gs b dur pend nw (-1)) (h ser0 ser : Nat) (qs : List Pg) (hc : Clean gen ser (((applied pend dur).drop (halfN dur.length h)).take (halfK dur.length h)) qs recs) (hg : gen < 4294967296) (hs : ser < 4294967295) (hs0 : ser0 < 4294967295) (h4 : 4 ≤ dur.length) (hh : h ≤ 1) (hp : pend.length ≤ N) (hn : 0 ≤ nw ∧ nw ≤ (N : Int))
    (o1 : base ≤ gs) (o3 : base ≤ b.gd) (o4 : base ≤ b.gl) (o5 : ∀ g, b.pv.ownBlock = some g → base ≤ g) (hb : base ≤ w.heap.size) :
    Calls Try.prog 12 #[.pointer (some ⟨gs, 0, none⟩), .agg #[.int .u32 (gen : Int), .int .u8 (h : Int), .int .u32 (ser0 : Int)]] w (LogOp w base gs gen ser0 (halfN dur.length h) (halfK dur.length h) N recs dur pend qs) := by
  have hfew := hD.few
  have hK : halfN dur.length h + halfK dur.length h ≤ dur.length ∧ halfK dur.length h ≤ 2048 := by
    unfold halfN halfK
    rw [if_neg (by omega), if_neg (by omega)]
    rcases (show h = 0 ∨ h = 1 by omega) with rfl | rfl <;> omega
  have hXl : (((applied pend dur).drop (halfN dur.length h)).take (halfK dur.length h)).length ≤ 4096 := by rw [List.length_take]; omega
  obtain ⟨lk, ho⟩ := open_clean hc hg (by omega) hXl ser0
  refine (ropen_good hD gen h ser0 hg (by omega) h4 hh _ rfl).mono ?_
  rintro e w' ⟨hB, hm⟩
  rw [ho] at hm
  obtain ⟨gr, pv, ps, e1, e2, e3, e4, e5, e6⟩ := hm
  have e3' : pgs ps = qs := e3
  have hser : topS ser0 qs < 4294967295 := by
    refine Nat.lt_of_le_of_lt (topS_le (m := max ser0 ser) (Nat.le_max_left _ _) fun q hq => ?_) (by omega)
    obtain ⟨i, hi⟩ := List.mem_iff_getElem?.1 hq
    exact Nat.le_trans (hc.at_ i q hi).2.2.2.2.2 (Nat.le_max_right _ _)
  have hrow : rowP qs = layR recs := hc.row
  have e4' : Reel w' gr gs gen ((topS ser0 qs + 1) % 4294967296) (halfN dur.length h) (halfK dur.length h) pv ps (layR recs).length recs.length := by
    have h5 : Reel w' gr gs gen ((topS ser0 qs + 1) % 4294967296) (halfN dur.length h) (halfK dur.length h) pv ps (layR (cutL (rowP qs))).length (cutL (rowP qs)).length := e4
    rw [hrow, cutL_lay hc.fit] at h5
    exact h5
  have hclean : Clean gen ((topS ser0 qs + 1) % 4294967296) (((applied pend dur).drop (halfN dur.length h)).take (halfK dur.length h)) qs recs :=
    ⟨hc.few, hc.room, fun i q hq => by
      obtain ⟨a, b', c, d, f, g⟩ := hc.at_ i q hq
      have := (le_topS (s := ser0) (qs := qs)).2 q (List.mem_of_getElem? hq)
      exact ⟨a, b', c, d, f, by omega⟩, hc.rest, hc.fit, hc.small⟩
  refine ⟨hB, gr, e1, e2, b, pv, ps, nw, hD.below hB, e4', by rw [e3']; exact hclean, hK.1, hK.2, hg, by omega, hp, hn, o1, Nat.le_trans hb e2, o3, o4, o5, fun g hg => Nat.le_trans hb (e5 g hg), Nat.le_trans hb hB.size⟩
end
end Go.Proofs.Ytalpippeelomjaa
