/- LLifeW, LHold: joined by program (tools/merge.py). -/
import Derived.Test.YtalpippeelomjaaZ47
import Derived.Test.YtalpippeelomjaaZ49
import Derived.Test.YtalpippeelomjaaZ45
import Derived.Test.YtalpippeelomjaaZ48
import Derived.Test.YtalpippeelomjaaZ43
import Derived.Test.YtalpippeelomjaaZ42
import Derived.Test.YtalpippeelomjaaZ37
namespace Go.Proofs.Ytalpippeelomjaa
open Go.RowKit Go.Shelf
set_option linter.unusedSimpArgs false
set_option linter.unusedVariables false
structure LifS (w : World) (base gs gr gen ser first secs N : Nat) (recs : List (List Nat)) (k : Nat) (dur : List (List Nat)) (pend : List (Nat × List Nat)) (b : DB) (pv : Value) (ps : List PV) (nw : Int) : Prop where
  disk : Disk w gs b dur pend nw (-1)
  reel : Reel w gr gs gen ser first secs pv ps (layR recs).length recs.length
  sess : Sess gen ser first secs recs (pgs ps) k dur pend
  hs : first + secs ≤ dur.length
  h2 : secs ≤ 2048
  hg : gen < 4294967296
  hr : ser < 4294967296
  hp : pend.length ≤ N
  hn : 0 ≤ nw ∧ nw ≤ (N : Int)
  o1 : base ≤ gs
  o2 : base ≤ gr
  o3 : base ≤ b.gd
  o4 : base ≤ b.gl
  o5 : ∀ g, b.pv.ownBlock = some g → base ≤ g
  o6 : ∀ g, pv.ownBlock = some g → base ≤ g
  hb : base ≤ w.heap.size
/-- What an Append that fits leaves. -/
def LifAp (w : World) (base gs gr gen ser first secs N : Nat) (recs : List (List Nat)) (k : Nat) (dur : List (List Nat)) (p : List Nat) (e : Ending) (w' : World) : Prop :=
  e = .returned (.int .i64 0) ∧ (∃ (pend : List (Nat × List Nat)) (b : DB) (pv : Value) (ps : List PV) (nw : Int), LifS w' base gs gr gen ser first secs (N + 2048) (recs ++ [p]) k dur pend b pv ps nw) ∧ Kept base w w'
section
variable {w : World} {base gs gr gen ser first secs N k : Nat} {recs dur : List (List Nat)} {pend : List (Nat × List Nat)} {b : DB} {pv : Value} {ps : List PV} {nw : Int}
theorem LifS.below {w' : World} (h : LifS w base gs gr gen ser first secs N recs k dur pend b pv ps nw) (hb : Below w.heap.size w w') : LifS w' base gs gr gen ser first secs N recs k dur pend b pv ps nw :=
  ⟨h.disk.below hb, h.reel.below hb, h.sess, h.hs, h.h2, h.hg, h.hr, h.hp, h.hn, h.o1, h.o2, h.o3, h.o4, h.o5, h.o6, Nat.le_trans h.hb hb.size⟩
theorem LifS.more {N' : Nat} (h : LifS w base gs gr gen ser first secs N recs k dur pend b pv ps nw) (hN : N ≤ N') : LifS w base gs gr gen ser first secs N' recs k dur pend b pv ps nw :=
  ⟨h.disk, h.reel, h.sess, h.hs, h.h2, h.hg, h.hr, Nat.le_trans h.hp hN, ⟨h.hn.1, by have := h.hn.2; omega⟩, h.o1, h.o2, h.o3, h.o4, h.o5, h.o6, h.hb⟩
theorem LifS.view (h : LifS w base gs gr gen ser first secs N recs k dur pend b pv ps nw) : (((applied pend dur).drop first).take secs).length = secs := by
  have := h.hs
  rw [List.length_take, List.length_drop, applied_length]
  omega
theorem LifS.pages_le (h : LifS w base gs gr gen ser first secs N recs k dur pend b pv ps nw) : ps.length ≤ secs := by
  obtain ⟨rest, t⟩ := h.sess.tidy
  have h2 := t.room
  rw [h.view, pgs_length] at h2
  exact h2
theorem LifS.size_le (h : LifS w base gs gr gen ser first secs N recs k dur pend b pv ps nw) : (layR recs).length ≤ secs * 487 := by
  obtain ⟨rest, t⟩ := h.sess.tidy
  have h1 := t.few
  have h2 := t.room
  rw [h.view] at h2
  rw [List.length_append] at h1
  unfold chunkM at h1
  omega
theorem LifS.count_le (h : LifS w base gs gr gen ser first secs N recs k dur pend b pv ps nw) : recs.length ≤ 1000000 := by
  have h1 := layR_count recs
  have h2 := h.size_le
  have h3 := h.h2
  omega
theorem append_lif (h : LifS w base gs gr gen ser first secs N recs k dur pend b pv ps nw) (hN : N ≤ 900000) (A : Option Addr) (n c : Nat) (p : List Nat) (hp : Bytes w w.heap.size (.slice A n c) p) (hn : n ≤ 65536) (hfit : (rec1 p).length + (layR recs).length ≤ secs * 487) :
    Calls Try.prog 20 #[.pointer (some ⟨gr, 0, none⟩), .slice A n c] w (LifAp w base gs gr gen ser first secs N recs k dur p) := by
  have hpl : p.length ≤ 65536 := by
    obtain ⟨⟨_, _, hv, _⟩, _, _⟩ := hp
    injection hv with _ h1 _
    omega
  have h1 := h.size_le
  have h2 := h.h2
  have h3 := h.pages_le
  obtain ⟨rest, t⟩ := h.sess.tidy
  have hcf := t.few
  rw [pgs_length, List.length_append] at hcf
  have hr1 := rec1_pos p
  have hin : (layR recs).length % 487 ≠ 0 → ∃ q, ps[(layR recs).length / 487]? = some q ∧ 4 + (layR recs).length % 487 ≤ q.data.length := fun hne => by
    have hlt : (layR recs).length / 487 < ps.length := by rw [hcf]; unfold chunkM; omega
    refine ⟨ps[(layR recs).length / 487], List.getElem?_eq_getElem hlt, ?_⟩
    have hq : (pgs ps)[(layR recs).length / 487]? = some (ps[(layR recs).length / 487]).pg := by unfold pgs; rw [List.getElem?_map, List.getElem?_eq_getElem hlt]; rfl
    have h4 := congrArg List.length (t.at_ _ _ hq).2.2.2.2.1
    rw [List.length_append, be4_length] at h4
    unfold partK at h4
    rw [List.length_take, List.length_drop, List.length_append] at h4
    have h5 : (ps[(layR recs).length / 487]).pg.data = (ps[(layR recs).length / 487]).data := rfl
    rw [h5] at h4
    omega
  refine (append_any h.reel h2 h1 A n c p hp hn hfit (by rw [hcf]; unfold chunkM; omega) (by omega) h.hg h.hr hin (rec1_le hpl) (fun e => by rw [e] at hr1; simp at hr1) t.nums h.disk ⟨h.hn.1, by have := h.hn.2; omega⟩ (by have := h.hp; omega) h.hs h.count_le).mono ?_
  rintro e w' ⟨he, b2, pv2, ps2, e1, e2, e3, e4, e5, e6, e7, e8, e9⟩
  have k1 := sess_append h.hg h.hr (by omega) h.sess h.hs p hpl hp.small hfit
  obtain ⟨k2, k3, _, _⟩ := tidy_news t p rfl rfl (Eq.refl (newsA gen ser (pgs ps) (layR recs).length p))
  have hwl : (wrsF first (pgs ps) (newsA gen ser (pgs ps) (layR recs).length p)).length ≤ 2048 := by
    have h6 : (wrsF first (pgs ps) (newsA gen ser (pgs ps) (layR recs).length p)).length ≤ (newsA gen ser (pgs ps) (layR recs).length p).length := by
      unfold wrsF
      rw [List.length_map]
      exact List.length_filter_le _ _
    have h7 : chunkM ((layR recs).length + (rec1 p).length) ≤ secs := by unfold chunkM; omega
    omega
  have hsize : base ≤ w'.heap.size := Nat.le_trans h.hb e4.size
  refine ⟨he, ⟨_, b2, pv2, ps2, _, ⟨e2, ?_, ?_, h.hs, h.h2, h.hg, h.hr, ?_, ?_, h.o1, h.o2, ?_, ?_, ?_, ?_, hsize⟩⟩, ⟨⟨e4.os, e4.tape, e4.output, e4.size, fun k hk => e4.block k (Nat.lt_of_lt_of_le hk h.hb) ?_⟩, fun j o hj hno => (e4.block j (lt_of_heap hj) ?_).trans hj⟩⟩
  · rw [layR_snoc, List.length_append, List.length_append]
    exact e3
  · rw [e1]
    exact k1
  · rw [List.length_append]; have := h.hp; omega
  · have := h.hn; omega
  · rw [e5]; exact h.o3
  · rw [e7]; exact h.o4
  · intro g hg
    rcases e8 with e8 | ⟨g', e8, e8'⟩
    · rw [e8] at hg; exact h.o5 g hg
    · rw [e8] at hg; injection hg with hg; have := h.hb; omega
  · intro g hg
    rcases e9 with e9 | ⟨g', e9, e9'⟩
    · rw [e9] at hg; exact h.o6 g hg
    · rw [e9] at hg; injection hg with hg; have := h.hb; omega
  · have o1 := h.o1
    have o2 := h.o2
    have o4 := h.o4
    rintro (e | e | e | e | e)
    · omega
    · omega
    · omega
    · have := h.o5 k e.symm; omega
    · have := h.o6 k e.symm; omega
  · have hne : ∀ (cs' : Array Value) (t' : TypeId), w.heap[j]? = some (.cells cs' t' (0, 0)) → t' ≠ 95 ∧ t' ≠ 92 ∧ t' ≠ 97 ∧ t' ≠ 3 ∧ t' ≠ 84 ∧ t' ≠ 85 := fun cs' t' h' => by
      rw [hj] at h'
      injection h' with h'
      exact hno cs' t' h'
    rintro (e | e | e | e | e)
    · exact (hne _ _ (e ▸ h.disk.st)).1 rfl
    · exact (hne _ _ (e ▸ h.reel.st)).2.2.2.2.1 rfl
    · obtain ⟨cs', h'⟩ := row_heap h.disk.la (k := j) (by rw [e]; rfl)
      exact (hne _ _ h').2.2.2.1 rfl
    · obtain ⟨cs', h'⟩ := row_heap h.disk.pe e.symm
      exact (hne _ _ h').2.2.1 rfl
    · obtain ⟨cs', h'⟩ := row_heap h.reel.pages.own e.symm
      exact (hne _ _ h').2.2.2.2.2 rfl
/-- Sync. -/
theorem sync_lif (h : LifS w base gs gr gen ser first secs N recs k dur pend b pv ps nw) :
    Calls Try.prog 13 #[.pointer (some ⟨gr, 0, none⟩)] w fun e w' => e = .returned (.int .i64 0) ∧ (∃ b' dur', LifS w' base gs gr gen ser first secs N recs recs.length dur' [] b' pv ps nw ∧ dur'.length = dur.length) ∧ Kept base w w' := by
  refine (rsync_any h.reel.w h.disk (by decide) (by decide)).mono ?_
  rintro e w' ⟨he, hD, hO⟩
  have hty : ∀ (j : Nat) (cs : Array Value) (t : TypeId), w.heap[j]? = some (.cells cs t (0, 0)) → t ≠ 95 → t ≠ 92 → t ≠ 3 → w'.heap[j]? = some (.cells cs t (0, 0)) := fun j cs t hj t1 t2 t3 => (hO.block j (lt_of_heap hj) (by
    have hne : ∀ (cs' : Array Value) (t' : TypeId), w.heap[j]? = some (.cells cs' t' (0, 0)) → t = t' := fun cs' t' h' => by
      rw [hj] at h'
      injection h' with h'
      injection h' with _ h' _
    rintro (e | e | e)
    · exact t1 (hne _ _ (e ▸ h.disk.st))
    · obtain ⟨cs', h'⟩ := row_heap h.disk.du (k := j) (by rw [e]; rfl)
      exact t2 (hne _ _ h')
    · obtain ⟨cs', h'⟩ := row_heap h.disk.la (k := j) (by rw [e]; rfl)
      exact t3 (hne _ _ h'))).trans hj
  have hRw := h.reel.w.kty fun j cs t hj ht => hty j cs t hj (by rcases ht with rfl | rfl | rfl | rfl <;> decide) (by rcases ht with rfl | rfl | rfl | rfl <;> decide) (by rcases ht with rfl | rfl | rfl | rfl <;> decide)
  refine ⟨he, ⟨_, applied pend dur, ⟨hD, ⟨hRw.st, hRw.pages, hRw.long⟩, sess_sync h.sess, by rw [applied_length]; exact h.hs, h.h2, h.hg, h.hr, Nat.zero_le _, h.hn, h.o1, h.o2, h.o3, h.o4, (fun g e => by cases e), h.o6, Nat.le_trans h.hb hO.size⟩, applied_length _ _⟩, ⟨⟨hO.os, hO.tape, hO.output, hO.size, fun k hk => hO.block k (Nat.lt_of_lt_of_le hk h.hb) ?_⟩, fun j o hj hno => (hO.block j (lt_of_heap hj) ?_).trans hj⟩⟩
  · have o1 := h.o1
    have o3 := h.o3
    have o4 := h.o4
    rintro (e | e | e) <;> omega
  · have hne : ∀ (cs' : Array Value) (t' : TypeId), w.heap[j]? = some (.cells cs' t' (0, 0)) → t' ≠ 95 ∧ t' ≠ 92 ∧ t' ≠ 97 ∧ t' ≠ 3 ∧ t' ≠ 84 ∧ t' ≠ 85 := fun cs' t' h' => by
      rw [hj] at h'
      injection h' with h'
      exact hno cs' t' h'
    rintro (e | e | e)
    · exact (hne _ _ (e ▸ h.disk.st)).1 rfl
    · obtain ⟨cs', h'⟩ := row_heap h.disk.du (k := j) (by rw [e]; rfl)
      exact (hne _ _ h').2.1 rfl
    · obtain ⟨cs', h'⟩ := row_heap h.disk.la (k := j) (by rw [e]; rfl)
      exact (hne _ _ h').2.2.2.1 rfl
theorem records_lif (h : LifS w base gs gr gen ser first secs N recs k dur pend b pv ps nw) : Calls Try.prog 15 #[.pointer (some ⟨gr, 0, none⟩)] w (RecsT w recs) := by
  obtain ⟨rest, t⟩ := h.sess.tidy
  have hrow : rowOf ps = layR recs ++ rest := by rw [rowOf_pgs, t.row]
  have h1 := records_anyT h.reel.w (by have := h.pages_le; have := h.h2; omega) (by rw [hrow, List.length_append]; omega)
  rw [hrow, List.take_left' rfl, cutL_lay t.fit] at h1
  exact h1
theorem count_lif (h : LifS w base gs gr gen ser first secs N recs k dur pend b pv ps nw) : Calls Try.prog 23 #[.pointer (some ⟨gr, 0, none⟩)] w fun e w' => e = .returned (.int .i64 (recs.length : Int)) ∧ w = w' := count_any h.reel.w
theorem size_lif (h : LifS w base gs gr gen ser first secs N recs k dur pend b pv ps nw) : Calls Try.prog 24 #[.pointer (some ⟨gr, 0, none⟩)] w fun e w' => e = .returned (.int .i64 ((layR recs).length : Int)) ∧ w = w' := size_any h.reel.w
theorem room_lif (h : LifS w base gs gr gen ser first secs N recs k dur pend b pv ps nw) : Calls Try.prog 18 #[.pointer (some ⟨gr, 0, none⟩)] w fun e w' => e = .returned (.int .i64 ((secs * 487 - (layR recs).length : Nat) : Int)) ∧ Below w.heap.size w w' := room_any h.reel.w (by have := h.h2; omega) h.size_le
theorem writes_lif (h : LifS w base gs gr gen ser first secs N recs k dur pend b pv ps nw) : Calls Try.prog 19 #[.pointer (some ⟨gs, 0, none⟩)] w fun e w' => e = .returned (.int .i64 nw) ∧ w = w' := writes_any h.disk
theorem full_lif (h : LifS w base gs gr gen ser first secs N recs k dur pend b pv ps nw) (A : Option Addr) (n c : Nat) (p : List Nat) (hp : Bytes w w.heap.size (.slice A n c) p) (hn : n ≤ 65536) (hfull : secs * 487 < (rec1 p).length + (layR recs).length) :
    Calls Try.prog 20 #[.pointer (some ⟨gr, 0, none⟩), .slice A n c] w fun e w' => e = .returned (.int .i64 5) ∧ Below w.heap.size w w' := by
  have hpl : p.length ≤ 65536 := by
    obtain ⟨⟨_, _, hv, _⟩, _, _⟩ := hp
    injection hv with _ h1 _
    omega
  have hr1 := rec1_le hpl
  obtain ⟨L, hL⟩ : ∃ L, L = (rec1 p).length := ⟨_, rfl⟩
  obtain ⟨room, hrm⟩ : ∃ r, r = secs * 487 - (layR recs).length := ⟨_, rfl⟩
  have hsz : (layR recs).length ≤ secs * 487 := h.size_le
  have hLr : (L : Int) > (room : Int) := by omega
  have hLr2 : (room : Int) < (L : Int) := by omega
  have hn1 : ¬ (n : Int) > 65536 := by omega
  have hn2 : ¬ (65536 : Int) < (n : Int) := by omega
  have HB := Lib.hid hp
  have hlay1 : layR [p] = rec1 p := by rw [layR_cons, layR_nil, List.append_nil]
  have HLAY : Hid (∀ y g, Below w.heap.size w y → y.heap[g]? = some (.cells #[.slice A n c] 43 (0, 0)) → Calls Try.prog 40 #[.slice (some ⟨g, 0, none⟩) 1 1] y fun e w' => ∃ A n c, e = .returned (.slice A n c) ∧ Mine w' y.heap.size A n c (rec1 p) ∧ Below y.heap.size y w') := Lib.hid fun y g hy hg => by
    have h := lay_any y _ _ (parts1 hg (HB.out.along hy)) (by rw [hlay1]; omega)
    rw [hlay1] at h
    exact h
  have HROOM : Hid (∀ y, Below w.heap.size w y → Calls Try.prog 18 #[.pointer (some ⟨gr, 0, none⟩)] y fun e w' => e = .returned (.int .i64 (room : Int)) ∧ Below y.heap.size y w') := Lib.hid fun y hy => by rw [hrm]; exact room_lif (h.below hy)
  have HL := Lib.hid hL
  clear h hp hlay1 hL hrm hfull hr1
  go_enter Try.func20, Try.ntmps20
  go_wp2_with (first
    | (go_at_call 40; (with_reducible refine (HLAY.out _ _ ((Below.refl _ _).alloc (Nat.le_refl _) _) (Go.heap_alloc_new _ _)).mono ?_); rintro e w2 ⟨A2, n2, c2, rfl, hM2, hb2⟩; go_loud (
       obtain rfl : n2 = L := hM2.len.trans HL.out.symm;
       have hbw2 := ((Below.refl w.heap.size w).alloc (Nat.le_refl _) (.cells #[.slice A n c] 43)).trans (hb2.mono (by simp));
       have HRO := hide (HROOM.out _ hbw2);
       have HBW2 := Lib.hid hbw2;
       clear hM2 hbw2 hb2))
    | (go_at_call 18; (with_reducible refine (unhide HRO).mono ?_); rintro e w3 ⟨rfl, hb3⟩))
  go_ret
  exact ⟨rfl, HBW2.out.trans (hb3.mono HBW2.out.size)⟩
/-- The disk of a log, behind a crash: whatever was kept. -/
theorem crash_lif (h : LifS w base gs gr gen ser first secs N recs k dur pend b pv ps nw) (kv : Value) (ks : List Bool) (hk : Flags w kv ks) :
    Calls Try.prog 14 #[.pointer (some ⟨gs, 0, none⟩), kv] w fun e w' => ∃ gs2 b2 dur', e = .returned (.tuple #[.pointer (some ⟨gs2, 0, none⟩), .int .i64 0]) ∧ Disk w' gs2 b2 dur' [] 0 (-1) ∧ dur'.length = dur.length ∧
      (Half gen (ser + 1) ((dur'.drop first).take secs) ∧ ∀ qsC, Chain gen ((dur'.drop first).take secs) qsC → ∃ j, k ≤ j ∧ j ≤ recs.length ∧ cutL (rowP qsC) = recs.take j) ∧
      w.heap.size ≤ gs2 ∧ w.heap.size ≤ b2.gd ∧ w.heap.size ≤ b2.gl ∧ b2.pv = .slice none 0 0 ∧ Below w.heap.size w w' := by
  refine (crash_any h.disk kv ks hk).mono ?_
  rintro e w' ⟨gs2, b2, e1, e2, e3, e4, e5, e6, e7⟩
  exact ⟨gs2, b2, _, e1, e2, kept_length _ _ _, sess_crash h.hg h.hr (by have := h.h2; omega) h.sess h.hs (kept_length _ _ _) (fun a => kept_any ks pend dur a), e3, e4, e5, e6, e7⟩
/-- What Open makes of a half that logs have left. -/
def LifOp (w : World) (base gs gen ser0 first secs N : Nat) (dur : List (List Nat)) (e : Ending) (w' : World) : Prop :=
  Below w.heap.size w w' ∧ ∃ (gr : Nat) (qsC : List Pg) (b : DB) (pv : Value) (ps : List PV), e = .returned (.tuple #[.pointer (some ⟨gr, 0, none⟩), .int .i64 0, .int .i64 0]) ∧ Chain gen ((dur.drop first).take secs) qsC ∧
    LifS w' base gs gr gen (topX gen ser0 ((dur.drop first).take secs) + 1) first secs N (cutL (rowP qsC)) (cutL (rowP qsC)).length dur [] b pv ps 0
theorem open_lif {h top ser0 : Nat} (hD : Disk w gs b dur [] 0 (-1)) (hX : Half gen top ((dur.drop (halfN dur.length h)).take (halfK dur.length h))) (hg : gen < 4294967296) (ht : top < 4294967295) (hs0 : ser0 < top) (h4 : 4 ≤ dur.length) (hh : h ≤ 1)
    (o1 : base ≤ gs) (o3 : base ≤ b.gd) (o4 : base ≤ b.gl) (o5 : ∀ g, b.pv.ownBlock = some g → base ≤ g) (hb : base ≤ w.heap.size) :
    Calls Try.prog 12 #[.pointer (some ⟨gs, 0, none⟩), .agg #[.int .u32 (gen : Int), .int .u8 (h : Int), .int .u32 (ser0 : Int)]] w (LifOp w base gs gen ser0 (halfN dur.length h) (halfK dur.length h) N dur) := by
  have hfew := hD.few
  have hK : halfN dur.length h + halfK dur.length h ≤ dur.length ∧ halfK dur.length h ≤ 2048 := by
    unfold halfN halfK
    rw [if_neg (by omega), if_neg (by omega)]
    rcases (show h = 0 ∨ h = 1 by omega) with rfl | rfl <;> omega
  obtain ⟨qsC, lk, ho, hc⟩ := open_half hX ser0
  have htop := top_half hX hs0
  refine (ropen_good hD gen h ser0 hg (by omega) h4 hh _ rfl).mono ?_
  rintro e w' ⟨hB, hm⟩
  rw [show applied [] dur = dur from rfl, ho] at hm
  obtain ⟨gr, pv, ps, e1, e2, e3, e4, e5, e6⟩ := hm
  have e3' : pgs ps = qsC := e3
  have e4' : Reel w' gr gs gen (topX gen ser0 ((dur.drop (halfN dur.length h)).take (halfK dur.length h)) + 1) (halfN dur.length h) (halfK dur.length h) pv ps (layR (cutL (rowP qsC))).length (cutL (rowP qsC)).length := by
    have h5 : Reel w' gr gs gen ((topX gen ser0 ((dur.drop (halfN dur.length h)).take (halfK dur.length h)) + 1) % 4294967296) (halfN dur.length h) (halfK dur.length h) pv ps (layR (cutL (rowP qsC))).length (cutL (rowP qsC)).length := e4
    rw [Nat.mod_eq_of_lt (by omega)] at h5
    exact h5
  have hl : ((dur.drop (halfN dur.length h)).take (halfK dur.length h)).length = halfK dur.length h := by rw [List.length_take, List.length_drop]; omega
  refine ⟨hB, gr, qsC, b, pv, ps, e1, hc, hD.below hB, e4', by rw [e3']; exact sess_open rfl hl hX hc, hK.1, hK.2, hg, by omega, Nat.zero_le _, ⟨Int.le_refl _, by omega⟩, o1, Nat.le_trans hb e2, o3, o4, o5, fun g hg => Nat.le_trans hb (e5 g hg), Nat.le_trans hb hB.size⟩
end
end Go.Proofs.Ytalpippeelomjaa
namespace Go.Proofs.Ytalpippeelomjaa
open Go.RowKit Go.Shelf
set_option linter.unusedSimpArgs false
set_option linter.unusedVariables false
def crownBx (w : World) (B gen h s : Nat) : Prop := w.heap[B]? = some (.cells #[.int .u32 (gen : Int), .int .u8 (h : Int), .int .u32 (s : Int)] 24 (0, 0))
theorem crownBx.cells {w : World} {B gen h s : Nat} (hb : crownBx w B gen h s) : w.cell? ⟨B, 0, none⟩ = some (.int .u32 (gen : Int)) ∧ w.cell? ⟨B, 1, none⟩ = some (.int .u8 (h : Int)) ∧ w.cell? ⟨B, 2, none⟩ = some (.int .u32 (s : Int)) := by
  unfold crownBx at hb
  exact ⟨by unfold World.cell?; rw [hb]; rfl, by unfold World.cell?; rw [hb]; rfl, by unfold World.cell?; rw [hb]; rfl⟩
theorem crownBx.low {w w' : World} {B gen h s b : Nat} (hx : crownBx w B gen h s) (hb : Below b w w') (hB : B < b) : crownBx w' B gen h s := (hb.block B hB).trans hx
theorem Rows3.parts {w : World} {base : Nat} {v : Value} {ls : List (List Nat)} (h : Rows3 w base v ls) (hl : ls.length ≤ maxLen) : Parts w w.heap.size v ls := h.two.parts (Nat.le_refl _) hl
section
variable {w : World} {base gs gr gen ser first secs N k : Nat} {recs dur : List (List Nat)} {pend : List (Nat × List Nat)} {b : DB} {pv : Value} {ps : List PV} {nw : Int}
theorem LifS.fit (h : LifS w base gs gr gen ser first secs N recs k dur pend b pv ps nw) : (layR recs).length ≤ 1048576 := by
  have h1 := h.size_le
  have h2 := h.h2
  omega
theorem LifS.kk (h : LifS w base gs gr gen ser first secs N recs k dur pend b pv ps nw) : k ≤ recs.length := h.sess.kk
theorem half_lif {h0 : Nat} (ser0 : Nat) (h : LifS w base gs gr gen ser (halfN dur.length h0) (halfK dur.length h0) N recs k dur pend b pv ps nw) (h4 : 4 ≤ dur.length) (hh : h0 ≤ 1) :
    Calls Try.prog 25 #[.pointer (some ⟨gs, 0, none⟩), .agg #[.int .u32 (gen : Int), .int .u8 (h0 : Int), .int .u32 (ser0 : Int)]] w fun e w' => ∃ A c, e = .returned (.slice A (halfK dur.length h0) c) ∧ Rows3 w' w.heap.size (.slice A (halfK dur.length h0) c) (((applied pend dur).drop (halfN dur.length h0)).take (halfK dur.length h0)) ∧ Below w.heap.size w w' := by
  refine (half_any h.disk gen h0 ser0 h4 hh _ rfl).mono ?_
  rintro e w' ⟨u, he, hR, hb⟩
  have hv := h.view
  obtain ⟨A, c, rfl⟩ := hR.len
  rw [hv] at he hR
  exact ⟨A, c, he, hR, hb⟩
theorem refopen_lif (h : LifS w base gs gr gen ser first secs N recs k dur pend b pv ps nw) (y : World) (v : Value) (hp : Parts y y.heap.size v (((applied pend dur).drop first).take secs)) :
    Calls Try.prog 26 #[v, .int .u32 (gen : Int)] y fun e w' => ∃ u, e = .returned (.tuple #[u, .int .i64 (-1)]) ∧ Rows2 w' y.heap.size w'.heap.size u recs ∧ Below y.heap.size y w' := by
  obtain ⟨h1, h2⟩ := sess_now h.hg h.hr (by have := h.h2; omega) h.sess h.hs
  obtain ⟨qs, lk, h3, h4⟩ := open_half h1 0
  have h5 := h2 qs h4
  refine (refOpen_any y v _ gen h.hg hp (by rw [h.view]; exact h.h2)).mono ?_
  rintro e w' ⟨hB, hm⟩
  rw [h3] at hm
  obtain ⟨u, e1, e2⟩ := hm
  have e3 : Rows2 w' y.heap.size w'.heap.size u (cutL (rowP qs)) := e2
  rw [h5] at e3
  exact ⟨u, e1, e3, hB⟩
/-- What Open makes of what a crash has left. -/
theorem reopen_lif {h0 ser0 : Nat} (h : LifS w base gs gr gen ser (halfN dur.length h0) (halfK dur.length h0) N recs k dur pend b pv ps nw) (hh : h0 ≤ 1) (h4 : 4 ≤ dur.length) (hs : ser0 ≤ ser) (hs2 : ser < 4294967290) (kv : Value) (ks : List Bool) (hk : Flags w kv ks) (N' : Nat) :
    Calls Try.prog 14 #[.pointer (some ⟨gs, 0, none⟩), kv] w fun e w1 => ∃ gs2, e = .returned (.tuple #[.pointer (some ⟨gs2, 0, none⟩), .int .i64 0]) ∧ Below w.heap.size w w1 ∧
      ∀ y, Below w1.heap.size w1 y → Calls Try.prog 12 #[.pointer (some ⟨gs2, 0, none⟩), .agg #[.int .u32 (gen : Int), .int .u8 (h0 : Int), .int .u32 (ser0 : Int)]] y fun e w' => ∃ (gr2 j ser2 : Nat) (dur2 : List (List Nat)) (b2 : DB) (pv2 : Value) (ps2 : List PV),
        e = .returned (.tuple #[.pointer (some ⟨gr2, 0, none⟩), .int .i64 0, .int .i64 0]) ∧ k ≤ j ∧ j ≤ recs.length ∧ dur2.length = dur.length ∧ ser0 ≤ ser2 ∧ ser2 ≤ ser + 1 ∧
        LifS w' base gs2 gr2 gen ser2 (halfN dur2.length h0) (halfK dur2.length h0) N' (recs.take j) j dur2 [] b2 pv2 ps2 0 ∧ Below y.heap.size y w' := by
  refine (crash_lif h kv ks hk).mono ?_
  rintro e w1 ⟨gs2, b2, dur2, e1, e2, e3, ⟨e4, e5⟩, o1, o2, o3, o4, hb⟩
  refine ⟨gs2, e1, hb, fun y hy => ?_⟩
  have hbase := h.hb
  have hys := hy.size
  have hbs := hb.size
  rw [← e3] at e4 e5 h4
  refine (open_lif (N := N') (base := base) (e2.below hy) e4 h.hg (by omega) (show ser0 < ser + 1 by omega) h4 hh (by omega) (by omega) (by omega) (fun g hg => by rw [o4] at hg; cases hg) (by omega)).mono ?_
  rintro e w' ⟨hB, gr2, qsC, b3, pv2, ps2, q1, q2, q3⟩
  obtain ⟨j, j1, j2, j3⟩ := e5 qsC q2
  rw [j3] at q3
  have hjl : (recs.take j).length = j := by rw [List.length_take]; omega
  rw [hjl] at q3
  have htop := top_half e4 (show ser0 < ser + 1 by omega)
  have htop2 := (topX_ge gen ((dur2.drop (halfN dur2.length h0)).take (halfK dur2.length h0)) ser0).1
  exact ⟨gr2, j, _, dur2, b3, pv2, ps2, q1, j1, j2, e3, by omega, by omega, q3, hB⟩
end
end Go.Proofs.Ytalpippeelomjaa
