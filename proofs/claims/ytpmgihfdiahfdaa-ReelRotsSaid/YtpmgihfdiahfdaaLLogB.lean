/- A log that lies whole: what an Append leaves, with the serials; what Open makes of any; where a page is corrupt. -/
import Derived.Test.YtpmgihfdiahfdaaZ42
namespace Go.Proofs.Ytpmgihfdiahfdaa
open Go.RowKit
set_option linter.unusedSimpArgs false
set_option linter.unusedVariables false
/-- What an Append that fits leaves. -/
def LogApS (w : World) (base gs gr gen ser first secs N : Nat) (recs dur : List (List Nat)) (pend : List (Nat × List Nat)) (p : List Nat) (e : Ending) (w' : World) : Prop :=
  e = .returned (.int .i64 0) ∧ (∃ (pend' : List (Nat × List Nat)) (b : DB) (pv : Value) (ps : List PV) (nw : Int), LogS w' base gs gr gen ser first secs (N + 2048) (recs ++ [p]) dur (pend ++ pend') b pv ps nw ∧ ∃ q ∈ pgs ps, q.ser = ser) ∧ Kept base w w'
section
variable {w : World} {base gs gr gen ser first secs N : Nat} {recs dur : List (List Nat)} {pend : List (Nat × List Nat)} {b : DB} {pv : Value} {ps : List PV} {nw : Int}
theorem append_logS (h : LogS w base gs gr gen ser first secs N recs dur pend b pv ps nw) (hN : N ≤ 900000) (A : Option Addr) (n c : Nat) (p : List Nat) (hp : Bytes w w.heap.size (.slice A n c) p) (hn : n ≤ 65536) (hfit : (rec1 p).length + (layR recs).length ≤ secs * 487) :
    Calls Try.prog 20 #[.pointer (some ⟨gr, 0, none⟩), .slice A n c] w (LogApS w base gs gr gen ser first secs N recs dur pend p) := by
  have hpl : p.length ≤ 65536 := by
    obtain ⟨⟨_, _, hv, _⟩, _, _⟩ := hp
    injection hv with _ h1 _
    omega
  have h1 := h.size_le
  have h2 := h.h2
  have h3 := h.pages_le
  have hcf := h.clean.few
  rw [pgs_length] at hcf
  have hr1 := rec1_pos p
  have hin : (layR recs).length % 487 ≠ 0 → ∃ q, ps[(layR recs).length / 487]? = some q ∧ 4 + (layR recs).length % 487 ≤ q.data.length := fun hne => by
    have hlt : (layR recs).length / 487 < ps.length := by rw [hcf]; unfold chunkM; omega
    refine ⟨ps[(layR recs).length / 487], List.getElem?_eq_getElem hlt, ?_⟩
    have hq : (pgs ps)[(layR recs).length / 487]? = some (ps[(layR recs).length / 487]).pg := by unfold pgs; rw [List.getElem?_map, List.getElem?_eq_getElem hlt]; rfl
    have h4 := congrArg List.length (h.clean.at_ _ _ hq).2.2.2.2.1
    rw [List.length_append, be4_length] at h4
    unfold partK at h4
    rw [List.length_take, List.length_drop] at h4
    have h5 : (ps[(layR recs).length / 487]).pg.data = (ps[(layR recs).length / 487]).data := rfl
    rw [h5] at h4
    omega
  refine (append_any h.reel h2 h1 A n c p hp hn hfit (by rw [hcf]; unfold chunkM; omega) (by omega) h.hg h.hr hin (rec1_le hpl) (fun e => by rw [e] at hr1; simp at hr1) h.clean.nums h.disk ⟨h.hn.1, by have := h.hn.2; omega⟩ (by have := h.hp; omega) h.hs h.count_le).mono ?_
  rintro e w' ⟨he, b2, pv2, ps2, e1, e2, e3, e4, e5, e6, e7, e8, e9⟩
  obtain ⟨k1, k2, k3, k4⟩ := clean_append (D := applied pend dur) h.clean (by rw [applied_length]; exact h.hs) p hpl hp.small hfit
  have hwl : (wrsF first (pgs ps) (newsA gen ser (pgs ps) (layR recs).length p)).length ≤ 2048 := by
    have h6 : (wrsF first (pgs ps) (newsA gen ser (pgs ps) (layR recs).length p)).length ≤ (newsA gen ser (pgs ps) (layR recs).length p).length := by
      unfold wrsF
      rw [List.length_map]
      exact List.length_filter_le _ _
    omega
  have happ : ∀ W, applied (pend ++ W) dur = applied W (applied pend dur) := fun W => by unfold applied; rw [List.foldl_append]
  have hsize : base ≤ w'.heap.size := Nat.le_trans h.hb e4.size
  refine ⟨he, ⟨_, b2, pv2, ps2, _, ⟨e2, ?_, ?_, h.hs, h.h2, h.hg, h.hr, ?_, ?_, h.o1, h.o2, ?_, ?_, ?_, ?_, hsize⟩, by rw [e1]; obtain ⟨q, hq, hqs⟩ := k4; exact ⟨q, List.mem_append_right _ hq, hqs⟩⟩, ⟨⟨e4.os, e4.tape, e4.output, e4.size, fun k hk => e4.block k (Nat.lt_of_lt_of_le hk h.hb) ?_⟩, fun j o hj hno => (e4.block j (lt_of_heap hj) ?_).trans hj⟩⟩
  · rw [layR_snoc, List.length_append, List.length_append]
    exact e3
  · rw [happ, e1]
    exact k1
  · rw [List.length_append]; have := h.hp; omega
  · have := h.hn; omega
  · rw [e5]; exact h.o3
  · rw [e7]; exact h.o4
  · intro g hg
    rcases e8 with e8 | ⟨g', e8, e8'⟩
    · rw [e8] at hg; exact h.o5 g hg
    · rw [e8] at hg; injection hg with hg; have := h.hb; omega
  · intro g hg
    rcases e9 with e9 | ⟨g', e9, e9'⟩
    · rw [e9] at hg; exact h.o6 g hg
    · rw [e9] at hg; injection hg with hg; have := h.hb; omega
  · have o1 := h.o1
    have o2 := h.o2
    have o4 := h.o4
    rintro (e | e | e | e | e)
    · omega
    · omega
    · omega
    · have := h.o5 k e.symm; omega
    · have := h.o6 k e.symm; omega
  · have hne : ∀ (cs' : Array Value) (t' : TypeId), w.heap[j]? = some (.cells cs' t' (0, 0)) → t' ≠ 95 ∧ t' ≠ 92 ∧ t' ≠ 97 ∧ t' ≠ 3 ∧ t' ≠ 84 ∧ t' ≠ 85 := fun cs' t' h' => by
      rw [hj] at h'
      injection h' with h'
      exact hno cs' t' h'
    rintro (e | e | e | e | e)
    · exact (hne _ _ (e ▸ h.disk.st)).1 rfl
    · exact (hne _ _ (e ▸ h.reel.st)).2.2.2.2.1 rfl
    · obtain ⟨cs', h'⟩ := row_heap h.disk.la (k := j) (by rw [e]; rfl)
      exact (hne _ _ h').2.2.2.1 rfl
    · obtain ⟨cs', h'⟩ := row_heap h.disk.pe e.symm
      exact (hne _ _ h').2.2.1 rfl
    · obtain ⟨cs', h'⟩ := row_heap h.reel.pages.own e.symm
      exact (hne _ _ h').2.2.2.2.2 rfl
/-- Sync, with its pages. -/
theorem sync_logS (h : LogS w base gs gr gen ser first secs N recs dur pend b pv ps nw) :
    Calls Try.prog 13 #[.pointer (some ⟨gr, 0, none⟩)] w fun e w' => e = .returned (.int .i64 0) ∧ (∃ b', LogS w' base gs gr gen ser first secs N recs (applied pend dur) [] b' pv ps nw) ∧ Kept base w w' := by
  refine (rsync_any h.reel.w h.disk (by decide) (by decide)).mono ?_
  rintro e w' ⟨he, hD, hO⟩
  have hty : ∀ (j : Nat) (cs : Array Value) (t : TypeId), w.heap[j]? = some (.cells cs t (0, 0)) → t ≠ 95 → t ≠ 92 → t ≠ 3 → w'.heap[j]? = some (.cells cs t (0, 0)) := fun j cs t hj t1 t2 t3 => (hO.block j (lt_of_heap hj) (by
    have hne : ∀ (cs' : Array Value) (t' : TypeId), w.heap[j]? = some (.cells cs' t' (0, 0)) → t = t' := fun cs' t' h' => by
      rw [hj] at h'
      injection h' with h'
      injection h' with _ h' _
    rintro (e | e | e)
    · exact t1 (hne _ _ (e ▸ h.disk.st))
    · obtain ⟨cs', h'⟩ := row_heap h.disk.du (k := j) (by rw [e]; rfl)
      exact t2 (hne _ _ h')
    · obtain ⟨cs', h'⟩ := row_heap h.disk.la (k := j) (by rw [e]; rfl)
      exact t3 (hne _ _ h'))).trans hj
  have hRw := h.reel.w.kty fun j cs t hj ht => hty j cs t hj (by rcases ht with rfl | rfl | rfl | rfl <;> decide) (by rcases ht with rfl | rfl | rfl | rfl <;> decide) (by rcases ht with rfl | rfl | rfl | rfl <;> decide)
  refine ⟨he, ⟨_, hD, ⟨hRw.st, hRw.pages, hRw.long⟩, h.clean, by rw [applied_length]; exact h.hs, h.h2, h.hg, h.hr, Nat.zero_le _, h.hn, h.o1, h.o2, h.o3, h.o4, (fun g e => by cases e), h.o6, Nat.le_trans h.hb hO.size⟩, ⟨⟨hO.os, hO.tape, hO.output, hO.size, fun k hk => hO.block k (Nat.lt_of_lt_of_le hk h.hb) ?_⟩, fun j o hj hno => (hO.block j (lt_of_heap hj) ?_).trans hj⟩⟩
  · have o1 := h.o1
    have o3 := h.o3
    have o4 := h.o4
    rintro (e | e | e) <;> omega
  · have hne : ∀ (cs' : Array Value) (t' : TypeId), w.heap[j]? = some (.cells cs' t' (0, 0)) → t' ≠ 95 ∧ t' ≠ 92 ∧ t' ≠ 97 ∧ t' ≠ 3 ∧ t' ≠ 84 ∧ t' ≠ 85 := fun cs' t' h' => by
      rw [hj] at h'
      injection h' with h'
      exact hno cs' t' h'
    rintro (e | e | e)
    · exact (hne _ _ (e ▸ h.disk.st)).1 rfl
    · obtain ⟨cs', h'⟩ := row_heap h.disk.du (k := j) (by rw [e]; rfl)
      exact (hne _ _ h').2.1 rfl
    · obtain ⟨cs', h'⟩ := row_heap h.disk.la (k := j) (by rw [e]; rfl)
      exact (hne _ _ h').2.2.2.1 rfl
end
theorem topS_eq {s ser : Nat} {qs : List Pg} (h1 : s ≤ ser) (h2 : ∀ q ∈ qs, q.ser ≤ ser) (h3 : ∃ q ∈ qs, q.ser = ser) : topS s qs = ser := by
  obtain ⟨q, hq, e⟩ := h3
  have h4 := (le_topS (s := s) (qs := qs)).2 q hq
  have h5 := topS_le h1 h2
  omega
end Go.Proofs.Ytpmgihfdiahfdaa
