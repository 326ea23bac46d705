/- LLogB, LHalf: joined by program (tools/merge.py). -/
import Derived.Test.YtalpippeelomjaaZ42
import Derived.Test.YtalpippeelomjaaZ24
import Derived.Deep.RegionHeld3
namespace Go.Proofs.Ytalpippeelomjaa
open Go.RowKit
set_option linter.unusedSimpArgs false
set_option linter.unusedVariables false
/-- What an Append that fits leaves. -/
def LogApS (w : World) (base gs gr gen ser first secs N : Nat) (recs dur : List (List Nat)) (pend : List (Nat × List Nat)) (p : List Nat) (e : Ending) (w' : World) : Prop :=
  e = .returned (.int .i64 0) ∧ (∃ (pend' : List (Nat × List Nat)) (b : DB) (pv : Value) (ps : List PV) (nw : Int), LogS w' base gs gr gen ser first secs (N + 2048) (recs ++ [p]) dur (pend ++ pend') b pv ps nw ∧ ∃ q ∈ pgs ps, q.ser = ser) ∧ Kept base w w'
section
variable {w : World} {base gs gr gen ser first secs N : Nat} {recs dur : List (List Nat)} {pend : List (Nat × List Nat)} {b : DB} {pv : Value} {ps : List PV} {nw : Int}
theorem append_logS (h : LogS w base gs gr gen ser first secs N recs dur pend b pv ps nw) (hN : N ≤ 900000) (A : Option Addr) (n c : Nat) (p : List Nat) (hp : Bytes w w.heap.size (.slice A n c) p) (hn : n ≤ 65536) (hfit : (rec1 p).length + (layR recs).length ≤ secs * 487) :
    Calls Try.prog 20 #[.pointer (some ⟨gr, 0, none⟩), .slice A n c] w (LogApS w base gs gr gen ser first secs N recs dur pend p) := by
  have hpl : p.length ≤ 65536 := by
    obtain ⟨⟨_, _, hv, _⟩, _, _⟩ := hp
    injection hv with _ h1 _
    omega
  have h1 := h.size_le
  have h2 := h.h2
  have h3 := h.pages_le
  have hcf := h.clean.few
  rw [pgs_length] at hcf
  have hr1 := rec1_pos p
  have hin : (layR recs).length % 487 ≠ 0 → ∃ q, ps[(layR recs).length / 487]? = some q ∧ 4 + (layR recs).length % 487 ≤ q.data.length := fun hne => by
    have hlt : (layR recs).length / 487 < ps.length := by rw [hcf]; unfold chunkM; omega
    refine ⟨ps[(layR recs).length / 487], List.getElem?_eq_getElem hlt, ?_⟩
    have hq : (pgs ps)[(layR recs).length / 487]? = some (ps[(layR recs).length / 487]).pg := by unfold pgs; rw [List.getElem?_map, List.getElem?_eq_getElem hlt]; rfl
    have h4 := congrArg List.length (h.clean.at_ _ _ hq).2.2.2.2.1
    rw [List.length_append, be4_length] at h4
    unfold partK at h4
    rw [List.length_take, List.length_drop] at h4
    have h5 : (ps[(layR recs).length / 487]).pg.data = (ps[(layR recs).length / 487]).data := rfl
    rw [h5] at h4
    omega
  refine (append_any h.reel h2 h1 A n c p hp hn hfit (by rw [hcf]; unfold chunkM; omega) (by omega) h.hg h.hr hin (rec1_le hpl) (fun e => by rw [e] at hr1; simp at hr1) h.clean.nums h.disk ⟨h.hn.1, by have := h.hn.2; omega⟩ (by have := h.hp; omega) h.hs h.count_le).mono ?_
  rintro e w' ⟨he, b2, pv2, ps2, e1, e2, e3, e4, e5, e6, e7, e8, e9⟩
  obtain ⟨k1, k2, k3, k4⟩ := clean_append (D := applied pend dur) h.clean (by rw [applied_length]; exact h.hs) p hpl hp.small hfit
  have hwl : (wrsF first (pgs ps) (newsA gen ser (pgs ps) (layR recs).length p)).length ≤ 2048 := by
    have h6 : (wrsF first (pgs ps) (newsA gen ser (pgs ps) (layR recs).length p)).length ≤ (newsA gen ser (pgs ps) (layR recs).length p).length := by
      unfold wrsF
      rw [List.length_map]
      exact List.length_filter_le _ _
    omega
  have happ : ∀ W, applied (pend ++ W) dur = applied W (applied pend dur) := fun W => by unfold applied; rw [List.foldl_append]
  have hsize : base ≤ w'.heap.size := Nat.le_trans h.hb e4.size
  refine ⟨he, ⟨_, b2, pv2, ps2, _, ⟨e2, ?_, ?_, h.hs, h.h2, h.hg, h.hr, ?_, ?_, h.o1, h.o2, ?_, ?_, ?_, ?_, hsize⟩, by rw [e1]; obtain ⟨q, hq, hqs⟩ := k4; exact ⟨q, List.mem_append_right _ hq, hqs⟩⟩, ⟨⟨e4.os, e4.tape, e4.output, e4.size, fun k hk => e4.block k (Nat.lt_of_lt_of_le hk h.hb) ?_⟩, fun j o hj hno => (e4.block j (lt_of_heap hj) ?_).trans hj⟩⟩
  · rw [layR_snoc, List.length_append, List.length_append]
    exact e3
  · rw [happ, e1]
    exact k1
  · rw [List.length_append]; have := h.hp; omega
  · have := h.hn; omega
  · rw [e5]; exact h.o3
  · rw [e7]; exact h.o4
  · intro g hg
    rcases e8 with e8 | ⟨g', e8, e8'⟩
    · rw [e8] at hg; exact h.o5 g hg
    · rw [e8] at hg; injection hg with hg; have := h.hb; omega
  · intro g hg
    rcases e9 with e9 | ⟨g', e9, e9'⟩
    · rw [e9] at hg; exact h.o6 g hg
    · rw [e9] at hg; injection hg with hg; have := h.hb; omega
  · have o1 := h.o1
    have o2 := h.o2
    have o4 := h.o4
    rintro (e | e | e | e | e)
    · omega
    · omega
    · omega
    · have := h.o5 k e.symm; omega
    · have := h.o6 k e.symm; omega
  · have hne : ∀ (cs' : Array Value) (t' : TypeId), w.heap[j]? = some (.cells cs' t' (0, 0)) → t' ≠ 95 ∧ t' ≠ 92 ∧ t' ≠ 97 ∧ t' ≠ 3 ∧ t' ≠ 84 ∧ t' ≠ 85 := fun cs' t' h' => by
      rw [hj] at h'
      injection h' with h'
      exact hno cs' t' h'
    rintro (e | e | e | e | e)
    · exact (hne _ _ (e ▸ h.disk.st)).1 rfl
    · exact (hne _ _ (e ▸ h.reel.st)).2.2.2.2.1 rfl
    · obtain ⟨cs', h'⟩ := row_heap h.disk.la (k := j) (by rw [e]; rfl)
      exact (hne _ _ h').2.2.2.1 rfl
    · obtain ⟨cs', h'⟩ := row_heap h.disk.pe e.symm
      exact (hne _ _ h').2.2.1 rfl
    · obtain ⟨cs', h'⟩ := row_heap h.reel.pages.own e.symm
      exact (hne _ _ h').2.2.2.2.2 rfl
/-- Sync, with its pages. -/
theorem sync_logS (h : LogS w base gs gr gen ser first secs N recs dur pend b pv ps nw) :
    Calls Try.prog 13 #[.pointer (some ⟨gr, 0, none⟩)] w fun e w' => e = .returned (.int .i64 0) ∧ (∃ b', LogS w' base gs gr gen ser first secs N recs (applied pend dur) [] b' pv ps nw) ∧ Kept base w w' := by
  refine (rsync_any h.reel.w h.disk (by decide) (by decide)).mono ?_
  rintro e w' ⟨he, hD, hO⟩
  have hty : ∀ (j : Nat) (cs : Array Value) (t : TypeId), w.heap[j]? = some (.cells cs t (0, 0)) → t ≠ 95 → t ≠ 92 → t ≠ 3 → w'.heap[j]? = some (.cells cs t (0, 0)) := fun j cs t hj t1 t2 t3 => (hO.block j (lt_of_heap hj) (by
    have hne : ∀ (cs' : Array Value) (t' : TypeId), w.heap[j]? = some (.cells cs' t' (0, 0)) → t = t' := fun cs' t' h' => by
      rw [hj] at h'
      injection h' with h'
      injection h' with _ h' _
    rintro (e | e | e)
    · exact t1 (hne _ _ (e ▸ h.disk.st))
    · obtain ⟨cs', h'⟩ := row_heap h.disk.du (k := j) (by rw [e]; rfl)
      exact t2 (hne _ _ h')
    · obtain ⟨cs', h'⟩ := row_heap h.disk.la (k := j) (by rw [e]; rfl)
      exact t3 (hne _ _ h'))).trans hj
  have hRw := h.reel.w.kty fun j cs t hj ht => hty j cs t hj (by rcases ht with rfl | rfl | rfl | rfl <;> decide) (by rcases ht with rfl | rfl | rfl | rfl <;> decide) (by rcases ht with rfl | rfl | rfl | rfl <;> decide)
  refine ⟨he, ⟨_, hD, ⟨hRw.st, hRw.pages, hRw.long⟩, h.clean, by rw [applied_length]; exact h.hs, h.h2, h.hg, h.hr, Nat.zero_le _, h.hn, h.o1, h.o2, h.o3, h.o4, (fun g e => by cases e), h.o6, Nat.le_trans h.hb hO.size⟩, ⟨⟨hO.os, hO.tape, hO.output, hO.size, fun k hk => hO.block k (Nat.lt_of_lt_of_le hk h.hb) ?_⟩, fun j o hj hno => (hO.block j (lt_of_heap hj) ?_).trans hj⟩⟩
  · have o1 := h.o1
    have o3 := h.o3
    have o4 := h.o4
    rintro (e | e | e) <;> omega
  · have hne : ∀ (cs' : Array Value) (t' : TypeId), w.heap[j]? = some (.cells cs' t' (0, 0)) → t' ≠ 95 ∧ t' ≠ 92 ∧ t' ≠ 97 ∧ t' ≠ 3 ∧ t' ≠ 84 ∧ t' ≠ 85 := fun cs' t' h' => by
      rw [hj] at h'
      injection h' with h'
      exact hno cs' t' h'
    rintro (e | e | e)
    · exact (hne _ _ (e ▸ h.disk.st)).1 rfl
    · obtain ⟨cs', h'⟩ := row_heap h.disk.du (k := j) (by rw [e]; rfl)
      exact (hne _ _ h').2.1 rfl
    · obtain ⟨cs', h'⟩ := row_heap h.disk.la (k := j) (by rw [e]; rfl)
      exact (hne _ _ h').2.2.2.1 rfl
end
theorem topS_eq {s ser : Nat} {qs : List Pg} (h1 : s ≤ ser) (h2 : ∀ q ∈ qs, q.ser ≤ ser) (h3 : ∃ q ∈ qs, q.ser = ser) : topS s qs = ser := by
  obtain ⟨q, hq, e⟩ := h3
  have h4 := (le_topS (s := s) (qs := qs)).2 q hq
  have h5 := topS_le h1 h2
  omega
end Go.Proofs.Ytalpippeelomjaa
namespace Go.Proofs.Ytalpippeelomjaa
open Go.RowKit Go.Shelf
set_option linter.unusedSimpArgs false
set_option linter.unusedVariables false
def HalfI (w1 : World) (K : Nat) (X : List (List Nat)) (out i : Value) (wr : World) : Prop := ∃ k : Nat, k ≤ K ∧ i = .int .i64 (k : Int) ∧ Rows3 wr w1.heap.size out (X.take k) ∧ Below w1.heap.size w1 wr
set_option maxRecDepth 100000 in
set_option maxHeartbeats 8000000 in
theorem half_any {w : World} {gs : Nat} {b : DB} {dur : List (List Nat)} {pend : List (Nat × List Nat)} {nw bud : Int} (hD : Disk w gs b dur pend nw bud) (gen h ser : Nat) (h4 : 4 ≤ dur.length) (hh : h ≤ 1) (X : List (List Nat)) (hX : X = ((applied pend dur).drop (halfN dur.length h)).take (halfK dur.length h)) :
    Calls Try.prog 25 #[.pointer (some ⟨gs, 0, none⟩), .agg #[.int .u32 (gen : Int), .int .u8 (h : Int), .int .u32 (ser : Int)]] w fun e w' => ∃ u, e = .returned u ∧ Rows3 w' w.heap.size u X ∧ Below w.heap.size w w' := by
  have hfew := hD.few
  obtain ⟨n, hn⟩ : ∃ n, n = dur.length := ⟨_, rfl⟩
  obtain ⟨K, hK⟩ : ∃ K, K = halfK n h := ⟨_, rfl⟩
  obtain ⟨F, hF⟩ : ∃ F, F = halfN n h := ⟨_, rfl⟩
  have hKF : F + K ≤ n ∧ K ≤ 2048 := by
    rw [hF, hK]
    unfold halfN halfK
    rw [if_neg (by omega), if_neg (by omega)]
    rcases (show h = 0 ∨ h = 1 by omega) with rfl | rfl <;> omega
  have hXl : X.length = K := by
    rw [hX, List.length_take, List.length_drop, applied_length, ← hn, ← hF, ← hK]
    omega
  have hXat : ∀ k, k < K → (applied pend dur)[F + k]? = X[k]? := fun k hk => by
    rw [hX, ← hn, ← hF, ← hK, getElem?_view hk]
  have hf := fun x => from_any x (gen : Int) (ser : Int) h n (by omega)
  rw [← hF, ← hK] at hf
  have HF := Lib.hid hf
  have HS : Hid (∀ x, Below w.heap.size w x → Calls Try.prog 28 #[.pointer (some ⟨gs, 0, none⟩)] x fun e w' => e = .returned (.int .i64 (n : Int)) ∧ x = w') := Lib.hid fun x hx => by rw [hn]; exact sectors_any (hD.below hx)
  have HRD : Hid (∀ y, Below w.heap.size w y → ∀ (k : Nat) (s : List Nat) (i : Int), k < K → X[k]? = some s → i = ((F + k : Nat) : Int) → Calls Try.prog 37 #[.pointer (some ⟨gs, 0, none⟩), .int .i64 i] y fun e w' => ∃ g, e = .returned (.tuple #[.slice (some ⟨g, 0, none⟩) 512 512, .int .i64 0]) ∧ Mine w' y.heap.size (some ⟨g, 0, none⟩) 512 512 s ∧ Below y.heap.size y w') := Lib.hid fun y hy k s i hk hs hi => by
    rw [hi]
    exact read_any (hD.below hy) (F + k) (by omega) s (by rw [hXat k hk]; exact hs)
  have HXL := Lib.hid hXl
  have hFK : F + K ≤ 4096 := by omega
  obtain ⟨i0, hi0, hz0, hz1, hz2⟩ := info_parts infoSlice
  have HI := Lib.hid hi0
  have H0 := Lib.hid hz0
  have H1 := Lib.hid hz1
  have H2 := Lib.hid hz2
  have HW : Hid (∀ o, Below w.heap.size w (w.alloc o)) := Lib.hid fun o => (Below.refl _ _).alloc (Nat.le_refl _) o
  obtain ⟨W, hW⟩ : ∃ W, W = w.alloc (.cells #[.int .u32 (gen : Int), .int .u8 (h : Int), .int .u32 (ser : Int)] 24) := ⟨_, rfl⟩
  have hWb : Below w.heap.size w W := by rw [hW]; exact HW.out _
  have h0 : W.heap[w.heap.size]? = some (.cells #[.int .u32 (gen : Int), .int .u8 (h : Int), .int .u32 (ser : Int)] 24 (0, 0)) := by rw [hW]; exact Go.heap_alloc_new w _
  have HC : Hid (∀ x, Below W.heap.size W x → x.cell? ⟨w.heap.size, 0, none⟩ = some (.int .u32 (gen : Int)) ∧ x.cell? ⟨w.heap.size, 1, none⟩ = some (.int .u8 (h : Int)) ∧ x.cell? ⟨w.heap.size, 2, none⟩ = some (.int .u32 (ser : Int))) := Lib.hid fun x hx => by
    have h3 := (hx.block w.heap.size (lt_of_heap h0)).trans h0
    exact ⟨by unfold World.cell?; rw [h3]; rfl, by unfold World.cell?; rw [h3]; rfl, by unfold World.cell?; rw [h3]; rfl⟩
  have HS2 : Hid (∀ x, Below W.heap.size W x → Calls Try.prog 28 #[.pointer (some ⟨gs, 0, none⟩)] x fun e w' => e = .returned (.int .i64 (n : Int)) ∧ x = w') := Lib.hid fun x hx => HS.out x (hWb.trans (hx.mono hWb.size))
  have HWE := Lib.hid hW
  have HWB := Lib.hid hWb
  clear hW hWb h0 hf hD hX hXat hXl hn hK hF hi0 hz0 hz1 hz2
  go_enter Try.func25, Try.ntmps25
  go_wp2
  rw [← HWE.out]
  go_region_held3 (fun x => Below W.heap.size W x ∧ x.cell? ⟨w.heap.size, 0, none⟩ = some (.int .u32 (gen : Int)) ∧ x.cell? ⟨w.heap.size, 1, none⟩ = some (.int .u8 (h : Int)) ∧ x.cell? ⟨w.heap.size, 2, none⟩ = some (.int .u32 (ser : Int)))
    ((refine (fun h => ⟨h, HC.out _ h⟩) ?_; repeat (with_reducible (first | exact Below.refl _ _ | assumption | refine ride_alloc ?_ _ | refine ride_drew ?_ | refine below_drewN ?_ _ | refine ride_call (by assumption) ?_))))
    (first
      | (go_at_call 28; (with_reducible refine (HS2.out _ (by repeat (with_reducible (first | exact Below.refl _ _ | assumption | refine ride_alloc ?_ _ | refine ride_drew ?_ | refine below_drewN ?_ _ | refine ride_call (by assumption) ?_)))).mono ?_); rintro e w1 ⟨rfl, rfl⟩)
      | (go_at_call 27; (with_reducible refine (HF.out _).mono ?_); rintro e w2 ⟨rfl, hb2⟩))
  rename_i hHeld
  have hw2 : Below w.heap.size w w2 := HWB.out.trans (hHeld.1.mono HWB.out.size)
  have HW2 := Lib.hid hw2
  clear hHeld hw2 hb2
  go_wp2
  go_loopw [5, 19] (fun out i wr => HalfI w2 K X out i wr) (fun _ i _ => K - (intOf i).toNat)
  case atStart => exact ⟨0, Nat.zero_le _, rfl, Rows3.nil _ _, Below.refl _ _⟩
  case round =>
    obtain ⟨k, hk, rfl, hR, hb⟩ := hrel
    by_cases hlt : k < K
    · obtain ⟨s, hs⟩ : ∃ s, X[k]? = some s := ⟨_, List.getElem?_eq_getElem (by rw [HXL.out]; exact hlt)⟩
      obtain ⟨vs, hv1, hv2, hv3⟩ := id hR
      obtain ⟨Ao, co, rfl⟩ := hR.len
      obtain ⟨dn, hdn⟩ : ∃ x, x = (X.take k).length := ⟨_, rfl⟩
      rw [← hdn] at hv2 ⊢
      have hdl : dn ≤ 2048 := by rw [hdn, List.length_take]; omega
      have hFk : (F : Int) + (k : Int) = ((F + k : Nat) : Int) := by omega
      have HRK : Hid (∀ i : Int, i = ((F + k : Nat) : Int) → Calls Try.prog 37 #[.pointer (some ⟨gs, 0, none⟩), .int .i64 i] wr fun e w' => ∃ g, e = .returned (.tuple #[.slice (some ⟨g, 0, none⟩) 512 512, .int .i64 0]) ∧ Mine w' wr.heap.size (some ⟨g, 0, none⟩) 512 512 s ∧ Below wr.heap.size wr w') := Lib.hid fun i hi => HRD.out _ (HW2.out.trans (hb.mono HW2.out.size)) k s i hlt hs hi
      have hFk2 : F + k ≤ 4096 := by omega
      have HSK := Lib.hid hs
      have HDN := Lib.hid hdn
      have HV1 := Lib.hid hv1
      have HV2 := Lib.hid hv2
      have HV3 := Lib.hid hv3
      have HFK := Lib.hid hFk
      clear hs hdn hv1 hv2 hv3 hR hFk
      go_wp2_with (first
        | (go_at_call 37; (with_reducible refine (HRK.out _ HFK.out).mono ?_); rintro e w3 ⟨g3, rfl, hM3, hb3⟩; go_loud (
            have HM3 := Lib.hid hM3;
            have HB3 := Lib.hid hb3;
            clear hM3 hb3))
        | (at_builtin; go_loud (refine wpList_append_lies _ (by rfl) (.tmp 30) (.tmp 32) 34 (by rfl) w2.heap.size 43 i0 (.slice none 0 0) 1 24 Try.underlying34 HI.out H0.out H1.out H2.out (by rfl) (by omega) (.slice Ao dn co) dn _ (by rfl) (ownsRow_below HV2.out (HB3.out.alloc HB3.out.size _)) ⟨w3.heap.size, 0, none⟩ 1 1 [.slice (some ⟨g3, 0, none⟩) 512 512] (by rfl) (by rfl) (World.news_of_block (heap_new_at rfl)) (by intro u hu; simp at hu; rcases hu with rfl; rfl) (by omega) (by unfold maxLen; omega) (by omega) (Nat.le_trans hb.size (Nat.le_trans HB3.out.size (by simp))) _ rfl ?_; intro g6 k6 w6 hown6 hg6 hat6 hlt6)))
      have HBL := Lib.hid (rows3_more hg6 hown6 HDN.out HV1.out HV2.out HV3.out hb hb.size (HB3.out.alloc HB3.out.size _) (by exact (TBytes.of_mine HM3.out).keep (.of_below ((Below.refl _ _).alloc (Nat.le_refl _) _))))
      clear hown6 hg6 hat6
      go_wp2
      go_roundw
      case rel => exact ⟨k + 1, by omega, by go_num, by rw [List.take_add_one, HSK.out]; exact HBL.out.1, HBL.out.2⟩
      case measure => simp [intOf]; omega
    · obtain rfl : k = K := by omega
      rw [List.take_of_length_le (by rw [HXL.out]; exact Nat.le_refl _)] at hR
      obtain ⟨Ao, co, rfl⟩ := hR.len
      have HR := Lib.hid hR
      have HB := Lib.hid hb
      clear hR hb
      go_wp2
      go_ret
      exact ⟨_, rfl, HR.out.lower HW2.out.size, HW2.out.trans (HB.out.mono HW2.out.size)⟩
end Go.Proofs.Ytalpippeelomjaa
