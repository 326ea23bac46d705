/- LRefCut, LAwake: joined by program (tools/merge.py). -/
import Derived.Test.YtalpippeelomjaaZ39
import Derived.Test.YtalpippeelomjaaZ40
import Derived.Test.YtalpippeelomjaaZ10
import Derived.Test.YtalpippeelomjaaZ18
import Derived.Test.YtalpippeelomjaaZ21
import Derived.Test.YtalpippeelomjaaZ16
import Derived.Lib.SlBytesConst
namespace Go.Proofs.Ytalpippeelomjaa
theorem heapThreeZ41 (w : World) (o : Obj) {r : Nat} (h : r < w.heap.size) : (w.alloc o).heap[r]? = w.heap[r]? := by first | exact Go.heap_alloc_old _ _ h | exact Go.heap_alloc_old _ _ _ h
theorem heapFourZ41 (w : World) (o : Obj) (r : Nat) (h : r < w.heap.size) : (w.alloc o).heap[r]? = w.heap[r]? := heapThreeZ41 w o h
open Go.RowKit Go.Shelf
set_option linter.unusedSimpArgs false
set_option linter.unusedVariables false
theorem cutL_step {l : List Nat} (hs : ∀ b ∈ l, b < 256) (h : (takeText l 65536).2.2 = true) : cutL l = (takeText l 65536).1 :: cutL (takeText l 65536).2.1 := by
  obtain ⟨h1, h2⟩ := takeText_back hs h
  have hsr : ∀ b ∈ (takeText l 65536).2.1, b < 256 := fun b hb => hs b (by rw [h1]; exact List.mem_append_right _ hb)
  obtain ⟨rest, e1, e2, e3⟩ := cutL_parts hsr
  have e4 : l = layR ((takeText l 65536).1 :: cutL (takeText l 65536).2.1) ++ rest := by
    rw [layR_cons, List.append_assoc, ← e1]
    exact h1
  have h5 := cutL_eq (ls := (takeText l 65536).1 :: cutL (takeText l 65536).2.1) (rest := rest) (fun s hs => by
    rcases List.mem_cons.1 hs with rfl | hs
    · exact h2
    · exact e2 s hs) e3
  rw [← e4] at h5
  exact h5
theorem cutL_none {l : List Nat} (h : (takeText l 65536).2.2 = false) : cutL l = [] := by
  have h5 := cutL_eq (ls := []) (rest := l) (fun s hs => by cases hs) h
  rwa [layR_nil, List.nil_append] at h5
theorem heap_new_at {w : World} {B : Nat} {o : Obj} (h : w.heap.size = B) : (w.alloc o).heap[B]? = some o := by subst h; exact Go.heap_alloc_new _ _
theorem heap_mid (w : World) (a b c : Obj) : (((w.alloc a).alloc b).alloc c).heap[w.heap.size + 1]? = some b := by
  rw [heapThreeZ41 _ _ (by simp)]
  exact heap_new_at (by simp)
theorem rcut_more {w wr y w6 : World} {base dn g6 k6 gb cb n : Nat} {Ao : Option Addr} {co : Nat} {ds : List (List Nat)} {vs : List Value} {tx : List Nat} {z : Nat × Nat} (hg6 : y.grownBy w6 (Value.slice Ao dn co).ownBlock) (hown6 : w6.ownsRow base 43 1 (.slice (some ⟨g6, 0, none⟩) (dn + 1) k6) (dn + 1) (vs ++ [.slice (some ⟨gb, 0, none⟩) n cb])) (hdn : dn = ds.length) (hv1 : vs.length = ds.length) (hv2 : wr.ownsRow base 43 1 (.slice Ao dn co) dn vs)
    (hv3 : ∀ (j : Nat) (u : Value) (l : List Nat), vs[j]? = some u → ds[j]? = some l → TBytes wr u l) (hb : Below base w wr) (hbs : base ≤ wr.heap.size) (hby : Below wr.heap.size wr y) (hbl : y.heap[gb]? = some (.cells (bytesRow (txt tx) cb) 5 z)) (hcb : (txt tx).size ≤ cb) (hts : ∀ b ∈ tx, b < 256) (htl : (txt tx).size ≤ 1048576) (hn : n = (txt tx).size) :
    Rows3 w6 base (.slice (some ⟨g6, 0, none⟩) (dn + 1) k6) (ds ++ [tx]) ∧ Below base w w6 := by
  subst hdn
  have ho := ownsRow_below hv2 hby
  refine ⟨Rows3.snoc hv1 ho (fun j u l hj hl => (hv3 j u l hj hl).keep (.of_below hby)) (TBytes.of_txt hbl hcb htl hts hn) hg6 hown6, ?_⟩
  exact (hb.trans (hby.mono hbs)).grown hg6 (Nat.le_trans hbs hby.size) (fun k hk => (own_block_lt ho hk).1)
def RCutS (W : World) (l : List Nat) (out at_ : Value) (wr : World) : Prop :=
  ∃ (ds : List (List Nat)) (r : List Nat), at_ = .int .i64 ((layR ds).length : Int) ∧ l = layR ds ++ r ∧ cutL l = ds ++ cutL r ∧ Rows3 wr W.heap.size out ds ∧ Below W.heap.size W wr
set_option maxRecDepth 100000 in
set_option maxHeartbeats 4000000 in
theorem refCut_any (w : World) (v : Value) (l : List Nat) (hp : Bytes w w.heap.size v l) (hl : l.length ≤ 1048576) :
    Calls Try.prog 42 #[v] w fun e w' => ∃ u, e = .returned (.tuple #[u, .int .i64 ((layR (cutL l)).length : Int)]) ∧ Rows2 w' w.heap.size w'.heap.size u (cutL l) ∧ Below w.heap.size w w' := by
  obtain ⟨A, c, rfl, _, hc, _⟩ := hp.form
  obtain ⟨i0, hi0, hz0, hz1, hz2⟩ := info_parts infoSlice
  have HI := Lib.hid hi0
  have H0 := Lib.hid hz0
  have H1 := Lib.hid hz1
  have H2 := Lib.hid hz2
  obtain ⟨n, hn⟩ : ∃ n, n = l.length := ⟨_, rfl⟩
  rw [← hn] at hp hl hc ⊢
  have HP := Lib.hid hp
  have HN := Lib.hid hn
  clear hp hn hi0 hz0 hz1 hz2
  go_enter Try.func42, Try.ntmps42
  go_wp2
  go_loopw [4, 5] (fun out at_ wr => RCutS w l out at_ wr) (fun _ at_ _ => n + 1 - (intOf at_).toNat)
  case atStart => exact ⟨[], l, rfl, rfl, rfl, Rows3.nil _ _, Below.refl _ _⟩
  case round =>
    obtain ⟨ds, r, rfl, e1, e2, hR, hb⟩ := hrel
    obtain ⟨a, ha⟩ : ∃ a, a = (layR ds).length := ⟨_, rfl⟩
    rw [← ha]
    have hna : n = a + r.length := by rw [HN.out, e1, List.length_append, ha]
    have han : a ≤ n := by omega
    have hrest := (HP.out.below hb).rest han
    have hr : l.drop a = r := by rw [e1, ha, List.drop_left]
    rw [hr] at hrest
    have HTK : Hid (∀ (y : World) (V : Value), Below wr.heap.size wr y → V = .slice (if c = a then A else A.map (·.add a)) (n - a) (c - a) → Calls Try.prog 71 #[V, .agg #[.int .u8 2, .int .u64 0, .string ⟨#[]⟩, .int .u64 65536]] y (TakeR y w.heap.size 2 0 65536 (txt (takeText r 65536).1) (takeText r 65536).2.1 (takeText r 65536).2.2)) :=
      Lib.hid fun y V hy hV => by
        rw [hV]
        exact refTake_text y w.heap.size 2 0 65536 ⟨#[]⟩ _ r (Nat.le_trans hb.size hy.size) (hrest.below (hy.mono hb.size)) rfl (by omega)
    obtain ⟨tx, htx⟩ : ∃ x, x = (takeText r 65536).1 := ⟨_, rfl⟩
    obtain ⟨r2, hr2⟩ : ∃ x, x = (takeText r 65536).2.1 := ⟨_, rfl⟩
    obtain ⟨ok, hok⟩ : ∃ x, x = (takeText r 65536).2.2 := ⟨_, rfl⟩
    rw [← htx, ← hr2, ← hok] at HTK
    have hrs : ∀ b ∈ r, b < 256 := fun b hb => HP.out.small b (by rw [e1]; exact List.mem_append_right _ hb)
    obtain ⟨vs, hv1, hv2, hv3⟩ := id hR
    obtain ⟨Ao, co, rfl⟩ := hR.len
    have hdl : ds.length ≤ 1048576 := by have := layR_count ds; omega
    obtain ⟨dn, hdn⟩ : ∃ x, x = ds.length := ⟨_, rfl⟩
    rw [← hdn] at hv2 hdl ⊢
    have HDN := Lib.hid hdn
    have HV1 := Lib.hid hv1
    have HV2 := Lib.hid hv2
    have HV3 := Lib.hid hv3
    have E1 := Lib.hid e1
    have E2 := Lib.hid e2
    have HRW := Lib.hid hR
    have HA := Lib.hid ha
    have HRS := Lib.hid hrs
    have han2 : (a : Int) ≤ (n : Int) := by omega
    have hac : a ≤ c := by omega
    have hac2 : (a : Int) ≤ (c : Int) := by omega
    cases ok with
    | false =>
      have hend : cutL l = ds := by rw [e2, cutL_none hok.symm, List.append_nil]
      have HEND := Lib.hid hend
      clear e1 e2 hR hrest hrs hv1 hv2 hv3 hr htx hr2 hok hdn hend
      have HNA := Lib.hid hna
      clear ha hna
      rcases Classical.em (c = a) with rfl | hca
      all_goals
        go_wp2_with (go_at_call 71; (with_reducible refine (HTK.out _ _ (Below.refl _ _) (by first | rw [if_neg hca] | rw [if_pos rfl, show n - c = 0 by omega, Nat.sub_self])).mono ?_); rintro e w2 ⟨rv, rfl, hrv, hb2⟩)
        go_ret2
        rw [HEND.out, ← HA.out]
        have hb3 := hb2.alloc hb2.size (.cells #[.int .u8 2, .int .u64 0, .string (txt tx), .int .u64 65536] 118)
        have hr3 := (HRW.out.below hb3).two
        rw [← HDN.out] at hr3
        exact ⟨.slice Ao dn co, rfl, hr3, hb.trans (hb3.mono hb.size)⟩
    | true =>
      have hbk := takeText_back hrs hok.symm
      rw [← htx, ← hr2] at hbk
      have hstep := cutL_step hrs hok.symm
      rw [← htx, ← hr2] at hstep
      have htl : (txt tx).size ≤ 1048576 := by rw [txt_size]; omega
      have hts : ∀ b ∈ tx, b < 256 := fun b hb => hrs b (by rw [hbk.1]; exact List.mem_append_left _ (List.mem_append_right _ hb))
      have hr2l : r2.length + (rec1 tx).length = r.length := by rw [hbk.1, List.length_append]; omega
      obtain ⟨m2, hm2⟩ : ∃ m, m = r2.length := ⟨_, rfl⟩
      have hnew : (n : Int) - (m2 : Int) = ((layR (ds ++ [tx])).length : Int) := by rw [layR_snoc, List.length_append, ← ha]; omega
      have hrel1 : l = layR (ds ++ [tx]) ++ r2 := by rw [layR_snoc, List.append_assoc, ← hbk.1]; exact e1
      have hrel2 : cutL l = (ds ++ [tx]) ++ cutL r2 := by rw [e2, hstep, List.append_assoc]; rfl
      have HNEW := Lib.hid hnew
      have HREL1 := Lib.hid hrel1
      have HREL2 := Lib.hid hrel2
      have HTS := Lib.hid hts
      have hpos := rec1_pos tx
      have hmea : n + 1 - (layR (ds ++ [tx])).length < n + 1 - a := by rw [layR_snoc, List.length_append, ← ha]; omega
      have HMEA := Lib.hid hmea
      have HM2 := Lib.hid hm2
      obtain ⟨tz, htz⟩ : ∃ z, z = (txt tx).size := ⟨_, rfl⟩
      have hm2n : m2 ≤ n := by omega
      have hcv := fun y => bytes_of_string y (txt tx) htl
      rw [← htz] at hcv htl
      have HTZ := Lib.hid htz
      clear e1 e2 hR hrest hrs hv1 hv2 hv3 hr htx hr2 hok hdn hbk hstep hts hr2l hnew hrel1 hrel2 hpos hmea ha hna hm2 htz
      rcases Classical.em (c = a) with rfl | hca
      all_goals
        go_wp2_with (first
          | (go_at_call 71; (with_reducible refine (HTK.out _ _ (Below.refl _ _) (by first | rw [if_neg hca] | rw [if_pos rfl, show n - c = 0 by omega, Nat.sub_self])).mono ?_); rintro e w2 ⟨rv, rfl, hrv, hb2⟩; go_loud (
              obtain ⟨Ar, cr, rfl, _⟩ := hrv.form;
              rw [← HM2.out];
              have HB2 := Lib.hid hb2;
              clear hrv hb2))
          | (at_builtin; go_loud (refine wpList_append_lies _ (by rfl) (.tmp 22) (.tmp 26) 34 (by rfl) w.heap.size 43 i0 (.slice none 0 0) 1 24 Try.underlying34 HI.out H0.out H1.out H2.out (by rfl) (by omega) (.slice Ao dn co) dn vs (by rfl) (ownsRow_below HV2.out (by repeat (with_reducible (first | exact Below.refl _ _ | assumption | exact HB2.out | refine ride_alloc ?_ _ | refine ride_drew ?_ | refine below_drewN ?_ _ | refine ride_call HB2.out ?_)))) ⟨w2.heap.size + 1 + 1, 0, none⟩ 1 1 [.slice (some ⟨w2.heap.size + 1, 0, none⟩) tz _] (by rfl) (by rfl) (World.news_of_block (heap_new_at (by simp))) (by intro u hu; simp at hu; rcases hu with rfl; rfl) (by omega) (by unfold maxLen; omega) (by omega) (Nat.le_trans hb.size (Nat.le_trans HB2.out.size (by simp; omega))) _ rfl ?_; intro g6 k6 w6 hown6 hg6 hat6 hlt6)))
        have hbl := rcut_more hg6 hown6 HDN.out HV1.out HV2.out HV3.out hb hb.size (by repeat (with_reducible (first | exact Below.refl _ _ | assumption | exact HB2.out | refine ride_alloc ?_ _ | refine ride_drew ?_ | refine below_drewN ?_ _ | refine ride_call HB2.out ?_))) (heap_mid _ _ _ _) (by rw [← HTZ.out]; exact grownCap_ge _ _ _ _) HTS.out (by rw [← HTZ.out]; exact htl) HTZ.out
        refine ⟨⟨ds ++ [tx], r2, by rw [HNEW.out], HREL1.out, HREL2.out, ?_, hbl.2⟩, ?_⟩
        · exact hbl.1
        · rw [HNEW.out]
          exact HMEA.out
end Go.Proofs.Ytalpippeelomjaa
namespace Go.Proofs.Ytalpippeelomjaa
open Go.RowKit Go.Shelf
set_option linter.unusedSimpArgs false
set_option linter.unusedVariables false
theorem rec1_len {s : List Nat} (h : s.length < 128) : (rec1 s).length = s.length + 1 := by
  unfold rec1
  rw [num_lt h, List.length_append, List.length_singleton]
  omega
theorem log_clean {w : World} {base gs gr gen ser first secs N : Nat} {recs dur : List (List Nat)} {pend : List (Nat × List Nat)} (h : Log w base gs gr gen ser first secs N recs dur pend) : ∃ qs, Clean gen ser (((applied pend dur).drop first).take secs) qs recs ∧ gen < 4294967296 ∧ ser < 4294967296 := by
  obtain ⟨b, pv, ps, nw, h⟩ := h
  exact ⟨_, h.clean, h.hg, h.hr⟩
theorem log_disk {w : World} {base gs gr gen ser first secs N : Nat} {recs dur : List (List Nat)} {pend : List (Nat × List Nat)} (h : Log w base gs gr gen ser first secs N recs dur pend) : ∃ b nw, Disk w gs b dur pend nw (-1) := by
  obtain ⟨b, pv, ps, nw, h⟩ := h
  exact ⟨b, nw, h.disk⟩
theorem bytes_one (w : World) (x : Int) (h : 0 ≤ x ∧ x < 256) (z : Nat × Nat) : Bytes (w.alloc (.cells #[.int .u8 x] 5 z)) (w.alloc (.cells #[.int .u8 x] 5 z)).heap.size (.slice (some ⟨w.heap.size, 0, none⟩) 1 1) [x.toNat] := by
  have h1 := tp_lies_block (B := w.heap.size + 1) (Go.heap_alloc_new w (.cells #[.int .u8 x] 5 z)) (by omega)
  have e : byt [x.toNat] = [.int .u8 x] := by
    show [Value.int .u8 ((x.toNat : Nat) : Int)] = _
    rw [show ((x.toNat : Nat) : Int) = x by omega]
  refine ⟨⟨_, 1, rfl, ?_, Nat.le_refl _, fun h => by cases h⟩, by intro b hb; simp at hb; omega, by unfold maxLen; simp⟩
  rw [e]
  simpa using h1
/-- Of one byte, just built. -/
theorem append_byte {w : World} {base gs gr gen ser first secs N : Nat} {recs dur : List (List Nat)} {pend : List (Nat × List Nat)} (h : Log w base gs gr gen ser first secs N recs dur pend) (hN : N ≤ 900000) (x : Int) (hx : 0 ≤ x ∧ x < 256) (hfit : 2 + (layR recs).length ≤ secs * 487) (z : Nat × Nat) :
    Calls Try.prog 20 #[.pointer (some ⟨gr, 0, none⟩), .slice (some ⟨w.heap.size, 0, none⟩) 1 1] (w.alloc (.cells #[.int .u8 x] 5 z)) fun e w' => e = .returned (.int .i64 0) ∧ (∃ pend', Log w' base gs gr gen ser first secs (N + 2048) (recs ++ [[x.toNat]]) dur (pend ++ pend')) ∧ Below base w w' := by
  have hb : Below w.heap.size w (w.alloc (.cells #[.int .u8 x] 5 z)) := (Below.refl _ _).alloc (Nat.le_refl _) _
  have hbase : base ≤ w.heap.size := by obtain ⟨b, pv, ps, nw, h⟩ := h; exact h.hb
  refine (append_log (h.below hb) hN _ 1 1 [x.toNat] (bytes_one w x hx z) (by omega) ?_).mono ?_
  · rw [rec1_len (by show 1 < 128; omega)]; exact hfit
  · rintro e w' ⟨he, hl, hk⟩
    exact ⟨he, hl, (hb.mono hbase).trans hk.below⟩
/-- Open of blank sectors. -/
theorem open_fresh {w : World} {gs n : Nat} {b : DB} {base : Nat} (hD : Disk w gs b (List.replicate n noughts) [] 0 (-1)) (gen h ser0 : Nat) (hg : gen < 4294967296) (hs0 : ser0 < 4294967295) (h4 : 4 ≤ n) (hh : h ≤ 1) (o1 : base ≤ gs) (o3 : base ≤ b.gd) (o4 : base ≤ b.gl) (o5 : b.pv = .slice none 0 0) (hb : base ≤ w.heap.size) :
    Calls Try.prog 12 #[.pointer (some ⟨gs, 0, none⟩), .agg #[.int .u32 (gen : Int), .int .u8 (h : Int), .int .u32 (ser0 : Int)]] w fun e w' => Below w.heap.size w w' ∧ ∃ gr, e = .returned (.tuple #[.pointer (some ⟨gr, 0, none⟩), .int .i64 0, .int .i64 0]) ∧ w.heap.size ≤ gr ∧ Log w' base gs gr gen (ser0 + 1) (halfN n h) (halfK n h) 0 [] (List.replicate n noughts) [] := by
  have hl : (List.replicate n noughts).length = n := List.length_replicate
  have hc : Clean gen 0 (((applied [] (List.replicate n noughts)).drop (halfN n h)).take (halfK n h)) [] [] := by
    rw [show applied [] (List.replicate n noughts) = List.replicate n noughts from rfl, List.drop_replicate, List.take_replicate]
    exact clean_blank gen 0 _
  have h1 := open_log (N := 0) hD h ser0 0 [] (by rw [hl]; exact hc) hg (by omega) hs0 (by rw [hl]; exact h4) hh (Nat.le_refl _) ⟨Int.le_refl _, Int.le_refl _⟩ o1 o3 o4 (by intro g e; rw [o5] at e; cases e) hb
  rw [hl] at h1
  refine h1.mono ?_
  rintro e w' ⟨hB, gr, e1, e2, e3⟩
  refine ⟨hB, gr, e1, e2, ?_⟩
  rw [show (topS ser0 [] + 1) % 4294967296 = ser0 + 1 by show (ser0 + 1) % 4294967296 = _; omega] at e3
  exact e3
/-- Open behind a crash, of what was whole. -/
theorem open_whole {w : World} {gs : Nat} {b : DB} {base ser : Nat} {dur recs : List (List Nat)} {qs : List Pg} (hD : Disk w gs b dur [] 0 (-1)) (gen h ser0 : Nat) (hc : Clean gen ser ((dur.drop (halfN dur.length h)).take (halfK dur.length h)) qs recs) (hg : gen < 4294967296) (hs : ser < 4294967295) (hs0 : ser0 < 4294967295) (h4 : 4 ≤ dur.length) (hh : h ≤ 1) (o1 : base ≤ gs) (o3 : base ≤ b.gd) (o4 : base ≤ b.gl) (o5 : b.pv = .slice none 0 0) (hb : base ≤ w.heap.size) :
    Calls Try.prog 12 #[.pointer (some ⟨gs, 0, none⟩), .agg #[.int .u32 (gen : Int), .int .u8 (h : Int), .int .u32 (ser0 : Int)]] w (LogOp w base gs gen ser0 (halfN dur.length h) (halfK dur.length h) 0 recs dur [] qs) :=
  open_log (N := 0) hD h ser0 ser qs hc hg hs hs0 h4 hh (Nat.le_refl _) ⟨Int.le_refl _, Int.le_refl _⟩ o1 o3 o4 (by intro g e; rw [o5] at e; cases e) hb
def ten : List (List Nat) := List.replicate 10 noughts
theorem ten_length : ten.length = 10 := List.length_replicate
theorem half10 : halfN 10 0 = 2 ∧ halfK 10 0 = 4 := by decide
/-- The log of the example. -/
def ALog (w0 w : World) (gs gr N : Nat) (recs dur : List (List Nat)) (pend : List (Nat × List Nat)) : Prop := Log w w0.heap.size gs gr 1 1 2 4 N recs dur pend ∧ Below w0.heap.size w0 w ∧ dur.length = 10
theorem alog_below {w0 w w' : World} {gs gr N : Nat} {recs dur : List (List Nat)} {pend : List (Nat × List Nat)} (h : ALog w0 w gs gr N recs dur pend) (hb : Below w.heap.size w w') : ALog w0 w' gs gr N recs dur pend := ⟨h.1.below hb, h.2.1.trans (hb.mono h.2.1.size), h.2.2⟩
theorem alog_append {w0 w : World} {gs gr N : Nat} {recs dur : List (List Nat)} {pend : List (Nat × List Nat)} (h : ALog w0 w gs gr N recs dur pend) (hN : N ≤ 900000) (x : Int) (hx : 0 ≤ x ∧ x < 256) (hfit : 2 + (layR recs).length ≤ 1948) (g : Nat) (hg : g = w.heap.size) (z : Nat × Nat) :
    Calls Try.prog 20 #[.pointer (some ⟨gr, 0, none⟩), .slice (some ⟨g, 0, none⟩) 1 1] (w.alloc (.cells #[.int .u8 x] 5 z)) fun e w' => e = .returned (.int .i64 0) ∧ ∃ pend', ALog w0 w' gs gr (N + 2048) (recs ++ [[x.toNat]]) dur pend' := by
  subst hg
  refine (append_byte h.1 hN x hx (by omega) z).mono ?_
  rintro e w' ⟨he, ⟨p', hl⟩, hb⟩
  exact ⟨he, _, hl, h.2.1.trans hb, h.2.2⟩
theorem alog_sync {w0 w : World} {gs gr N : Nat} {recs dur : List (List Nat)} {pend : List (Nat × List Nat)} (h : ALog w0 w gs gr N recs dur pend) :
    Calls Try.prog 13 #[.pointer (some ⟨gr, 0, none⟩)] w fun e w' => e = .returned (.int .i64 0) ∧ ∃ dur', ALog w0 w' gs gr N recs dur' [] ∧ ∃ qs, Clean 1 1 ((dur'.drop 2).take 4) qs recs := by
  refine (sync_log h.1).mono ?_
  rintro e w' ⟨he, hl, hk⟩
  obtain ⟨qs, hc, _, _⟩ := log_clean hl
  exact ⟨he, _, ⟨hl, h.2.1.trans hk.below, by rw [applied_length]; exact h.2.2⟩, qs, hc⟩
theorem alog_crash {w0 w : World} {gs gr N : Nat} {recs rs dur : List (List Nat)} {pend : List (Nat × List Nat)} {qs : List Pg} (h : ALog w0 w gs gr N recs dur pend) (hc : Clean 1 1 ((dur.drop 2).take 4) qs rs) :
    Calls Try.prog 14 #[.pointer (some ⟨gs, 0, none⟩), .slice none 0 0] w fun e w' => ∃ gs2, e = .returned (.tuple #[.pointer (some ⟨gs2, 0, none⟩), .int .i64 0]) ∧ (∀ y, Below w'.heap.size w' y → Calls Try.prog 12 #[.pointer (some ⟨gs2, 0, none⟩), .agg #[.int .u32 1, .int .u8 0, .int .u32 0]] y fun e w'' => ∃ gr, e = .returned (.tuple #[.pointer (some ⟨gr, 0, none⟩), .int .i64 0, .int .i64 0]) ∧ (∃ ser dur, Log w'' w0.heap.size gs2 gr 1 ser 2 4 0 rs dur []) ∧ Below y.heap.size y w'') ∧ ALog w0 w' gs gr N recs dur pend := by
  obtain ⟨b, nw, hD⟩ := log_disk h.1
  refine (crash_any hD _ [] (flags_none w)).mono ?_
  rintro e w' ⟨gs2, b2, he, hD2, o1, o3, o4, o5, hb⟩
  have hs := h.2.1.size
  refine ⟨gs2, he, fun y hy => ?_, alog_below h hb⟩
  have hD3 : Disk w' gs2 b2 dur [] 0 (-1) := hD2
  have hl := h.2.2
  have h1 := open_whole (ser := 1) (base := w0.heap.size) (hD3.below hy) 1 0 0 (recs := rs) (qs := qs) (by rw [hl]; exact hc) (by decide) (by decide) (by decide) (by omega) (by decide) (Nat.le_trans hs o1) (Nat.le_trans hs o3) (Nat.le_trans hs o4) o5 (Nat.le_trans hs (Nat.le_trans hb.size hy.size))
  rw [hl, half10.1, half10.2] at h1
  refine h1.mono ?_
  rintro e w2 ⟨hb2, gr2, e1, e2, e3⟩
  exact ⟨gr2, e1, ⟨_, _, e3⟩, hb2⟩
theorem same_ab {w : World} {B : Nat} {u : Value} (h : Rows2 w B w.heap.size u (([] ++ [[(97 : Int).toNat]]) ++ [[(98 : Int).toNat]])) (z1 z2 : Nat × Nat) (g1 g2 g3 : Nat) (e1 : g1 = w.heap.size) (e2 : g2 = w.heap.size + 1) (e3 : g3 = w.heap.size + 1 + 1) :
    Calls Try.prog 22 #[u, .slice (some ⟨g3, 0, none⟩) 2 2] (((w.alloc (.cells #[.int .u8 97] 5 z1)).alloc (.cells #[.int .u8 98] 5 z2)).alloc (.cells #[.slice (some ⟨g1, 0, none⟩) 1 1, .slice (some ⟨g2, 0, none⟩) 1 1] 43)) fun e w' => e = .returned (.bool true) ∧ Below w.heap.size w w' := by
  subst e1 e2 e3
  have hb1 : Below w.heap.size w (w.alloc (.cells #[.int .u8 97] 5 z1)) := (Below.refl _ _).alloc (Nat.le_refl _) _
  have hb2 : Below w.heap.size w ((w.alloc (.cells #[.int .u8 97] 5 z1)).alloc (.cells #[.int .u8 98] 5 z2)) := hb1.alloc hb1.size _
  have hb3 := hb2.alloc hb2.size (.cells #[.slice (some ⟨w.heap.size, 0, none⟩) 1 1, .slice (some ⟨w.heap.size + 1, 0, none⟩) 1 1] 43)
  have p1 := ((bytes_one w 97 (by decide) z1).along ((Below.refl _ _).alloc (Nat.le_refl _) (.cells #[.int .u8 98] 5 z2))).along ((Below.refl _ _).alloc (Nat.le_refl _) (.cells #[.slice (some ⟨w.heap.size, 0, none⟩) 1 1, .slice (some ⟨w.heap.size + 1, 0, none⟩) 1 1] 43))
  have p2 := (bytes_one (w.alloc (.cells #[.int .u8 97] 5 z1)) 98 (by decide) z2).along ((Below.refl _ _).alloc (Nat.le_refl _) (.cells #[.slice (some ⟨w.heap.size, 0, none⟩) 1 1, .slice (some ⟨w.heap.size + 1, 0, none⟩) 1 1] 43))
  rw [show (w.alloc (.cells #[.int .u8 97] 5 z1)).heap.size = w.heap.size + 1 by simp] at p2
  have hq := parts_two (gx := w.heap.size + 1 + 1) (heap_new_at (by simp)) p1 p2 (Nat.le_refl _)
  have hp := (h.below (Nat.le_refl _) hb3).parts hb3.size (by unfold maxLen; simp)
  refine (same_rows _ _ _ _ _ hp hq).mono ?_
  rintro e w' ⟨he, q, rfl⟩
  exact ⟨he, below_drewN hb3 q⟩
theorem alog_count {w0 w : World} {gs gr N : Nat} {dur : List (List Nat)} {pend : List (Nat × List Nat)} {x y z : List Nat} (h : ALog w0 w gs gr N ((([] ++ [x]) ++ [y]) ++ [z]) dur pend) : Calls Try.prog 23 #[.pointer (some ⟨gr, 0, none⟩)] w fun e w' => e = .returned (.int .i64 3) ∧ w = w' := count_log h.1
theorem len1 (x : Nat) : (layR ([] ++ [[x]])).length = 2 := by rw [layR_snoc, List.length_append, rec1_len (by show 1 < 128; omega)]; rfl
theorem len2 (x y : Nat) : (layR (([] ++ [[x]]) ++ [[y]])).length = 4 := by rw [layR_snoc, List.length_append, len1, rec1_len (by show 1 < 128; omega)]; rfl
set_option maxRecDepth 100000 in
set_option maxHeartbeats 8000000 in
theorem awake_true (w : World) : Calls Try.prog 10 #[] w fun e w' => e = .returned (.bool true) ∧ Below w.heap.size w w' := by
  have HN := hide (new_good w 10 (by omega) (by omega))
  rw [show ((10 : Nat) : Int) = 10 from rfl] at HN
  have kcv : ∀ (W : World) (C : Array Value) (n c b : Nat), b = W.heap.size → (convert 43 43 (.slice (some ⟨b, 0, none⟩) n c)).run Try.prog (W.alloc (.cells C 5)) = .ok (.slice (some ⟨b, 0, none⟩) n c) (W.alloc (.cells C 5 (C.size, C.size + 1))) :=
    fun W C n c b hb => by subst hb; exact Lib.run_convert_bytes_const (P := Try.prog) W 43 5 C n c Try.underlying43 Try.underlying5
  go_enter Try.func10, Try.ntmps10
  go_wp2_with (first
    | (go_at_call 11; (with_reducible refine (unhide HN).mono ?_); rintro e w1 ⟨gs, b, rfl, hD1, hgs, hgd, hgl, hpv, hw1⟩; go_loud (
        have HOP : Hid (∀ y, Below w1.heap.size w1 y → Calls Try.prog 12 #[.pointer (some ⟨gs, 0, none⟩), .agg #[.int .u32 1, .int .u8 0, .int .u32 0]] y fun e w' => ∃ gr, e = .returned (.tuple #[.pointer (some ⟨gr, 0, none⟩), .int .i64 0, .int .i64 0]) ∧ ALog w w' gs gr 0 [] ten []) := Lib.hid (fun y hy => (open_fresh (base := w.heap.size) (hD1.below hy) 1 0 0 (by decide) (by decide) (by decide) (by decide) hgs hgd hgl hpv (Nat.le_trans hw1.size hy.size)).mono (fun e w' ⟨q1, gr, q2, q3, q4⟩ => ⟨gr, q2, q4, hw1.trans ((hy.trans (q1.mono hy.size)).mono hw1.size), ten_length⟩));
        clear hD1 hgs hgd hgl hpv hw1))
    | (go_at_call 43; (with_reducible refine (first_any _).mono ?_); rintro e w2 ⟨rfl, hb2⟩)
    | (go_at_call 12; (with_reducible refine (HOP.out _ hb2).mono ?_); rintro e w3 ⟨gr, rfl, hL3⟩; go_loud (
        have HL := Lib.hid hL3;
        have HFIT : Hid (2 + (layR []).length ≤ 1948) := Lib.hid (by show 2 + 0 ≤ 1948; omega);
        clear HOP hb2 hL3))
    | (go_at_call 20; (with_reducible refine (alog_append HL.out (by omega) _ (by decide) (by first | exact HFIT.out | (rw [len1]; omega) | (rw [len2]; omega)) _ rfl _).mono ?_); rintro e w4 ⟨rfl, p4, hL4⟩; go_loud (
        have HL := Lib.hid hL4;
        clear hL4))
    | (go_at_call 13; (with_reducible refine (alog_sync HL.out).mono ?_); rintro e w5 ⟨rfl, dur', hL5, qs, hC5⟩; go_loud (
        have HL := Lib.hid hL5;
        have HC := Lib.hid hC5;
        clear hL5 hC5))
    | (go_at_call 14; (with_reducible refine (alog_crash HL.out HC.out).mono ?_); rintro e w6 ⟨gs2, rfl, hA6, hL6⟩; go_loud (
        have HL := Lib.hid hL6;
        have HAG := Lib.hid hA6;
        clear hL6 hA6))
    | (go_at_call 12; (with_reducible refine (HAG.out _ hb2).mono ?_); rintro e w7 ⟨gr2, rfl, ⟨ser7, dur7, hL7⟩, hb7⟩; go_loud (
        have HL := Lib.hid (alog_below (alog_below HL.out hb2) hb7);
        have HRC : Hid (Calls Try.prog 15 #[.pointer (some ⟨gr2, 0, none⟩)] w7 (RecsR w7 _)) := Lib.hid (records_log hL7);
        clear HAG hb2 hL7 hb7))
    | (go_at_call 15; (with_reducible refine (HRC.out).mono ?_); rintro e w8 ⟨u8, rfl, hR8, hb8⟩; go_loud (
        have HL := Lib.hid (alog_below HL.out hb8);
        have HSM := Lib.hid (same_ab hR8);
        clear hR8 hb8))
    | (go_at_call 22; (with_reducible refine (HSM.out _ _ _ _ _ rfl rfl rfl).mono ?_); rintro e w9 ⟨rfl, hb9⟩; go_loud (
        have HL := Lib.hid (alog_below HL.out hb9);
        have HCN := Lib.hid (alog_count HL.out);
        clear hb9))
    | (go_at_call 23; (with_reducible refine (HCN.out).mono ?_); rintro e w10 ⟨rfl, rfl⟩))
  go_ret
  exact ⟨rfl, HL.out.2.1⟩
end Go.Proofs.Ytalpippeelomjaa
