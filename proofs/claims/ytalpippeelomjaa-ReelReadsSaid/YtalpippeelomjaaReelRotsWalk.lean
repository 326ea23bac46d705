/- The law ReelRots, walked. -/
import Derived.Test.YtalpippeelomjaaZ46
import Derived.Test.YtalpippeelomjaaReelGoesWalk
import Derived.Test.YtalpippeelomjaaReelArgsWalk
namespace Go.Proofs.Ytalpippeelomjaa
open Go.RowKit Go.Shelf
set_option linter.unusedSimpArgs false
set_option linter.unusedVariables false
def noz (ls : List Nat) (k : Nat) : List (List Nat) := (ls.take (min k 8)).map fun n => List.replicate (n % 800) 0
theorem noz_next {ls : List Nat} {k n : Nat} (hk : k < 8) (hl : ls[k]? = some n) : noz ls (k + 1) = noz ls k ++ [List.replicate (n % 800) 0] := by
  unfold noz
  rw [Nat.min_eq_left (by omega), Nat.min_eq_left (by omega), List.take_add_one, hl, List.map_append]
  rfl
theorem noz_far {ls : List Nat} {k : Nat} (hk : 8 ≤ k) : noz ls (k + 1) = noz ls k := by
  unfold noz
  rw [Nat.min_eq_right hk, Nat.min_eq_right (by omega)]
theorem noz_fit (ls : List Nat) (k : Nat) : ∀ r ∈ noz ls k, r.length ≤ 799 := fun r hr => by
  unfold noz at hr
  obtain ⟨x, _, rfl⟩ := List.mem_map.1 hr
  rw [List.length_replicate]
  omega
theorem noz_few (ls : List Nat) (k : Nat) : (noz ls k).length ≤ min k 8 := by
  unfold noz
  rw [List.length_map, List.length_take]
  omega
theorem run_make_16 (N : Nat) (hN : N < 800) (w : World) : (Instr.makeSlice 43 (.int .u16 (N : Int)) (.int .u16 (N : Int))).run Try.prog w = .ok (.slice (some ⟨w.heap.size, 0, none⟩) N N) (w.alloc (.cells (byt (List.replicate N 0)).toArray 5)) := by
  obtain ⟨i0, hi0, hz0, hz1, hz2⟩ := info_parts infoByte
  have e : madeCells (Value.cells (.int .u8 0)) ((N : Int).toNat * 1) = (byt (List.replicate N 0)).toArray := by
    have e2 := toList_madeCells_one (.int .u8 0) N
    have e3 : (byt (List.replicate N 0)).toArray = (madeCells #[Value.int .u8 0] N).toList.toArray := by
      rw [e2]
      unfold byt
      rw [List.map_replicate]
      rfl
    rw [e3, Array.toArray_toList, Int.toNat_natCast, Nat.mul_one]
    rfl
  have h := run_make (P := Try.prog) w 43 5 i0 (.int .u8 0) Try.underlying43 hi0 hz0 .u16 .u16 (N : Int) (N : Int) (by omega) (by omega) (by rw [hz2]; omega) (by omega)
  rw [hz1, e] at h
  rw [Int.toNat_natCast] at h
  exact h
/-- Open of blank sectors, whatever the serial. -/
theorem open_blank {w : World} {gs : Nat} {b : DB} {base : Nat} (hD : Disk w gs b (List.replicate 40 noughts) [] 0 (-1)) (gen h s : Nat) (hg : gen < 4294967296) (hs0 : s < 4294967296) (hh : h ≤ 1) (o1 : base ≤ gs) (o3 : base ≤ b.gd) (o4 : base ≤ b.gl) (o5 : b.pv = .slice none 0 0) (hb : base ≤ w.heap.size) :
    Calls Try.prog 12 #[.pointer (some ⟨gs, 0, none⟩), .agg #[.int .u32 (gen : Int), .int .u8 (h : Int), .int .u32 (s : Int)]] w fun e w' => Below w.heap.size w w' ∧ ∃ gr, e = .returned (.tuple #[.pointer (some ⟨gr, 0, none⟩), .int .i64 0, .int .i64 0]) ∧ w.heap.size ≤ gr ∧ Log w' base gs gr gen ((s + 1) % 4294967296) (halfN 40 h) 19 0 [] (List.replicate 40 noughts) [] := by
  have hl : (List.replicate 40 noughts).length = 40 := List.length_replicate
  have hK : halfK 40 h = 19 := by unfold halfK; rw [if_neg (by omega)]
  have hF : halfN 40 h + 19 ≤ 40 := by
    unfold halfN
    rw [if_neg (by omega)]
    rcases (show h = 0 ∨ h = 1 by omega) with rfl | rfl <;> omega
  have hc : ∀ ser, Clean gen ser (((applied [] (List.replicate 40 noughts)).drop (halfN 40 h)).take 19) [] [] := fun ser => by
    rw [show applied [] (List.replicate 40 noughts) = List.replicate 40 noughts from rfl, List.drop_replicate, List.take_replicate]
    exact clean_blank gen ser _
  obtain ⟨lk, ho⟩ := open_clean (hc 0) hg (by omega) (by rw [List.length_take]; omega) s
  have h1 := ropen_good hD gen h s hg hs0 (by rw [hl]; omega) hh _ rfl
  rw [hl, hK, ho] at h1
  refine h1.mono ?_
  rintro e w' ⟨hB, gr, pv, ps, e1, e2, e3, e4, e5, e6⟩
  have e3' : pgs ps = [] := e3
  refine ⟨hB, gr, e1, e2, b, pv, ps, 0, hD.below hB, e4, by rw [e3']; exact hc _, by rw [hl]; exact hF, by omega, hg, Nat.mod_lt _ (by omega), Nat.le_refl _, ⟨Int.le_refl _, Int.le_refl _⟩, o1, Nat.le_trans hb e2, o3, o4, fun g e => (by rw [o5] at e; cases e), fun g hg => Nat.le_trans hb (e5 g hg), Nat.le_trans hb hB.size⟩
/-- Open of a log that lies whole, to read it. -/
theorem open_read {w : World} {gs : Nat} {b : DB} {gen ser h s F K : Nat} {dur recs : List (List Nat)} {qs : List Pg} {nw : Int} (hD : Disk w gs b dur [] nw (-1)) (hc : Clean gen ser ((dur.drop F).take K) qs recs) (hd : dur.length = 40) (hF : F = halfN 40 h) (hK : K = 19) (hg : gen < 4294967296) (hs : ser < 4294967296) (hs0 : s < 4294967296) (hh : h ≤ 1) :
    Calls Try.prog 12 #[.pointer (some ⟨gs, 0, none⟩), .agg #[.int .u32 (gen : Int), .int .u8 (h : Int), .int .u32 (s : Int)]] w fun e w' => ∃ gr, e = .returned (.tuple #[.pointer (some ⟨gr, 0, none⟩), .int .i64 0, .int .i64 0]) ∧ (∀ y, Below w'.heap.size w' y → Calls Try.prog 15 #[.pointer (some ⟨gr, 0, none⟩)] y (RecsR y recs)) ∧ Below w.heap.size w w' := by
  have hK2 : halfK 40 h = K := by rw [hK]; unfold halfK; rw [if_neg (by omega)]
  obtain ⟨lk, ho⟩ := open_clean hc hg hs (by rw [List.length_take]; omega) s
  have h1 := ropen_good hD gen h s hg hs0 (by omega) hh _ rfl
  rw [hd, hK2, ← hF] at h1
  rw [show applied [] dur = dur from rfl, ho] at h1
  refine h1.mono ?_
  rintro e w' ⟨hB, gr, pv, ps, e1, e2, e3, e4, e5, e6⟩
  have e3' : pgs ps = qs := e3
  have hrow : rowP qs = layR recs := hc.row
  refine ⟨gr, e1, fun y hy => ?_, hB⟩
  have e4' : Reel w' gr gs gen ((topS s qs + 1) % 4294967296) F K pv ps (layR (cutL (rowP qs))).length (cutL (rowP qs)).length := e4
  rw [hrow, cutL_lay hc.fit] at e4'
  have hrw : rowOf ps = layR recs := by rw [rowOf_pgs, e3', hrow]
  have h2 := records_any (e4'.below hy).w (by omega) (by rw [hrw]; exact Nat.le_refl _)
  rw [hrw, List.take_of_length_le (Nat.le_refl _), cutL_lay hc.fit] at h2
  exact h2
/-- Open where a page of the log is corrupt. -/
theorem open_bad {w : World} {gs : Nat} {b : DB} {gen ser h s F K j : Nat} {dur recs : List (List Nat)} {qs : List Pg} {nw : Int} {s' : List Nat} (hD : Disk w gs b (dur.set (F + j) s') [] nw (-1)) (hc : Clean gen ser ((dur.drop F).take K) qs recs) (hd : dur.length = 40) (hF : F = halfN 40 h) (hK : K = 19) (hg : gen < 4294967296) (hs : ser < 4294967296) (hs0 : s < 4294967296) (hh : h ≤ 1) (hj : j < qs.length) (he : errOf s' = 7) :
    Calls Try.prog 12 #[.pointer (some ⟨gs, 0, none⟩), .agg #[.int .u32 (gen : Int), .int .u8 (h : Int), .int .u32 (s : Int)]] w fun e w' => e = .returned (.tuple #[.pointer none, .int .i64 ((F + j : Nat) : Int), .int .i64 7]) ∧ Below w.heap.size w w' := by
  have hK2 : halfK 40 h = K := by rw [hK]; unfold halfK; rw [if_neg (by omega)]
  have hjK : j < K := by
    have h2 := hc.room
    rw [List.length_take] at h2
    omega
  have ho := open_rotten hc hg hs (by rw [List.length_take]; omega) s hj he
  have h1 := ropen_good hD gen h s hg hs0 (by rw [List.length_set]; omega) hh _ rfl
  rw [List.length_set, hd, hK2, ← hF] at h1
  rw [show applied [] (dur.set (F + j) s') = dur.set (F + j) s' from rfl, view_set hjK, ho] at h1
  refine h1.mono ?_
  rintro e w' ⟨hB, he⟩
  exact ⟨he, hB⟩
def RotsI (w : World) (base gs gr gen ser h s0 B n : Nat) (ls : List Nat) (i : Value) (wr : World) : Prop :=
  ∃ (k : Nat) (pend : List (Nat × List Nat)) (b : DB) (pv : Value) (ps : List PV) (nw : Int), k ≤ n ∧ i = .int .i64 (k : Int) ∧ LogS wr base gs gr gen ser (halfN 40 h) 19 (min k 8 * 2048) (noz ls k) (List.replicate 40 noughts) pend b pv ps nw ∧ crownBox wr B gen h s0 ∧ Below w.heap.size w wr
theorem made_bytes (w : World) (N : Nat) (hN : N ≤ 1048576) : Bytes (w.alloc (.cells (byt (List.replicate N 0)).toArray 5)) (w.alloc (.cells (byt (List.replicate N 0)).toArray 5)).heap.size (.slice (some ⟨w.heap.size, 0, none⟩) N N) (List.replicate N 0) :=
  bytes_made (by simp) hN
theorem rot_logS {w : World} {base gs gr gen ser first secs N : Nat} {recs D : List (List Nat)} {b : DB} {pv : Value} {ps : List PV} {nw : Int} (h : LogS w base gs gr gen ser first secs N recs D [] b pv ps nw) (i a mask : Nat) (s : List Nat) (hs : D[i]? = some s) (ha : a ≤ 4064) (hm : mask < 4294967296) :
    Calls Try.prog 38 #[.pointer (some ⟨gs, 0, none⟩), .int .i64 (i : Int), .int .i64 (a : Int), .int .i64 32, .int .u32 (mask : Int)] w fun e w' => e = .returned (.int .i64 0) ∧ Disk w' gs b (D.set i (flip a mask s 32)) [] nw (-1) ∧ Reel w' gr gs gen ser first secs pv ps (layR recs).length recs.length ∧ Kept base w w' := by
  refine (rot_good h.disk i a 32 mask s hs (by omega) (by omega) hm).mono ?_
  rintro e w' ⟨he, hD, hO⟩
  have hne : ∀ (j : Nat) (o : Obj), w.heap[j]? = some o → (∀ cs, o ≠ .cells cs 92 (0, 0)) → (∀ cs, o ≠ .cells cs 97 (0, 0)) → w'.heap[j]? = some o := fun j o hj h1 h2 => (hO.block j (lt_of_heap hj) (by
    rintro (e | e)
    · obtain ⟨cs', h'⟩ := row_heap h.disk.du (k := j) (by rw [e]; rfl)
      rw [hj] at h'
      injection h' with h'
      exact h1 cs' h'
    · obtain ⟨cs', h'⟩ := row_heap h.disk.pe e.symm
      rw [hj] at h'
      injection h' with h'
      exact h2 cs' h')).trans hj
  have hty : ∀ (j : Nat) (cs : Array Value) (t : TypeId), w.heap[j]? = some (.cells cs t (0, 0)) → t ≠ 92 → t ≠ 97 → w'.heap[j]? = some (.cells cs t (0, 0)) := fun j cs t hj h1 h2 => hne j _ hj (fun cs' e => by injection e with _ e _; exact h1 e) (fun cs' e => by injection e with _ e _; exact h2 e)
  refine ⟨he, hD, ⟨hty _ _ _ h.reel.st (by decide) (by decide), h.reel.pages.kty (fun j cs t hj ht => hty j cs t hj (by rcases ht with rfl | rfl <;> decide) (by rcases ht with rfl | rfl <;> decide)), h.reel.long⟩, ⟨⟨hO.os, hO.tape, hO.output, hO.size, fun k hk => hO.block k (Nat.lt_of_lt_of_le hk h.hb) ?_⟩, fun j o hj hno => hne j o hj (fun cs e => (hno cs _ e).2.1 rfl) (fun cs e => (hno cs _ e).2.2.1 rfl)⟩⟩
  rintro (e | e)
  · have := h.o3; omega
  · have := h.o5 k e.symm; omega
set_option maxRecDepth 100000 in
set_option maxHeartbeats 16000000 in
theorem reelRots_walk (gen h0 s0 : Nat) (A : Option Addr) (n c : Nat) (ls : List Nat) (which at_ mask : Nat) (w : World) (hg : gen < 4294967296) (hh0 : h0 < 256) (hs0 : s0 < 4294967296) (hp : U16s w w.heap.size (.slice A n c) ls) (hwh : which < 256) (hat : at_ < 65536) (hma : mask < 4294967296) :
    Calls Try.prog 5 #[.agg #[.int .u32 (gen : Int), .int .u8 (h0 : Int), .int .u32 (s0 : Int)], .slice A n c, .int .u8 (which : Int), .int .u16 (at_ : Int), .int .u32 (mask : Int)] w fun e w' => e = .returned (.bool true) ∧ Below w.heap.size w w' := by
  obtain ⟨h, hh⟩ : ∃ h, h = h0 % 2 := ⟨_, rfl⟩
  have e1 : (h0 : Int) % 2 = (h : Int) := by omega
  have e1' : (h0 : Int).tmod 2 = (h : Int) := by rw [Int.tmod_eq_emod_of_nonneg (by omega)]; exact e1
  have hh1 : h ≤ 1 := by omega
  obtain ⟨A', c', hv, hlies, hlong, hlt16⟩ := hp
  injection hv with q1 q2 q3
  subst q1
  subst q3
  unfold maxLen at hlong
  rw [← q2] at hlong
  have HNL := Lib.hid q2
  have HLI := Lib.hid hlies
  have HL16 := Lib.hid hlt16
  have HN : Hid (∀ y, Calls Try.prog 11 #[.int .i64 40] y fun e w' => ∃ gs b, e = .returned (.tuple #[.pointer (some ⟨gs, 0, none⟩), .int .i64 0]) ∧ Disk w' gs b (List.replicate 40 noughts) [] 0 (-1) ∧ y.heap.size ≤ gs ∧ y.heap.size ≤ b.gd ∧ y.heap.size ≤ b.gl ∧ b.pv = .slice none 0 0 ∧ Below y.heap.size y w') := Lib.hid fun y => new_good y 40 (by omega) (by omega)
  obtain ⟨ser, hser⟩ : ∃ x, x = (s0 + 1) % 4294967296 := ⟨_, rfl⟩
  have HSER := Lib.hid hser
  clear hh q2 hlies hlt16 hser
  go_enter Try.func5, Try.ntmps5
  go_wp2_with (first
    | (go_at_call 10; (with_reducible refine (awake_true _).mono ?_); rintro e w1 ⟨rfl, hw1⟩; go_loud (
        have hb1 : w1.heap[w.heap.size]? = some (.cells #[.int .u32 (gen : Int), .int .u8 (h0 : Int), .int .u32 (s0 : Int)] 24 (0, 0)) := (hw1.block w.heap.size (by simp)).trans (Go.heap_alloc_new w _);
        have q1 : w1.cell? ⟨w.heap.size, 1, none⟩ = some (.int .u8 (h0 : Int)) := (by unfold World.cell?; rw [hb1]; rfl);
        have f1 : w1.frozen? ⟨w.heap.size, 1, none⟩ = false := frozen_of_row w1 _ _ _ _ hb1;
        have HB1 := Lib.hid hb1;
        have HW1 : Hid (Below w.heap.size w w1 ∧ w.heap.size < w1.heap.size) := Lib.hid ⟨((Below.refl w.heap.size w).alloc (Nat.le_refl _) _).trans (hw1.mono (by simp)), (by have := hw1.size; simp at this; omega)⟩;
        clear hb1 hw1))
    | (go_at_call 11; (with_reducible refine (HN.out _).mono ?_); rintro e w2 ⟨gs, bb, rfl, hD2, hgs, hgd, hgl, hpv, hw2⟩; go_loud (
        have hsz : (w1.setCell ⟨w.heap.size, 1, none⟩ (.int .u8 (h : Int))).heap.size = w1.heap.size := (by simp [World.setCell]);
        rw [hsz] at hgs hgd hgl hw2;
        have hbx : crownBox w2 w.heap.size gen h s0 := (hw2.block w.heap.size HW1.out.2).trans (by rw [heap_setCell_same _ _ _ _ _ _ HB1.out]; rfl);
        have hbw : Below w.heap.size w w2 := (HW1.out.1.setCell (p := ⟨w.heap.size, 1, none⟩) (Nat.le_refl _) (.int .u8 (h : Int))).trans (hw2.mono (by have := HW1.out.2; omega));
        obtain ⟨u0, u1, u2⟩ := hbx.cells;
        have hs2 := hw2.size;
        rw [hsz] at hs2;
        have HOP : Hid (Calls Try.prog 12 #[.pointer (some ⟨gs, 0, none⟩), .agg #[.int .u32 (gen : Int), .int .u8 (h : Int), .int .u32 (s0 : Int)]] w2 fun e w' => Below w2.heap.size w2 w' ∧ ∃ gr, e = .returned (.tuple #[.pointer (some ⟨gr, 0, none⟩), .int .i64 0, .int .i64 0]) ∧ w2.heap.size ≤ gr ∧ Log w' w1.heap.size gs gr gen ((s0 + 1) % 4294967296) (halfN 40 h) 19 0 [] (List.replicate 40 noughts) []) := Lib.hid (open_blank (base := w1.heap.size) hD2 gen h s0 hg hs0 hh1 hgs hgd hgl hpv hs2);
        rw [← HSER.out] at HOP;
        have HBX := Lib.hid hbx;
        have HBW := Lib.hid hbw;
        have HS2 : Hid (w1.heap.size ≤ w2.heap.size ∧ w.heap.size < w1.heap.size) := Lib.hid ⟨hs2, HW1.out.2⟩;
        clear hD2 hgs hgd hgl hpv hw2 hsz hbx hbw hs2 q1 f1))
    | (go_at_call 12; (with_reducible refine (HOP.out).mono ?_); rintro e w3 ⟨hb3, gr, rfl, hgr3, hL3⟩; go_loud (
        obtain ⟨b3, pv3, ps3, nw3, hS3⟩ := hL3;
        have HL := Lib.hid hS3;
        have HBX3 : Hid (crownBox w3 w.heap.size gen h s0) := Lib.hid ((hb3.block w.heap.size (by have := HS2.out; omega)).trans HBX.out);
        have HBW3 := Lib.hid (HBW.out.trans (hb3.mono HBW.out.size));
        clear HOP hS3 hb3 hgr3)))
  go_loopw [48] (fun i wr => RotsI w w1.heap.size gs gr gen ser h s0 w.heap.size n ls i wr) (fun i _ => n - (intOf i).toNat)
  case atStart => exact ⟨0, [], b3, pv3, ps3, nw3, Nat.zero_le _, rfl, HL.out, HBX3.out, HBW3.out⟩
  case round =>
    obtain ⟨k, pend, bk, pvk, psk, nwk, hk, rfl, hS, hbx, hb⟩ := hrel
    have hbs := hS.hb
    have hw1b := HS2.out.2
    have hsz : (layR (noz ls k)).length ≤ min k 8 * 804 := by
      have h1 := layR_le (noz_fit ls k) (by omega)
      have h2 := noz_few ls k
      have h3 : (noz ls k).length * (799 + 5) ≤ min k 8 * 804 := Nat.mul_le_mul_right _ h2
      omega
    by_cases hlt : k < n
    · obtain ⟨z, hz⟩ : ∃ z, ls[k]? = some z := ⟨_, List.getElem?_eq_getElem (by rw [← HNL.out]; exact hlt)⟩
      obtain ⟨ad, hA, hbb, hc0⟩ := HLI.out k (.int .u16 (z : Int)) (by unfold w16; rw [List.getElem?_map, hz]; rfl)
      subst hA
      have hc := (hb.cell (p := ad.add k) (by rw [addr_add_block]; exact hbb)).trans hc0
      have hz16 := HL16.out z (List.mem_of_getElem? hz)
      clear hc0 hbb
      by_cases h8 : k < 8
      · have h8i : (k : Int) < 8 := by omega
        obtain ⟨m, hm⟩ : ∃ m, m = z % 800 := ⟨_, rfl⟩
        have hmi : (z : Int) % 800 = (m : Int) := by omega
        have hmi' : (z : Int).tmod 800 = (m : Int) := by rw [Int.tmod_eq_emod_of_nonneg (by omega)]; exact hmi
        have hm8 : m < 800 := by omega
        have hmk := run_make_16 m hm8
        have hrl : (rec1 (List.replicate m 0)).length ≤ 804 := by
          have h3 := num_length_le 2 (List.replicate m 0).length (by rw [List.length_replicate]; omega)
          unfold rec1
          rw [List.length_append, List.length_replicate] at *
          omega
        have hfit : (rec1 (List.replicate m 0)).length + (layR (noz ls k)).length ≤ 19 * 487 := by
          rw [Nat.min_eq_left (by omega)] at hsz
          have : k * 804 ≤ 7 * 804 := Nat.mul_le_mul_right _ (by omega)
          omega
        have hnx : noz ls (k + 1) = noz ls k ++ [List.replicate m 0] := by rw [noz_next h8 hz, hm]
        have hmin1 : min k 8 * 2048 + 2048 = min (k + 1) 8 * 2048 := by rw [Nat.min_eq_left (by omega), Nat.min_eq_left (by omega)]; omega
        have HAP : Hid (Calls Try.prog 20 #[.pointer (some ⟨gr, 0, none⟩), .slice (some ⟨wr.heap.size, 0, none⟩) m m] (wr.alloc (.cells (byt (List.replicate m 0)).toArray 5)) (LogApS (wr.alloc (.cells (byt (List.replicate m 0)).toArray 5)) w1.heap.size gs gr gen ser (halfN 40 h) 19 (min k 8 * 2048) (noz ls k) (List.replicate 40 noughts) pend (List.replicate m 0))) :=
          Lib.hid (append_logS (hS.below ((Below.refl _ _).alloc (Nat.le_refl _) _)) (by omega) _ m m _ (made_bytes wr m (by omega)) (by omega) hfit)
        have HNX := Lib.hid hnx
        have HM1 := Lib.hid hmin1
        have HBb := Lib.hid hb
        have HBX := Lib.hid hbx
        clear hS hbx hb hfit hrl hnx hmin1 hz hm hsz
        go_wp2_with (go_at_call 20; (with_reducible refine (HAP.out).mono ?_); rintro e wp ⟨rfl, ⟨pp, bp, pvp, psp, nwp, hLp, hqp⟩, hKp⟩; have HLp := Lib.hid hLp; have HKp := Lib.hid hKp; clear hLp hKp hqp)
        go_roundw
        case rel =>
          have hL := HLp.out
          rw [HM1.out, ← HNX.out] at hL
          have hba := (Below.refl wr.heap.size wr).alloc (Nat.le_refl _) (.cells (byt (List.replicate m 0)).toArray 5)
          exact ⟨k + 1, _, _, _, _, _, by omega, by go_num, hL, HKp.out.ty _ _ ((hba.block w.heap.size (by omega)).trans HBX.out) noLog_crown, (HBb.out.trans (hba.mono HBb.out.size)).trans (HKp.out.below.mono (by omega))⟩
        case measure => simp [intOf]; omega
      · have h8i : ¬ (k : Int) < 8 := by omega
        have HS := Lib.hid hS
        have HBb := Lib.hid hb
        have HBX := Lib.hid hbx
        clear hS hbx hb hsz hz
        go_wp2
        go_roundw
        case rel =>
          have hL := HS.out
          rw [← noz_far (by omega), show min k 8 = min (k + 1) 8 by omega] at hL
          exact ⟨k + 1, _, _, _, _, _, by omega, by go_num, hL, HBX.out, HBb.out⟩
        case measure => simp [intOf]; omega
    · obtain rfl : k = n := by omega
      obtain ⟨rs, hrs⟩ : ∃ x, x = noz ls k := ⟨_, rfl⟩
      rw [← hrs] at hS hsz
      obtain ⟨D, hD⟩ : ∃ x, x = applied pend (List.replicate 40 noughts) := ⟨_, rfl⟩
      have hDl : D.length = 40 := by rw [hD, applied_length, List.length_replicate]
      obtain ⟨F, hF⟩ : ∃ x, x = halfN 40 h := ⟨_, rfl⟩
      have hFb : F + 19 ≤ 40 := by
        rw [hF]
        unfold halfN
        rw [if_neg (by omega)]
        rcases (show h = 0 ∨ h = 1 by omega) with rfl | rfl <;> omega
      have hK19 : halfK 40 h = 19 := by unfold halfK; rw [if_neg (by omega)]
      rw [← hF] at hS
      have hcl := hS.clean
      rw [← hD] at hcl
      have hserb : ser < 4294967296 := hS.hr
      obtain ⟨S, hSn⟩ : ∃ x, x = (layR rs).length := ⟨_, rfl⟩
      have hSb : S ≤ 6432 := by
        have : min k 8 * 804 ≤ 8 * 804 := Nat.mul_le_mul_right _ (by omega)
        omega
      obtain ⟨P, hP⟩ : ∃ x, x = (S + 486) / 487 := ⟨_, rfl⟩
      have hPq : (pgs psk).length = P := by
        have h1 := hcl.few
        rw [h1, ← hSn, hP]
        rfl
      have hPi : ((S : Int) + 486) / 487 = (P : Int) := by omega
      have hPi' : ((S : Int) + 486).tdiv 487 = (P : Int) := by rw [Int.tdiv_eq_ediv_of_nonneg (by omega)]; exact hPi
      have hP19 : P ≤ 19 := by omega
      have HSY : Hid (Calls Try.prog 13 #[.pointer (some ⟨gr, 0, none⟩)] wr fun e w' => e = .returned (.int .i64 0) ∧ (∃ b', LogS w' w1.heap.size gs gr gen ser F 19 (min k 8 * 2048) rs D [] b' pvk psk nwk) ∧ Kept w1.heap.size wr w') := Lib.hid (by rw [hD]; exact sync_logS hS)
      have HFR : Hid (∀ x : World, Calls Try.prog 27 #[.agg #[.int .u32 (gen : Int), .int .u8 (h : Int), .int .u32 (s0 : Int)], .int .i64 40] x fun e w' => e = .returned (.tuple #[.int .i64 (F : Int), .int .i64 19]) ∧ Below x.heap.size x w') := Lib.hid fun x => by
        have h1 := from_any x (gen : Int) (s0 : Int) h 40 (by omega)
        rw [← hF, hK19] at h1
        exact h1
      have HSN := Lib.hid hSn
      have HBb := Lib.hid hb
      have HBX := Lib.hid hbx
      have HCL := Lib.hid hcl
      have HDL := Lib.hid hDl
      have HPQ := Lib.hid hPq
      have HFE := Lib.hid hF
      by_cases hP0 : P = 0
      · have hp0 : ((P : Int) == 0) = true := by rw [beq_iff_eq]; omega
        have hr0 : rs.length = 0 := by
          have := layR_count rs
          omega
        have hr0i : ((rs.length : Int) == 0) = true := by rw [beq_iff_eq]; omega
        clear hS hbx hb hsz hrs hD hDl hF hcl hSn hP hPq hr0 hK19 hP0
        go_wp2_with (first
          | (go_at_call 13; (with_reducible refine (HSY.out).mono ?_); rintro e ws ⟨rfl, ⟨bs, hLs⟩, hKs⟩; go_loud (
              have hbxs : crownBox ws w.heap.size gen h s0 := hKs.ty _ _ HBX.out noLog_crown;
              obtain ⟨u0, u1, u2⟩ := hbxs.cells;
              have HBXS := Lib.hid hbxs;
              have HBW := Lib.hid (HBb.out.trans (hKs.below.mono (by omega)));
              have HLS := Lib.hid hLs;
              have hbss := hLs.hb;
              clear HSY hLs hKs hbxs))
          | (go_at_call 27; (with_reducible refine (HFR.out _).mono ?_); rintro e wf ⟨rfl, hbf⟩; go_loud (
              have HLF := Lib.hid (HLS.out.below hbf);
              have HBXF : Hid (crownBox wf w.heap.size gen h s0) := Lib.hid ((hbf.block w.heap.size (by omega)).trans HBXS.out);
              have HBW := Lib.hid (HBW.out.trans (hbf.mono HBW.out.size));
              have HSI := Lib.hid (size_any HLF.out.reel.w);
              have HCN := Lib.hid (count_any HLF.out.reel.w);
              rw [← HSN.out] at HSI;
              have hbsf := HLF.out.hb;
              clear HLS hbf u0 u1 u2))
          | (go_at_call 24; (with_reducible refine (HSI.out).mono ?_); rintro e wx ⟨rfl, rfl⟩)
          | (go_at_call 23; (with_reducible refine (HCN.out).mono ?_); rintro e wx ⟨rfl, rfl⟩))
        go_ret
        exact ⟨rfl, HBW.out⟩
      · have hp0 : ((P : Int) == 0) = false := by rw [beq_eq_false_iff_ne]; omega
        have hp00 : (P : Int) ≠ 0 := by omega
        obtain ⟨j, hj⟩ : ∃ x, x = which % P := ⟨_, rfl⟩
        have hjP : j < P := by rw [hj]; exact Nat.mod_lt _ (by omega)
        have hji : (which : Int) % (P : Int) = (j : Int) := by rw [hj, Int.natCast_emod]
        have hji' : (which : Int).tmod (P : Int) = (j : Int) := by rw [Int.tmod_eq_emod_of_nonneg (by omega)]; exact hji
        obtain ⟨i, hi⟩ : ∃ x, x = F + j := ⟨_, rfl⟩
        have hii : (F : Int) + (j : Int) = (i : Int) := by omega
        have hi40 : i < 40 := by omega
        obtain ⟨q, hq⟩ : ∃ q, (pgs psk)[j]? = some q := ⟨_, List.getElem?_eq_getElem (by omega)⟩
        have hgood := hcl.good hg hserb (by rw [List.length_take]; omega) hq
        obtain ⟨z0, z1, z2, _, _, _⟩ := hcl.at_ j q hq
        have hsm := hcl.small_data hq
        obtain ⟨s, hs⟩ : ∃ x, x = pageOf q := ⟨_, rfl⟩
        have hDi : D[i]? = some s := by
          rw [← hs] at z0
          have h2 := getElem?_view (D := D) (first := F) (secs := 19) (i := j) (by omega)
          rw [h2] at z0
          rw [hi]
          exact z0
        obtain ⟨a, ha⟩ : ∃ x, x = lesser at_ 4064 := ⟨_, rfl⟩
        have ha4 : a ≤ 4064 := by rw [ha]; unfold lesser; split <;> omega
        have hmin : ∀ y : World, (Builtin.min_ #[3, 3] 3 #[.int .i64 (at_ : Int), .int .i64 4064]).run Try.prog y = .ok (.int .i64 (a : Int)) y := fun y => by rw [ha]; exact run_lesser at_ 4064 y
        obtain ⟨f, hf⟩ : ∃ x, x = flip a mask s 32 := ⟨_, rfl⟩
        have hrl : rs.length ≤ maxLen := by have := layR_count rs; unfold maxLen; omega
        have hil : i < D.length := by omega
        have hmk : mask = 0 → f = s := fun e => by rw [hf, e, flip_none]
        have hmk2 : mask ≠ 0 → errOf f = 7 ∧ f ≠ s := fun e => by
          rw [hf, hs]
          exact page_flipped hgood (by omega) hsm ha4 hma e
        have hset : mask = 0 → D.set i f = D := fun e => by
          rw [hmk e]
          refine List.ext_getElem? fun x => ?_
          by_cases hx : x = i
          · rw [hx, List.getElem?_set_self hil, hDi]
          · rw [List.getElem?_set_ne (by omega)]
        have KSR : Hid (∀ (y : World) (v u : Value) (l : List (List Nat)), Parts y y.heap.size v l → Parts y y.heap.size u l → Calls Try.prog 22 #[v, u] y fun e w' => e = .returned (.bool true) ∧ Below y.heap.size y w') := Lib.hid fun y v u l h1 h2 => (same_rows y v u _ _ h1 h2).mono fun e w' ⟨he, q, hw⟩ => by
          subst hw
          exact ⟨by rw [he, decide_eq_true rfl], below_drewN (Below.refl _ _) q⟩
        have HKR : Hid (∀ y : World, Reel y gr gs gen ser F 19 pvk psk (layR rs).length rs.length → Calls Try.prog 15 #[.pointer (some ⟨gr, 0, none⟩)] y (RecsR y rs)) := Lib.hid fun y hR => by
          have hrw : rowOf psk = layR rs := by rw [rowOf_pgs, hcl.row]
          have h2 := records_any hR.w (by rw [← pgs_length]; omega) (by rw [hrw]; exact Nat.le_refl _)
          rw [hrw, List.take_of_length_le (Nat.le_refl _), cutL_lay hcl.fit] at h2
          exact h2
        have HIL := Lib.hid hil
        have HDI : Hid ((applied [] D)[i]? = some s) := Lib.hid hDi
        have HFL := Lib.hid hf
        have HRL := Lib.hid hrl
        by_cases hm0 : mask = 0
        · have hm0i : ((mask : Int) == 0) = true := by rw [beq_iff_eq]; omega
          have hfs := hmk hm0
          have HSD : Hid (decide (s = f) = true) := Lib.hid (decide_eq_true hfs.symm)
          have HKO : Hid (∀ (y : World) (bq : DB), Disk y gs bq (D.set i f) [] nwk (-1) → Calls Try.prog 12 #[.pointer (some ⟨gs, 0, none⟩), .agg #[.int .u32 (gen : Int), .int .u8 (h : Int), .int .u32 (s0 : Int)]] y fun e w' => ∃ gr, e = .returned (.tuple #[.pointer (some ⟨gr, 0, none⟩), .int .i64 0, .int .i64 0]) ∧ (∀ z, Below w'.heap.size w' z → Calls Try.prog 15 #[.pointer (some ⟨gr, 0, none⟩)] z (RecsR z rs)) ∧ Below y.heap.size y w') := Lib.hid fun y bq hDq => by
            rw [hset hm0] at hDq
            exact open_read hDq hcl hDl hF rfl hg hserb hs0 hh1
          clear hS hbx hb hsz hrs hD hDl hF hcl hSn hP hPq hK19 hP0 hj hi hq hgood z0 z1 z2 hsm hs hDi ha hf hrl hil hmk hmk2 hset hfs hm0
          go_wp2_with (first
          | (go_at_call 13; (with_reducible refine (HSY.out).mono ?_); rintro e ws ⟨rfl, ⟨bs, hLs⟩, hKs⟩; go_loud (
              have hbxs : crownBox ws w.heap.size gen h s0 := hKs.ty _ _ HBX.out noLog_crown;
              obtain ⟨u0, u1, u2⟩ := hbxs.cells;
              have HBXS := Lib.hid hbxs;
              have HBW := Lib.hid (HBb.out.trans (hKs.below.mono (by omega)));
              have HLS := Lib.hid hLs;
              have hbss := hLs.hb;
              clear HSY hLs hKs hbxs))
          | (go_at_call 27; (with_reducible refine (HFR.out _).mono ?_); rintro e wf ⟨rfl, hbf⟩; go_loud (
              have HLF := Lib.hid (HLS.out.below hbf);
              have HBXF : Hid (crownBox wf w.heap.size gen h s0) := Lib.hid ((hbf.block w.heap.size (by omega)).trans HBXS.out);
              have HBW := Lib.hid (HBW.out.trans (hbf.mono HBW.out.size));
              have HSI := Lib.hid (size_any HLF.out.reel.w);
              have HCN := Lib.hid (count_any HLF.out.reel.w);
              rw [← HSN.out] at HSI;
              have hbsf := HLF.out.hb;
              clear HLS hbf u0 u1 u2))
          | (go_at_call 24; (with_reducible refine (HSI.out).mono ?_); rintro e wx ⟨rfl, rfl⟩)
          | (go_at_call 37; (with_reducible refine (read_any HLF.out.disk i HIL.out s HDI.out).mono ?_); rintro e w4 ⟨g4, rfl, hM4, hb4⟩; go_loud (
              have HT1 := Lib.hid (TBytes.of_mine hM4);
              have HROT := Lib.hid (rot_logS (HLF.out.below hb4) i a mask s HDI.out ha4 hma);
              rw [← HFL.out] at HROT;
              have HL4 := Lib.hid (HLF.out.below hb4);
              have HBX4 : Hid (crownBox w4 w.heap.size gen h s0) := Lib.hid ((hb4.block w.heap.size (by omega)).trans HBXF.out);
              have HBW := Lib.hid (HBW.out.trans (hb4.mono HBW.out.size));
              have hbs4 := HL4.out.hb;
              clear HLF hM4 hb4))
          | (go_at_call 38; (with_reducible refine (HROT.out).mono ?_); rintro e w5 ⟨rfl, hD5, hR5, hK5⟩; go_loud (
              have HT2 := Lib.hid (HT1.out.keep (.of_kept hK5));
              have HBX5 : Hid (crownBox w5 w.heap.size gen h s0) := Lib.hid (hK5.ty _ _ HBX4.out noLog_crown);
              have HBW := Lib.hid (HBW.out.trans (hK5.below.mono (by omega)));
              have hsz5 := hK5.below.size;
              have HRD2 := Lib.hid (read_any hD5 i (by rw [List.length_set]; exact HIL.out) f (by show (D.set i f)[i]? = some f; rw [List.getElem?_set_self HIL.out]));
              have HD5 := Lib.hid hD5;
              have HR5 := Lib.hid hR5;
              clear HROT HT1 hD5 hR5 hK5))
          | (go_at_call 37; (with_reducible refine (HRD2.out).mono ?_); rintro e w6 ⟨g6, rfl, hM6, hb6⟩; go_loud (
              have HT3 := Lib.hid (HT2.out.keep (.of_below hb6));
              have HT4 := Lib.hid (TBytes.of_mine hM6);
              have hbx6 : crownBox w6 w.heap.size gen h s0 := (hb6.block w.heap.size (by omega)).trans HBX5.out;
              obtain ⟨u0, u1, u2⟩ := hbx6.cells;
              have HBW := Lib.hid (HBW.out.trans (hb6.mono HBW.out.size));
              have HD6 := Lib.hid (HD5.out.below hb6);
              have HR6 := Lib.hid (HR5.out.below hb6);
              have HOX := Lib.hid (HKO.out w6 _ HD6.out);
              have hsz6 := hb6.size;
              clear HRD2 hM6 hb6 hbx6))
          | (go_at_call 12; (with_reducible refine (HOX.out).mono ?_); rintro e w7 ⟨gr7, rfl, hrec7, hb7⟩; go_loud (
              have HT5 := Lib.hid (HT3.out.keep (.of_below hb7));
              have HT6 := Lib.hid (HT4.out.keep (.of_below hb7));
              have HBW := Lib.hid (HBW.out.trans (hb7.mono HBW.out.size));
              have HREC := Lib.hid hrec7;
              have HR7 := Lib.hid (HR6.out.below hb7);
              have HSA := Lib.hid (same_any w7 _ _ s f HT5.out.b HT6.out.b);
              rw [HSD.out] at HSA;
              clear hrec7 hb7))
          | (go_at_call 39; (with_reducible refine (HSA.out).mono ?_); rintro e w8 ⟨rfl, qq, rfl⟩; go_loud (
              have HBW := Lib.hid (below_drewN HBW.out qq);
              have hb8 : Below w7.heap.size w7 (w7.drewN qq) := below_drewN (Below.refl _ _) qq;
              have HRC1 := Lib.hid (HREC.out _ hb8);
              have HR8 := Lib.hid (HR7.out.below hb8);
              clear HSA hb8))
          | (go_at_call 15; (with_reducible refine (HRC1.out).mono ?_); rintro e w9 ⟨u9, rfl, hR9, hb9⟩; go_loud (
              have HC := Lib.hid (show Car w9 [(u9, rs)] [] from ⟨fun p hp => (by rw [List.mem_singleton] at hp; rw [hp]; exact hR9.parts (Nat.le_refl _) HRL.out), fun p hp => by cases hp⟩);
              have HBW := Lib.hid (HBW.out.trans (hb9.mono HBW.out.size));
              have HRC2 := Lib.hid (HKR.out _ (HR8.out.below hb9));
              clear HRC1 hR9 hb9))
          | (go_at_call 15; (with_reducible refine (HRC2.out).mono ?_); rintro e w10 ⟨u10, rfl, hR10, hb10⟩; go_loud (
              have HC := Lib.hid ((HC.out.along hb10).addP (hR10.parts (Nat.le_refl _) HRL.out));
              have HBW := Lib.hid (HBW.out.trans (hb10.mono HBW.out.size));
              clear HRC2 hR10 hb10))
          | (go_at_call 22; (with_reducible refine (KSR.out _ _ _ rs (Car.p HC.out _ (rs) (by simp)) (Car.p HC.out _ (rs) (by simp))).mono ?_); rintro e w11 ⟨rfl, hb11⟩; go_loud (
              have HBW := Lib.hid (HBW.out.trans (hb11.mono HBW.out.size));
              clear hb11)))
          go_ret
          exact ⟨rfl, HBW.out⟩
        · have hm0i : ((mask : Int) == 0) = false := by rw [beq_eq_false_iff_ne]; omega
          obtain ⟨he7, hne⟩ := hmk2 hm0
          have HSD : Hid (decide (s = f) = false) := Lib.hid (decide_eq_false (fun e => hne e.symm))
          have HKO : Hid (∀ (y : World) (bq : DB), Disk y gs bq (D.set i f) [] nwk (-1) → Calls Try.prog 12 #[.pointer (some ⟨gs, 0, none⟩), .agg #[.int .u32 (gen : Int), .int .u8 (h : Int), .int .u32 (s0 : Int)]] y fun e w' => e = .returned (.tuple #[.pointer none, .int .i64 (i : Int), .int .i64 7]) ∧ Below y.heap.size y w') := Lib.hid fun y bq hDq => by
            rw [hi] at hDq ⊢
            exact open_bad hDq hcl hDl hF rfl hg hserb hs0 hh1 (by omega) he7
          clear hS hbx hb hsz hrs hD hDl hF hcl hSn hP hPq hK19 hP0 hj hi hq hgood z0 z1 z2 hsm hs hDi ha hf hrl hil hmk hmk2 hset he7 hne hm0
          go_wp2_with (first
          | (go_at_call 13; (with_reducible refine (HSY.out).mono ?_); rintro e ws ⟨rfl, ⟨bs, hLs⟩, hKs⟩; go_loud (
              have hbxs : crownBox ws w.heap.size gen h s0 := hKs.ty _ _ HBX.out noLog_crown;
              obtain ⟨u0, u1, u2⟩ := hbxs.cells;
              have HBXS := Lib.hid hbxs;
              have HBW := Lib.hid (HBb.out.trans (hKs.below.mono (by omega)));
              have HLS := Lib.hid hLs;
              have hbss := hLs.hb;
              clear HSY hLs hKs hbxs))
          | (go_at_call 27; (with_reducible refine (HFR.out _).mono ?_); rintro e wf ⟨rfl, hbf⟩; go_loud (
              have HLF := Lib.hid (HLS.out.below hbf);
              have HBXF : Hid (crownBox wf w.heap.size gen h s0) := Lib.hid ((hbf.block w.heap.size (by omega)).trans HBXS.out);
              have HBW := Lib.hid (HBW.out.trans (hbf.mono HBW.out.size));
              have HSI := Lib.hid (size_any HLF.out.reel.w);
              have HCN := Lib.hid (count_any HLF.out.reel.w);
              rw [← HSN.out] at HSI;
              have hbsf := HLF.out.hb;
              clear HLS hbf u0 u1 u2))
          | (go_at_call 24; (with_reducible refine (HSI.out).mono ?_); rintro e wx ⟨rfl, rfl⟩)
          | (go_at_call 37; (with_reducible refine (read_any HLF.out.disk i HIL.out s HDI.out).mono ?_); rintro e w4 ⟨g4, rfl, hM4, hb4⟩; go_loud (
              have HT1 := Lib.hid (TBytes.of_mine hM4);
              have HROT := Lib.hid (rot_logS (HLF.out.below hb4) i a mask s HDI.out ha4 hma);
              rw [← HFL.out] at HROT;
              have HL4 := Lib.hid (HLF.out.below hb4);
              have HBX4 : Hid (crownBox w4 w.heap.size gen h s0) := Lib.hid ((hb4.block w.heap.size (by omega)).trans HBXF.out);
              have HBW := Lib.hid (HBW.out.trans (hb4.mono HBW.out.size));
              have hbs4 := HL4.out.hb;
              clear HLF hM4 hb4))
          | (go_at_call 38; (with_reducible refine (HROT.out).mono ?_); rintro e w5 ⟨rfl, hD5, hR5, hK5⟩; go_loud (
              have HT2 := Lib.hid (HT1.out.keep (.of_kept hK5));
              have HBX5 : Hid (crownBox w5 w.heap.size gen h s0) := Lib.hid (hK5.ty _ _ HBX4.out noLog_crown);
              have HBW := Lib.hid (HBW.out.trans (hK5.below.mono (by omega)));
              have hsz5 := hK5.below.size;
              have HRD2 := Lib.hid (read_any hD5 i (by rw [List.length_set]; exact HIL.out) f (by show (D.set i f)[i]? = some f; rw [List.getElem?_set_self HIL.out]));
              have HD5 := Lib.hid hD5;
              have HR5 := Lib.hid hR5;
              clear HROT HT1 hD5 hR5 hK5))
          | (go_at_call 37; (with_reducible refine (HRD2.out).mono ?_); rintro e w6 ⟨g6, rfl, hM6, hb6⟩; go_loud (
              have HT3 := Lib.hid (HT2.out.keep (.of_below hb6));
              have HT4 := Lib.hid (TBytes.of_mine hM6);
              have hbx6 : crownBox w6 w.heap.size gen h s0 := (hb6.block w.heap.size (by omega)).trans HBX5.out;
              obtain ⟨u0, u1, u2⟩ := hbx6.cells;
              have HBW := Lib.hid (HBW.out.trans (hb6.mono HBW.out.size));
              have HD6 := Lib.hid (HD5.out.below hb6);
              have HR6 := Lib.hid (HR5.out.below hb6);
              have HOX := Lib.hid (HKO.out w6 _ HD6.out);
              have hsz6 := hb6.size;
              clear HRD2 hM6 hb6 hbx6))
          | (go_at_call 12; (with_reducible refine (HOX.out).mono ?_); rintro e w7 ⟨rfl, hb7⟩; go_loud (
              have HT5 := Lib.hid (HT3.out.keep (.of_below hb7));
              have HT6 := Lib.hid (HT4.out.keep (.of_below hb7));
              have HBW := Lib.hid (HBW.out.trans (hb7.mono HBW.out.size));
              have HSA := Lib.hid (same_any w7 _ _ s f HT5.out.b HT6.out.b);
              rw [HSD.out] at HSA;
              clear hb7))
          | (go_at_call 39; (with_reducible refine (HSA.out).mono ?_); rintro e w8 ⟨rfl, qq, rfl⟩; go_loud (
              have HBW := Lib.hid (below_drewN HBW.out qq);
              clear HSA)))
          go_ret
          exact ⟨rfl, HBW.out⟩
end Go.Proofs.Ytalpippeelomjaa
