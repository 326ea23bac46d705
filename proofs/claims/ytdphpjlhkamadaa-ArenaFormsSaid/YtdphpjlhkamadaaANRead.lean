/- Contract: a node is read. -/
import Derived.Test.YtdphpjlhkamadaaZ42
import Derived.Test.YtdphpjlhkamadaaZ27
import Derived.OwnWalk
namespace Go.Proofs.Ytdphpjlhkamadaa
open Go.RowKit
set_option linter.unusedSimpArgs false
set_option linter.unusedVariables false
set_option maxRecDepth 100000
attribute [local go_sem] Oper.semAt_some undef
def kidK (kl : Nat) (s : RS) (k : Nat) : List Nat := (List.range kl).map fun j => if j < k then kidV s j else 0
theorem kidK_set {kl k : Nat} {s : RS} (hk : k < kl) : (kidK kl s k).set k (kidV s k) = kidK kl s (k + 1) := by
  apply List.ext_getElem?
  intro j
  unfold kidK
  by_cases e : j = k
  · subst e
    rw [List.getElem?_set_self (by simpa using hk)]
    simp [List.getElem?_range hk]
  · rw [List.getElem?_set_ne (fun h => e h.symm)]
    by_cases hj : j < kl
    · simp [List.getElem?_range hj]
      by_cases h1 : j < k
      · rw [if_pos h1, if_pos (by omega)]
      · rw [if_neg h1, if_neg (by omega)]
    · rw [List.getElem?_eq_none (by simp; omega), List.getElem?_eq_none (by simp; omega)]
theorem kidK_zero (kl : Nat) (s : RS) : ids (kidK kl s 0) = (madeCells #[Value.int .u64 0] (kl * 1)).toList := by
  rw [Nat.mul_one, toList_madeCells_one]
  unfold kidK ids
  apply List.ext_getElem?
  intro j
  by_cases hj : j < kl
  · simp [List.getElem?_range hj, List.getElem?_replicate, hj]
  · rw [List.getElem?_eq_none (by simp; omega), List.getElem?_eq_none (by simp; omega)]
theorem kidK_end (kl : Nat) (s : RS) : kidK kl s kl = (List.range kl).map (kidV s) := by
  unfold kidK
  refine List.map_congr_left fun j hj => ?_
  rw [if_pos (List.mem_range.1 hj)]
def NRI (W : World) (B g g2 g3 gk kl : Nat) (box : Array Value) (s : RS) (i : Value) (wr : World) : Prop :=
  ∃ k : Nat, k ≤ kl ∧ i = .int .i64 (k : Int) ∧ wr.ownsRow W.heap.size 24 1 (.slice (some ⟨gk, 0, none⟩) kl kl) kl (ids (kidK kl s k)) ∧ wr.heap[g3]? = some (.cells box 33 (0, 0)) ∧ wr.heap[g2]? = some (.cells #[.int .u8 0, .string ⟨#[]⟩, .int .i64 0, .int .u8 0, .int .u64 0, .slice none 0 0] 33 (0, 0)) ∧ Took W B g (kidsS k s).1 (kidsS k s).2 wr
theorem NRI.mk {W wr : World} {B g g2 g3 gk kl : Nat} {box : Array Value} {s : RS} (k : Nat) (h1 : k ≤ kl) (h2 : wr.ownsRow W.heap.size 24 1 (.slice (some ⟨gk, 0, none⟩) kl kl) kl (ids (kidK kl s k))) (h3 : wr.heap[g3]? = some (.cells box 33 (0, 0))) (h4 : wr.heap[g2]? = some (.cells #[.int .u8 0, .string ⟨#[]⟩, .int .i64 0, .int .u8 0, .int .u64 0, .slice none 0 0] 33 (0, 0))) (h5 : Took W B g (kidsS k s).1 (kidsS k s).2 wr) : NRI W B g g2 g3 gk kl box s (.int .i64 (k : Int)) wr := ⟨k, h1, rfl, h2, h3, h4, h5⟩
set_option maxHeartbeats 8000000 in
theorem nread_any (w : World) (B g : Nat) (v : Value) (s : RS) (h : Rdr w B g v s.1 s.2) (hl : s.2.length ≤ 1048576) :
    Calls Try.prog 49 #[.pointer (some ⟨g, 0, none⟩)] w (fun e w' => ∃ A c, e = .returned (ndV (nodeN s) (.slice A (nodeN s).kids.length c)) ∧ w'.ownsRow w.heap.size 24 1 (.slice A (nodeN s).kids.length c) (nodeN s).kids.length (ids (nodeN s).kids) ∧ NdOk (nodeN s) ∧ (∀ y ∈ (nodeN s).kids, y < 18446744073709551616) ∧ (nodeN s).kids.length ≤ 1048576 ∧ Fine (nodeS s) ∧ Took w B g (nodeS s).1 (nodeS s).2 w') := by
  obtain ⟨i0, hi0, hz0, hs0, hb0⟩ := info_parts infoId
  have hbW : Below w.heap.size w (w.alloc (.cells #[.int .u8 0, .string ⟨#[]⟩, .int .i64 0, .int .u8 0, .int .u64 0, .slice none 0 0] 33)) := (Below.refl _ _).alloc (Nat.le_refl _) _
  obtain ⟨W, hW⟩ : ∃ W, W = (w.alloc (.cells #[.int .u8 0, .string ⟨#[]⟩, .int .i64 0, .int .u8 0, .int .u64 0, .slice none 0 0] 33)) := ⟨_, rfl⟩
  rw [← hW] at hbW
  have hz2 : W.heap[w.heap.size]? = some (.cells #[.int .u8 0, .string ⟨#[]⟩, .int .i64 0, .int .u8 0, .int .u64 0, .slice none 0 0] 33 (0, 0)) := by rw [hW]; exact Go.heap_alloc_new _ _
  have hgw : g < w.heap.size := lt_of_heap h.st
  have hgW : g < W.heap.size := Nat.lt_of_lt_of_le hgw hbW.size
  have hT0 : Took W B g s.1 s.2 W := ⟨v, h.below hbW, Chg.refl _ _ _⟩
  have hF0 : Fine s := ⟨h.by_.small, hl⟩
  have hF1 := hF0.byte
  have hF2 := hF1.1.text 64
  have hF3 := hF2.1.num MX
  have hF4 := hF3.byte
  have hF5 := hF4.1.num MX
  have hF6 := hF5.num (s5R s).2.length
  have hkl1 : klR s ≤ (s5R s).2.length := rNum_le _ _
  have hn5 : (s5R s).2.length ≤ 1048576 := hF5.2
  have hrf : (rNum MX (s4R s)).1 < 18446744073709551616 := rNum_lt MX (by decide)
  have hnu := zag_bd (rNum_lt MX (by decide) : (rNum MX (s2R s)).1 < 18446744073709551616)
  obtain ⟨k1, hk1⟩ : ∃ k1, k1 = (rByte s).1 := ⟨_, rfl⟩
  obtain ⟨nm, hnm⟩ : ∃ nm, nm = (rText 64 (s1R s)).1 := ⟨_, rfl⟩
  obtain ⟨nu, hnu2⟩ : ∃ nu, nu = zag (rNum MX (s2R s)).1 := ⟨_, rfl⟩
  obtain ⟨k4, hk4⟩ : ∃ k4, k4 = (rByte (s3R s)).1 := ⟨_, rfl⟩
  obtain ⟨rf, hrf2⟩ : ∃ rf, rf = (rNum MX (s4R s)).1 := ⟨_, rfl⟩
  obtain ⟨kl, hkl⟩ : ∃ kl, kl = klR s := ⟨_, rfl⟩
  obtain ⟨n5, hn5e⟩ : ∃ n5, n5 = (s5R s).2.length := ⟨_, rfl⟩
  have HC1 := Lib.hid (rbyteS (s := s) hT0)
  rw [← hk1] at HC1
  have hc2 := fun (y : World) (hy : Took W B g (s1R s).1 (s1R s).2 y) => rtextS (M := 64) hy (by decide)
  rw [← hnm] at hc2
  simp only [show ((64 : Nat) : Int) = 64 from rfl] at hc2
  have HC2 := Lib.hid hc2
  clear hc2
  have HC3 := Lib.hid (fun (y : World) (hy : Took W B g (s2R s).1 (s2R s).2 y) => rintS hy)
  rw [← hnu2] at HC3
  have HC4 := Lib.hid (fun (y : World) (hy : Took W B g (s3R s).1 (s3R s).2 y) => rbyteS hy)
  rw [← hk4] at HC4
  have hc5 := fun (y : World) (hy : Took W B g (s4R s).1 (s4R s).2 y) => rnumS (M := MX) hy (by decide)
  rw [← hrf2] at hc5
  simp only [show ((MX : Nat) : Int) = 18446744073709551615 from rfl] at hc5
  have HC5 := Lib.hid hc5
  clear hc5
  have HC6 := Lib.hid (fun (y : World) (hy : Took W B g (s5R s).1 (s5R s).2 y) => rleftS hy)
  rw [← hn5e] at HC6
  have HC7 := Lib.hid (fun (y : World) (hy : Took W B g (s5R s).1 (s5R s).2 y) => rnumS (M := (s5R s).2.length) hy (by omega))
  have e7 : (rNum (s5R s).2.length (s5R s)).1 = kl := hkl.symm
  rw [e7, ← hn5e] at HC7
  rw [← hkl, ← hn5e] at hkl1
  rw [← hn5e] at hn5
  have HOK := Lib.hid (show NdOk (nodeN s) from ⟨hF1.2, Nat.le_trans hF2.2 (by omega), ⟨hnu.1, by have := hnu.2; show zag (rNum MX (s2R s)).1 ≤ 9223372036854775807; omega⟩, hF4.2, hrf⟩)
  have HF6 := Lib.hid hF6
  have HKL := Lib.hid hkl
  have HK1 := Lib.hid hk1
  have HNM := Lib.hid hnm
  have HNU := Lib.hid hnu2
  have HK4 := Lib.hid hk4
  have HRF := Lib.hid hrf2
  have HN5 := Lib.hid hn5e
  have HGW := Lib.hid hgW
  have HBW := Lib.hid hbW
  have HZ2 := Lib.hid hz2
  have HEW := Lib.hid hW
  have HGw := Lib.hid hgw
  clear h hl hbW hz2 hgw hgW hT0 hF0 hF1 hF2 hF3 hF4 hF5 hF6 hrf hnu hk1 hnm hnu2 hk4 hrf2 hkl hn5e hW e7
  go_enter Try.func49, Try.ntmps49
  go_wp2_with (first
    | (go_at_call 70; rw [← HEW.out]; (with_reducible refine (HC1.out).mono ?_); rintro e w1 ⟨rfl, h1⟩; (have HT1 := Lib.hid (show Took W B g (s1R s).1 (s1R s).2 w1 from h1); clear h1))
    | (go_at_call 71; (with_reducible refine (HC2.out _ HT1.out).mono ?_); rintro e w2 ⟨rfl, h2⟩; go_loud (
        have HT2 := Lib.hid (show Took W B g (s2R s).1 (s2R s).2 w2 from h2);
        clear h2))
    | (go_at_call 72; (with_reducible refine (HC3.out _ HT2.out).mono ?_); rintro e w3 ⟨rfl, h3⟩; go_loud (
        have HT3 := Lib.hid (show Took W B g (s3R s).1 (s3R s).2 w3 from h3);
        clear h3))
    | (go_at_call 70; (with_reducible refine (HC4.out _ HT3.out).mono ?_); rintro e w4 ⟨rfl, h4⟩; (have HT4 := Lib.hid (show Took W B g (s4R s).1 (s4R s).2 w4 from h4); clear h4))
    | (go_at_call 48; (with_reducible refine (HC5.out _ HT4.out).mono ?_); rintro e w5 ⟨rfl, h5, _⟩; (have HT5 := Lib.hid (show Took W B g (s5R s).1 (s5R s).2 w5 from h5); have HS5 := Lib.hid (show W.heap.size ≤ w5.heap.size from took_size h5); clear h5))
    | (go_at_call 73; (with_reducible refine (HC6.out _ (Took.new HT5.out ((Below.refl _ _).alloc HS5.out _) HGW.out)).mono ?_); rintro e w6 ⟨rfl, h6⟩; go_loud (
        have hb3 : w6.heap[w5.heap.size]? = some (.cells #[.int .u8 (k1 : Int), .string nm, .int .i64 nu, .int .u8 (k4 : Int), .int .u64 (rf : Int), .slice none 0 0] 33 (0, 0)) := (by rw [← h6]; exact Go.heap_alloc_new _ _);
        have hT6 : Took W B g (s5R s).1 (s5R s).2 w6 := (by rw [← h6]; exact Took.new HT5.out ((Below.refl _ _).alloc HS5.out _) HGW.out);
        have hs6 : w5.heap.size < w6.heap.size := lt_of_heap2 hb3;
        have HB6 := Lib.hid hb3;
        have HT6 := Lib.hid hT6;
        clear hb3 hT6 h6 hs6))
    | (go_at_call 48; (with_reducible refine (HC7.out _ HT6.out).mono ?_); rintro e w7 ⟨rfl, h7, hc7⟩; go_loud (
        have hb7 : w7.heap[w5.heap.size]? = some (.cells #[.int .u8 (k1 : Int), .string nm, .int .i64 nu, .int .u8 (k4 : Int), .int .u64 (rf : Int), .slice none 0 0] 33 (0, 0)) := hc7.heap HB6.out (by have := HGW.out; have h9 := HS5.out; omega) (by simp);
        have HB7 := Lib.hid hb7;
        rw [HN5.out] at h7;
        have HT7 := Lib.hid (show Took W B g (s6R s).1 (s6R s).2 w7 from h7);
        clear hb7 h7 hc7))
    | (at_make; go_loud (
        have hW7 : W.heap.size ≤ w7.heap.size := (by obtain ⟨_, _, hC⟩ := HT7.out; exact hC.size);
        refine wpList_make_full _ rfl _ _ 30 rfl W.heap.size 24 i0 (.int .u64 0) 1 Try.underlying30 hi0 hz0 hs0 _ _ _ _ kl rfl rfl rfl rfl (by rw [hb0]; omega) (by unfold maxLen; omega) hW7 ?_;
        intro w8 hown8 hg8;
        have hbb : Below w7.heap.size w7 w8 := (Below.refl _ _).grown hg8 (Nat.le_refl _) (fun _ h => by cases h);
        have hb8 := (hbb.block _ (lt_of_heap2 HB7.out)).trans HB7.out;
        obtain ⟨⟨r0, r1, r2, r3, r4, r5⟩, f0, f1, f2, f3, f4, f5⟩ := box_six hb8;
        have HB8 := Lib.hid hb8;
        have HO8 := Lib.hid hown8;
        have HT8 := Lib.hid (Took.new HT7.out (hbb.mono hW7) HGW.out);
        have HLT := Lib.hid (lt_of_heap2 HB7.out);
        clear hown8 hg8 hbb hb8))
    )
  obtain ⟨g3, hg3⟩ : ∃ g3, g3 = w5.heap.size := ⟨_, rfl⟩
  obtain ⟨gk, hgk⟩ : ∃ gk, gk = w7.heap.size := ⟨_, rfl⟩
  have hb8 := HB8.out
  have ho8 := HO8.out
  have hs5 := HS5.out
  rw [← hg3] at hb8 hs5
  rw [← hgk] at ho8
  have hgw2 := HGw.out
  have hWw : W.heap.size = w.heap.size + 1 := by rw [HEW.out]; simp
  have hne3 : g3 ≠ gk := fun e => own_ne ho8 hb8 (by decide) (by rw [e]; rfl)
  have hst : NRI W B g w.heap.size g3 gk kl (#[.int .u8 (k1 : Int), .string nm, .int .i64 nu, .int .u8 (k4 : Int), .int .u64 (rf : Int), .slice (some ⟨gk, 0, none⟩) kl kl]) (s6R s) (.int .i64 ((0 : Nat) : Int)) (w8.setCell ⟨g3, 5, none⟩ (.slice (some ⟨gk, 0, none⟩) kl kl)) := by
    refine NRI.mk 0 (Nat.zero_le _) (ownsRow_keep2 (by rw [kidK_zero]; exact ho8) fun j hj => heap_setCell_other _ ⟨g3, 5, none⟩ j _ (by rw [hj]; exact fun e => hne3 e.symm)) (heap_setCell_same _ g3 5 _ _ _ hb8) ((heap_setCell_other _ ⟨g3, 5, none⟩ w.heap.size _ (by show w.heap.size ≠ g3; omega)).trans (HT8.out.heap HZ2.out (by omega))) (Took.new HT8.out ((Below.refl _ _).setCell (p := ⟨g3, 5, none⟩) hs5 _) HGW.out)
  have HST := Lib.hid hst
  have HNE3 := Lib.hid hne3
  have HS3 := Lib.hid hs5
  have HG3 := Lib.hid hg3
  have HGK := Lib.hid hgk
  have HWW := Lib.hid hWw
  rw [← hg3, ← hgk]
  clear hst hne3 hs5 hg3 hgk hb8 ho8 hgw2 hWw r0 r1 r2 r3 r4 r5 f0 f1 f2 f3 f4 f5
  have hkb : kl ≤ 1048576 := by omega
  go_loopw [26] (fun i wr => NRI W B g w.heap.size g3 gk kl (#[.int .u8 (k1 : Int), .string nm, .int .i64 nu, .int .u8 (k4 : Int), .int .u64 (rf : Int), .slice (some ⟨gk, 0, none⟩) kl kl]) (s6R s) i wr) (fun i _ => kl - (intOf i).toNat)
  case atStart => exact HST.out
  case round =>
    obtain ⟨k, hk, rfl, hoK, hb3, hb2, hT⟩ := hrel
    have HOK1 := Lib.hid hoK
    have HB3 := Lib.hid hb3
    have HB2 := Lib.hid hb2
    have HT := Lib.hid hT
    obtain ⟨⟨x0, x1, x2, x3, x4, x5⟩, _⟩ := box_six hb3
    clear hoK hb3 hb2 hT
    by_cases hlt : k < kl
    · have hltI : (k : Int) < (kl : Int) := by omega
      go_wp2_with fail
      refine wp_region_noPanic ?_
      refine wp_region_held_drew (S := fun x => x.heap[g3]? = some (.cells (#[.int .u8 (k1 : Int), .string nm, .int .i64 nu, .int .u8 (k4 : Int), .int .u64 (rf : Int), .slice (some ⟨gk, 0, none⟩) kl kl]) 33 (0, 0))) (by kernel_rfl) HB3.out (fun hHeld => ?_)
      refine take_at (i := 0) (v := ?_) (some 29) rfl rfl (by kernel_rfl) (by kernel_rfl) (by kernel_rfl) (fun _ _ _ h => h) (Or.inl ⟨by rfl, ?_⟩) (by assumption) ?_
      rotate_left
      · intro w hSw
        obtain ⟨z0, z1, z2, z3, z4, z5, _⟩ := box_cells (n := ⟨k1, nm, nu, k4, rf, []⟩) hSw
        first | (go_simp; done) | (go_simp; with_reducible rfl)
      try simp only [Act.put, List.setIfInBounds_toArray, List.set_cons_zero, List.set_cons_succ]
      refine take_at (i := 1) (v := ?_) (some 30) rfl rfl (by kernel_rfl) (by kernel_rfl) (by kernel_rfl) (fun _ _ _ h => h) (Or.inl ⟨by rfl, ?_⟩) (by assumption) ?_
      rotate_left
      · intro w hSw
        obtain ⟨z0, z1, z2, z3, z4, z5, _⟩ := box_cells (n := ⟨k1, nm, nu, k4, rf, []⟩) hSw
        first | (go_simp; done) | (go_simp; with_reducible rfl)
      try simp only [Act.put, List.setIfInBounds_toArray, List.set_cons_zero, List.set_cons_succ]
      refine take_at (i := 2) (v := ?_) (some 31) rfl rfl (by kernel_rfl) (by kernel_rfl) (by kernel_rfl) (fun _ _ _ h => h) (Or.inl ⟨by rfl, ?_⟩) (by assumption) ?_
      rotate_left
      · intro w hSw
        obtain ⟨z0, z1, z2, z3, z4, z5, _⟩ := box_cells (n := ⟨k1, nm, nu, k4, rf, []⟩) hSw
        first | (go_simp; done) | (go_simp; with_reducible rfl)
      try simp only [Act.put, List.setIfInBounds_toArray, List.set_cons_zero, List.set_cons_succ]
      refine take_at (i := 3) (v := ?_) (some 32) rfl rfl (by kernel_rfl) (by kernel_rfl) (by kernel_rfl) (fun _ _ _ h => h) (Or.inl ⟨by rfl, ?_⟩) (by assumption) ?_
      rotate_left
      · intro w hSw
        obtain ⟨z0, z1, z2, z3, z4, z5, _⟩ := box_cells (n := ⟨k1, nm, nu, k4, rf, []⟩) hSw
        first | (go_simp; done) | (go_simp; with_reducible rfl)
      try simp only [Act.put, List.setIfInBounds_toArray, List.set_cons_zero, List.set_cons_succ]
      refine wpAnyH_ready (rs := [4]) (by kernel_rfl) (by simp) ?_
      refine AllReadyH.cons rfl (fun K hK => ?_) AllReadyH.nil
      go_simp
      have hcn := rnumS (M := MX) (Took.new HT.out (⟨rfl, rfl, rfl, Nat.le_refl _, fun _ _ => rfl⟩ : Below W.heap.size wr wr.drew) HGW.out) (by decide)
      simp only [show ((MX : Nat) : Int) = 18446744073709551615 from rfl] at hcn
      refine hcn.mono ?_
      rintro e w9 ⟨rfl, hT9, hC9⟩
      obtain ⟨y, hy⟩ : ∃ y, y = (rNum MX (kidsS k (s6R s))).1 := ⟨_, rfl⟩
      rw [← hy]
      have hb9 : w9.heap[g3]? = some (.cells (#[.int .u8 (k1 : Int), .string nm, .int .i64 nu, .int .u8 (k4 : Int), .int .u64 (rf : Int), .slice (some ⟨gk, 0, none⟩) kl kl]) 33 (0, 0)) := hC9.heap hHeld (by have := HGW.out; have := HS3.out; omega) (by simp)
      have hb29 := hC9.heap (k := w.heap.size) (show (wr.drew).heap[w.heap.size]? = _ from HB2.out) (by have := HGw.out; omega) (by simp)
      have ho9 : w9.ownsRow W.heap.size 24 1 (.slice (some ⟨gk, 0, none⟩) kl kl) kl (ids (kidK kl (s6R s) k)) := ownsRow_keep2 HOK1.out (fun j hj => hC9.block j (lt_of_own HOK1.out hj) (by have := own_low HOK1.out hj; have := HGW.out; omega) (by simp))
      obtain ⟨gq, hA, hgq, _, ⟨z, hz, hcz⟩, hfz, hkc, hset⟩ := own_seti ho9 hlt y
      injection hA with hA
      injection hA with hA _ _
      subst hA
      have HSET := Lib.hid hset
      have HB9 := Lib.hid hb9
      have HB29 := Lib.hid hb29
      have HT9 := Lib.hid hT9
      have HGQ := Lib.hid hgq
      have HY := Lib.hid hy
      clear hset hb29 hgq hy ho9 hcn
      refine hK.out _ _ ?_ (fun hHeld2 => ?_)
      · exact hb9
      clear hK K hHeld
      have hHeld := hHeld2
      clear hHeld2
      try simp only [Act.put, List.setIfInBounds_toArray, List.set_cons_zero, List.set_cons_succ]
      refine take_at (i := 5) (v := ?_) (some 34) rfl rfl (by kernel_rfl) (by kernel_rfl) (by kernel_rfl) (fun _ _ _ h => h) (Or.inl ⟨by rfl, ?_⟩) (by assumption) ?_
      rotate_left
      · intro w hSw
        obtain ⟨z0, z1, z2, z3, z4, z5, _⟩ := box_cells (n := ⟨k1, nm, nu, k4, rf, []⟩) hSw
        first | (go_simp; done) | (go_simp; with_reducible rfl)
      try simp only [Act.put, List.setIfInBounds_toArray, List.set_cons_zero, List.set_cons_succ]
      refine wpAnyH_ready (rs := [6]) (by kernel_rfl) (by simp) ?_
      refine AllReadyH.cons rfl (fun K hK => ?_) AllReadyH.nil
      go_simp
      refine hK.out _ _ ?_ (fun hHeld2 => ?_)
      · exact (heap_setCell_other _ ⟨gk, k, none⟩ g3 _ HNE3.out).trans HB9.out
      clear hK K hHeld
      have hHeld := hHeld2
      clear hHeld2
      try simp only [Act.put, List.setIfInBounds_toArray, List.set_cons_zero, List.set_cons_succ]
      refine wpAnyH_done (by kernel_rfl) ?_ _
      refine NoPanic.normal ?_
      have hwk := took_size HT9.out
      have hfin := NRI.mk (W := W) (B := B) (g := g) (g2 := w.heap.size) (g3 := g3) (gk := gk) (kl := kl) (box := #[.int .u8 (k1 : Int), .string nm, .int .i64 nu, .int .u8 (k4 : Int), .int .u64 (rf : Int), .slice (some ⟨gk, 0, none⟩) kl kl]) (s := s6R s) (k + 1) (by omega) (by rw [← kidK_set hlt, show kidV (s6R s) k = y from HY.out.symm]; exact HSET.out) hHeld ((heap_setCell_other _ ⟨gk, k, none⟩ w.heap.size _ (by show w.heap.size ≠ gk; have := HGQ.out; have := HWW.out; omega)).trans HB29.out) (Took.new HT9.out ((Below.refl _ _).setCell (p := ⟨gk, k, none⟩) HGQ.out _) HGW.out)
      skip
      clear hHeld
      go_wp2_with fail
      first
        | (refine ⟨hfin, ?measure⟩; (case measure => simp [intOf]; omega))
        | (refine ⟨by rw [show ((k + 1 : Nat) : Int) = (k : Int) + 1 by omega] at hfin; exact hfin, ?measure⟩; (case measure => simp [intOf]; omega))
        | (go_roundw; (case rel => exact hfin); (case measure => simp [intOf]; omega))
    · have hltI : ¬ (k : Int) < (kl : Int) := by omega
      obtain rfl : k = kl := by omega
      obtain ⟨⟨y0, y1, y2, y3, y4, y5⟩, u0, u1, u2, u3, u4, u5⟩ := box_six HB2.out
      go_wp2_with fail
      have hset := set_node (v0 := .int .u8 (k1 : Int)) (v1 := .string nm) (v2 := .int .i64 nu) (v3 := .int .u8 (k4 : Int)) (v4 := .int .u64 (rf : Int)) (v5 := .slice (some ⟨gk, 0, none⟩) k k) HB2.out
      have hkids : (nodeN s).kids = kidK k (s6R s) k := by rw [kidK_end, HKL.out]; rfl
      have hkn : (nodeN s).kids.length = k := by rw [hkids]; unfold kidK; simp
      refine node_ret (p := 2) rfl rfl rfl hset rfl ⟨some ⟨gk, 0, none⟩, k, ?_, ?_, HOK.out, ?_, by rw [hkn]; exact hkb, ?_, ?_⟩
      · rw [hkn, HK1.out, HNM.out, HNU.out, HK4.out, HRF.out]; rfl
      · rw [hkn, hkids]
        have hgk := own_low HOK1.out rfl
        have hgn : gk ≠ w.heap.size := by have := HWW.out; omega
        exact own_lower2 (ownsRow_keep2 HOK1.out fun j hj => by rw [hj, heap_setCell_other _ ⟨w.heap.size, 5, none⟩ gk _ hgn, heap_setCell_other _ ⟨w.heap.size, 4, none⟩ gk _ hgn, heap_setCell_other _ ⟨w.heap.size, 3, none⟩ gk _ hgn, heap_setCell_other _ ⟨w.heap.size, 2, none⟩ gk _ hgn, heap_setCell_other _ ⟨w.heap.size, 1, none⟩ gk _ hgn, heap_setCell_other _ ⟨w.heap.size, 0, none⟩ gk _ hgn]) HBW.out.size
      · rw [hkids, kidK_end]
        intro y hy
        obtain ⟨j, _, rfl⟩ := List.mem_map.1 hy
        exact rNum_lt MX (by decide)
      · exact Fine.kids HF6.out _
      · obtain ⟨v9, hR9, hC9⟩ := HT.out
        have hT9 : Took w B g (kidsS k (s6R s)).1 (kidsS k (s6R s)).2 wr := ⟨v9, hR9, (Chg.of_below HBW.out g none).trans (Goes.refl _ _) hC9⟩
        have h9 := Took.new hT9 (below_node (v0 := .int .u8 (k1 : Int)) (v1 := .string nm) (v2 := .int .i64 nu) (v3 := .int .u8 (k4 : Int)) (v4 := .int .u64 (rf : Int)) (v5 := .slice (some ⟨gk, 0, none⟩) k k) (Below.refl w.heap.size wr) (Nat.le_refl _)) HGw.out
        have e9 : nodeS s = kidsS k (s6R s) := by rw [HKL.out]; rfl
        rw [e9]
        exact h9
end Go.Proofs.Ytdphpjlhkamadaa
