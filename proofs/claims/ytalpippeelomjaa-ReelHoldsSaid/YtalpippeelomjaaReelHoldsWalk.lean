/- The law ReelHolds, walked. -/
import Derived.Test.YtalpippeelomjaaZ50
import Derived.Test.YtalpippeelomjaaZ41
import Derived.Deep.CutBlock
namespace Go.Proofs.Ytalpippeelomjaa
open Go.RowKit Go.Shelf
set_option linter.unusedSimpArgs false
set_option linter.unusedVariables false
theorem open_first {w : World} {base gs n h ser0 gen : Nat} {b : DB} (hD : Disk w gs b (List.replicate n noughts) [] 0 (-1)) (hg : gen < 4294967296) (hs : ser0 < 4294967290) (h4 : 4 ≤ n) (hh : h ≤ 1) (o1 : base ≤ gs) (o3 : base ≤ b.gd) (o4 : base ≤ b.gl) (o5 : b.pv = .slice none 0 0) (hb : base ≤ w.heap.size) :
    Calls Try.prog 12 #[.pointer (some ⟨gs, 0, none⟩), .agg #[.int .u32 (gen : Int), .int .u8 (h : Int), .int .u32 (ser0 : Int)]] w fun e w' => ∃ (gr ser : Nat) (b2 : DB) (pv : Value) (ps : List PV),
      e = .returned (.tuple #[.pointer (some ⟨gr, 0, none⟩), .int .i64 0, .int .i64 0]) ∧ ser0 ≤ ser ∧ ser ≤ ser0 + 1 ∧ LifS w' base gs gr gen ser (halfN n h) (halfK n h) 0 [] 0 (List.replicate n noughts) [] b2 pv ps 0 ∧ Below w.heap.size w w' := by
  have hl : (List.replicate n noughts).length = n := List.length_replicate
  have hX : Half gen (ser0 + 1) (((List.replicate n noughts).drop (halfN (List.replicate n noughts).length h)).take (halfK (List.replicate n noughts).length h)) := by
    rw [List.drop_replicate, List.take_replicate]
    exact half_blank gen _ _
  have htop := top_half hX (show ser0 < ser0 + 1 by omega)
  have htop2 := (topX_ge gen (((List.replicate n noughts).drop (halfN (List.replicate n noughts).length h)).take (halfK (List.replicate n noughts).length h)) ser0).1
  have h1 := open_lif (N := 0) hD hX hg (by omega) (show ser0 < ser0 + 1 by omega) (by rw [hl]; exact h4) hh o1 o3 o4 (by intro g e; rw [o5] at e; cases e) hb
  refine h1.mono ?_
  rintro e w' ⟨hB, gr, qsC, b2, pv, ps, e1, e2, e3⟩
  have hq : qsC = [] := by
    refine Classical.byContradiction fun hne => ?_
    obtain ⟨q, hq⟩ : ∃ q, qsC[0]? = some q := ⟨_, List.getElem?_eq_getElem (List.length_pos_iff.2 hne)⟩
    obtain ⟨a1, a2, _⟩ := e2.at_ 0 q hq
    have h3 := List.mem_of_getElem? a1
    rw [List.drop_replicate, List.take_replicate] at h3
    exact noughts_page a2 (List.eq_of_mem_replicate h3).symm
  subst hq
  have e0 : cutL (rowP []) = [] := cutL_none noRec_nil
  rw [e0, hl] at e3
  rw [hl] at htop htop2
  exact ⟨gr, _, b2, pv, ps, e1, by omega, by omega, e3, hB⟩
theorem flags_on {w w' : World} {v : Value} {ks : List Bool} (h : Flags w v ks) (hb : Below w.heap.size w w') : Flags w' v ks := by
  obtain ⟨A, c, rfl, hl⟩ := h.form
  exact ⟨A, c, rfl, (hl.below hb).up hb.size⟩
theorem TBytes.byt1 {w : World} {v : Value} {l : List Nat} (h : TBytes w v l) : Bytes w w.heap.size v l := h.1
theorem empty_row {w : World} {base : Nat} (hb : base ≤ w.heap.size) : (w.alloc (.cells #[] 43)).ownsRow base 43 1 (.slice (some ⟨w.heap.size, 0, none⟩) 0 0) 0 [] := ⟨rfl, .inr ⟨w.heap.size, 0, #[], rfl, hb, Go.heap_alloc_new _ _, Nat.le_refl _, Nat.zero_le _, rfl, rfl⟩⟩
theorem rows_one {w : World} {vs : List Value} {ls : List (List Nat)} (hl : vs.length = ls.length) (h : ∀ (j : Nat) (u : Value) (l : List Nat), vs[j]? = some u → ls[j]? = some l → TBytes w u l) : ∀ y ∈ vs, y.oneCell' = true := fun y hy => by
  obtain ⟨j, hj⟩ := List.getElem?_of_mem hy
  have hjl := (List.getElem?_eq_some_iff.1 hj).1
  obtain ⟨⟨⟨A, c, rfl, _⟩, _, _⟩, _⟩ := h j y _ hj (List.getElem?_eq_getElem (by omega))
  rfl
theorem row_form {w : World} {base n : Nat} {e : TypeId} {v : Value} {xs : List Value} (h : w.ownsRow base e 1 v n xs) : ∃ A c, v = .slice A n c := by
  rcases h.2 with ⟨rfl, rfl⟩ | ⟨g, cap, cur, rfl, _⟩
  · exact ⟨_, _, rfl⟩
  · exact ⟨_, _, rfl⟩
theorem begins_take (recs : List (List Nat)) (j : Nat) : beginsB (recs.take j) recs = true := by
  unfold beginsB
  rw [List.length_take, decide_eq_true (show min j recs.length ≤ recs.length by omega), Bool.true_and]
  refine decide_eq_true ?_
  rcases Nat.le_total j recs.length with h | h
  · rw [Nat.min_eq_left h]
  · rw [Nat.min_eq_right h, List.take_of_length_le h, List.take_of_length_le (Nat.le_refl _)]
theorem Rows3.cap {w : World} {base : Nat} {v : Value} {ls : List (List Nat)} (h : Rows3 w base v ls) : ∀ A n c, v = .slice A n c → n ≤ c := fun A n c e => by
  obtain ⟨vs, _, ho, _⟩ := h
  rcases ho.2 with ⟨e2, h0⟩ | ⟨g, cap, cur, e2, _, _, hc, _⟩
  · rw [e] at e2
    injection e2 with _ a b
    omega
  · rw [e] at e2
    injection e2 with _ a b
    omega
def HoldM (w : World) (base gen h s B S m : Nat) (d r all sy : Value) (wx : World) : Prop :=
  ∃ (gs gr ser sk : Nat) (recs dur : List (List Nat)) (pend : List (Nat × List Nat)) (b : DB) (pv : Value) (ps : List PV) (nw : Int), d = .pointer (some ⟨gs, 0, none⟩) ∧ r = .pointer (some ⟨gr, 0, none⟩) ∧ sy = .int .i64 (sk : Int) ∧ LifS wx base gs gr gen ser (halfN S h) (halfK S h) (m * 2048) recs sk dur pend b pv ps nw ∧
    dur.length = S ∧ s ≤ ser ∧ ser ≤ s + 1 + m ∧ Rows3 wx base all recs ∧ crownBx wx B gen h s ∧ Below w.heap.size w wx
theorem HoldM.below {w x y : World} {base gen h s B S m : Nat} {d r all sy : Value} (hM : HoldM w base gen h s B S m d r all sy x) (hb : Below x.heap.size x y) (hB : B < base) : HoldM w base gen h s B S m d r all sy y := by
  obtain ⟨gs, gr, ser, sk, recs, dur, pend, b, pv, ps, nw, h1, h2, h3, h4, h5, h6, h7, h8, h9, h10⟩ := hM
  have := h4.hb
  exact ⟨gs, gr, ser, sk, recs, dur, pend, b, pv, ps, nw, h1, h2, h3, h4.below hb, h5, h6, h7, h8.below hb, h9.low hb (by omega), h10.trans (hb.mono h10.size)⟩
def HoldI (w : World) (base gen h s B S n : Nat) (d r all sy i : Value) (wr : World) : Prop :=
  ∃ k : Nat, k ≤ n ∧ k ≤ 40 ∧ i = .int .i64 (k : Int) ∧ HoldM w base gen h s B S k d r all sy wr
set_option maxRecDepth 100000 in
set_option maxHeartbeats 16000000 in
theorem reelHolds_walk (z gen h0 s0 : Nat) (A : Option Addr) (n c : Nat) (acts : List RAc) (w : World) (hz : z < 256) (hg : gen < 4294967296) (hh0 : h0 < 256) (hs0 : s0 < 4294967296) (hp : RActs w (.slice A n c) acts) :
    Calls Try.prog 3 #[.int .u8 (z : Int), .agg #[.int .u32 (gen : Int), .int .u8 (h0 : Int), .int .u32 (s0 : Int)], .slice A n c] w fun e w' => e = .returned (.bool true) ∧ Below w.heap.size w w' := by
  obtain ⟨h, hh⟩ : ∃ h, h = h0 % 2 := ⟨_, rfl⟩
  obtain ⟨s, hs⟩ : ∃ s, s = s0 / 2 := ⟨_, rfl⟩
  obtain ⟨S, hS⟩ : ∃ j, j = 4 + z % 20 := ⟨_, rfl⟩
  have e1 : (h0 : Int) % 2 = (h : Int) := by omega
  have e1' : (h0 : Int).tmod 2 = (h : Int) := by rw [Int.tmod_eq_emod_of_nonneg (by omega)]; exact e1
  have e2 : (s0 : Int) / 2 = (s : Int) := by omega
  have e2' : (s0 : Int).tdiv 2 = (s : Int) := by rw [Int.tdiv_eq_ediv_of_nonneg (by omega)]; exact e2
  have e3 : (4 : Int) + (z : Int) % 20 = (S : Int) := by omega
  have hh1 : h ≤ 1 := by omega
  have hs1 : s < 2147483648 := by omega
  have hS4 : 4 ≤ S ∧ S ≤ 23 := by omega
  have hlong := hp.long
  unfold maxLen at hlong
  have hnl : n = acts.length := by
    obtain ⟨A', c', hv, _⟩ := hp.form
    injection hv
  rw [← hnl] at hlong
  have HNL := Lib.hid hnl
  have HPP := Lib.hid hp
  obtain ⟨i0, hi0, hz0, hz1, hz2⟩ := info_parts infoSlice
  have HI := Lib.hid hi0
  have H0 := Lib.hid hz0
  have H1 := Lib.hid hz1
  have H2 := Lib.hid hz2
  have HN : Hid (∀ y, Calls Try.prog 11 #[.int .i64 (S : Int)] y fun e w' => ∃ gs b, e = .returned (.tuple #[.pointer (some ⟨gs, 0, none⟩), .int .i64 0]) ∧ Disk w' gs b (List.replicate S noughts) [] 0 (-1) ∧ y.heap.size ≤ gs ∧ y.heap.size ≤ b.gd ∧ y.heap.size ≤ b.gl ∧ b.pv = .slice none 0 0 ∧ Below y.heap.size y w') := Lib.hid fun y => new_good y S (by omega) (by omega)
  clear hh hs hS hp hnl hi0 hz0 hz1 hz2
  go_enter Try.func3, Try.ntmps3
  go_wp2_with (first
    | (go_at_call 10; (with_reducible refine (awake_true _).mono ?_); rintro e w1 ⟨rfl, hw1⟩; go_loud (
        have hb1 : w1.heap[w.heap.size]? = some (.cells #[.int .u32 (gen : Int), .int .u8 (h0 : Int), .int .u32 (s0 : Int)] 24 (0, 0)) := (hw1.block w.heap.size (by simp)).trans (Go.heap_alloc_new w _);
        have q1 : w1.cell? ⟨w.heap.size, 1, none⟩ = some (.int .u8 (h0 : Int)) := (by unfold World.cell?; rw [hb1]; rfl);
        have q2 : w1.cell? ⟨w.heap.size, 2, none⟩ = some (.int .u32 (s0 : Int)) := (by unfold World.cell?; rw [hb1]; rfl);
        have f1 : w1.frozen? ⟨w.heap.size, 1, none⟩ = false := frozen_of_row w1 _ _ _ _ hb1;
        have f2 : w1.frozen? ⟨w.heap.size, 2, none⟩ = false := frozen_of_row w1 _ _ _ _ hb1;
        have HB1 := Lib.hid hb1;
        have HW1 : Hid (Below w.heap.size w w1 ∧ w.heap.size < w1.heap.size) := Lib.hid ⟨((Below.refl w.heap.size w).alloc (Nat.le_refl _) _).trans (hw1.mono (by simp)), (by have := hw1.size; simp at this; omega)⟩;
        clear hb1 hw1))
    | (go_at_call 11; (with_reducible refine (HN.out _).mono ?_); rintro e w2 ⟨gs, bb, rfl, hD2, hgs, hgd, hgl, hpv, hw2⟩; go_loud (
        have hsz : ((w1.setCell ⟨w.heap.size, 1, none⟩ (.int .u8 (h : Int))).setCell ⟨w.heap.size, 2, none⟩ (.int .u32 (s : Int))).heap.size = w1.heap.size := (by simp [World.setCell]);
        rw [hsz] at hgs hgd hgl hw2;
        have hbx : crownBx w2 w.heap.size gen h s := (hw2.block w.heap.size HW1.out.2).trans (by rw [heap_setCell_same _ _ _ _ _ _ (heap_setCell_same _ _ _ _ _ _ HB1.out)]; rfl);
        have hbw : Below w.heap.size w w2 := ((HW1.out.1.setCell (p := ⟨w.heap.size, 1, none⟩) (Nat.le_refl _) (.int .u8 (h : Int))).setCell (p := ⟨w.heap.size, 2, none⟩) (Nat.le_refl _) (.int .u32 (s : Int))).trans (hw2.mono (by have := HW1.out.2; omega));
        obtain ⟨u0, u1, u2⟩ := hbx.cells;
        have hs2 := hw2.size;
        rw [hsz] at hs2;
        have HOP := Lib.hid (open_first (base := w1.heap.size) (h := h) (ser0 := s) hD2 hg (by omega) hS4.1 hh1 hgs hgd hgl hpv hs2);
        have HBX := Lib.hid hbx;
        have HBW := Lib.hid hbw;
        have HS2 : Hid (w1.heap.size ≤ w2.heap.size ∧ w.heap.size < w1.heap.size) := Lib.hid ⟨hs2, HW1.out.2⟩;
        clear hD2 hgs hgd hgl hpv hw2 hsz hbx hbw hs2 q1 q2 f1 f2))
    | (go_at_call 12; (with_reducible refine (HOP.out).mono ?_); rintro e w3 ⟨gr, ser3, b3, pv3, ps3, rfl, hse1, hse2, hL3, hb3⟩; go_loud (
        have HM3 : Hid (HoldM w w1.heap.size gen h s w.heap.size S 0 (.pointer (some ⟨gs, 0, none⟩)) (.pointer (some ⟨gr, 0, none⟩)) (.slice none 0 0) (.int .i64 ((0 : Nat) : Int)) w3) := Lib.hid ⟨gs, gr, ser3, 0, [], _, _, b3, pv3, ps3, 0, rfl, rfl, rfl, (by rw [Nat.zero_mul]; exact hL3), List.length_replicate, hse1, by omega, Rows3.nil _ _, HBX.out.low hb3 (by have := HS2.out; omega), HBW.out.trans (hb3.mono HBW.out.size)⟩;
        have HB03 : Hid (w1.heap.size ≤ w3.heap.size) := Lib.hid (Nat.le_trans HS2.out.1 hb3.size);
        clear HOP hL3 hb3 hse1 hse2 u0 u1 u2)))
  go_loopw [7, 9, 12, 13, 53] (fun d r all sy i wr => HoldI w w1.heap.size gen h s w.heap.size S n d r all sy i wr) (fun _ _ _ _ i _ => n - (intOf i).toNat)
  case atStart => exact ⟨0, Nat.zero_le _, by omega, rfl, HM3.out⟩
  case round =>
    obtain ⟨k, hk, hk40, rfl, gs2, gr2, ser, sk, recs, dur, pend, b4, pv4, ps4, nw, rfl, rfl, rfl, hL, hdur, hse1, hse2, hR, hbx, hb⟩ := hrel
    have hbs := hL.hb
    have hw1b := HS2.out.2
    by_cases hlt : k < n ∧ k < 40
    · obtain ⟨hkn, hk2⟩ := hlt
      have hkge : ¬ (k : Int) ≥ 40 := by omega
      obtain ⟨a, ha⟩ : ∃ a, acts[k]? = some a := ⟨_, List.getElem?_eq_getElem (by rw [← HNL.out]; exact hkn)⟩
      obtain ⟨ad, hA, c0, c1, c2, c3⟩ := HPP.out.load ha hb
      subst hA
      have haok := HPP.out.ok a (List.mem_of_getElem? ha)
      clear ha
      obtain ⟨db, nb, bb2, KA, kn, kc, kks⟩ := a
      dsimp only at c0 c1 c2 c3
      have HA := Lib.hid haok
      have HL := Lib.hid hL
      have HR := Lib.hid hR
      have HX := Lib.hid hbx
      have HBb := Lib.hid hb
      clear haok hL hR hbx hb
      go_upto_block 2 with fail
      go_cut [7, 9, 12, 13] (fun d r all sy wx => HoldM w w1.heap.size gen h s w.heap.size S (k + 1) d r all sy wx)
      case first =>
        obtain ⟨X, hXE⟩ : ∃ X, X = wr.alloc (.cells #[.int .u8 (db : Int), .int .u16 (nb : Int), .int .u8 (bb2 : Int), .slice KA kn kc] 38) := ⟨_, rfl⟩
        have hXh : X.heap[wr.heap.size]? = some (.cells #[.int .u8 (db : Int), .int .u16 (nb : Int), .int .u8 (bb2 : Int), .slice KA kn kc] 38 (0, 0)) := hXE ▸ Go.heap_alloc_new wr _
        have hXb : Below wr.heap.size wr X := hXE ▸ (Below.refl _ _).alloc (Nat.le_refl _) _
        rw [← hXE]
        have q0 : X.cell? ⟨wr.heap.size, 0, none⟩ = some (.int .u8 (db : Int)) := by unfold World.cell?; rw [hXh]; rfl
        have q1 : X.cell? ⟨wr.heap.size, 1, none⟩ = some (.int .u16 (nb : Int)) := by unfold World.cell?; rw [hXh]; rfl
        have q2 : X.cell? ⟨wr.heap.size, 2, none⟩ = some (.int .u8 (bb2 : Int)) := by unfold World.cell?; rw [hXh]; rfl
        have q3 : X.cell? ⟨wr.heap.size, 3, none⟩ = some (.slice KA kn kc) := by unfold World.cell?; rw [hXh]; rfl
        have hLX := HL.out.below hXb
        have hRX := HR.out.below hXb
        have hbX := HX.out.low hXb (by omega)
        have hBX := HBb.out.trans (hXb.mono HBb.out.size)
        have hFX : Flags X (.slice KA kn kc) kks := flags_on HA.out.ks hBX
        obtain ⟨Ao, co, rfl⟩ := hRX.len
        obtain ⟨rn, hrn⟩ : ∃ x, x = recs.length := ⟨_, rfl⟩
        rw [← hrn] at hRX ⊢
        have hbaseX : w1.heap.size ≤ X.heap.size := hLX.hb
        have HLX := Lib.hid hLX
        have HRX := Lib.hid hRX
        have HbX := Lib.hid hbX
        have HBX := Lib.hid hBX
        have HFX := Lib.hid hFX
        have HRN := Lib.hid hrn
        have HDUR := Lib.hid hdur
        have HAd : Hid (db < 256 ∧ nb < 65536 ∧ bb2 < 256) := Lib.hid ⟨HA.out.d, HA.out.n, HA.out.b⟩
        clear hXE hXh hXb hLX hRX hbX hBX hFX hrn hdur HL HR HX HBb HA c0 c1 c2 c3
        by_cases h4 : db % 6 = 4
        · have k4 : ((db : Int) % 6 == 4) = true := by rw [beq_iff_eq]; omega
          have HSY := Lib.hid (sync_lif HLX.out)
          clear h4
          go_wp2_with (first
            | (go_at_call 13; (with_reducible refine (HSY.out).mono ?_); rintro e w5 ⟨rfl, ⟨b5, dur5, hL5, hd5⟩, hK5⟩))
          go_meet
          exact ⟨gs2, gr2, ser, rn, recs, dur5, [], b5, pv4, ps4, nw, rfl, rfl, rfl, by rw [HRN.out]; exact hL5.more (by omega), hd5.trans HDUR.out, hse1, by omega, HRX.out.kept hK5, HbX.out.low hK5.below HS2.out.2, HBX.out.trans (hK5.below.mono (by omega))⟩
        · have k4 : ((db : Int) % 6 == 4) = false := by rw [beq_eq_false_iff_ne]; omega
          by_cases h5 : db % 6 = 5
          · have k5 : ((db : Int) % 6 == 5) = true := by rw [beq_iff_eq]; omega
            have hcr : Calls Try.prog 14 #[.pointer (some ⟨gs2, 0, none⟩), .slice KA kn kc] X fun e w1' => ∃ gs3, e = .returned (.tuple #[.pointer (some ⟨gs3, 0, none⟩), .int .i64 0]) ∧ Below X.heap.size X w1' ∧
                ∀ y, Below w1'.heap.size w1' y → Calls Try.prog 12 #[.pointer (some ⟨gs3, 0, none⟩), .agg #[.int .u32 (gen : Int), .int .u8 (h : Int), .int .u32 (s : Int)]] y fun e w' => ∃ (gr3 j ser3 : Nat) (dur3 : List (List Nat)) (b3 : DB) (pv3 : Value) (ps3 : List PV),
                  e = .returned (.tuple #[.pointer (some ⟨gr3, 0, none⟩), .int .i64 0, .int .i64 0]) ∧ sk ≤ j ∧ j ≤ rn ∧ dur3.length = S ∧ s ≤ ser3 ∧ ser3 ≤ ser + 1 ∧
                  LifS w' w1.heap.size gs3 gr3 gen ser3 (halfN S h) (halfK S h) ((k + 1) * 2048) (recs.take j) j dur3 [] b3 pv3 ps3 0 ∧ Below y.heap.size y w' := by
              have h1 := HLX.out
              rw [← HDUR.out] at h1
              refine (reopen_lif (ser0 := s) h1 hh1 (by rw [HDUR.out]; exact hS4.1) hse1 (by omega) _ kks HFX.out ((k + 1) * 2048)).mono ?_
              rintro e w5 ⟨gs3, g1, g2, g3⟩
              refine ⟨gs3, g1, g2, fun y hy => (g3 y hy).mono ?_⟩
              rintro e w6 ⟨gr3, j, ser3, dur3, b3, pv3, ps3, f1, f2, f3, f4, f5, f6, f7, f8⟩
              rw [HDUR.out] at f4
              rw [f4] at f7
              exact ⟨gr3, j, ser3, dur3, b3, pv3, ps3, f1, f2, by rw [HRN.out]; exact f3, f4, f5, f6, f7, f8⟩
            have HCR := Lib.hid hcr
            clear h4 h5 hcr
            go_wp2_with (first
              | (go_at_call 14; (with_reducible refine (HCR.out).mono ?_); rintro e w5 ⟨gs3, rfl, hb5, hop⟩; go_loud (
                  have hx5 := HbX.out.low hb5 (by omega);
                  obtain ⟨u0, u1, u2⟩ := hx5.cells;
                  have HB5 := Lib.hid hb5;
                  have HX5 := Lib.hid hx5;
                  have HOP := Lib.hid (hop w5 (Below.refl _ _));
                  clear hb5 hop hx5))
              | (go_at_call 12; (with_reducible refine (HOP.out).mono ?_); rintro e w6 ⟨gr3, j, ser3, dur3, b3, pv3, ps3, rfl, hj1, hj2, hd3, hs3, hs4, hL6, hb6⟩; go_loud (
                  have HRCC := Lib.hid (records_lif hL6);
                  have HL6 := Lib.hid hL6;
                  have HB6 := Lib.hid hb6;
                  have HD3 := Lib.hid hd3;
                  clear hL6 hb6 hd3 HOP u0 u1 u2))
              | (go_at_call 15; (with_reducible refine (HRCC.out).mono ?_); rintro e w7 ⟨u7, rfl, hR7, hb7⟩; go_loud (
                  obtain ⟨A7, c7, rfl⟩ := hR7.len;
                  have hjl : (recs.take j).length = j := (by rw [List.length_take, ← HRN.out]; omega);
                  rw [hjl] at hR7 ⊢;
                  have hlss : ¬ (j : Int) < (sk : Int) := (by omega);
                  have hrx7 : Rows3 w7 w1.heap.size (.slice Ao rn co) recs := ((HRX.out.below HB5.out).below HB6.out).below hb7;
                  have hrm : recs.length ≤ maxLen := (by have := HLX.out.count_le; unfold maxLen; omega);
                  have HBE : Hid (∀ x, Below w7.heap.size w7 x → Calls Try.prog 16 #[.slice A7 j c7, .slice Ao rn co] x fun e w' => e = .returned (.bool true) ∧ Below x.heap.size x w') := Lib.hid (fun x hx => by
                    refine (begins_any x _ _ (recs.take j) recs ((hR7.below hx).parts (by rw [hjl]; have := HRN.out; omega)) ((hrx7.below hx).parts hrm) hrx7.cap).mono ?_
                    rintro e w' ⟨e1, q, rfl⟩
                    rw [begins_take] at e1
                    exact ⟨e1, below_drewN (Below.refl _ _) q⟩);
                  have HR7 := Lib.hid hR7;
                  have HB7 := Lib.hid hb7;
                  clear hR7 hb7 hjl hrx7 hrm))
              | (go_at_call 16; (with_reducible refine (HBE.out _ (Below.refl _ _)).mono ?_); rintro e w8 ⟨rfl, hb8⟩))
            go_meet
            have hb78 := HB7.out.trans (hb8.mono HB7.out.size)
            have hx6 := (HX5.out.low HB6.out (by have := HB5.out.size; omega))
            have hb6s := HB6.out.size
            have hb5s := HB5.out.size
            have hl8 := HL6.out.below hb78
            exact ⟨gs3, gr3, ser3, j, recs.take j, dur3, [], b3, pv3, ps3, 0, rfl, rfl, rfl, hl8, HD3.out, hs3, by omega, (HR7.out.below hb8).lower (by omega), hx6.low hb78 (by omega), HBX.out.trans ((HB5.out.trans ((HB6.out.trans (hb78.mono hb6s)).mono hb5s)).mono (by omega))⟩
          · have k5 : ((db : Int) % 6 == 5) = false := by rw [beq_eq_false_iff_ne]; omega
            obtain ⟨m, hm⟩ : ∃ x, x = nb % 1200 := ⟨_, rfl⟩
            obtain ⟨P, hP⟩ : ∃ x, x = recOf m bb2 := ⟨_, rfl⟩
            have hPl : P.length = m := by rw [hP, recOf_length]
            have hPs : ∀ x ∈ P, x < 256 := by rw [hP]; exact recOf_small m bb2
            have hmb : m < 1200 := by omega
            have HRE := Lib.hid (record_any X db nb bb2 (.slice KA kn kc) HAd.out.1 HAd.out.2.1 HAd.out.2.2)
            rw [← hm, ← hP] at HRE
            obtain ⟨L, hL⟩ : ∃ x, x = (rec1 P).length := ⟨_, rfl⟩
            obtain ⟨room, hroom⟩ : ∃ x, x = halfK S h * 487 - (layR recs).length := ⟨_, rfl⟩
            have hsz := HLX.out.size_le
            have hK2 := HLX.out.h2
            have hL1 : L ≤ 1210 := by
              have h1 := num_length_le 2 P.length (by omega)
              rw [hL]
              unfold rec1
              rw [List.length_append]
              omega
            have hlay1 : layR [P] = rec1 P := by rw [layR_cons, layR_nil, List.append_nil]
            have KLAY : Hid (∀ (y : World) (gx : Nat) (A : Option Addr) (c : Nat), Bytes y y.heap.size (.slice A m c) P → y.heap[gx]? = some (.cells #[.slice A m c] 43 (0, 0)) → Calls Try.prog 21 #[.slice (some ⟨gx, 0, none⟩) 1 1] y fun e w' => ∃ A c, e = .returned (.slice A L c) ∧ Below y.heap.size y w') := Lib.hid fun y gx A c hB hgx => by
              have h := refLayR_any y _ _ (parts1 hgx hB) (by rw [hlay1]; omega)
              rw [hlay1] at h
              refine h.mono ?_
              rintro e w' ⟨u, he, hO, hb⟩
              obtain ⟨A, c, rfl, _⟩ := hO.form
              exact ⟨A, c, by rw [he, hL], hb⟩
            have HPL := Lib.hid hPl
            have HPS := Lib.hid hPs
            have HROOM := Lib.hid hroom
            have HLL := Lib.hid hL
            have HSZ := Lib.hid hsz
            have hkk : k * 2048 ≤ 900000 := by omega
            by_cases hfit : L ≤ room
            · have hLR : (L : Int) ≤ (room : Int) := by omega
              have HFIT : Hid ((rec1 P).length + (layR recs).length ≤ halfK S h * 487) := Lib.hid (by rw [← hL]; omega)
              clear h4 h5 hm hP hPl hPs hL hroom hsz hK2 hL1 hlay1 hfit
              go_wp2_with (first
                | (go_at_call 17; (with_reducible refine (HRE.out).mono ?_); rintro e w5 ⟨g5, rfl, hg5, hX5, hb5⟩; go_loud (
                    have hT : TBytes w5 (.slice (some ⟨g5, 0, none⟩) m m) P := ⟨bytes_block hX5 (lt_of_heap hX5) HPL.out.symm (Nat.le_refl _) HPS.out (by have := HPL.out; unfold maxLen; omega), fun k e => (by injection e with e; subst e; exact ⟨_, _, hX5⟩)⟩;
                    have HT := Lib.hid hT;
                    have HL := Lib.hid (HLX.out.below hb5);
                    have HR := Lib.hid (HRX.out.below hb5);
                    have HX := Lib.hid (HbX.out.low hb5 (by omega));
                    have HB := Lib.hid (HBX.out.trans (hb5.mono HBX.out.size));
                    have HRM := Lib.hid (room_lif HL.out);
                    rw [← HROOM.out] at HRM;
                    clear hT hX5 hb5 HRE))
                | (go_at_call 18; (with_reducible refine (HRM.out).mono ?_); rintro e w6 ⟨rfl, hb6⟩; go_loud (
                    have HT := Lib.hid (HT.out.keep (.of_below hb6));
                    have HR := Lib.hid (HR.out.below hb6);
                    have HX := Lib.hid (HX.out.low hb6 (by have := HL.out.hb; omega));
                    have HL := Lib.hid (HL.out.below hb6);
                    have HB := Lib.hid (HB.out.trans (hb6.mono HB.out.size));
                    have HWR := Lib.hid (writes_lif HL.out);
                    have HAP := Lib.hid (append_lif HL.out hkk _ m _ P HT.out.1 (by omega) HFIT.out);
                    clear hb6 HRM))
                | (go_at_call 19; (with_reducible refine (HWR.out).mono ?_); rintro e wy ⟨rfl, rfl⟩)
                | (go_at_call 20; (with_reducible refine (HAP.out).mono ?_); rintro e w7 ⟨rfl, ⟨pend7, b7, pv7, ps7, nw7, hL7⟩, hK7⟩; go_loud (
                    have HT := Lib.hid (HT.out.keep (.of_kept hK7));
                    have HR := Lib.hid (HR.out.kept hK7);
                    have HX := Lib.hid (HX.out.low hK7.below HS2.out.2);
                    have HL := Lib.hid hL7;
                    have HB := Lib.hid (HB.out.trans (hK7.below.mono (by omega)));
                    clear hL7 hK7 HAP HWR))
                | (go_at_call 21; (with_reducible refine (KLAY.out _ _ _ _ (HT.out.byt1.along ((Below.refl _ _).alloc (Nat.le_refl _) _)) (Go.heap_alloc_new _ _)).mono ?_); rintro e wl ⟨Al, cl, rfl, hbl⟩; go_loud (
                    have hbl2 := ((Below.refl _ _).alloc (Nat.le_refl _) _).trans (hbl.mono (by simp));
                    have HT := Lib.hid (HT.out.keep (.of_below hbl2));
                    have HR := Lib.hid (HR.out.below hbl2);
                    have HX := Lib.hid (HX.out.low hbl2 (by have := HL.out.hb; omega));
                    have HL := Lib.hid (HL.out.below hbl2);
                    have HB := Lib.hid (HB.out.trans (hbl2.mono HB.out.size));
                    obtain ⟨vs, hv1, hv2, hv3⟩ := HR.out;
                    rw [← HRN.out] at hv2;
                    have HONE := Lib.hid (rows_one hv1 hv3);
                    have HV1 := Lib.hid hv1;
                    have HV2 := Lib.hid hv2;
                    have HV3 := Lib.hid hv3;
                    have hbsl : w1.heap.size ≤ wl.heap.size := HL.out.hb;
                    have hrnb : rn ≤ 1000000 := (by have := HL.out.count_le; have := HRN.out; rw [List.length_append, List.length_singleton] at *; omega);
                    have HE97 := Lib.hid (empty_row hbsl);
                    clear hbl hbl2 hv1 hv2 hv3))
                | (at_builtin; go_loud (
                    refine wpList_append_rows (by rfl) (.tmp 97) (.tmp 98) 34 (by rfl) w1.heap.size w1.heap.size 43 i0 (.slice none 0 0) 24 Try.underlying34 HI.out H0.out H1.out H2.out (by rfl) (.slice (some ⟨wl.heap.size, 0, none⟩) 0 0) 0 [] (by rfl) HE97.out (.slice Ao rn co) rn vs (by rfl) (ownsRow_below HV2.out ((Below.refl _ _).alloc (Nat.le_refl _) _)) HONE.out (by unfold maxLen; omega) (by omega) (by simp; omega) ?_;
                    intro v9 w9 hown9 hg9 hloc9;
                    rw [Nat.zero_add, List.nil_append] at hown9;
                    obtain ⟨A9, c9, rfl⟩ := row_form hown9;
                    have hB9 : Below wl.heap.size wl w9 := ((Below.refl _ _).alloc (Nat.le_refl _) _).grown hg9 (by simp) (fun k hk => Nat.le_of_eq (Option.some.inj hk));
                    have HK9 : Hid (∀ k, (Value.slice A9 rn c9).ownBlock = some k → wl.heap.size ≤ k) := Lib.hid (fun k hk => by
                      rcases hloc9 with e | e
                      · exact Nat.le_of_eq (Option.some.inj (hk.symm.trans e)).symm
                      · rw [Option.some.inj (hk.symm.trans e)]; simp);
                    have HO9 := Lib.hid hown9;
                    have HB9 := Lib.hid hB9;
                    have hs9 := hB9.size;
                    clear hown9 hg9 hloc9 hB9))
                | (at_builtin; go_loud (
                    refine wpList_append_lies _ (by rfl) (.tmp 99) (.tmp 101) 34 (by rfl) w1.heap.size 43 i0 (.slice none 0 0) 1 24 Try.underlying34 HI.out H0.out H1.out H2.out (by rfl) (by omega) (.slice A9 rn c9) rn _ (by rfl) (ownsRow_below HO9.out ((Below.refl _ _).alloc (Nat.le_refl _) _)) ⟨w9.heap.size, 0, none⟩ 1 1 [.slice (some ⟨g5, 0, none⟩) m m] (by rfl) (by rfl) (World.news_of_block (heap_new_at rfl)) (by intro u hu; simp at hu; rcases hu with rfl; rfl) (by omega) (by unfold maxLen; omega) (by omega) (by simp; omega) _ rfl ?_;
                    intro g6 k6 w10 hown6 hg6 hat6 hlt6;
                    have HO6 := Lib.hid hown6;
                    have HG6 := Lib.hid hg6;
                    clear hown6 hg6 hat6 hlt6)))
              go_meet
              have hA9 := (Below.refl w9.heap.size w9).alloc (Nat.le_refl _) (.cells #[.slice (some ⟨g5, 0, none⟩) m m] 43)
              have hT9 := HT.out.keep (.of_below HB9.out)
              have h6 := rows3_more HG6.out HO6.out HRN.out HV1.out HO9.out (fun j u l hj hl => (HV3.out j u l hj hl).keep (.of_below HB9.out)) (HB9.out.mono hbsl) (by omega) hA9 (hT9.keep (.of_below hA9))
              have hB10 : Below wl.heap.size wl w10 := (HB9.out.trans (hA9.mono hs9)).grown HG6.out (Nat.le_trans hs9 hA9.size) HK9.out
              have hL10 := HL.out.below hB10
              have e2048 : k * 2048 + 2048 = (k + 1) * 2048 := by omega
              rw [e2048] at hL10
              exact ⟨gs2, gr2, ser, sk, recs ++ [P], dur, pend7, b7, pv7, ps7, nw7, rfl, rfl, rfl, hL10, HDUR.out, hse1, by omega, h6.1, HX.out.low hB10 (by omega), HB.out.trans (hB10.mono HB.out.size)⟩
            · have hLR : ¬ (L : Int) ≤ (room : Int) := by omega
              have HFULL : Hid (halfK S h * 487 < (rec1 P).length + (layR recs).length) := Lib.hid (by rw [← hL]; omega)
              clear h4 h5 hm hP hPl hPs hL hroom hsz hK2 hL1 hlay1 hfit
              go_wp2_with (first
                | (go_at_call 17; (with_reducible refine (HRE.out).mono ?_); rintro e w5 ⟨g5, rfl, hg5, hX5, hb5⟩; go_loud (
                    have hT : TBytes w5 (.slice (some ⟨g5, 0, none⟩) m m) P := ⟨bytes_block hX5 (lt_of_heap hX5) HPL.out.symm (Nat.le_refl _) HPS.out (by have := HPL.out; unfold maxLen; omega), fun k e => (by injection e with e; subst e; exact ⟨_, _, hX5⟩)⟩;
                    have HT := Lib.hid hT;
                    have HL := Lib.hid (HLX.out.below hb5);
                    have HR := Lib.hid (HRX.out.below hb5);
                    have HX := Lib.hid (HbX.out.low hb5 (by omega));
                    have HB := Lib.hid (HBX.out.trans (hb5.mono HBX.out.size));
                    have HRM := Lib.hid (room_lif HL.out);
                    rw [← HROOM.out] at HRM;
                    clear hT hX5 hb5 HRE))
                | (go_at_call 18; (with_reducible refine (HRM.out).mono ?_); rintro e w6 ⟨rfl, hb6⟩; go_loud (
                    have HT := Lib.hid (HT.out.keep (.of_below hb6));
                    have HR := Lib.hid (HR.out.below hb6);
                    have HX := Lib.hid (HX.out.low hb6 (by have := HL.out.hb; omega));
                    have HL := Lib.hid (HL.out.below hb6);
                    have HB := Lib.hid (HB.out.trans (hb6.mono HB.out.size));
                    have HWR := Lib.hid (writes_lif HL.out);
                    have HAP := Lib.hid (full_lif HL.out _ m _ P HT.out.1 (by omega) HFULL.out);
                    clear hb6 HRM))
                | (go_at_call 19; (with_reducible refine (HWR.out).mono ?_); rintro e wy ⟨rfl, rfl⟩)
                | (go_at_call 20; (with_reducible refine (HAP.out).mono ?_); rintro e w7 ⟨rfl, hb7⟩; go_loud (
                    have HT := Lib.hid (HT.out.keep (.of_below hb7));
                    have HR := Lib.hid (HR.out.below hb7);
                    have HX := Lib.hid (HX.out.low hb7 (by have := HL.out.hb; omega));
                    have HL := Lib.hid (HL.out.below hb7);
                    have HB := Lib.hid (HB.out.trans (hb7.mono HB.out.size));
                    clear hb7 HAP HWR))
                | (go_at_call 21; (with_reducible refine (KLAY.out _ _ _ _ (HT.out.byt1.along ((Below.refl _ _).alloc (Nat.le_refl _) _)) (Go.heap_alloc_new _ _)).mono ?_); rintro e wl ⟨Al, cl, rfl, hbl⟩; go_loud (
                    have hbl2 := ((Below.refl _ _).alloc (Nat.le_refl _) _).trans (hbl.mono (by simp));
                    have HT := Lib.hid (HT.out.keep (.of_below hbl2));
                    have HR := Lib.hid (HR.out.below hbl2);
                    have HX := Lib.hid (HX.out.low hbl2 (by have := HL.out.hb; omega));
                    have HL := Lib.hid (HL.out.below hbl2);
                    have HB := Lib.hid (HB.out.trans (hbl2.mono HB.out.size));
                    have HWR := Lib.hid (writes_lif HL.out);
                    clear hbl hbl2)))
              go_meet
              exact ⟨gs2, gr2, ser, sk, recs, dur, pend, b4, pv4, ps4, nw, rfl, rfl, rfl, HL.out.more (by omega), HDUR.out, hse1, by omega, HR.out, HX.out, HB.out⟩
      case rest =>
        clear HA HL HR HX HBb c0 c1 c2 c3 hdur hse1 hse2 hbs
        have HM := Lib.hid hcut
        obtain ⟨gs, gr, ser, sk, recs, dur, pend, b4, pv4, ps4, nw, rfl, rfl, rfl, hL, hdur, hse1, hse2, hR, hbx, hb⟩ := hcut
        have hbs := hL.hb
        obtain ⟨Ao, co, rfl⟩ := hR.len
        obtain ⟨rn, hrn⟩ : ∃ x, x = recs.length := ⟨_, rfl⟩
        obtain ⟨Z, hZ⟩ : ∃ x, x = (layR recs).length := ⟨_, rfl⟩
        obtain ⟨K, hK⟩ : ∃ x, x = halfK S h := ⟨_, rfl⟩
        have hsz := hL.size_le
        have hK2 := hL.h2
        have hcl := hL.count_le
        have hrl : recs.length ≤ maxLen := by unfold maxLen; omega
        obtain ⟨Rm, hRm⟩ : ∃ x, x = K * 487 - Z := ⟨_, rfl⟩
        have hRZ : (Rm : Int) + (Z : Int) = 487 * (K : Int) := by rw [← hZ, ← hK] at hsz; omega
        have hb3 := hbx.cells
        have hgB : w.heap.size < wc.heap.size := by omega
        have HC6 : Hid (∀ x, Below wc.heap.size wc x → x.cell? ⟨w.heap.size, 0, none⟩ = some (.int .u32 (gen : Int)) ∧ x.cell? ⟨w.heap.size, 1, none⟩ = some (.int .u8 (h : Int)) ∧ x.cell? ⟨w.heap.size, 2, none⟩ = some (.int .u32 (s : Int))) := Lib.hid fun x hx => (hbx.low hx hgB).cells
        have HLx : Hid (∀ x, Below wc.heap.size wc x → LifS x w1.heap.size gs gr gen ser (halfN S h) (halfK S h) ((k + 1) * 2048) recs sk dur pend b4 pv4 ps4 nw) := Lib.hid fun x hx => hL.below hx
        have HRC : Hid (∀ x, Below wc.heap.size wc x → Calls Try.prog 15 #[.pointer (some ⟨gr, 0, none⟩)] x (RecsT x recs)) := Lib.hid fun x hx => records_lif (HLx.out x hx)
        have HCT : Hid (∀ x, Below wc.heap.size wc x → Calls Try.prog 23 #[.pointer (some ⟨gr, 0, none⟩)] x fun e w' => e = .returned (.int .i64 (rn : Int)) ∧ x = w') := Lib.hid fun x hx => by rw [hrn]; exact count_lif (HLx.out x hx)
        have HSZ : Hid (∀ x, Below wc.heap.size wc x → Calls Try.prog 24 #[.pointer (some ⟨gr, 0, none⟩)] x fun e w' => e = .returned (.int .i64 (Z : Int)) ∧ x = w') := Lib.hid fun x hx => by rw [hZ]; exact size_lif (HLx.out x hx)
        have HRM : Hid (∀ x, Below wc.heap.size wc x → Calls Try.prog 18 #[.pointer (some ⟨gr, 0, none⟩)] x fun e w' => e = .returned (.int .i64 (Rm : Int)) ∧ Below x.heap.size x w') := Lib.hid fun x hx => by rw [hRm, hZ, hK]; exact room_lif (HLx.out x hx)
        have HHA : Hid (∀ x, Below wc.heap.size wc x → Calls Try.prog 25 #[.pointer (some ⟨gs, 0, none⟩), .agg #[.int .u32 (gen : Int), .int .u8 (h : Int), .int .u32 (s : Int)]] x fun e w' => ∃ A c, e = .returned (.slice A K c) ∧ Below x.heap.size x w') := Lib.hid fun x hx => by
          have h1 := HLx.out x hx
          rw [← hdur] at h1
          refine (half_lif s h1 (by omega) hh1).mono ?_
          rintro e w' ⟨A, c, e1, _, hb⟩
          exact ⟨A, c, by rw [e1, hdur, hK], hb⟩
        have HLY : Hid (∀ (x : World) (v : Value), Parts x x.heap.size v recs → Calls Try.prog 21 #[v] x fun e w' => ∃ A c, e = .returned (.slice A Z c) ∧ Below x.heap.size x w') := Lib.hid fun x v hv => by
          refine (refLayR_any x v recs hv hL.fit).mono ?_
          rintro e w' ⟨u, he, hO, hb⟩
          obtain ⟨A, c, rfl, _⟩ := hO.form
          exact ⟨A, c, by rw [he, hZ], hb⟩
        have HSM : Hid (∀ (x : World) (u v : Value), Parts x x.heap.size u recs → Parts x x.heap.size v recs → Calls Try.prog 22 #[u, v] x fun e w' => e = .returned (.bool true) ∧ Below x.heap.size x w') := Lib.hid fun x u v hu hv => by
          refine (same_rows x u v recs recs hu hv).mono ?_
          rintro e w' ⟨e1, q, rfl⟩
          rw [decide_eq_true rfl] at e1
          exact ⟨e1, below_drewN (Below.refl _ _) q⟩
        have HP : Hid (∀ x, Below wc.heap.size wc x → Parts x x.heap.size (.slice Ao rn co) recs) := Lib.hid fun x hx => by rw [hrn]; exact (hR.below hx).parts hrl
        have HRL := Lib.hid hrl
        rw [← hrn]
        rw [← hrn] at HM
        clear hL hR hbx hb hdur hse1 hse2 hrn hZ hK hRm hsz hcl hrl hK2 hb3
        go_wp2_with fail
        go_region_held3 (fun x => Below wc.heap.size wc x ∧ x.cell? ⟨w.heap.size, 0, none⟩ = some (.int .u32 (gen : Int)) ∧ x.cell? ⟨w.heap.size, 1, none⟩ = some (.int .u8 (h : Int)) ∧ x.cell? ⟨w.heap.size, 2, none⟩ = some (.int .u32 (s : Int)))
          ((refine (fun h => ⟨h, HC6.out _ h⟩) ?_; repeat (with_reducible (first | exact Below.refl _ _ | assumption | refine ride_alloc ?_ _ | refine ride_drew ?_ | refine below_drewN ?_ _ | refine ride_call (by assumption) ?_))))
          (first
            | (go_at_call 15; (with_reducible refine (HRC.out _ (by repeat (with_reducible (first | exact Below.refl _ _ | assumption | refine ride_alloc ?_ _ | refine ride_drew ?_ | refine below_drewN ?_ _ | refine ride_call (by assumption) ?_)))).mono ?_); rintro e wa ⟨va, rfl, hRa, hba⟩)
            | (go_at_call 22; (with_reducible refine (HSM.out _ _ _ ((hRa.below (show Below wa.heap.size wa _ from (by repeat (with_reducible (first | exact Below.refl _ _ | assumption | refine ride_alloc ?_ _ | refine ride_drew ?_ | refine below_drewN ?_ _ | refine ride_call (by assumption) ?_))))).parts HRL.out) (HP.out _ (by repeat (with_reducible (first | exact Below.refl _ _ | assumption | refine ride_alloc ?_ _ | refine ride_drew ?_ | refine below_drewN ?_ _ | refine ride_call (by assumption) ?_))))).mono ?_); rintro e wb ⟨rfl, hbb⟩)
            | (go_at_call 23; (with_reducible refine (HCT.out _ (by repeat (with_reducible (first | exact Below.refl _ _ | assumption | refine ride_alloc ?_ _ | refine ride_drew ?_ | refine below_drewN ?_ _ | refine ride_call (by assumption) ?_)))).mono ?_); rintro e wd ⟨rfl, rfl⟩)
            | (go_at_call 24; (with_reducible refine (HSZ.out _ (by repeat (with_reducible (first | exact Below.refl _ _ | assumption | refine ride_alloc ?_ _ | refine ride_drew ?_ | refine below_drewN ?_ _ | refine ride_call (by assumption) ?_)))).mono ?_); rintro e we ⟨rfl, rfl⟩)
            | (go_at_call 21; (with_reducible refine (HLY.out _ _ (HP.out _ (by repeat (with_reducible (first | exact Below.refl _ _ | assumption | refine ride_alloc ?_ _ | refine ride_drew ?_ | refine below_drewN ?_ _ | refine ride_call (by assumption) ?_))))).mono ?_); rintro e wf ⟨Af, cf, rfl, hbf⟩)
            | (go_at_call 18; (with_reducible refine (HRM.out _ (by repeat (with_reducible (first | exact Below.refl _ _ | assumption | refine ride_alloc ?_ _ | refine ride_drew ?_ | refine below_drewN ?_ _ | refine ride_call (by assumption) ?_)))).mono ?_); rintro e wg ⟨rfl, hbg⟩)
            | (go_at_call 25; (with_reducible refine (HHA.out _ (by repeat (with_reducible (first | exact Below.refl _ _ | assumption | refine ride_alloc ?_ _ | refine ride_drew ?_ | refine below_drewN ?_ _ | refine ride_call (by assumption) ?_)))).mono ?_); rintro e wh ⟨Ah, ch, rfl, hbh⟩))
        all_goals
          rename_i hHeld
          have HHE := Lib.hid hHeld.1
          clear hHeld
          go_wp2
          go_roundw
          case rel => exact ⟨k + 1, by omega, by omega, by go_num, HM.out.below HHE.out HS2.out.2⟩
          case measure => simp [intOf]; omega
    · have hcase : k = n ∨ (k < n ∧ k = 40) := by omega
      obtain ⟨X, hX⟩ : ∃ X, X = ((applied pend dur).drop (halfN S h)).take (halfK S h) := ⟨_, rfl⟩
      have hXl : X.length = halfK S h := by rw [hX]; exact hL.view
      have hK2 := hL.h2
      have hgB : w.heap.size < wr.heap.size := by omega
      obtain ⟨Ao, co, rfl⟩ := hR.len
      have hrl : recs.length ≤ maxLen := by have := hL.count_le; unfold maxLen; omega
      have HLx : Hid (∀ x, Below wr.heap.size wr x → LifS x w1.heap.size gs2 gr2 gen ser (halfN S h) (halfK S h) (k * 2048) recs sk dur pend b4 pv4 ps4 nw) := Lib.hid fun x hx => hL.below hx
      have HC6 : Hid (∀ x, Below wr.heap.size wr x → x.cell? ⟨w.heap.size, 0, none⟩ = some (.int .u32 (gen : Int)) ∧ x.cell? ⟨w.heap.size, 1, none⟩ = some (.int .u8 (h : Int)) ∧ x.cell? ⟨w.heap.size, 2, none⟩ = some (.int .u32 (s : Int))) := Lib.hid fun x hx => (hbx.low hx hgB).cells
      have HHA : Hid (∀ x, Below wr.heap.size wr x → Calls Try.prog 25 #[.pointer (some ⟨gs2, 0, none⟩), .agg #[.int .u32 (gen : Int), .int .u8 (h : Int), .int .u32 (s : Int)]] x fun e w' => ∃ A c, e = .returned (.slice A (halfK S h) c) ∧ Rows3 w' x.heap.size (.slice A (halfK S h) c) X ∧ Below x.heap.size x w') := Lib.hid fun x hx => by
        have h1 := HLx.out x hx
        rw [← hdur] at h1
        have h2 := half_lif s h1 (by omega) hh1
        rw [hdur] at h2
        rw [hX]
        exact h2
      have HRO : Hid (∀ (x : World) (v : Value), Parts x x.heap.size v X → Calls Try.prog 26 #[v, .int .u32 (gen : Int)] x fun e w' => ∃ u, e = .returned (.tuple #[u, .int .i64 (-1)]) ∧ Rows2 w' x.heap.size w'.heap.size u recs ∧ Below x.heap.size x w') := Lib.hid fun x v hv => refopen_lif hL x v (hX ▸ hv)
      have HSM : Hid (∀ (x : World) (u v : Value), Parts x x.heap.size u recs → Parts x x.heap.size v recs → Calls Try.prog 22 #[u, v] x fun e w' => e = .returned (.bool true) ∧ Below x.heap.size x w') := Lib.hid fun x u v hu hv => by
        refine (same_rows x u v recs recs hu hv).mono ?_
        rintro e w' ⟨e1, q, rfl⟩
        rw [decide_eq_true rfl] at e1
        exact ⟨e1, below_drewN (Below.refl _ _) q⟩
      have HP : Hid (∀ x, Below wr.heap.size wr x → Parts x x.heap.size (.slice Ao recs.length co) recs) := Lib.hid fun x hx => (hR.below hx).parts hrl
      have HRL := Lib.hid hrl
      have HXL : Hid (X.length ≤ maxLen) := Lib.hid (by unfold maxLen; omega)
      have HBb := Lib.hid hb
      have hb' := hb
      clear hL hR hbx hdur hse1 hse2 hX hXl hrl hK2 hlt hbs hb
      rcases hcase with rfl | ⟨hkn, hke⟩
      · clear hb'
        go_wp2_with fail
        go_region_held3 (fun x => Below wr.heap.size wr x ∧ x.cell? ⟨w.heap.size, 0, none⟩ = some (.int .u32 (gen : Int)) ∧ x.cell? ⟨w.heap.size, 1, none⟩ = some (.int .u8 (h : Int)) ∧ x.cell? ⟨w.heap.size, 2, none⟩ = some (.int .u32 (s : Int)))
          ((refine (fun h => ⟨h, HC6.out _ h⟩) ?_; repeat (with_reducible (first | exact Below.refl _ _ | assumption | refine ride_alloc ?_ _ | refine ride_drew ?_ | refine below_drewN ?_ _ | refine ride_call (by assumption) ?_))))
          (first
            | (go_at_call 25; (with_reducible refine (HHA.out _ (by repeat (with_reducible (first | exact Below.refl _ _ | assumption | refine ride_alloc ?_ _ | refine ride_drew ?_ | refine below_drewN ?_ _ | refine ride_call (by assumption) ?_)))).mono ?_); rintro e w7 ⟨A7, c7, rfl, hR7, hb7⟩)
            | (go_at_call 26; (with_reducible refine (HRO.out _ _ ((hR7.below (show Below w7.heap.size w7 _ from (by repeat (with_reducible (first | exact Below.refl _ _ | assumption | refine ride_alloc ?_ _ | refine ride_drew ?_ | refine below_drewN ?_ _ | refine ride_call (by assumption) ?_))))).parts HXL.out)).mono ?_); rintro e w8 ⟨v8, rfl, hR8, hb8⟩))
        all_goals
          rename_i hHeld
          have h69 := hHeld.1
          have HSE : Hid (∀ y, Below w8.heap.size w8 y → Calls Try.prog 22 #[v8, .slice Ao recs.length co] y fun e w' => e = .returned (.bool true) ∧ Below y.heap.size y w') := Lib.hid fun y hy => HSM.out y _ _ ((hR8.below (Nat.le_refl _) hy).parts hy.size HRL.out) (HP.out y (h69.trans (hy.mono h69.size)))
          have HH9 := Lib.hid h69
          clear hHeld hR7 hR8 hb7 hb8 h69
          go_wp2_with (go_at_call 22; (with_reducible refine (HSE.out _ (by repeat (with_reducible (first | exact Below.refl _ _ | assumption | refine ride_alloc ?_ _ | refine ride_drew ?_ | refine below_drewN ?_ _ | refine ride_call (by assumption) ?_)))).mono ?_); rintro e w9 ⟨rfl, hb9⟩)
          go_ret
          exact ⟨rfl, HBb.out.trans ((HH9.out.trans (hb9.mono HH9.out.size)).mono HBb.out.size)⟩
      · have hkge : (k : Int) ≥ 40 := by omega
        clear hke hk hk40
        obtain ⟨a, ha⟩ : ∃ a, acts[k]? = some a := ⟨_, List.getElem?_eq_getElem (by rw [← HNL.out]; exact hkn)⟩
        obtain ⟨ad, hA, c0, c1, c2, c3⟩ := HPP.out.load ha hb'
        subst hA
        clear ha hb'
        obtain ⟨db, nb, bb2, KA, kn, kc, kks⟩ := a
        dsimp only at c0 c1 c2 c3
        go_wp2_with fail
        go_region_held3 (fun x => Below wr.heap.size wr x ∧ x.cell? ⟨w.heap.size, 0, none⟩ = some (.int .u32 (gen : Int)) ∧ x.cell? ⟨w.heap.size, 1, none⟩ = some (.int .u8 (h : Int)) ∧ x.cell? ⟨w.heap.size, 2, none⟩ = some (.int .u32 (s : Int)))
          ((refine (fun h => ⟨h, HC6.out _ h⟩) ?_; repeat (with_reducible (first | exact Below.refl _ _ | assumption | refine ride_alloc ?_ _ | refine ride_drew ?_ | refine below_drewN ?_ _ | refine ride_call (by assumption) ?_))))
          (first
            | (go_at_call 25; (with_reducible refine (HHA.out _ (by repeat (with_reducible (first | exact Below.refl _ _ | assumption | refine ride_alloc ?_ _ | refine ride_drew ?_ | refine below_drewN ?_ _ | refine ride_call (by assumption) ?_)))).mono ?_); rintro e w7 ⟨A7, c7, rfl, hR7, hb7⟩)
            | (go_at_call 26; (with_reducible refine (HRO.out _ _ ((hR7.below (show Below w7.heap.size w7 _ from (by repeat (with_reducible (first | exact Below.refl _ _ | assumption | refine ride_alloc ?_ _ | refine ride_drew ?_ | refine below_drewN ?_ _ | refine ride_call (by assumption) ?_))))).parts HXL.out)).mono ?_); rintro e w8 ⟨v8, rfl, hR8, hb8⟩))
        all_goals
          rename_i hHeld
          have h69 := hHeld.1
          have HSE : Hid (∀ y, Below w8.heap.size w8 y → Calls Try.prog 22 #[v8, .slice Ao recs.length co] y fun e w' => e = .returned (.bool true) ∧ Below y.heap.size y w') := Lib.hid fun y hy => HSM.out y _ _ ((hR8.below (Nat.le_refl _) hy).parts hy.size HRL.out) (HP.out y (h69.trans (hy.mono h69.size)))
          have HH9 := Lib.hid h69
          clear hHeld hR7 hR8 hb7 hb8 h69
          go_wp2_with (go_at_call 22; (with_reducible refine (HSE.out _ (by repeat (with_reducible (first | exact Below.refl _ _ | assumption | refine ride_alloc ?_ _ | refine ride_drew ?_ | refine below_drewN ?_ _ | refine ride_call (by assumption) ?_)))).mono ?_); rintro e w9 ⟨rfl, hb9⟩)
          go_ret
          exact ⟨rfl, HBb.out.trans ((HH9.out.trans (hb9.mono HH9.out.size)).mono HBb.out.size)⟩
end Go.Proofs.Ytalpippeelomjaa
