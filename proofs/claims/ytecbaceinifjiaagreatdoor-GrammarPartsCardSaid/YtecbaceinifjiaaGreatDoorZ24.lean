/- GSts, GBlock, GChoice: joined by program (tools/merge.py). -/
import Derived.Test.YtecbaceinifjiaaGreatDoorZ23
namespace Go.Proofs.YtecbaceinifjiaaGreatDoor
open Go.RowKit
set_option linter.unusedSimpArgs false
set_option linter.unusedVariables false
set_option maxRecDepth 100000
attribute [local go_sem] Oper.semAt_some undef
/-- Twice what is left, and one more while nothing is wrong. -/
def wrongN (gp : Nat) (w : World) : Nat := match w.cell? ⟨gp, 1, none⟩ with
  | some (.bool true) => 0
  | _ => 1
def muS (gp : Nat) (w : World) : Nat := 2 * muL gp w + wrongN gp w
theorem GR.muSt {w : World} {base : Nat} {M : GM} {s : PS} (h : GR w base M s) (hw : s.wrong = true) : muS M.gp w = 2 * s.left.length := by
  unfold muS wrongN
  rw [h.mu, h.cells.1.2.1, hw]
  rfl
theorem GR.muSf {w : World} {base : Nat} {M : GM} {s : PS} (h : GR w base M s) (hw : s.wrong = false) : muS M.gp w = 2 * s.left.length + 1 := by
  unfold muS wrongN
  rw [h.mu, h.cells.1.2.1, hw]
/-- Where a loop over parts stands. -/
def LoopI (w : World) (base : Nat) (M : GM) (N L0 N0 : Nat) (st : PS → PS) (e : List Nat) (S : PS) (wr : World) : Prop :=
  ∃ (k : Nat) (M1 : GM) (s1 : PS), GR wr base M1 s1 ∧ M1.gp = M.gp ∧ Touch w wr (OwnG M) ∧ (∀ j, OwnG M1 j → OwnG M j ∨ w.heap.size ≤ j) ∧ (Live M → Live M1) ∧ s1.left.length ≤ L0 ∧ N0 ≤ s1.nodes.length ∧ stsS st e k s1 = S ∧
    (s1.wrong = false → s1.left.length < k ∧ s1.left.length * 16 + s1.nodes.length + s1.cnt + N ≤ 10000000)
/-- .. and how it goes on: a part was read. -/
theorem LoopI.more {w wr w2 : World} {base : Nat} {M M1 : GM} {s1 : PS} {N L0 N0 k : Nat} {st : PS → PS} {e : List Nat} {S : PS} (hok : StOkN N st) (hg : GR wr base M1 s1) (hgp : M1.gp = M.gp) (hT : Touch w wr (OwnG M)) (hO : ∀ j, OwnG M1 j → OwnG M j ∨ w.heap.size ≤ j) (hl : Live M → Live M1)
    (hL : s1.left.length ≤ L0) (hN : N0 ≤ s1.nodes.length) (hC : stsS st e k s1 = S) (hk : s1.left.length < k ∧ s1.left.length * 16 + s1.nodes.length + s1.cnt + N ≤ 10000000) (hw : s1.wrong = false) (he : isS e s1 = false) (hst : GStep wr base M1 (st s1) w2) :
    LoopI w base M N L0 N0 st e S w2 ∧ muS M.gp w2 < muS M.gp wr := by
  obtain ⟨M2, hg2, hgp2, hT2, hO2, hl2⟩ := GStep.trans hgp hT hO hl hst
  obtain ⟨k', rfl⟩ : ∃ k', k = k' + 1 := ⟨k - 1, by omega⟩
  have hC2 : stsS st e k' (st s1) = S := by
    rw [← hC]
    show _ = (if s1.wrong || isS e s1 then s1 else stsS st e k' (st s1))
    rw [hw, he]
    rfl
  have hmw : muS M.gp wr = 2 * s1.left.length + 1 := by rw [← hgp]; exact hg.muSf hw
  by_cases h0 : s1.left = []
  · obtain ⟨h1, h2⟩ := hok.none s1 h0
    refine ⟨⟨k', M2, st s1, hg2, hgp2, hT2, hO2, hl2, Nat.le_trans h1.left hL, Nat.le_trans hN h1.nodes, hC2, fun h9 => by rw [h2] at h9; cases h9⟩, ?_⟩
    rw [hmw, ← hgp2, hg2.muSt h2]
    have := h1.left
    omega
  · have h1 := hok.some s1 h0
    have h2 := hok.less s1 (List.length_pos_iff.2 h0)
    refine ⟨⟨k', M2, st s1, hg2, hgp2, hT2, hO2, hl2, Nat.le_trans h1.left hL, Nat.le_trans hN h1.nodes, hC2, fun _ => ⟨by omega, by have := h1.sum; omega⟩⟩, ?_⟩
    rw [hmw, ← hgp2]
    cases h3 : (st s1).wrong with
    | true => rw [hg2.muSt h3]; omega
    | false => rw [hg2.muSf h3]; omega
/-- .. and ends. -/
theorem loop_endW {st : PS → PS} {e : List Nat} {k : Nat} {s1 S : PS} (hC : stsS st e k s1 = S) (hw : s1.wrong = true) : s1 = S := (sts_wrong k s1 hw).symm.trans hC
theorem loop_endE {st : PS → PS} {e : List Nat} {k : Nat} {s1 S : PS} (hC : stsS st e k s1 = S) (hk : s1.left.length < k) (he : isS e s1 = true) : s1 = S := by
  obtain ⟨k', rfl⟩ : ∃ k', k = k' + 1 := ⟨k - 1, by omega⟩
  rw [← hC]
  show s1 = (if s1.wrong || isS e s1 then s1 else stsS st e k' (st s1))
  rw [he, Bool.or_true, if_pos rfl]
/-- What the contract of a statement says, at a fuel. -/
def StC (f : Nat) (base : Nat) : Prop := ∀ (w : World) (M : GM) (s : PS) (u : Nat), GR w base M s → s.left.length < f → 0 < u → u ≤ s.nodes.length → Live M → s.left.length * 16 + s.nodes.length + s.cnt + 1 ≤ 10000000 →
  Calls Tryz.prog 85 #[.pointer (some ⟨M.gp, 0, none⟩), .int .u64 (u : Int)] w fun e w' => e = .returned (.tuple #[]) ∧ GStep w base M (stmtS f u s) w'
set_option maxHeartbeats 8000000 in
theorem sts_any (w : World) (base : Nat) (M : GM) (s : PS) (h : GR w base M s) (f u : Nat) (e : ByteArray) (hu0 : 0 < u) (hu : u ≤ s.nodes.length) (hl : Live M) (hf : s.left.length < f + 1) (hst : StC (f + 1) base) (hs : s.left.length * 16 + s.nodes.length + s.cnt + 1 ≤ 10000000) :
    Calls Tryz.prog 74 #[.pointer (some ⟨M.gp, 0, none⟩), .int .u64 (u : Int), .string e] w fun r w' => r = .returned (.tuple #[]) ∧ GStep w base M (stsS (stmtS (f + 1) u) (str e) (s.left.length + 1) s) w' := by
  have hrel0 : LoopI w base M 1 s.left.length s.nodes.length (stmtS (f + 1) u) (str e) (stsS (stmtS (f + 1) u) (str e) (s.left.length + 1) s) w :=
    ⟨s.left.length + 1, M, s, h, rfl, Touch.refl _ _, fun j h => .inl h, fun h => h, Nat.le_refl _, Nat.le_refl _, rfl, fun _ => ⟨Nat.lt_succ_self _, hs⟩⟩
  obtain ⟨S, hS⟩ : ∃ S, S = stsS (stmtS (f + 1) u) (str e) (s.left.length + 1) s := ⟨_, rfl⟩
  obtain ⟨L0, hL0⟩ : ∃ L0, L0 = s.left.length := ⟨_, rfl⟩
  obtain ⟨N0, hN0⟩ : ∃ N0, N0 = s.nodes.length := ⟨_, rfl⟩
  rw [← hS, ← hL0, ← hN0] at hrel0
  rw [← hS]
  rw [← hL0] at hf
  rw [← hN0] at hu
  have HREL := Lib.hid hrel0
  have HU0 := Lib.hid hu0
  have HU := Lib.hid hu
  have HL := Lib.hid hl
  have HF := Lib.hid hf
  have HSTC := Lib.hid hst
  clear h hrel0 hS hL0 hN0 hu0 hu hl hf hst hs
  go_enter Tryz.func74, Tryz.ntmps74
  go_wp2_with fail
  go_loopw [] (fun wr => LoopI w base M 1 L0 N0 (stmtS (f + 1) u) (str e) S wr) (fun wr => muS M.gp wr)
  case atStart => exact HREL.out
  case round =>
    obtain ⟨k, M1, s1, hg, hgp, hT, hO, hl, hL, hN, hC, hk⟩ := hrel
    obtain ⟨⟨_, d1, _⟩, _⟩ := hg.cells
    rw [hgp] at d1
    have his := is_any wr base M1 s1 hg e
    rw [hgp] at his
    have hfin : s1 = S → GStep w base M S wr := fun e9 => ⟨M1, by rw [← e9]; exact hg, hgp, hT, hO, hl⟩
    cases hw : s1.wrong with
    | true =>
      rw [hw] at d1
      have HFIN := Lib.hid (hfin (loop_endW hC hw))
      clear hg his hgp hT hO hl hL hN hC hk hw hfin
      go_wp2_with fail
      go_end0
      exact ⟨rfl, HFIN.out⟩
    | false =>
      rw [hw] at d1
      cases hb : isS (str e) s1 with
      | true =>
        rw [hb] at his
        have HIS := Lib.hid his
        have HFIN := Lib.hid (hfin (loop_endE hC (hk hw).1 hb))
        clear hg his hgp hT hO hl hL hN hC hk hw hfin hb
        go_wp2_with (go_at_call 48; (with_reducible refine (HIS.out).mono ?_); rintro e w1 ⟨rfl, rfl⟩)
        go_end0
        exact ⟨rfl, HFIN.out⟩
      | false =>
        rw [hb] at his
        have HIS := Lib.hid his
        have hsc := HSTC.out wr M1 s1 u hg (by have := HF.out; omega) HU0.out (Nat.le_trans HU.out hN) (hl HL.out) (hk hw).2
        rw [hgp] at hsc
        have HSC := Lib.hid hsc
        have HNX := Lib.hid (fun w2 (h2 : GStep wr base M1 (stmtS (f + 1) u s1) w2) => LoopI.more (stokN_stmt f u) hg hgp hT hO hl hL hN hC (hk hw) hw hb h2)
        clear hg his hsc hgp hT hO hl hL hN hC hk hw hfin hb
        go_wp2_with (first
          | (go_at_call 48; (with_reducible refine (HIS.out).mono ?_); rintro e w1 ⟨rfl, rfl⟩)
          | (go_at_call 85; (with_reducible refine (HSC.out).mono ?_); rintro e w2 ⟨rfl, hw2⟩; go_loud (
              have HW2 := Lib.hid (HNX.out _ hw2);
              clear hw2)))
        obtain ⟨hfin, hmu⟩ := HW2.out
        first
          | (go_roundw; (case rel => exact hfin); (case measure => exact hmu))
          | (refine ⟨⟨_, _, _, _, _, _, _, _, _, _, _, _, _, _, hfin, rfl⟩, ?measure⟩; (case measure => exact hmu))
          | (refine ⟨hfin, ?measure⟩; (case measure => exact hmu))
end Go.Proofs.YtecbaceinifjiaaGreatDoor
namespace Go.Proofs.YtecbaceinifjiaaGreatDoor
open Go.RowKit
set_option linter.unusedSimpArgs false
set_option linter.unusedVariables false
set_option maxRecDepth 100000
attribute [local go_sem] Oper.semAt_some undef
theorem GR.svForm {w : World} {base : Nat} {M : GM} {s : PS} (h : GR w base M s) : ∃ A c, M.sv = .slice A s.shown.length c := by
  rcases h.shown.2 with ⟨e, h0⟩ | ⟨g, cap, cur, e, _⟩
  · exact ⟨none, 0, by rw [e, h0]⟩
  · exact ⟨_, cap, e⟩
/-- What stands between a block's braces. -/
def bodyS (f id : Nat) (s : PS) : PS := wantS c_rbr (stsS (stmtS (f + 1) id) c_rbr (s.left.length + 1) s)
theorem blockS_eq (f u : Nat) (s : PS) : blockS (stmtS (f + 1)) u s = hideS (growS u (nd0 5) s).shown.length (nestS (bodyS f (growId s)) (wantS c_lbr (growS u (nd0 5) s))) := rfl
theorem up_body (f id : Nat) (s : PS) : Up s (bodyS f id s) 1 := by
  unfold bodyS
  exact ((up_stsN (stokN_stmt f id) _ _ _).trans (ok_want c_rbr _).up).more (by omega)
theorem pf_body (f id : Nat) (s : PS) : s.shown <+: (bodyS f id s).shown := by
  unfold bodyS
  rw [sm_want]
  exact pf_sts (fun t => pf_stmt (f + 1) id t) _ _ _
set_option maxHeartbeats 8000000 in
theorem block1_any (w : World) (base : Nat) (M : GM) (s : PS) (h : GR w base M s) (f id g1 g2 : Nat) (b1 : BoxP w g1 M.gp) (b2 : BoxI w g2 id) (n1 : ¬ OwnG M g1) (hu0 : 0 < id) (hu : id ≤ s.nodes.length) (hl : Live M) (hf : s.left.length < f + 1) (hst : StC (f + 1) base) (hs : s.left.length * 16 + s.nodes.length + s.cnt + 1 ≤ 10000000) :
    PartC 120 #[.pointer (some ⟨g1, 0, none⟩), .pointer (some ⟨g2, 0, none⟩)] w base M (bodyS f id s) := by
  have hsts := sts_any w base M s h f id ⟨#[125]⟩ hu0 hu hl hf hst hs
  have c1 := b1.cell
  have c2 := b2.cell
  have HS := Lib.hid hsts
  have HB1 := Lib.hid b1
  have HN1 := Lib.hid n1
  clear h b1 b2 n1 hu0 hu hl hf hst hs hsts
  unfold PartC
  go_enter Tryz.func120, Tryz.ntmps120
  go_wp2_with (first
    | (go_at_call 74; (with_reducible refine (HS.out).mono ?_); rintro e w2 ⟨rfl, M2, hg2, hgp2, hT2, hO2, hl2⟩; go_loud (
        have hb2 : BoxP w2 g1 M.gp := keep_block hT2 HB1.out HN1.out;
        have d1 := hb2.cell;
        have hwa := want_any w2 base M2 _ hg2 ⟨#[125]⟩;
        rw [show str ⟨#[125]⟩ = c_rbr from rfl, hgp2] at hwa;
        have HWA := Lib.hid hwa;
        have HGP2 := Lib.hid hgp2;
        have HT2 := Lib.hid hT2;
        have HO2 := Lib.hid hO2;
        have HL2 := Lib.hid hl2;
        clear hb2 hwa hg2 hgp2 hT2 hO2 hl2))
    | (go_at_call 45; (with_reducible refine (HWA.out).mono ?_); rintro e w3 ⟨rfl, hw3⟩; go_loud (
        have HW3 := Lib.hid hw3;
        clear hw3)))
  go_end0
  refine ⟨rfl, ?_⟩
  exact GStep.trans HGP2.out HT2.out HO2.out HL2.out HW3.out.step
set_option maxHeartbeats 8000000 in
theorem block_any (w : World) (base : Nat) (M : GM) (s : PS) (h : GR w base M s) (f u : Nat) (hu : u ≤ s.nodes.length) (hl : Live M) (hf : s.left.length < f + 1) (hst : StC (f + 1) base) (hs : s.left.length * 16 + s.nodes.length + s.cnt + 2 ≤ 10000000) :
    Calls Tryz.prog 99 #[.pointer (some ⟨M.gp, 0, none⟩), .int .u64 (u : Int)] w fun e w' => e = .returned (.tuple #[]) ∧ GStep w base M (blockS (stmtS (f + 1)) u s) w' := by
  have hmf : ∀ (fn : Fn) (first cap : Array Value) (w : World), (Instr.makeFunc fn first cap).run Tryz.prog w = .ok (.func fn first cap) w := fun _ _ _ _ => rfl
  obtain ⟨W1, hW1⟩ : ∃ W1, W1 = w.alloc (.cells #[.pointer (some ⟨M.gp, 0, none⟩)] 50) := ⟨_, rfl⟩
  have hb1 : Below w.heap.size w W1 := by rw [hW1]; exact (Below.refl _ _).alloc (Nat.le_refl _) _
  have hx1 : BoxP W1 w.heap.size M.gp := by unfold BoxP; rw [hW1]; exact Go.heap_alloc_new _ _
  have hz1 : w.heap.size < W1.heap.size := lt_of_heap2 hx1
  have hno : ¬ OwnG M w.heap.size := fun e => Nat.lt_irrefl _ (h.own e).2
  have c1 := hx1.cell
  have hgr := grow_any W1 base M s (h.below hb1) u (nd0 5) hu (okNd 5 (by omega)) rfl (by omega)
  unfold ndV nd0 at hgr
  dsimp only at hgr
  rw [show ((5 : Nat) : Int) = 5 from rfl, show ((0 : Nat) : Int) = 0 from rfl] at hgr
  rw [blockS_eq]
  have hgf := grow_facts u (nd0 5) s
  obtain ⟨id, hid⟩ : ∃ id, id = growId s := ⟨_, rfl⟩
  rw [← hid] at hgr ⊢
  obtain ⟨s2, hs2⟩ : ∃ s2, s2 = growS u (nd0 5) s := ⟨_, rfl⟩
  have hgr2 : Calls Tryz.prog 30 #[.pointer (some ⟨M.gp, 0, none⟩), .int .u64 (u : Int), .agg #[.int .u8 5, .string ⟨#[]⟩, .int .i64 0, .int .u8 0, .int .u64 0, .slice none 0 0]] W1 fun e w' => e = .returned (.int .u64 (id : Int)) ∧ GStep W1 base M s2 w' := by rw [hs2]; exact hgr
  rw [← hs2] at hgf ⊢
  obtain ⟨e1, e2, e3, e4⟩ := hgf
  have hok := ok_want c_lbr s2
  obtain ⟨s4, hs4⟩ : ∃ s4, s4 = wantS c_lbr s2 := ⟨_, rfl⟩
  rw [← hs4] at hok ⊢
  have hid0 : 0 < id := by rw [hid]; exact Nat.succ_pos _
  have hid4 : id ≤ s4.nodes.length := by have := hok.nodes; rw [e2] at this; rw [hid]; exact this
  have hf4 : s4.left.length < f + 1 := by have := hok.left; rw [e1] at this; omega
  have hsum4 : s4.left.length * 16 + s4.nodes.length + s4.cnt + 1 ≤ 10000000 := by have := hok.sum; rw [e1, e2, e3] at this; omega
  have hsh4 : s4.shown = s2.shown := by rw [hs4]; exact sm_want _ _
  obtain ⟨k, hk⟩ : ∃ k, k = s2.shown.length := ⟨_, rfl⟩
  have hdep : (bodyS f id { s4 with depth := s4.depth + 1 }).depth = s4.depth + 1 := (up_body f id { s4 with depth := s4.depth + 1 }).depth
  have hpf : k ≤ (nestS (bodyS f id) s4).shown.length := by
    have h9 := pf_nest (fun t => pf_body f id t) s4
    rw [hk, ← hsh4]
    exact h9.length_le
  rw [← hk]
  have HG := Lib.hid hgr2
  have HB1 := Lib.hid hb1
  have HX1 := Lib.hid hx1
  have HZ1 := Lib.hid hz1
  have HNO := Lib.hid hno
  have HW1 := Lib.hid hW1
  have HST := Lib.hid hst
  have HL := Lib.hid hl
  have HS4 := Lib.hid hs4
  have HID0 := Lib.hid hid0
  have HID4 := Lib.hid hid4
  have HF4 := Lib.hid hf4
  have HSUM4 := Lib.hid hsum4
  have HK := Lib.hid hk
  have HDEP := Lib.hid hdep
  have HPF := Lib.hid hpf
  have HGN : Hid (w.heap.size ≠ M.gp) := Lib.hid (by have := h.gpL; omega)
  clear h hid hu hl hf hst hs hb1 hx1 hz1 hno hW1 hgr hgr2 hs2 e1 e2 e3 e4 hok hs4 hid0 hid4 hf4 hsum4 hsh4 hk hdep hpf
  go_enter Tryz.func99, Tryz.ntmps99
  go_upto_region 1 with fail
  rw [← HW1.out]
  go_wp2_with (first
    | (go_at_call 30; (with_reducible refine (HG.out).mono ?_); rintro e w2 ⟨rfl, M2, hg2, hgp2, hT2, hO2, hl2⟩; go_loud (
        have hx2 := keep_block hT2 HX1.out HNO.out;
        have hal : Below w2.heap.size w2 (w2.alloc (.cells #[.int .u64 (id : Int)] 30)) := (Below.refl _ _).alloc (Nat.le_refl _) _;
        have hg3 := hg2.below hal;
        have bx1 : BoxP (w2.alloc (.cells #[.int .u64 (id : Int)] 30)) w.heap.size M.gp := (hal.block _ (lt_of_heap2 hx2)).trans hx2;
        have bx2 : BoxI (w2.alloc (.cells #[.int .u64 (id : Int)] 30)) w2.heap.size id := Go.heap_alloc_new _ _;
        have d1 := bx1.cell;
        have hno1 : ¬ OwnG M2 w.heap.size := (fun e9 => by rcases hO2 _ e9 with h8 | h8; exact HNO.out h8; have := HZ1.out; omega);
        have hno2 : ¬ OwnG M2 w2.heap.size := (fun e9 => Nat.lt_irrefl _ (hg2.own e9).2);
        obtain ⟨⟨_, _, _, _, _, _, _, _, d8, _, _⟩, _⟩ := hg3.cells;
        obtain ⟨A8, c8, hsv⟩ := hg3.svForm;
        rw [hgp2, hsv, ← HK.out] at d8;
        have hwa := want_any _ base M2 s2 hg3 ⟨#[123]⟩;
        rw [show str ⟨#[123]⟩ = c_lbr from rfl, hgp2, ← HS4.out] at hwa;
        have HWA := Lib.hid hwa;
        have HBX1 := Lib.hid bx1;
        have HBX2 := Lib.hid bx2;
        have HNO1 := Lib.hid hno1;
        have HNO2 := Lib.hid hno2;
        have HGP2 := Lib.hid hgp2;
        have HT2 := Lib.hid hT2;
        have HO2 := Lib.hid hO2;
        have HL2 := Lib.hid (hl2 HL.out);
        have HAL := Lib.hid hal;
        have HGPL : Hid (M2.gp < w2.heap.size) := Lib.hid hg2.gpL;
        clear hx2 hal hg3 bx1 bx2 hno1 hno2 hsv hwa hg2 hgp2 hT2 hO2 hl2))
    | (go_at_call 45; (with_reducible refine (HWA.out).mono ?_); rintro e w4 ⟨rfl, l4, hg4, hT4⟩; go_loud (
        have hne1 : w.heap.size ≠ M2.gp := (by rw [HGP2.out]; exact HGN.out);
        have hne2 : w2.heap.size ≠ M2.gp := (by have := HGPL.out; omega);
        have bx1 : BoxP w4 w.heap.size M.gp := (hT4.block _ (lt_of_heap2 HBX1.out) hne1).trans HBX1.out;
        have bx2 : BoxI w4 w2.heap.size id := (hT4.block _ (lt_of_heap2 HBX2.out) hne2).trans HBX2.out;
        have d41 := bx1.cell;
        obtain ⟨M4, hM4⟩ : ∃ M4 : GM, M4 = { M2 with left := l4 } := ⟨_, rfl⟩;
        rw [← hM4] at hg4;
        have hgp4 : M4.gp = M.gp := (by rw [hM4]; exact HGP2.out);
        have hn1 : ¬ OwnG M4 w.heap.size := (by rw [hM4]; exact HNO1.out);
        have hn2 : ¬ OwnG M4 w2.heap.size := (by rw [hM4]; exact HNO2.out);
        have hl4 : Live M4 := (by rw [hM4]; exact HL2.out);
        have hnest := nestBlock_any w4 base M4 s4 hg4 #[.pointer (some ⟨w.heap.size, 0, none⟩), .pointer (some ⟨w2.heap.size, 0, none⟩)] (bodyS f id)
          (fun _ w5 hg5 hT5 => block1_any w5 base M4 _ hg5 f id _ _ (by rw [hgp4]; exact (hT5.block _ (lt_of_heap2 bx1) (fun e9 => hn1 (.inl e9))).trans bx1) ((hT5.block _ (lt_of_heap2 bx2) (fun e9 => hn2 (.inl e9))).trans bx2) hn1 HID0.out HID4.out hl4 HF4.out HST.out HSUM4.out)
          HDEP.out;
        rw [hgp4] at hnest;
        have HNEST := Lib.hid hnest;
        have HBX4 := Lib.hid bx1;
        have HN1 := Lib.hid hn1;
        have HGP4 := Lib.hid hgp4;
        have HL4 := Lib.hid hl4;
        have HT4 := Lib.hid hT4;
        have HM4 := Lib.hid hM4;
        clear hne1 hne2 bx1 bx2 hM4 hgp4 hn1 hn2 hl4 hnest hg4 hT4))
    | (go_at_call 119; (with_reducible refine (HNEST.out).mono ?_); rintro e w6 ⟨rfl, M6, hg6, hgp6, hT6, hO6, hl6⟩; go_loud (
        have bx6 := keep_block hT6 HBX4.out HN1.out;
        have d6 := (show BoxP w6 w.heap.size M.gp from bx6).cell;
        have hhi := hide_any w6 base M6 _ hg6 k HPF.out (hl6 HL4.out);
        have hgp6' : M6.gp = M.gp := hgp6.trans HGP4.out;
        rw [hgp6'] at hhi;
        have HHI := Lib.hid hhi;
        have HGP6 := Lib.hid hgp6;
        have HT6 := Lib.hid hT6;
        have HO6 := Lib.hid hO6;
        have HL6 := Lib.hid hl6;
        clear bx6 hhi hgp6' hg6 hgp6 hT6 hO6 hl6))
    | (go_at_call 121; (with_reducible refine (HHI.out).mono ?_); rintro e w7 ⟨rfl, hw7⟩; go_loud (
        have HW7 := Lib.hid hw7;
        clear hw7)))
  go_end0
  refine ⟨rfl, ?_⟩
  have k6 := GStep.trans HGP6.out HT6.out HO6.out HL6.out HW7.out
  have k4 := GStep.trans (M := M2) (M1 := M4) (by rw [HM4.out]) (HT4.out.more fun j e => .inl e) (fun j h => by rw [HM4.out] at h; exact .inl h) (fun _ => HL4.out) k6
  have k3 := GStep.pre HAL.out k4
  exact (GStep.trans HGP2.out HT2.out HO2.out (fun _ => HL2.out) k3).pre HB1.out
end Go.Proofs.YtecbaceinifjiaaGreatDoor
namespace Go.Proofs.YtecbaceinifjiaaGreatDoor
open Go.RowKit
set_option linter.unusedSimpArgs false
set_option linter.unusedVariables false
set_option maxRecDepth 100000
attribute [local go_sem] Oper.semAt_some undef
/-- What follows an 'if'. -/
def choiceS (f u : Nat) (s : PS) : PS := blockS (stmtS (f + 1)) (growId s) (wantS c_else (blockS (stmtS (f + 1)) (growId s) (exprT (growId s) (growS u (nd0 8) s))))
def whileS (f u : Nat) (s : PS) : PS := blockS (stmtS (f + 1)) (growId s) (exprT (growId s) (growS u (nd0 9) s))
set_option maxHeartbeats 8000000 in
theorem choice_any (w : World) (base : Nat) (M : GM) (s : PS) (h : GR w base M s) (f u : Nat) (hu : u ≤ s.nodes.length) (hl : Live M) (hf : s.left.length < f + 1) (hst : StC (f + 1) base) (hs : s.left.length * 16 + s.nodes.length + s.cnt + 5 ≤ 10000000) :
    Calls Tryz.prog 98 #[.pointer (some ⟨M.gp, 0, none⟩), .int .u64 (u : Int)] w fun e w' => e = .returned (.tuple #[]) ∧ GStep w base M (choiceS f u s) w' := by
  have hgr := grow_any w base M s h u (nd0 8) hu (okNd 8 (by omega)) rfl (by omega)
  unfold ndV nd0 at hgr
  dsimp only at hgr
  rw [show ((8 : Nat) : Int) = 8 from rfl, show ((0 : Nat) : Int) = 0 from rfl] at hgr
  unfold choiceS
  have hgf := grow_facts u (nd0 8) s
  obtain ⟨id, hid⟩ : ∃ id, id = growId s := ⟨_, rfl⟩
  rw [← hid] at hgr ⊢
  obtain ⟨s1, hs1⟩ : ∃ s1, s1 = growS u (nd0 8) s := ⟨_, rfl⟩
  have hgr2 : Calls Tryz.prog 30 #[.pointer (some ⟨M.gp, 0, none⟩), .int .u64 (u : Int), .agg #[.int .u8 8, .string ⟨#[]⟩, .int .i64 0, .int .u8 0, .int .u64 0, .slice none 0 0]] w fun e w' => e = .returned (.int .u64 (id : Int)) ∧ GStep w base M s1 w' := by rw [hs1]; exact hgr
  rw [← hs1] at hgf ⊢
  obtain ⟨e1, e2, e3, e4⟩ := hgf
  have hid0 : 0 < id := by rw [hid]; exact Nat.succ_pos _
  have hid1 : id ≤ s1.nodes.length := by rw [e2, hid]; exact Nat.le_refl _
  have ih := stok_stmt (f + 1)
  have o2 := (ok_exprT id s1).up
  obtain ⟨s2, hs2⟩ : ∃ s2, s2 = exprT id s1 := ⟨_, rfl⟩
  rw [← hs2] at o2 ⊢
  have o3 := o2.trans (up_block ih id s2)
  obtain ⟨s3, hs3⟩ : ∃ s3, s3 = blockS (stmtS (f + 1)) id s2 := ⟨_, rfl⟩
  rw [← hs3] at o3 ⊢
  have o4 := o3.trans (ok_want c_else s3).up
  obtain ⟨s4, hs4⟩ : ∃ s4, s4 = wantS c_else s3 := ⟨_, rfl⟩
  rw [← hs4] at o4 ⊢
  have f2 : s2.left.length < f + 1 := by have := o2.left; rw [e1] at this; omega
  have f4 : s4.left.length < f + 1 := by have := o4.left; rw [e1] at this; omega
  have i2 : id ≤ s2.nodes.length := Nat.le_trans hid1 o2.nodes
  have i4 : id ≤ s4.nodes.length := Nat.le_trans hid1 o4.nodes
  have m2 : s2.left.length * 16 + s2.nodes.length + s2.cnt + 2 ≤ 10000000 := by have := o2.sum; rw [e1, e2, e3] at this; omega
  have m4 : s4.left.length * 16 + s4.nodes.length + s4.cnt + 2 ≤ 10000000 := by have := o4.sum; rw [e1, e2, e3] at this; omega
  have HG := Lib.hid hgr2
  have HST := Lib.hid hst
  have HL := Lib.hid hl
  have HS2 := Lib.hid hs2
  have HS3 := Lib.hid hs3
  have HS4 := Lib.hid hs4
  have HI0 := Lib.hid hid0
  have HI1 := Lib.hid hid1
  have HF2 := Lib.hid f2
  have HF4 := Lib.hid f4
  have HI2 := Lib.hid i2
  have HI4 := Lib.hid i4
  have HM2 := Lib.hid m2
  have HM4 := Lib.hid m4
  clear h hid hu hl hf hst hs hgr hgr2 hs1 e1 e2 e3 e4 hid0 hid1 ih o2 o3 o4 hs2 hs3 hs4 f2 f4 i2 i4 m2 m4
  go_enter Tryz.func98, Tryz.ntmps98
  go_wp2_with (first
    | (go_at_call 30; (with_reducible refine (HG.out).mono ?_); rintro e w1 ⟨rfl, M1, hg1, hgp1, hT1, hO1, hl1⟩; go_loud (
        have hex := expr_any w1 base M1 s1 hg1 id HI0.out HI1.out (hl1 HL.out);
        rw [hgp1, ← HS2.out] at hex;
        have HEX := Lib.hid hex;
        have HGP1 := Lib.hid hgp1;
        have HT1 := Lib.hid hT1;
        have HO1 := Lib.hid hO1;
        have HL1 := Lib.hid (hl1 HL.out);
        clear hex hg1 hgp1 hT1 hO1 hl1))
    | (go_at_call 86; (with_reducible refine (HEX.out).mono ?_); rintro e w2 ⟨rfl, M2, hg2, hgp2, hT2, hO2, hl2⟩; go_loud (
        have hbl := block_any w2 base M2 s2 hg2 f id HI2.out (hl2 HL1.out) HF2.out HST.out HM2.out;
        have hgp2' : M2.gp = M.gp := hgp2.trans HGP1.out;
        rw [hgp2', ← HS3.out] at hbl;
        have HBL := Lib.hid hbl;
        have HGP2 := Lib.hid hgp2;
        have HGQ2 := Lib.hid hgp2';
        have HT2 := Lib.hid hT2;
        have HO2 := Lib.hid hO2;
        have HL2 := Lib.hid (hl2 HL1.out);
        clear hbl hg2 hgp2 hgp2' hT2 hO2 hl2))
    | (go_at_call 99; (with_reducible refine (HBL.out).mono ?_); rintro e w3 ⟨rfl, M3, hg3, hgp3, hT3, hO3, hl3⟩; go_loud (
        have hwa := want_any w3 base M3 s3 hg3 ⟨#[101, 108, 115, 101]⟩;
        have hgp3' : M3.gp = M.gp := hgp3.trans HGQ2.out;
        rw [show str ⟨#[101, 108, 115, 101]⟩ = c_else from rfl, hgp3', ← HS4.out] at hwa;
        have HWA := Lib.hid hwa;
        have HGP3 := Lib.hid hgp3;
        have HGQ3 := Lib.hid hgp3';
        have HT3 := Lib.hid hT3;
        have HO3 := Lib.hid hO3;
        have HL3 := Lib.hid (hl3 HL2.out);
        clear hwa hg3 hgp3 hgp3' hT3 hO3 hl3))
    | (go_at_call 45; (with_reducible refine (HWA.out).mono ?_); rintro e w4 ⟨rfl, l4, hg4, hT4⟩; go_loud (
        obtain ⟨M4, hM4⟩ : ∃ M4 : GM, M4 = { M3 with left := l4 } := ⟨_, rfl⟩;
        rw [← hM4] at hg4;
        have hgp4 : M4.gp = M.gp := (by rw [hM4]; exact HGQ3.out);
        have hl4 : Live M4 := (by rw [hM4]; exact HL3.out);
        have hbm := block_any w4 base M4 s4 hg4 f id HI4.out hl4 HF4.out HST.out HM4.out;
        rw [hgp4] at hbm;
        have HBM := Lib.hid hbm;
        have HMM4 := Lib.hid hM4;
        have HGP4 := Lib.hid hgp4;
        have HL4 := Lib.hid hl4;
        have HT4 := Lib.hid hT4;
        clear hbm hM4 hgp4 hl4 hg4 hT4))
    | (go_at_call 99; (with_reducible refine (HBM.out).mono ?_); rintro e w5 ⟨rfl, hw5⟩; go_loud (
        have HW5 := Lib.hid hw5;
        clear hw5)))
  go_end0
  refine ⟨rfl, ?_⟩
  have k4 := GStep.trans (M := M3) (M1 := M4) (by rw [HMM4.out]) (HT4.out.more fun j e => .inl e) (fun j h => by rw [HMM4.out] at h; exact .inl h) (fun _ => HL4.out) HW5.out
  have k3 := GStep.trans HGP3.out HT3.out HO3.out (fun _ => HL3.out) k4
  have k2 := GStep.trans HGP2.out HT2.out HO2.out (fun _ => HL2.out) k3
  exact GStep.trans HGP1.out HT1.out HO1.out (fun _ => HL1.out) k2
set_option maxHeartbeats 8000000 in
theorem st_if (w : World) (base : Nat) (M : GM) (s : PS) (h : GR w base M s) (f u : Nat) (q0 : isS c_let s = false) (q1 : isS c_if s = true) (hu0 : 0 < u) (hu : u ≤ s.nodes.length) (hl : Live M) (hf : s.left.length < f + 2) (hst : StC (f + 1) base) :
    Calls Tryz.prog 85 #[.pointer (some ⟨M.gp, 0, none⟩), .int .u64 (u : Int)] w fun e w' => e = .returned (.tuple #[]) ∧ GStep w base M (choiceS f u (nextS s)) w' := by
  have t0 := take_no w base M s h ⟨#[108, 101, 116]⟩ q0
  have T0 := Lib.hid t0
  have t1 := take_yes w base M s h ⟨#[105, 102]⟩ q1
  have T1 := Lib.hid t1
  clear t0 t1
  have hnx := nx_is q1
  have hsum := h.sum
  obtain ⟨s1, hs1⟩ : ∃ s1, s1 = nextS s := ⟨_, rfl⟩
  rw [← hs1] at T1 hnx ⊢
  have HNX := Lib.hid hnx
  have HSUM := Lib.hid hsum
  have HU := Lib.hid hu
  have HF := Lib.hid hf
  have HST := Lib.hid hst
  have HL := Lib.hid hl
  clear h hnx hsum hu hu0 hl hs1 q0 q1 hf hst
  go_enter Tryz.func85, Tryz.ntmps85
  go_wp2_with (first
    | (go_at_call 65; (with_reducible refine (T0.out).mono ?_); rintro e w1 ⟨rfl, rfl⟩)
    | (go_at_call 65; (with_reducible refine (T1.out).mono ?_); rintro e w1 ⟨rfl, l1, hg1, hT1⟩; go_loud (
        have hch := choice_any w1 base _ s1 hg1 f u (by rw [HNX.out.nodes]; exact HU.out) HL.out (by have a1 := HNX.out.left; have a2 := HF.out; omega) HST.out (by have a1 := HNX.out.left; have a2 := HSUM.out; rw [HNX.out.nodes, HNX.out.cnt]; omega);
        dsimp only at hch;
        have HCH := Lib.hid hch;
        have HT1 := Lib.hid hT1;
        clear hch hg1 hT1))
    | (go_at_call 98; (with_reducible refine (HCH.out).mono ?_); rintro e w2 ⟨rfl, hw2⟩; go_loud (have HW2 := Lib.hid hw2; clear hw2)))
  go_end0
  refine ⟨rfl, ?_⟩
  exact GStep.trans (M := M) rfl (HT1.out.more fun j e => .inl e) (fun j h => .inl h) (fun h => h) HW2.out
set_option maxHeartbeats 8000000 in
theorem st_while (w : World) (base : Nat) (M : GM) (s : PS) (h : GR w base M s) (f u : Nat) (q0 : isS c_let s = false) (q1 : isS c_if s = false) (q2 : isS c_while s = true) (hu0 : 0 < u) (hu : u ≤ s.nodes.length) (hl : Live M) (hf : s.left.length < f + 2) (hst : StC (f + 1) base) :
    Calls Tryz.prog 85 #[.pointer (some ⟨M.gp, 0, none⟩), .int .u64 (u : Int)] w fun e w' => e = .returned (.tuple #[]) ∧ GStep w base M (whileS f u (nextS s)) w' := by
  have t0 := take_no w base M s h ⟨#[108, 101, 116]⟩ q0
  have T0 := Lib.hid t0
  have t1 := take_no w base M s h ⟨#[105, 102]⟩ q1
  have T1 := Lib.hid t1
  have t2 := take_yes w base M s h ⟨#[119, 104, 105, 108, 101]⟩ q2
  have T2 := Lib.hid t2
  clear t0 t1 t2
  have hnx := nx_is q2
  have hsum := h.sum
  obtain ⟨s1, hs1⟩ : ∃ s1, s1 = nextS s := ⟨_, rfl⟩
  rw [← hs1] at T2 hnx ⊢
  have hn1 := hnx.left
  have hf1 : s1.left.length < f + 1 := by omega
  have hu1 : u ≤ s1.nodes.length := by rw [hnx.nodes]; exact hu
  have hsum1 : s1.left.length * 16 + (s1.nodes.length + 1) + s1.cnt + 2 ≤ 10000000 := by rw [hnx.nodes, hnx.cnt]; omega
  unfold whileS
  have hgf := grow_facts u (nd0 9) s1
  obtain ⟨id, hid⟩ : ∃ id, id = growId s1 := ⟨_, rfl⟩
  rw [← hid]
  obtain ⟨s2, hs2⟩ : ∃ s2, s2 = growS u (nd0 9) s1 := ⟨_, rfl⟩
  rw [← hs2] at hgf ⊢
  obtain ⟨e1, e2, e3, e4⟩ := hgf
  have hid0 : 0 < id := by rw [hid]; exact Nat.succ_pos _
  have hid2 : id ≤ s2.nodes.length := by rw [e2, hid]; exact Nat.le_refl _
  have o3 := (ok_exprT id s2).up
  obtain ⟨s3, hs3⟩ : ∃ s3, s3 = exprT id s2 := ⟨_, rfl⟩
  rw [← hs3] at o3 ⊢
  have f3 : s3.left.length < f + 1 := by have := o3.left; rw [e1] at this; omega
  have i3 : id ≤ s3.nodes.length := Nat.le_trans hid2 o3.nodes
  have m3 : s3.left.length * 16 + s3.nodes.length + s3.cnt + 2 ≤ 10000000 := by have := o3.sum; rw [e1, e2, e3] at this; omega
  have HU := Lib.hid hu1
  have HSUM1 := Lib.hid hsum1
  have HST := Lib.hid hst
  have HL := Lib.hid hl
  have HID := Lib.hid hid
  have HS2 := Lib.hid hs2
  have HS3 := Lib.hid hs3
  have HI0 := Lib.hid hid0
  have HI2 := Lib.hid hid2
  have HF3 := Lib.hid f3
  have HI3 := Lib.hid i3
  have HM3 := Lib.hid m3
  clear h hnx hsum hu hu0 hl hs1 q0 q1 q2 hf hst hn1 hf1 hu1 hsum1 hid hs2 e1 e2 e3 e4 hid0 hid2 o3 hs3 f3 i3 m3
  go_enter Tryz.func85, Tryz.ntmps85
  go_wp2_with (first
    | (go_at_call 65; (with_reducible refine (T0.out).mono ?_); rintro e w1 ⟨rfl, rfl⟩)
    | (go_at_call 65; (with_reducible refine (T1.out).mono ?_); rintro e w1 ⟨rfl, rfl⟩)
    | (go_at_call 65; (with_reducible refine (T2.out).mono ?_); rintro e w1 ⟨rfl, l1, hg1, hT1⟩; go_loud (
        have hgr := grow_any w1 base _ s1 hg1 u (nd0 9) HU.out (okNd 9 (by omega)) rfl (by have := HSUM1.out; omega);
        unfold ndV nd0 at hgr;
        dsimp only at hgr;
        rw [← HID.out, show ((9 : Nat) : Int) = 9 from rfl, show ((0 : Nat) : Int) = 0 from rfl] at hgr;
        have HGR := Lib.hid hgr;
        have HT1 := Lib.hid hT1;
        clear hgr hg1 hT1))
    | (go_at_call 30; (with_reducible refine (HGR.out).mono ?_); rintro e w2 ⟨rfl, M2, hg2, hgp2, hT2, hO2, hl2⟩; go_loud (
        have hg2' : GR w2 base M2 s2 := (by rw [HS2.out]; exact hg2);
        have hex := expr_any w2 base M2 s2 hg2' id HI0.out HI2.out (hl2 HL.out);
        dsimp only at hgp2;
        rw [hgp2, ← HS3.out] at hex;
        have HEX := Lib.hid hex;
        have HGP2 := Lib.hid hgp2;
        have HT2 := Lib.hid hT2;
        have HO2 := Lib.hid hO2;
        have HL2 := Lib.hid (hl2 HL.out);
        clear hex hg2 hg2' hgp2 hT2 hO2 hl2))
    | (go_at_call 86; (with_reducible refine (HEX.out).mono ?_); rintro e w3 ⟨rfl, M3, hg3, hgp3, hT3, hO3, hl3⟩; go_loud (
        have hbl := block_any w3 base M3 s3 hg3 f id HI3.out (hl3 HL2.out) HF3.out HST.out HM3.out;
        have hgp3' : M3.gp = M.gp := hgp3.trans HGP2.out;
        rw [hgp3'] at hbl;
        have HBL := Lib.hid hbl;
        have HGP3 := Lib.hid hgp3;
        have HT3 := Lib.hid hT3;
        have HO3 := Lib.hid hO3;
        have HL3 := Lib.hid (hl3 HL2.out);
        clear hbl hg3 hgp3 hgp3' hT3 hO3 hl3))
    | (go_at_call 99; (with_reducible refine (HBL.out).mono ?_); rintro e w4 ⟨rfl, hw4⟩; go_loud (
        have HW4 := Lib.hid hw4;
        clear hw4)))
  go_end0
  refine ⟨rfl, ?_⟩
  have k3 := GStep.trans HGP3.out HT3.out HO3.out (fun _ => HL3.out) HW4.out
  have k2 := GStep.trans HGP2.out HT2.out HO2.out (fun _ => HL2.out) k3
  exact GStep.trans (M := M) rfl (HT1.out.more fun j e => .inl e) (fun j h => .inl h) (fun h => h) k2
theorem stmtS_eq (f b : Nat) (s : PS) : stmtS (f + 1) b s = (if isS c_let s then letS b (nextS s)
    else if isS c_if s then blockS (stmtS f) (growId (nextS s)) (wantS c_else (blockS (stmtS f) (growId (nextS s)) (exprT (growId (nextS s)) (growS b (nd0 8) (nextS s)))))
    else if isS c_while s then blockS (stmtS f) (growId (nextS s)) (exprT (growId (nextS s)) (growS b (nd0 9) (nextS s)))
    else if isS c_print s then endS (growId (nextS s)) (growS b (nd0 11) (nextS s))
    else if isS c_do s then wantS c_semi (callS (exprS ((nameS (growS b (nd0 12) (nextS s))).left.length + 1)) (growId (nextS s)) (nameT (growS b (nd0 12) (nextS s))) (nameS (growS b (nd0 12) (nextS s))))
    else endS (growId (wantS c_eq (varS (nameT s) (nameS s)))) (growS b { nd0 7 with ref := (nameS s).vis (nameT s) } (wantS c_eq (varS (nameT s) (nameS s))))) := rfl
theorem st_one (base : Nat) : StC 1 base := by
  intro w M s u h hf hu0 hu hl hs
  have h0 : s.left = [] := List.eq_nil_of_length_eq_zero (by omega)
  rw [stmtS_eq, is_nil h0, is_nil h0, is_nil h0, is_nil h0, is_nil h0, if_neg (by decide), if_neg (by decide), if_neg (by decide), if_neg (by decide), if_neg (by decide)]
  exact st_assign w base M s h u (is_nil h0) (is_nil h0) (is_nil h0) (is_nil h0) (is_nil h0) hu0 hu hl hs
theorem st_more (f base : Nat) (hst : StC (f + 1) base) : StC (f + 2) base := by
  intro w M s u h hf hu0 hu hl hs
  rw [stmtS_eq]
  cases q0 : isS c_let s with
  | true => rw [if_pos rfl]; exact st_let w base M s h u q0 hu0 hu hl
  | false =>
    rw [if_neg (by decide)]
    cases q1 : isS c_if s with
    | true => rw [if_pos rfl]; exact st_if w base M s h f u q0 q1 hu0 hu hl hf hst
    | false =>
      rw [if_neg (by decide)]
      cases q2 : isS c_while s with
      | true => rw [if_pos rfl]; exact st_while w base M s h f u q0 q1 q2 hu0 hu hl hf hst
      | false =>
        rw [if_neg (by decide)]
        cases q3 : isS c_print s with
        | true => rw [if_pos rfl]; exact st_print w base M s h u q0 q1 q2 q3 hu0 hu hl
        | false =>
          rw [if_neg (by decide)]
          cases q4 : isS c_do s with
          | true => rw [if_pos rfl]; exact st_do w base M s h u q0 q1 q2 q3 q4 hu0 hu hl
          | false => rw [if_neg (by decide)]; exact st_assign w base M s h u q0 q1 q2 q3 q4 hu0 hu hl hs
/-- WHAT A STATEMENT DOES, AT ANY FUEL. -/
theorem st_all (base : Nat) : ∀ f, StC f base
  | 0 => fun w M s u h hf => absurd hf (by omega)
  | 1 => st_one base
  | f + 2 => st_more f base (st_all base (f + 1))
end Go.Proofs.YtecbaceinifjiaaGreatDoor
