/- The law ReelReads, walked. -/
import Derived.Test.YtalpippeelomjaaZ43
import Derived.Test.YtalpippeelomjaaReelRotsWalk
import Derived.Deep.CutBlock
namespace Go.Proofs.Ytalpippeelomjaa
open Go.RowKit Go.Shelf
set_option linter.unusedSimpArgs false
set_option linter.unusedVariables false
/-- A row of the reference's pages, as memory has it. -/
def Pages6 (w : World) (v : Value) (n : Nat) : Prop :=
  ∃ A c, v = .slice A n c ∧ n ≤ maxLen ∧ ∀ j, j < n → ∃ (ad p : Addr) (g s u k : Nat) (Ad : Option Addr) (nd cd : Nat) (d : List Nat), A = some ad ∧ p = ad.add (j * 5) ∧ p.block < w.heap.size ∧
    w.cell? p = some (.int .u32 (g : Int)) ∧ w.cell? ⟨p.block, p.off + 1, none⟩ = some (.int .u32 (s : Int)) ∧ w.cell? ⟨p.block, p.off + 2, none⟩ = some (.int .u32 (u : Int)) ∧ w.cell? ⟨p.block, p.off + 3, none⟩ = some (.int .u8 (k : Int)) ∧ w.cell? ⟨p.block, p.off + 4, none⟩ = some (.slice Ad nd cd) ∧
    g < 4294967296 ∧ s < 4294967296 ∧ u < 4294967296 ∧ k < 256 ∧ Bytes w w.heap.size (.slice Ad nd cd) d
theorem box6_facts {x : World} {g : Nat} {v0 v1 v2 v3 v4 : Value} (h : x.heap[g]? = some (.cells #[v0, v1, v2, v3, v4] 56 (0, 0))) :
    x.cell? ⟨g, 0, none⟩ = some v0 ∧ x.cell? ⟨g, 1, none⟩ = some v1 ∧ x.cell? ⟨g, 2, none⟩ = some v2 ∧ x.cell? ⟨g, 3, none⟩ = some v3 ∧ x.cell? ⟨g, 4, none⟩ = some v4 ∧
    x.frozen? ⟨g, 0, none⟩ = false ∧ x.frozen? ⟨g, 1, none⟩ = false ∧ x.frozen? ⟨g, 2, none⟩ = false ∧ x.frozen? ⟨g, 3, none⟩ = false ∧ x.frozen? ⟨g, 4, none⟩ = false := by
  refine ⟨?_, ?_, ?_, ?_, ?_, frozen_of_row x g _ _ _ h, frozen_of_row x g _ _ _ h, frozen_of_row x g _ _ _ h, frozen_of_row x g _ _ _ h, frozen_of_row x g _ _ _ h⟩
  all_goals (rw [cell_of_row x g _ _ _ _ h]; rfl)
def orOne (x : Nat) : Nat := if x = 0 then 1 else x
theorem run_orOne (x : Nat) (w : World) : (Builtin.max_ #[5, 5] 5 #[.int .u8 (x : Int), .int .u8 1]).run Try.prog w = .ok (.int .u8 ((orOne x : Nat) : Int)) w := by
  by_cases h : x = 0
  · subst h
    show _ = Result.ok (Value.int .u8 1) w
    go_simp
  · have e : orOne x = x := if_neg h
    rw [e]
    have h1 : ¬ (x : Int) < 1 := by omega
    have h2 : ¬ (1 : Int) > (x : Int) := by omega
    go_simp
theorem orOne_pos (x : Nat) : 0 < orOne x := by unfold orOne; split <;> omega
theorem orOne_small {x : Nat} (h : x < 256) : orOne x < 256 := by unfold orOne; split <;> omega
/-- A page of the reference's in its box, fit to be written. -/
def Box6 (w : World) (gq : Nat) (wx : World) : Prop :=
  ∃ (g s u k : Nat) (A : Option Addr) (n c : Nat) (D : List Nat), wx.heap[gq]? = some (.cells #[.int .u32 (g : Int), .int .u32 (s : Int), .int .u32 (u : Int), .int .u8 (k : Int), .slice A n c] 56 (0, 0)) ∧
    g < 4294967296 ∧ s < 4294967296 ∧ u < 4294967296 ∧ 0 < k ∧ k < 256 ∧ Mine wx (gq + 1) A n c D ∧ n ≤ 491 ∧ Below w.heap.size w wx
theorem box6_end {w w3 : World} {g n c x0 x1 x2 k base : Nat} {A : Option Addr} {D : List Nat} {u3 u4 : Value} (hg : w3.heap[g]? = some (.cells #[.int .u32 (x0 : Int), .int .u32 (x1 : Int), .int .u32 (x2 : Int), u3, u4] 56 (0, 0))) (hM : Mine w3 base A n c D) (hlt : g < base) (hb : Below w.heap.size w w3) (hgw : w.heap.size ≤ g)
    (h0 : x0 < 4294967296) (h1 : x1 < 4294967296) (h2 : x2 < 4294967296) (hk : 0 < k ∧ k < 256) (hD : D.length ≤ 491) : Box6 w g ((w3.setCell ⟨g, 3, none⟩ (.int .u8 (k : Int))).setCell ⟨g, 4, none⟩ (.slice A n c)) := by
  refine ⟨x0, x1, x2, k, A, n, c, D, ?_, h0, h1, h2, hk.1, hk.2, mine_other _ (mine_other _ (hM.lower hlt) (Nat.lt_succ_self _)) (Nat.lt_succ_self _), by rw [hM.len]; exact hD, (hb.setCell (p := ⟨g, 3, none⟩) hgw _).setCell (p := ⟨g, 4, none⟩) hgw _⟩
  rw [heap_setCell_same _ g 4 _ _ _ (heap_setCell_same _ g 3 _ _ _ hg)]
  rfl
theorem box6_sets {w w3 : World} {g n c x0 x1 x2 x3 y0 y2 y3 : Nat} {A : Option Addr} {D : List Nat} (hg : w3.heap[g]? = some (.cells #[.int .u32 (x0 : Int), .int .u32 (x1 : Int), .int .u32 (x2 : Int), .int .u8 (x3 : Int), .slice A n c] 56 (0, 0))) (hM : Mine w3 (g + 1) A n c D) (hb : Below w.heap.size w w3) (hgw : w.heap.size ≤ g)
    (h0 : y0 < 4294967296) (h1 : x1 < 4294967296) (h2 : y2 < 4294967296) (hk : 0 < y3 ∧ y3 < 256) (hn : n ≤ 491) : Box6 w g (((w3.setCell ⟨g, 0, none⟩ (.int .u32 (y0 : Int))).setCell ⟨g, 3, none⟩ (.int .u8 (y3 : Int))).setCell ⟨g, 2, none⟩ (.int .u32 (y2 : Int))) := by
  refine ⟨y0, x1, y2, y3, A, n, c, D, ?_, h0, h1, h2, hk.1, hk.2, mine_other _ (mine_other _ (mine_other _ hM (Nat.lt_succ_self _)) (Nat.lt_succ_self _)) (Nat.lt_succ_self _), hn, ((hb.setCell (p := ⟨g, 0, none⟩) hgw _).setCell (p := ⟨g, 3, none⟩) hgw _).setCell (p := ⟨g, 2, none⟩) hgw _⟩
  rw [heap_setCell_same _ g 2 _ _ _ (heap_setCell_same _ g 3 _ _ _ (heap_setCell_same _ g 0 _ _ _ hg))]
  rfl
theorem mine_set {w : World} {base n c g i b : Nat} {l : List Nat} (h : Mine w base (some ⟨g, 0, none⟩) n c l) (hb : b < 256) : Mine (w.setCell ⟨g, i, none⟩ (.int .u8 (b : Int))) base (some ⟨g, 0, none⟩) n c (l.set i b) := by
  refine ⟨?_, by rw [List.length_set]; exact h.len, ?_⟩
  · have h1 := (h.own.stored i (.int .u8 (b : Int))).1
    have e : byt (l.set i b) = (byt l).set i (.int .u8 (b : Int)) := by unfold byt; rw [List.map_set]
    rw [e]
    exact h1
  · intro d hd
    rcases List.mem_or_eq_of_mem_set hd with h2 | h2
    · exact h.small d h2
    · rw [h2]; exact hb
theorem openF_lt {gen : Nat} : ∀ {l : List (List Nat)} {o : OS} {k j : Nat}, openF gen o l k = .inr j → j < k + l.length
  | [], o, k, j, h => by rw [openF_nil] at h; cases h
  | s :: l, o, k, j, h => by
    cases hb : o.bad s
    · rw [openF_step hb] at h
      have := openF_lt h
      rw [List.length_cons]
      omega
    · rw [openF_bad hb] at h
      injection h with h
      rw [List.length_cons]
      omega
def ReadsI (w : World) (base gs N gen h s0 m : Nat) (i : Value) (wr : World) : Prop :=
  ∃ (k : Nat) (pend : List (Nat × List Nat)) (b : DB), k ≤ m ∧ i = .int .i64 (k : Int) ∧ Disk wr gs b (List.replicate N noughts) pend (k : Int) (-1) ∧ pend.length = k ∧ base ≤ b.gd ∧ base ≤ b.gl ∧ (∀ g, b.pv.ownBlock = some g → base ≤ g) ∧ crownBox wr w.heap.size gen h s0 ∧ Below w.heap.size w wr ∧ base ≤ wr.heap.size
set_option maxRecDepth 100000 in
set_option maxHeartbeats 16000000 in
theorem reelReads_walk (gen h0 s0 : Nat) (P R U : Value) (n : Nat) (us rs : List Nat) (w : World) (hg : gen < 4294967296) (hh0 : h0 < 256) (hs0 : s0 < 4294967296) (hp : Pages6 w P n) (hu : Bytes w w.heap.size U us) (hr : Bytes w w.heap.size R rs) :
    Calls Try.prog 4 #[P, .agg #[.int .u32 (gen : Int), .int .u8 (h0 : Int), .int .u32 (s0 : Int)], U, R] w fun e w' => e = .returned (.bool true) ∧ Below w.heap.size w w' := by
  obtain ⟨h, hh⟩ : ∃ h, h = h0 % 2 := ⟨_, rfl⟩
  have e1 : (h0 : Int) % 2 = (h : Int) := by omega
  have e1' : (h0 : Int).tmod 2 = (h : Int) := by rw [Int.tmod_eq_emod_of_nonneg (by omega)]; exact e1
  have hh1 : h ≤ 1 := by omega
  obtain ⟨A, c, rfl, hnl, hpg⟩ := hp
  unfold maxLen at hnl
  obtain ⟨Au, cu, rfl, _⟩ := hu.form
  obtain ⟨_, _, hul⟩ := id hu
  unfold maxLen at hul
  obtain ⟨nu, hnu⟩ : ∃ x, x = us.length := ⟨_, rfl⟩
  rw [← hnu] at hul hu ⊢
  have HPG := Lib.hid hpg
  have HU := Lib.hid hu
  have HR := Lib.hid hr
  have HNU := Lib.hid hnu
  obtain ⟨m, hm⟩ : ∃ m, m = min n 8 := ⟨_, rfl⟩
  have hmi : min (n : Int) 8 = (m : Int) := by omega
  have hm8 : m ≤ 8 := by omega
  have hmn : m ≤ n := by omega
  obtain ⟨N, hN⟩ : ∃ N, N = 2 + 2 * (m + 1) := ⟨_, rfl⟩
  have hNi : (2 : Int) + 2 * ((m : Int) + 1) = (N : Int) := by omega
  have hN20 : 4 ≤ N ∧ N ≤ 20 := by omega
  have HNE : Hid (∀ (y : World) (z : Int), z = (N : Int) → Calls Try.prog 11 #[.int .i64 z] y fun e w' => ∃ gs b, e = .returned (.tuple #[.pointer (some ⟨gs, 0, none⟩), .int .i64 0]) ∧ Disk w' gs b (List.replicate N noughts) [] 0 (-1) ∧ y.heap.size ≤ gs ∧ y.heap.size ≤ b.gd ∧ y.heap.size ≤ b.gl ∧ b.pv = .slice none 0 0 ∧ Below y.heap.size y w') := Lib.hid fun y z hz => by rw [hz]; exact new_good y N (by omega) (by omega)
  have HF : Hid (∀ x, Calls Try.prog 27 #[.agg #[.int .u32 (gen : Int), .int .u8 (h : Int), .int .u32 (s0 : Int)], .int .i64 (N : Int)] x _) := Lib.hid fun x => from_any x (gen : Int) (s0 : Int) h N (by omega)
  have HNN := Lib.hid hN
  have hcs : (m = n ∧ n ≤ 8) ∨ (m = 8 ∧ 8 < n) := by omega
  clear hh hpg hu hr hnu hm hN hmi
  obtain ⟨M, hM⟩ : ∃ M, M = m := ⟨_, rfl⟩
  rcases hcs with ⟨rfl, hn8⟩ | ⟨rfl, hn8⟩
  · clear hM
    go_enter Try.func4, Try.ntmps4
    go_wp2_with (first
      | (go_at_call 10; (with_reducible refine (awake_true _).mono ?_); rintro e w1 ⟨rfl, hw1⟩; go_loud (
          have hb1 : w1.heap[w.heap.size]? = some (.cells #[.int .u32 (gen : Int), .int .u8 (h0 : Int), .int .u32 (s0 : Int)] 24 (0, 0)) := (hw1.block w.heap.size (by simp)).trans (Go.heap_alloc_new w _);
          have q1 : w1.cell? ⟨w.heap.size, 1, none⟩ = some (.int .u8 (h0 : Int)) := (by unfold World.cell?; rw [hb1]; rfl);
          have f1 : w1.frozen? ⟨w.heap.size, 1, none⟩ = false := frozen_of_row w1 _ _ _ _ hb1;
          have HB1 := Lib.hid hb1;
          have HW1 : Hid (Below w.heap.size w w1 ∧ w.heap.size < w1.heap.size) := Lib.hid ⟨((Below.refl w.heap.size w).alloc (Nat.le_refl _) _).trans (hw1.mono (by simp)), (by have := hw1.size; simp at this; omega)⟩;
          clear hb1 hw1))
      | (go_at_call 11; (with_reducible refine (HNE.out _ _ (by omega)).mono ?_); rintro e w2 ⟨gs, bb, rfl, hD2, hgs, hgd, hgl, hpv, hw2⟩; go_loud (
          have hsz : (w1.setCell ⟨w.heap.size, 1, none⟩ (.int .u8 (h : Int))).heap.size = w1.heap.size := (by simp [World.setCell]);
          rw [hsz] at hgs hgd hgl hw2;
          have hbx : crownBox w2 w.heap.size gen h s0 := (hw2.block w.heap.size HW1.out.2).trans (by rw [heap_setCell_same _ _ _ _ _ _ HB1.out]; rfl);
          have hbw : Below w.heap.size w w2 := (HW1.out.1.setCell (p := ⟨w.heap.size, 1, none⟩) (Nat.le_refl _) (.int .u8 (h : Int))).trans (hw2.mono (by have := HW1.out.2; omega));
          obtain ⟨u0, u1, u2⟩ := hbx.cells;
          have hs2 := hw2.size;
          rw [hsz] at hs2;
          have HD2 := Lib.hid hD2;
          have HBX := Lib.hid hbx;
          have HBW := Lib.hid hbw;
          have HS2 : Hid (w1.heap.size ≤ w2.heap.size ∧ w.heap.size < w1.heap.size ∧ w1.heap.size ≤ gs ∧ w1.heap.size ≤ bb.gd ∧ w1.heap.size ≤ bb.gl ∧ bb.pv = .slice none 0 0) := Lib.hid ⟨hs2, HW1.out.2, hgs, hgd, hgl, hpv⟩;
          clear hD2 hgs hgd hgl hpv hw2 hsz hbx hbw hs2 q1 f1)))
    have HC : Hid (∀ x, Below w2.heap.size w2 x → x.cell? ⟨w.heap.size, 0, none⟩ = some (.int .u32 (gen : Int)) ∧ x.cell? ⟨w.heap.size, 1, none⟩ = some (.int .u8 (h : Int)) ∧ x.cell? ⟨w.heap.size, 2, none⟩ = some (.int .u32 (s0 : Int))) := Lib.hid fun x hx => by
      have h3 := (hx.block w.heap.size (lt_of_heap HBX.out)).trans HBX.out
      exact ⟨by unfold World.cell?; rw [h3]; rfl, by unfold World.cell?; rw [h3]; rfl, by unfold World.cell?; rw [h3]; rfl⟩
    have HSE : Hid (∀ x, Below w2.heap.size w2 x → Calls Try.prog 28 #[.pointer (some ⟨gs, 0, none⟩)] x fun e w' => e = .returned (.int .i64 (N : Int)) ∧ x = w') := Lib.hid fun x hx => by
      have h4 := sectors_any (HD2.out.below hx)
      rw [List.length_replicate] at h4
      exact h4
    go_region_held3 (fun x => Below w2.heap.size w2 x ∧ x.cell? ⟨w.heap.size, 0, none⟩ = some (.int .u32 (gen : Int)) ∧ x.cell? ⟨w.heap.size, 1, none⟩ = some (.int .u8 (h : Int)) ∧ x.cell? ⟨w.heap.size, 2, none⟩ = some (.int .u32 (s0 : Int)))
      ((refine (fun h => ⟨h, HC.out _ h⟩) ?_; repeat (with_reducible (first | exact Below.refl _ _ | assumption | refine ride_alloc ?_ _ | refine ride_drew ?_ | refine below_drewN ?_ _ | refine ride_call (by assumption) ?_))))
      (first
        | (go_at_call 28; (with_reducible refine (HSE.out _ (by repeat (with_reducible (first | exact Below.refl _ _ | assumption | refine ride_alloc ?_ _ | refine ride_drew ?_ | refine below_drewN ?_ _ | refine ride_call (by assumption) ?_)))).mono ?_); rintro e w3 ⟨rfl, rfl⟩)
        | (go_at_call 27; (with_reducible refine (HF.out _).mono ?_); rintro e w4 ⟨rfl, hb4⟩))
    rename_i hHeld
    have HH := Lib.hid hHeld
    clear hHeld
    go_wp2
    have HBW4 : Hid (Below w.heap.size w w4) := Lib.hid (HBW.out.trans (HH.out.1.mono HBW.out.size))
    go_loopw [48] (fun i wr => ReadsI w w1.heap.size gs N gen h s0 m i wr) (fun i _ => m - (intOf i).toNat)
    case atStart =>
      obtain ⟨z1, z2, z3, z4, z5, z6⟩ := HS2.out
      exact ⟨0, [], bb, Nat.zero_le _, rfl, HD2.out.below HH.out.1, rfl, z4, z5, (fun g e => by rw [z6] at e; cases e), (HH.out.1.block w.heap.size (lt_of_heap HBX.out)).trans HBX.out, HBW4.out, Nat.le_trans z1 HH.out.1.size⟩
    case round =>
      obtain ⟨k, pend, bk, hk, rfl, hD, hpl, hgd, hgl, hpv, hbx, hb, hbs⟩ := hrel
      have HD := Lib.hid hD
      have HBb := Lib.hid hb
      have HBXr := Lib.hid hbx
      have HPV : Hid (w1.heap.size ≤ bk.gd ∧ w1.heap.size ≤ bk.gl ∧ ∀ g, bk.pv.ownBlock = some g → w1.heap.size ≤ g) := Lib.hid ⟨hgd, hgl, hpv⟩
      by_cases hlt : k < m
      · have hlti : (k : Int) < (m : Int) := by omega
        obtain ⟨ad, pa, g, s, u, kk, Ad, nd, cd, d, rfl, hpa, hbb, c0, c1, c2, c3, c4, b0, b1, b2, b3, hdB⟩ := HPG.out k (by omega)
        have lay : ∀ q v, q.block = pa.block → w.cell? q = some v → wr.cell? q = some v := fun q v e h => (hb.cell (p := q) (by rw [e]; exact hbb)).trans h
        have l0 := lay _ _ rfl c0
        have l1 := lay ⟨pa.block, pa.off + 1, none⟩ _ rfl c1
        have l2 := lay ⟨pa.block, pa.off + 2, none⟩ _ rfl c2
        have l3 := lay ⟨pa.block, pa.off + 3, none⟩ _ rfl c3
        have l4 := lay ⟨pa.block, pa.off + 4, none⟩ _ rfl c4
        rw [hpa] at l0 l1 l2 l3 l4
        have HDB : Hid (Bytes wr wr.heap.size (.slice Ad nd cd) d) := Lib.hid (hdB.along hb)
        clear hD hb hbx hgd hgl hpv c0 c1 c2 c3 c4 hdB lay hpa
        go_upto_region 11 with fail
        obtain ⟨D, hD'⟩ : ∃ D, D = d.take 491 := ⟨_, rfl⟩
        have hDl : D.length ≤ 491 := by rw [hD', List.length_take]; omega
        generalize hXE : wr.alloc (.cells #[.int .u32 (g : Int), .int .u32 (s : Int), .int .u32 (u : Int), .int .u8 (kk : Int), .slice Ad nd cd] 56) = X
        have hX : X.heap[wr.heap.size]? = some (.cells #[.int .u32 (g : Int), .int .u32 (s : Int), .int .u32 (u : Int), .int .u8 (kk : Int), .slice Ad nd cd] 56 (0, 0)) := hXE ▸ Go.heap_alloc_new wr _
        have hXb : Below wr.heap.size wr X := hXE ▸ (Below.refl _ _).alloc (Nat.le_refl _) _
        have hMX : Bytes X X.heap.size (.slice Ad nd cd) d := HDB.out.along hXb
        have lX := lt_of_heap hX
        obtain ⟨q0, q1, q2, q3, q4, r0, r1, r2, r3, r4⟩ := box6_facts hX
        have HC3 := hide (cut_mine X.drew (.slice Ad nd cd) d 491 491 rfl (hMX.quiet 1) (by omega))
        rw [← hD'] at HC3
        have hmax := run_orOne kk
        have HGX := Lib.hid hX
        have HXB := Lib.hid hXb
        clear hX hXb hMX hXE hD' l0 l1 l2 l3 l4
        go_cut [] (fun wx => Box6 wr wr.heap.size wx)
        case first =>
          go_region_law (first
            | (go_simp; go_at_call 29; (with_reducible refine (unhide HC3).mono ?_); rintro e w3 ⟨A3, n3, c3, rfl, hM3, hb3⟩;
               (have g3 := (hb3.block wr.heap.size lX).trans HGX.out;
                obtain ⟨u0, u1, u2, u3, u4, t0, t1, t2, t3, t4⟩ := box6_facts g3;
                have HG3 := Lib.hid g3; have HM3 := Lib.hid hM3; have HB3 := Lib.hid (HXB.out.trans ((below_on (Below.refl _ _).drew hb3).mono HXB.out.size));
                clear g3 hM3 hb3)))
          all_goals
            go_wp2_with fail
            go_meet
            exact box6_end HG3.out HM3.out lX HB3.out (Nat.le_refl _) b0 b1 b2 ⟨orOne_pos kk, orOne_small b3⟩ hDl
        case rest =>
        clear HC3 HGX HXB lX hDl q0 q1 q2 q3 q4 r0 r1 r2 r3 r4 hmax
        have HBO := Lib.hid hcut
        have hwc : Below wr.heap.size wr wc := by obtain ⟨_, _, _, _, _, _, _, _, _, _, _, _, _, _, _, _, h⟩ := hcut; exact h
        have HWC := Lib.hid hwc
        clear hcut hwc
        go_upto_if 66 with fail
        go_cut [16] (fun hv wx => (∃ q : Nat, q < 256 ∧ hv = .int .u8 (q : Int)) ∧ wx = wc)
        case first =>
          by_cases hku : k < nu
          · obtain ⟨⟨Ax, cx, hvx, hlx, _, _⟩, hsmx, _⟩ := (HU.out.along HBb.out).along HWC.out
            injection hvx with ex1 ex2 ex3
            subst ex1
            obtain ⟨q, hq⟩ : ∃ q, us[k]? = some q := ⟨_, List.getElem?_eq_getElem (by rw [← HNU.out]; exact hku)⟩
            have hq2 : q < 256 := hsmx q (List.mem_of_getElem? hq)
            obtain ⟨au, hau, _, hcu⟩ := hlx k (.int .u8 (q : Int)) (by unfold byt; rw [List.getElem?_map, hq]; rfl)
            subst hau
            clear hlx hsmx hq ex2
            go_wp2_with fail
            go_meet
            exact ⟨⟨q, hq2, rfl⟩, rfl⟩
          · have hku2 : ¬ (k : Int) < (nu : Int) := by omega
            go_wp2_with fail
            go_meet
            exact ⟨⟨0, by omega, rfl⟩, rfl⟩
        case rest =>
        obtain ⟨⟨q, hq, rfl⟩, rfl⟩ := hcut
        obtain ⟨r8, hr8⟩ : ∃ x, x = q % 8 := ⟨_, rfl⟩
        obtain ⟨r6, hr6⟩ : ∃ x, x = q % 16 := ⟨_, rfl⟩
        have e8 : (q : Int) % 8 = (r8 : Int) := by omega
        have e8' : (q : Int).tmod 8 = (r8 : Int) := by rw [Int.tmod_eq_emod_of_nonneg (by omega)]; exact e8
        have e6 : (q : Int) % 16 = (r6 : Int) := by omega
        have e6' : (q : Int).tmod 16 = (r6 : Int) := by rw [Int.tmod_eq_emod_of_nonneg (by omega)]; exact e6
        have HR6 := Lib.hid hr6
        clear hr8 hr6
        go_upto_if 73 with fail
        obtain ⟨x0, x1, x2, x3, Ab, nb, cb, D2, hgb, y0, y1, y2, y3, y4, hMb, hn491, hbwc⟩ := HBO.out
        obtain ⟨q0, q1, q2, q3, q4, t0, t1, t2, t3, t4⟩ := box6_facts hgb
        have hcg : wc.cell? ⟨w.heap.size, 0, none⟩ = some (.int .u32 (gen : Int)) := by
          have h1 := (HWC.out.block w.heap.size (by have := HS2.out.2.1; omega)).trans HBXr.out
          unfold World.cell?
          rw [h1]
          rfl
        have HGB := Lib.hid hgb
        have HMB := Lib.hid hMb
        have HBW' := Lib.hid hbwc
        clear hgb hMb hbwc
        go_cut [] (fun wx => Box6 wr wr.heap.size wx)
        case first =>
          by_cases h5 : r8 < 5
          · go_wp2_with fail
            go_meet
            exact box6_sets (y0 := gen) (y2 := k) (y3 := 1) HGB.out HMB.out HBW'.out (Nat.le_refl _) hg y1 (by omega) ⟨by omega, by omega⟩ hn491
          · go_wp2_with fail
            go_meet
            exact HBO.out
        case rest =>
        clear q0 q1 q2 q3 q4 t0 t1 t2 t3 t4 hcg HGB HMB HBW' HBO HWC y0 y1 y2 y3 y4 hn491
        obtain ⟨x0, x1, x2, x3, Ab, nb, cb, D2, hgb, y0, y1, y2, y3, y4, hMb, hn491, hbwc⟩ := hcut
        obtain ⟨q0, q1, q2, q3, q4, t0, t1, t2, t3, t4⟩ := box6_facts hgb
        have HPB := Lib.hid (refPage_any wc x0 x1 x2 x3 Ab nb cb D2 y0 y1 y2 y4 hMb.bytes hn491 hMb.len hMb.small)
        have hsec : IsSec (page x0 x1 x2 x3 D2) := page_sec (q := ⟨x0, x1, x2, x3, D2⟩) ⟨y0, y1, y2, y3, by show D2.length ≤ 491; rw [← hMb.len]; exact hn491⟩ y4 hMb.small
        obtain ⟨p0, hp0⟩ : ∃ l, l = page x0 x1 x2 x3 D2 := ⟨_, rfl⟩
        rw [← hp0] at HPB hsec
        have HSEC := Lib.hid hsec
        have HWC := Lib.hid hbwc
        clear hgb hMb hbwc hp0 hsec y0 y1 y2 y3 y4 hn491
        go_upto_block 2 with (first
          | (go_at_call 30; (with_reducible refine (HPB.out).mono ?_); rintro e w5 ⟨A5, n5, c5, rfl, hM5, hb5⟩))
        obtain rfl : n5 = 512 := by rw [hM5.len]; exact HSEC.out.1
        obtain ⟨g5, _, rfl, hg5, _, _, _, _⟩ := hM5.at_ (k := 0) (by omega)
        have hw5 : Below wr.heap.size wr w5 := HWC.out.trans (hb5.mono HWC.out.size)
        have HW5 := Lib.hid hw5
        have HWS : Hid (wr.heap.size ≤ wc.heap.size) := Lib.hid HWC.out.size
        have HM5 := Lib.hid hM5
        clear q0 q1 q2 q3 q4 t0 t1 t2 t3 t4 HPB HWC hb5 hw5 hM5
        have HFU := Lib.hid (full_any w5 R rs ((HR.out.along HBb.out).along HW5.out))
        go_cut [17] (fun pv wx => ∃ A c l, pv = .slice A 512 c ∧ Bytes wx wx.heap.size (.slice A 512 c) l ∧ IsSec l ∧ Below wr.heap.size wr wx)
        case first =>
          by_cases h13 : r6 = 13
          · subst h13
            have hq253 : q ≤ 253 := by have := HR6.out; omega
            obtain ⟨g6, b, hA, hg6, hbl, hb256, hcl, hfr⟩ := HM5.out.at_ (k := q) (by omega)
            obtain rfl : g5 = g6 := by injection hA with h1; injection h1
            have hx : bits .xor .u8 (b : Int) (1 + (q : Int)) = ((b ^^^ (1 + q) : Nat) : Int) := by
              have h := u8_xor_nat b (1 + q) hb256 (by omega)
              rw [← h]
              congr 1
            have hxl : b ^^^ (1 + q) < 256 := Nat.xor_lt_two_pow (n := 8) (by omega) (by omega)
            clear hA hbl e8 e8'
            go_wp2_with fail
            go_meet
            have hM := mine_set (i := q) HM5.out hxl
            exact ⟨_, _, _, rfl, hM.bytes, ⟨hM.len.symm, hM.small⟩, HW5.out.setCell (p := ⟨g5, q, none⟩) (Nat.le_trans (HWS.out) hg6) _⟩
          · by_cases h14 : r6 = 14
            · subst h14
              go_wp2_with (go_at_call 31; (with_reducible refine (HFU.out).mono ?_); rintro e w6 ⟨A6, n6, c6, rfl, hM6, hb6⟩; obtain rfl : n6 = 512 := (by rw [hM6.len]; exact full_length _))
              go_meet
              exact ⟨_, _, _, rfl, hM6.bytes, ⟨full_length _, hM6.small⟩, HW5.out.trans (hb6.mono HW5.out.size)⟩
            · by_cases h15 : r6 = 15
              · subst h15
                have hmk := run_make_512
                go_wp2_with fail
                go_meet
                exact ⟨_, _, _, rfl, made_bytes w5 512 (by omega), ⟨by simp, fun b hb => by rw [List.eq_of_mem_replicate hb]; omega⟩, HW5.out.alloc HW5.out.size _⟩
              · have n13 : ((r6 : Int) == 13) = false := by rw [beq_eq_false_iff_ne]; omega
                have n14 : ((r6 : Int) == 14) = false := by rw [beq_eq_false_iff_ne]; omega
                have n15 : ((r6 : Int) == 15) = false := by rw [beq_eq_false_iff_ne]; omega
                go_wp2_with fail
                go_meet
                exact ⟨_, _, _, rfl, HM5.out.bytes, HSEC.out, HW5.out⟩
        case rest =>
        obtain ⟨Aw, cw, lw, rfl, hBw, hSw, hbw⟩ := hcut
        have hFN : halfN N h + k < N := by
          have := HNN.out
          unfold halfN
          rw [if_neg (by omega)]
          rcases (show h = 0 ∨ h = 1 by omega) with e | e <;> subst e <;> simp <;> omega
        have hFk : ((halfN N h : Nat) : Int) + (k : Int) = ((halfN N h + k : Nat) : Int) := by omega
        have HWR : Hid (∀ i : Int, i = ((halfN N h + k : Nat) : Int) → Calls Try.prog 32 #[.pointer (some ⟨gs, 0, none⟩), .int .i64 i, .slice Aw 512 cw] wc fun e w' => e = .returned (.int .i64 0) ∧ ∃ b2 : DB, Disk w' gs b2 (List.replicate N noughts) (pend ++ [(halfN N h + k, lw)]) ((k : Int) + 1) (less (-1)) ∧ b2.gd = bk.gd ∧ b2.cd = bk.cd ∧ b2.gl = bk.gl ∧ b2.cl = bk.cl ∧ (b2.pv.ownBlock = bk.pv.ownBlock ∨ ∃ g, b2.pv.ownBlock = some g ∧ wc.heap.size ≤ g) ∧ OnlyAt wc w' (fun k => k = gs ∨ k = bk.gl ∨ some k = bk.pv.ownBlock)) := Lib.hid fun i hi => by
          rw [hi]
          exact write_good (HD.out.below hbw) (by decide) (by decide) (by omega) (by omega) _ (by rw [List.length_replicate]; exact hFN) Aw cw lw hBw hSw
        have HBw := Lib.hid hbw
        have HFk := Lib.hid hFk
        clear hBw hSw hbw hFk
        clear e8 e8' e6 e6'
        go_wp2_with (go_at_call 32; go_loud (with_reducible refine (HWR.out _ HFk.out).mono ?_); rintro e w9 ⟨rfl, b2, hD9, z1, z2, z3, z4, z5, hO9⟩; go_loud (
          have HD9 := Lib.hid hD9;
          have HZ := Lib.hid (show b2.gd = bk.gd ∧ b2.gl = bk.gl ∧ (b2.pv.ownBlock = bk.pv.ownBlock ∨ ∃ g, b2.pv.ownBlock = some g ∧ wc.heap.size ≤ g) from ⟨z1, z3, z5⟩);
          have HO9 := Lib.hid hO9;
          clear hD9 z1 z2 z3 z4 z5 hO9))
        go_roundw
        case rel =>
          obtain ⟨p1, p2, p3⟩ := HPV.out
          have hb9 : Below w1.heap.size wc w9 := HO9.out.below (fun j hj => by
            rcases hj with e | e | e
            · rw [e]; exact HS2.out.2.2.1
            · rw [e]; exact p2
            · exact p3 j e.symm) (Nat.le_trans hbs HBw.out.size)
          have hw1 := HS2.out.2.1
          have hbc : Below w.heap.size w wc := HBb.out.trans (HBw.out.mono HBb.out.size)
          refine ⟨k + 1, _, b2, by omega, by go_num, HD9.out, by rw [List.length_append, hpl]; rfl, by rw [HZ.out.1]; exact p1, by rw [HZ.out.2.1]; exact p2, fun g e => ?_, ?_, hbc.trans (hb9.mono (by omega)), Nat.le_trans (Nat.le_trans hbs HBw.out.size) hb9.size⟩
          · rcases HZ.out.2.2 with h1 | ⟨g', h1, h2⟩
            · rw [h1] at e; exact p3 g e
            · rw [h1] at e
              injection e with e
              subst e
              exact Nat.le_trans (Nat.le_trans hbs HBw.out.size) h2
          · exact (hb9.block w.heap.size hw1).trans ((HBw.out.block w.heap.size (by omega)).trans HBXr.out)
        case measure => simp [intOf]; omega
      · obtain rfl : k = m := by omega
        obtain ⟨DU, hDU⟩ : ∃ x, x = applied pend (List.replicate N noughts) := ⟨_, rfl⟩
        have hDUl : DU.length = N := by rw [hDU, applied_length, List.length_replicate]
        obtain ⟨X, hX⟩ : ∃ x, x = ((applied [] DU).drop (halfN N h)).take (halfK N h) := ⟨_, rfl⟩
        have hXl : X.length ≤ 20 := by
          rw [hX, List.length_take, List.length_drop, show applied [] DU = DU from rfl, hDUl]
          omega
        have HSY := Lib.hid (sync_good hD (by decide) (by decide))
        have HX := Lib.hid hX
        have HDU := Lib.hid hDU
        have htwo := openF_two gen X s0 0 [] true 0
        clear hD hbx hX hDU hb hgd hgl hpv
        rcases htwo with ⟨j, ho1, ho2⟩ | ⟨qs, lk, ho1, ho2⟩
        · have hj := openF_lt ho1
          have ho1 : openX gen s0 X = .inr j := ho1
          have ho2 : openX gen 0 X = .inr j := ho2
          have hj20 : j < 20 := by omega
          have hFb : halfN N h < 20 := by
            unfold halfN
            rw [if_neg (by omega)]
            rcases (show h = 0 ∨ h = 1 by omega) with e | e <;> subst e <;> simp <;> omega
          obtain ⟨J, hJ⟩ : ∃ J, J = halfN N h + j := ⟨_, rfl⟩
          have hFj : ((halfN N h : Nat) : Int) + (j : Int) = (J : Int) := by omega
          have HJ := Lib.hid hJ
          clear hJ
          go_wp2_with (first
            | (go_at_call 33; (with_reducible refine (HSY.out).mono ?_); rintro e w5 ⟨rfl, hD5, hO5⟩; go_loud (
              rw [← HDU.out] at hD5;
              have hb5 : Below w1.heap.size wr w5 := hO5.below (fun j hj => by
                rcases hj with e | e | e
                · rw [e]; exact HS2.out.2.2.1
                · rw [e]; exact HPV.out.1
                · rw [e]; exact HPV.out.2.1) hbs;
              have hbx5 : crownBox w5 w.heap.size gen h s0 := (hb5.block w.heap.size HS2.out.2.1).trans HBXr.out;
              obtain ⟨u0, u1, u2⟩ := hbx5.cells;
              have HD5 := Lib.hid hD5;
              have HBX5 := Lib.hid hbx5;
              have HB5 : Hid (Below w.heap.size w w5) := Lib.hid (HBb.out.trans (hb5.mono (Nat.le_of_lt HS2.out.2.1)));
              have hop := ropen_good hD5 gen h s0 hg hs0 (by rw [hDUl]; omega) hh1 X (by rw [hDUl]; exact HX.out);
              rw [hDUl, ho1] at hop;
              have HOP : Hid (Calls Try.prog 12 #[.pointer (some ⟨gs, 0, none⟩), .agg #[.int .u32 (gen : Int), .int .u8 (h : Int), .int .u32 (s0 : Int)]] w5 fun e w' => e = .returned (.tuple #[.pointer none, .int .i64 (J : Int), .int .i64 7]) ∧ Below w5.heap.size w5 w') := Lib.hid (by rw [HJ.out]; exact hop.mono fun e w' hh => ⟨hh.2, hh.1⟩);
              clear hD5 hO5 hb5 hbx5 hop))
            | (go_at_call 12; (with_reducible refine (HOP.out).mono ?_); rintro e w6 ⟨rfl, hb6⟩))
          have HB6 : Hid (Below w.heap.size w w6) := Lib.hid (HB5.out.trans (hb6.mono HB5.out.size))
          have HBX6 : Hid (crownBox w6 w.heap.size gen h s0) := Lib.hid ((hb6.block w.heap.size (lt_of_heap HBX5.out)).trans HBX5.out)
          have HD6 := Lib.hid (HD5.out.below hb6)
          have HC6 : Hid (∀ x, Below w6.heap.size w6 x → x.cell? ⟨w.heap.size, 0, none⟩ = some (.int .u32 (gen : Int)) ∧ x.cell? ⟨w.heap.size, 1, none⟩ = some (.int .u8 (h : Int)) ∧ x.cell? ⟨w.heap.size, 2, none⟩ = some (.int .u32 (s0 : Int))) := Lib.hid fun x hx => by
            have h3 := (hx.block w.heap.size (lt_of_heap HBX6.out)).trans HBX6.out
            exact ⟨by unfold World.cell?; rw [h3]; rfl, by unfold World.cell?; rw [h3]; rfl, by unfold World.cell?; rw [h3]; rfl⟩
          have HHA : Hid (∀ x, Below w6.heap.size w6 x → Calls Try.prog 25 #[.pointer (some ⟨gs, 0, none⟩), .agg #[.int .u32 (gen : Int), .int .u8 (h : Int), .int .u32 (s0 : Int)]] x fun e w' => ∃ u, e = .returned u ∧ Rows3 w' x.heap.size u X ∧ Below x.heap.size x w') := Lib.hid fun x hx => half_any (HD6.out.below hx) gen h s0 (by rw [hDUl]; omega) hh1 X (by rw [hDUl]; exact HX.out)
          have HRO : Hid (∀ (x : World) (v : Value), Parts x x.heap.size v X → Calls Try.prog 26 #[v, .int .u32 (gen : Int)] x fun e w' => e = .returned (.tuple #[.slice none 0 0, .int .i64 (j : Int)]) ∧ Below x.heap.size x w') := Lib.hid fun x v hv => by
            have h1 := refOpen_any x v X gen hg hv (by omega)
            rw [ho2] at h1
            exact h1.mono fun e w' hh => ⟨hh.2, hh.1⟩
          clear hb6 u0 u1 u2
          go_region_held3 (fun x => Below w6.heap.size w6 x ∧ x.cell? ⟨w.heap.size, 0, none⟩ = some (.int .u32 (gen : Int)) ∧ x.cell? ⟨w.heap.size, 1, none⟩ = some (.int .u8 (h : Int)) ∧ x.cell? ⟨w.heap.size, 2, none⟩ = some (.int .u32 (s0 : Int)))
            ((refine (fun h => ⟨h, HC6.out _ h⟩) ?_; repeat (with_reducible (first | exact Below.refl _ _ | assumption | refine ride_alloc ?_ _ | refine ride_drew ?_ | refine below_drewN ?_ _ | refine ride_call (by assumption) ?_))))
            (first
              | (go_at_call 25; (with_reducible refine (HHA.out _ (by repeat (with_reducible (first | exact Below.refl _ _ | assumption | refine ride_alloc ?_ _ | refine ride_drew ?_ | refine below_drewN ?_ _ | refine ride_call (by assumption) ?_)))).mono ?_); rintro e w7 ⟨v7, rfl, hR7, hb7⟩)
              | (go_at_call 26; (with_reducible refine (HRO.out _ _ ((hR7.below (show Below w7.heap.size w7 _ from (by repeat (with_reducible (first | exact Below.refl _ _ | assumption | refine ride_alloc ?_ _ | refine ride_drew ?_ | refine below_drewN ?_ _ | refine ride_call (by assumption) ?_))))).two.parts (Nat.le_refl _) (by unfold maxLen; omega))).mono ?_); rintro e w8 ⟨rfl, hb8⟩))
          rename_i hHeld
          have HH9 := Lib.hid (HB6.out.trans (hHeld.1.mono HB6.out.size))
          clear hHeld
          go_wp2
          go_ret
          exact ⟨rfl, HH9.out⟩
        · have hsm : ∀ b ∈ rowP qs, b < 256 := openF_small (o' := ⟨topX gen s0 X, qs, lk⟩) ho1 (fun s hs => by
            rw [HX.out, show applied [] DU = DU from rfl, HDU.out] at hs
            exact (applied_sec HD.out.sec (fun p hp => (HD.out.wri p hp).2) s (List.mem_of_mem_drop (List.mem_of_mem_take hs))).2) (fun b hb => by cases hb)
          have ho1 : openX gen s0 X = .inl ⟨topX gen s0 X, qs, lk⟩ := ho1
          have ho2 : openX gen 0 X = .inl ⟨topX gen 0 X, qs, lk⟩ := ho2
          obtain ⟨C, hC⟩ : ∃ x, x = cutL (rowP qs) := ⟨_, rfl⟩
          obtain ⟨T, hT⟩ : ∃ x, x = (topX gen s0 X + 1) % 4294967296 := ⟨_, rfl⟩
          have hCl : C.length ≤ 1048576 := by
            have h1 := openF_short (o := ⟨s0, [], true⟩) (o' := ⟨topX gen s0 X, qs, lk⟩) (k := 0) ho1 (fun s hs => by
              rw [HX.out, show applied [] DU = DU from rfl, HDU.out] at hs
              exact (applied_sec HD.out.sec (fun p hp => (HD.out.wri p hp).2) s (List.mem_of_mem_drop (List.mem_of_mem_take hs))).2)
            have h2 := cut_short hsm
            have h3 : X.length * 491 ≤ 20 * 491 := Nat.mul_le_mul_right _ hXl
            have h4 : (rowP ([] : List Pg)).length = 0 := rfl
            rw [hC]
            have h5 : (rowP qs).length ≤ (rowP ([] : List Pg)).length + X.length * 491 := h1
            omega
          have hKb : halfK N h ≤ 2048 := by
            unfold halfK
            rw [if_neg (by omega)]
            omega
          have HOQ : Hid (∀ (w5 : World) (e : Ending) (w' : World), ROpenR gs gen (halfN N h) (halfK N h) (.inl ⟨topX gen s0 X, qs, lk⟩) w5 e w' → ∃ gr, e = .returned (.tuple #[.pointer (some ⟨gr, 0, none⟩), .int .i64 0, .int .i64 0]) ∧ (∀ y, Below w'.heap.size w' y → Calls Try.prog 15 #[.pointer (some ⟨gr, 0, none⟩)] y (RecsR y C)) ∧ (∀ y, Below w'.heap.size w' y → Calls Try.prog 34 #[.pointer (some ⟨gr, 0, none⟩)] y fun e w' => e = .returned (.int .u32 (T : Int)) ∧ y = w') ∧ Below w5.heap.size w5 w') := Lib.hid fun w5 e w' hh => by
            obtain ⟨hB, gr, pv, ps, e1, e2, e3, e4, e5, e6⟩ := hh
            have e3' : pgs ps = qs := e3
            have e4' : Reel w' gr gs gen T (halfN N h) (halfK N h) pv ps (layR (cutL (rowP qs))).length (cutL (rowP qs)).length := by rw [hT]; exact e4
            refine ⟨gr, e1, fun y hy => ?_, fun y hy => serial_any (e4'.below hy).w, hB⟩
            rw [hC]
            exact records_open e4' (by rw [rowOf_pgs, e3']) hsm (Nat.le_trans e6 hKb) y hy
          have HT := Lib.hid hT
          have HCC := Lib.hid hC
          clear hsm hC hT
          go_wp2_with (first
            | (go_at_call 33; (with_reducible refine (HSY.out).mono ?_); rintro e w5 ⟨rfl, hD5, hO5⟩; go_loud (
              rw [← HDU.out] at hD5;
              have hb5 : Below w1.heap.size wr w5 := hO5.below (fun j hj => by
                rcases hj with e | e | e
                · rw [e]; exact HS2.out.2.2.1
                · rw [e]; exact HPV.out.1
                · rw [e]; exact HPV.out.2.1) hbs;
              have hbx5 : crownBox w5 w.heap.size gen h s0 := (hb5.block w.heap.size HS2.out.2.1).trans HBXr.out;
              obtain ⟨u0, u1, u2⟩ := hbx5.cells;
              have HD5 := Lib.hid hD5;
              have HBX5 := Lib.hid hbx5;
              have HB5 : Hid (Below w.heap.size w w5) := Lib.hid (HBb.out.trans (hb5.mono (Nat.le_of_lt HS2.out.2.1)));
              have hop := ropen_good hD5 gen h s0 hg hs0 (by rw [hDUl]; omega) hh1 X (by rw [hDUl]; exact HX.out);
              rw [hDUl, ho1] at hop;
              have HOP : Hid (Calls Try.prog 12 #[.pointer (some ⟨gs, 0, none⟩), .agg #[.int .u32 (gen : Int), .int .u8 (h : Int), .int .u32 (s0 : Int)]] w5 fun e w' => ∃ gr, e = .returned (.tuple #[.pointer (some ⟨gr, 0, none⟩), .int .i64 0, .int .i64 0]) ∧ (∀ y, Below w'.heap.size w' y → Calls Try.prog 15 #[.pointer (some ⟨gr, 0, none⟩)] y (RecsR y C)) ∧ (∀ y, Below w'.heap.size w' y → Calls Try.prog 34 #[.pointer (some ⟨gr, 0, none⟩)] y fun e w' => e = .returned (.int .u32 (T : Int)) ∧ y = w') ∧ Below w5.heap.size w5 w') := Lib.hid (hop.mono fun e w' hh => HOQ.out w5 e w' hh);
              clear hD5 hO5 hb5 hbx5 hop))
            | (go_at_call 12; (with_reducible refine (HOP.out).mono ?_); rintro e w6 ⟨gr, rfl, hRC, hSE, hb6⟩; go_loud (have HRC := Lib.hid hRC; have HSE := Lib.hid hSE; clear hRC hSE)))
          have HB6 : Hid (Below w.heap.size w w6) := Lib.hid (HB5.out.trans (hb6.mono HB5.out.size))
          have HBX6 : Hid (crownBox w6 w.heap.size gen h s0) := Lib.hid ((hb6.block w.heap.size (lt_of_heap HBX5.out)).trans HBX5.out)
          have HD6 := Lib.hid (HD5.out.below hb6)
          have HC6 : Hid (∀ x, Below w6.heap.size w6 x → x.cell? ⟨w.heap.size, 0, none⟩ = some (.int .u32 (gen : Int)) ∧ x.cell? ⟨w.heap.size, 1, none⟩ = some (.int .u8 (h : Int)) ∧ x.cell? ⟨w.heap.size, 2, none⟩ = some (.int .u32 (s0 : Int))) := Lib.hid fun x hx => by
            have h3 := (hx.block w.heap.size (lt_of_heap HBX6.out)).trans HBX6.out
            exact ⟨by unfold World.cell?; rw [h3]; rfl, by unfold World.cell?; rw [h3]; rfl, by unfold World.cell?; rw [h3]; rfl⟩
          have HHA : Hid (∀ x, Below w6.heap.size w6 x → Calls Try.prog 25 #[.pointer (some ⟨gs, 0, none⟩), .agg #[.int .u32 (gen : Int), .int .u8 (h : Int), .int .u32 (s0 : Int)]] x fun e w' => ∃ u, e = .returned u ∧ Rows3 w' x.heap.size u X ∧ Below x.heap.size x w') := Lib.hid fun x hx => half_any (HD6.out.below hx) gen h s0 (by rw [hDUl]; omega) hh1 X (by rw [hDUl]; exact HX.out)
          have HRO : Hid (∀ (x : World) (v : Value), Parts x x.heap.size v X → Calls Try.prog 26 #[v, .int .u32 (gen : Int)] x fun e w' => ∃ u, e = .returned (.tuple #[u, .int .i64 (-1)]) ∧ Rows2 w' x.heap.size w'.heap.size u C ∧ Below x.heap.size x w') := Lib.hid fun x v hv => by
            have h1 := refOpen_any x v X gen hg hv (by omega)
            rw [ho2] at h1
            refine h1.mono ?_
            rintro e w' ⟨hB, u, e1, e2⟩
            exact ⟨u, e1, by rw [HCC.out]; exact e2, hB⟩
          have HRS : Hid (∀ (x : World) (v : Value), Parts x x.heap.size v X → Calls Try.prog 35 #[v, .int .u32 (gen : Int), .int .u32 (s0 : Int)] x fun e w' => e = .returned (.int .u32 (T : Int)) ∧ Below x.heap.size x w') := Lib.hid fun x v hv => by
            have h1 := refSerial_any x v X gen s0 hg hs0 hv
            rw [← HT.out] at h1
            exact h1
          have HSM : Hid (∀ (x : World) (u v : Value), Parts x x.heap.size u C → Parts x x.heap.size v C → Calls Try.prog 22 #[u, v] x fun e w' => e = .returned (.bool true) ∧ Below x.heap.size x w') := Lib.hid fun x u v hu hv => by
            refine (same_rows x u v C C hu hv).mono ?_
            rintro e w' ⟨e1, q, rfl⟩
            rw [decide_eq_true rfl] at e1
            exact ⟨e1, below_drewN (Below.refl _ _) q⟩
          have HWT : Hid (∀ x, Below w6.heap.size w6 x → Calls Try.prog 36 #[.pointer (some ⟨gs, 0, none⟩)] x fun e w' => ∃ g c, e = .returned (.slice (some ⟨g, 0, none⟩) 0 c) ∧ Below x.heap.size x w') := Lib.hid fun x hx => (waiting_any (HD6.out.below hx)).mono (by rintro e w' ⟨g, c, e1, _, hB⟩; exact ⟨g, c, e1, hB⟩)
          have HUP : Hid (∀ x, Below w6.heap.size w6 x → Below w6.heap.size w6 x) := Lib.hid fun x hx => hx
          clear hb6 u0 u1 u2
          go_region_held3 (fun x => Below w6.heap.size w6 x ∧ x.cell? ⟨w.heap.size, 0, none⟩ = some (.int .u32 (gen : Int)) ∧ x.cell? ⟨w.heap.size, 1, none⟩ = some (.int .u8 (h : Int)) ∧ x.cell? ⟨w.heap.size, 2, none⟩ = some (.int .u32 (s0 : Int)))
            ((refine (fun h => ⟨h, HC6.out _ (HUP.out _ h)⟩) ?_; repeat (with_reducible (first | exact Below.refl _ _ | assumption | refine ride_alloc ?_ _ | refine ride_drew ?_ | refine below_drewN ?_ _ | refine ride_call (by assumption) ?_))))
            (first
              | (go_at_call 25; (with_reducible refine (HHA.out _ (by repeat (with_reducible (first | exact Below.refl _ _ | assumption | refine ride_alloc ?_ _ | refine ride_drew ?_ | refine below_drewN ?_ _ | refine ride_call (by assumption) ?_)))).mono ?_); rintro e w7 ⟨v7, rfl, hR7, hb7⟩)
              | (go_at_call 26; (with_reducible refine (HRO.out _ _ ((hR7.below (show Below w7.heap.size w7 _ from (by repeat (with_reducible (first | exact Below.refl _ _ | assumption | refine ride_alloc ?_ _ | refine ride_drew ?_ | refine below_drewN ?_ _ | refine ride_call (by assumption) ?_))))).two.parts (Nat.le_refl _) (by unfold maxLen; omega))).mono ?_); rintro e w8 ⟨v8, rfl, hR8, hb8⟩))
          rename_i hHeld
          have h69 := hHeld.1
          have HP8 : Hid (∀ y, Below w8.heap.size w8 y → Parts y y.heap.size v8 C) := Lib.hid fun y hy => (hR8.below (Nat.le_refl _) hy).parts hy.size (by unfold maxLen; omega)
          have HH9 := Lib.hid h69
          clear hHeld hR7 hR8 hb7 hb8 h69
          go_wp2
          have HUP9 : Hid (∀ x, Below w8.heap.size w8 x → Below w6.heap.size w6 x) := Lib.hid fun x hx => HH9.out.trans (hx.mono HH9.out.size)
          go_region_held3 (fun x => Below w8.heap.size w8 x ∧ x.cell? ⟨w.heap.size, 0, none⟩ = some (.int .u32 (gen : Int)) ∧ x.cell? ⟨w.heap.size, 1, none⟩ = some (.int .u8 (h : Int)) ∧ x.cell? ⟨w.heap.size, 2, none⟩ = some (.int .u32 (s0 : Int)))
            ((refine (fun h => ⟨h, HC6.out _ (HUP9.out _ h)⟩) ?_; repeat (with_reducible (first | exact Below.refl _ _ | assumption | refine ride_alloc ?_ _ | refine ride_drew ?_ | refine below_drewN ?_ _ | refine ride_call (by assumption) ?_))))
            (first
              | (go_at_call 15; (with_reducible refine (HRC.out _ (HUP9.out _ (by repeat (with_reducible (first | exact Below.refl _ _ | assumption | refine ride_alloc ?_ _ | refine ride_drew ?_ | refine below_drewN ?_ _ | refine ride_call (by assumption) ?_))))).mono ?_); rintro e wa ⟨va, rfl, hRa, hba⟩)
              | (go_at_call 22; (with_reducible refine (HSM.out _ _ _ ((hRa.below (Nat.le_refl _) (show Below wa.heap.size wa _ from (by repeat (with_reducible (first | exact Below.refl _ _ | assumption | refine ride_alloc ?_ _ | refine ride_drew ?_ | refine below_drewN ?_ _ | refine ride_call (by assumption) ?_))))).parts (Below.size (show Below wa.heap.size wa _ from (by repeat (with_reducible (first | exact Below.refl _ _ | assumption | refine ride_alloc ?_ _ | refine ride_drew ?_ | refine below_drewN ?_ _ | refine ride_call (by assumption) ?_))))) (by unfold maxLen; omega)) (HP8.out _ (by repeat (with_reducible (first | exact Below.refl _ _ | assumption | refine ride_alloc ?_ _ | refine ride_drew ?_ | refine below_drewN ?_ _ | refine ride_call (by assumption) ?_))))).mono ?_); rintro e wb ⟨rfl, hbb⟩)
              | (go_at_call 34; (with_reducible refine (HSE.out _ (HUP9.out _ (by repeat (with_reducible (first | exact Below.refl _ _ | assumption | refine ride_alloc ?_ _ | refine ride_drew ?_ | refine below_drewN ?_ _ | refine ride_call (by assumption) ?_))))).mono ?_); rintro e wc ⟨rfl, rfl⟩)
              | (go_at_call 25; (with_reducible refine (HHA.out _ (HUP9.out _ (by repeat (with_reducible (first | exact Below.refl _ _ | assumption | refine ride_alloc ?_ _ | refine ride_drew ?_ | refine below_drewN ?_ _ | refine ride_call (by assumption) ?_))))).mono ?_); rintro e wd ⟨vd, rfl, hRd, hbd⟩)
              | (go_at_call 35; (with_reducible refine (HRS.out _ _ ((hRd.below (show Below wd.heap.size wd _ from (by repeat (with_reducible (first | exact Below.refl _ _ | assumption | refine ride_alloc ?_ _ | refine ride_drew ?_ | refine below_drewN ?_ _ | refine ride_call (by assumption) ?_))))).two.parts (Nat.le_refl _) (by unfold maxLen; omega))).mono ?_); rintro e we ⟨rfl, hbe⟩)
              | (go_at_call 36; (with_reducible refine (HWT.out _ (HUP9.out _ (by repeat (with_reducible (first | exact Below.refl _ _ | assumption | refine ride_alloc ?_ _ | refine ride_drew ?_ | refine below_drewN ?_ _ | refine ride_call (by assumption) ?_))))).mono ?_); rintro e wf ⟨gf, cf, rfl, hbf⟩))
          all_goals
            rename_i hHeld
            have HHE := Lib.hid (HB6.out.trans ((HH9.out.trans (hHeld.1.mono HH9.out.size)).mono HB6.out.size))
            clear hHeld
            go_wp2
            go_ret
            exact ⟨rfl, HHE.out⟩
  · clear hM
    go_enter Try.func4, Try.ntmps4
    go_wp2_with (first
      | (go_at_call 10; (with_reducible refine (awake_true _).mono ?_); rintro e w1 ⟨rfl, hw1⟩; go_loud (
          have hb1 : w1.heap[w.heap.size]? = some (.cells #[.int .u32 (gen : Int), .int .u8 (h0 : Int), .int .u32 (s0 : Int)] 24 (0, 0)) := (hw1.block w.heap.size (by simp)).trans (Go.heap_alloc_new w _);
          have q1 : w1.cell? ⟨w.heap.size, 1, none⟩ = some (.int .u8 (h0 : Int)) := (by unfold World.cell?; rw [hb1]; rfl);
          have f1 : w1.frozen? ⟨w.heap.size, 1, none⟩ = false := frozen_of_row w1 _ _ _ _ hb1;
          have HB1 := Lib.hid hb1;
          have HW1 : Hid (Below w.heap.size w w1 ∧ w.heap.size < w1.heap.size) := Lib.hid ⟨((Below.refl w.heap.size w).alloc (Nat.le_refl _) _).trans (hw1.mono (by simp)), (by have := hw1.size; simp at this; omega)⟩;
          clear hb1 hw1))
      | (go_at_call 11; (with_reducible refine (HNE.out _ _ (by omega)).mono ?_); rintro e w2 ⟨gs, bb, rfl, hD2, hgs, hgd, hgl, hpv, hw2⟩; go_loud (
          have hsz : (w1.setCell ⟨w.heap.size, 1, none⟩ (.int .u8 (h : Int))).heap.size = w1.heap.size := (by simp [World.setCell]);
          rw [hsz] at hgs hgd hgl hw2;
          have hbx : crownBox w2 w.heap.size gen h s0 := (hw2.block w.heap.size HW1.out.2).trans (by rw [heap_setCell_same _ _ _ _ _ _ HB1.out]; rfl);
          have hbw : Below w.heap.size w w2 := (HW1.out.1.setCell (p := ⟨w.heap.size, 1, none⟩) (Nat.le_refl _) (.int .u8 (h : Int))).trans (hw2.mono (by have := HW1.out.2; omega));
          obtain ⟨u0, u1, u2⟩ := hbx.cells;
          have hs2 := hw2.size;
          rw [hsz] at hs2;
          have HD2 := Lib.hid hD2;
          have HBX := Lib.hid hbx;
          have HBW := Lib.hid hbw;
          have HS2 : Hid (w1.heap.size ≤ w2.heap.size ∧ w.heap.size < w1.heap.size ∧ w1.heap.size ≤ gs ∧ w1.heap.size ≤ bb.gd ∧ w1.heap.size ≤ bb.gl ∧ bb.pv = .slice none 0 0) := Lib.hid ⟨hs2, HW1.out.2, hgs, hgd, hgl, hpv⟩;
          clear hD2 hgs hgd hgl hpv hw2 hsz hbx hbw hs2 q1 f1)))
    have HC : Hid (∀ x, Below w2.heap.size w2 x → x.cell? ⟨w.heap.size, 0, none⟩ = some (.int .u32 (gen : Int)) ∧ x.cell? ⟨w.heap.size, 1, none⟩ = some (.int .u8 (h : Int)) ∧ x.cell? ⟨w.heap.size, 2, none⟩ = some (.int .u32 (s0 : Int))) := Lib.hid fun x hx => by
      have h3 := (hx.block w.heap.size (lt_of_heap HBX.out)).trans HBX.out
      exact ⟨by unfold World.cell?; rw [h3]; rfl, by unfold World.cell?; rw [h3]; rfl, by unfold World.cell?; rw [h3]; rfl⟩
    have HSE : Hid (∀ x, Below w2.heap.size w2 x → Calls Try.prog 28 #[.pointer (some ⟨gs, 0, none⟩)] x fun e w' => e = .returned (.int .i64 (N : Int)) ∧ x = w') := Lib.hid fun x hx => by
      have h4 := sectors_any (HD2.out.below hx)
      rw [List.length_replicate] at h4
      exact h4
    go_region_held3 (fun x => Below w2.heap.size w2 x ∧ x.cell? ⟨w.heap.size, 0, none⟩ = some (.int .u32 (gen : Int)) ∧ x.cell? ⟨w.heap.size, 1, none⟩ = some (.int .u8 (h : Int)) ∧ x.cell? ⟨w.heap.size, 2, none⟩ = some (.int .u32 (s0 : Int)))
      ((refine (fun h => ⟨h, HC.out _ h⟩) ?_; repeat (with_reducible (first | exact Below.refl _ _ | assumption | refine ride_alloc ?_ _ | refine ride_drew ?_ | refine below_drewN ?_ _ | refine ride_call (by assumption) ?_))))
      (first
        | (go_at_call 28; (with_reducible refine (HSE.out _ (by repeat (with_reducible (first | exact Below.refl _ _ | assumption | refine ride_alloc ?_ _ | refine ride_drew ?_ | refine below_drewN ?_ _ | refine ride_call (by assumption) ?_)))).mono ?_); rintro e w3 ⟨rfl, rfl⟩)
        | (go_at_call 27; (with_reducible refine (HF.out _).mono ?_); rintro e w4 ⟨rfl, hb4⟩))
    rename_i hHeld
    have HH := Lib.hid hHeld
    clear hHeld
    go_wp2
    have HBW4 : Hid (Below w.heap.size w w4) := Lib.hid (HBW.out.trans (HH.out.1.mono HBW.out.size))
    go_loopw [48] (fun i wr => ReadsI w w1.heap.size gs N gen h s0 8 i wr) (fun i _ => 8 - (intOf i).toNat)
    case atStart =>
      obtain ⟨z1, z2, z3, z4, z5, z6⟩ := HS2.out
      exact ⟨0, [], bb, Nat.zero_le _, rfl, HD2.out.below HH.out.1, rfl, z4, z5, (fun g e => by rw [z6] at e; cases e), (HH.out.1.block w.heap.size (lt_of_heap HBX.out)).trans HBX.out, HBW4.out, Nat.le_trans z1 HH.out.1.size⟩
    case round =>
      obtain ⟨k, pend, bk, hk, rfl, hD, hpl, hgd, hgl, hpv, hbx, hb, hbs⟩ := hrel
      have HD := Lib.hid hD
      have HBb := Lib.hid hb
      have HBXr := Lib.hid hbx
      have HPV : Hid (w1.heap.size ≤ bk.gd ∧ w1.heap.size ≤ bk.gl ∧ ∀ g, bk.pv.ownBlock = some g → w1.heap.size ≤ g) := Lib.hid ⟨hgd, hgl, hpv⟩
      by_cases hlt : k < 8
      · have hlti : (k : Int) < 8 := by omega
        obtain ⟨ad, pa, g, s, u, kk, Ad, nd, cd, d, rfl, hpa, hbb, c0, c1, c2, c3, c4, b0, b1, b2, b3, hdB⟩ := HPG.out k (by omega)
        have lay : ∀ q v, q.block = pa.block → w.cell? q = some v → wr.cell? q = some v := fun q v e h => (hb.cell (p := q) (by rw [e]; exact hbb)).trans h
        have l0 := lay _ _ rfl c0
        have l1 := lay ⟨pa.block, pa.off + 1, none⟩ _ rfl c1
        have l2 := lay ⟨pa.block, pa.off + 2, none⟩ _ rfl c2
        have l3 := lay ⟨pa.block, pa.off + 3, none⟩ _ rfl c3
        have l4 := lay ⟨pa.block, pa.off + 4, none⟩ _ rfl c4
        rw [hpa] at l0 l1 l2 l3 l4
        have HDB : Hid (Bytes wr wr.heap.size (.slice Ad nd cd) d) := Lib.hid (hdB.along hb)
        clear hD hb hbx hgd hgl hpv c0 c1 c2 c3 c4 hdB lay hpa
        go_upto_region 11 with fail
        obtain ⟨D, hD'⟩ : ∃ D, D = d.take 491 := ⟨_, rfl⟩
        have hDl : D.length ≤ 491 := by rw [hD', List.length_take]; omega
        generalize hXE : wr.alloc (.cells #[.int .u32 (g : Int), .int .u32 (s : Int), .int .u32 (u : Int), .int .u8 (kk : Int), .slice Ad nd cd] 56) = X
        have hX : X.heap[wr.heap.size]? = some (.cells #[.int .u32 (g : Int), .int .u32 (s : Int), .int .u32 (u : Int), .int .u8 (kk : Int), .slice Ad nd cd] 56 (0, 0)) := hXE ▸ Go.heap_alloc_new wr _
        have hXb : Below wr.heap.size wr X := hXE ▸ (Below.refl _ _).alloc (Nat.le_refl _) _
        have hMX : Bytes X X.heap.size (.slice Ad nd cd) d := HDB.out.along hXb
        have lX := lt_of_heap hX
        obtain ⟨q0, q1, q2, q3, q4, r0, r1, r2, r3, r4⟩ := box6_facts hX
        have HC3 := hide (cut_mine X.drew (.slice Ad nd cd) d 491 491 rfl (hMX.quiet 1) (by omega))
        rw [← hD'] at HC3
        have hmax := run_orOne kk
        have HGX := Lib.hid hX
        have HXB := Lib.hid hXb
        clear hX hXb hMX hXE hD' l0 l1 l2 l3 l4
        go_cut [] (fun wx => Box6 wr wr.heap.size wx)
        case first =>
          go_region_law (first
            | (go_simp; go_at_call 29; (with_reducible refine (unhide HC3).mono ?_); rintro e w3 ⟨A3, n3, c3, rfl, hM3, hb3⟩;
               (have g3 := (hb3.block wr.heap.size lX).trans HGX.out;
                obtain ⟨u0, u1, u2, u3, u4, t0, t1, t2, t3, t4⟩ := box6_facts g3;
                have HG3 := Lib.hid g3; have HM3 := Lib.hid hM3; have HB3 := Lib.hid (HXB.out.trans ((below_on (Below.refl _ _).drew hb3).mono HXB.out.size));
                clear g3 hM3 hb3)))
          all_goals
            go_wp2_with fail
            go_meet
            exact box6_end HG3.out HM3.out lX HB3.out (Nat.le_refl _) b0 b1 b2 ⟨orOne_pos kk, orOne_small b3⟩ hDl
        case rest =>
        clear HC3 HGX HXB lX hDl q0 q1 q2 q3 q4 r0 r1 r2 r3 r4 hmax
        have HBO := Lib.hid hcut
        have hwc : Below wr.heap.size wr wc := by obtain ⟨_, _, _, _, _, _, _, _, _, _, _, _, _, _, _, _, h⟩ := hcut; exact h
        have HWC := Lib.hid hwc
        clear hcut hwc
        go_upto_if 66 with fail
        go_cut [16] (fun hv wx => (∃ q : Nat, q < 256 ∧ hv = .int .u8 (q : Int)) ∧ wx = wc)
        case first =>
          by_cases hku : k < nu
          · obtain ⟨⟨Ax, cx, hvx, hlx, _, _⟩, hsmx, _⟩ := (HU.out.along HBb.out).along HWC.out
            injection hvx with ex1 ex2 ex3
            subst ex1
            obtain ⟨q, hq⟩ : ∃ q, us[k]? = some q := ⟨_, List.getElem?_eq_getElem (by rw [← HNU.out]; exact hku)⟩
            have hq2 : q < 256 := hsmx q (List.mem_of_getElem? hq)
            obtain ⟨au, hau, _, hcu⟩ := hlx k (.int .u8 (q : Int)) (by unfold byt; rw [List.getElem?_map, hq]; rfl)
            subst hau
            clear hlx hsmx hq ex2
            go_wp2_with fail
            go_meet
            exact ⟨⟨q, hq2, rfl⟩, rfl⟩
          · have hku2 : ¬ (k : Int) < (nu : Int) := by omega
            go_wp2_with fail
            go_meet
            exact ⟨⟨0, by omega, rfl⟩, rfl⟩
        case rest =>
        obtain ⟨⟨q, hq, rfl⟩, rfl⟩ := hcut
        obtain ⟨r8, hr8⟩ : ∃ x, x = q % 8 := ⟨_, rfl⟩
        obtain ⟨r6, hr6⟩ : ∃ x, x = q % 16 := ⟨_, rfl⟩
        have e8 : (q : Int) % 8 = (r8 : Int) := by omega
        have e8' : (q : Int).tmod 8 = (r8 : Int) := by rw [Int.tmod_eq_emod_of_nonneg (by omega)]; exact e8
        have e6 : (q : Int) % 16 = (r6 : Int) := by omega
        have e6' : (q : Int).tmod 16 = (r6 : Int) := by rw [Int.tmod_eq_emod_of_nonneg (by omega)]; exact e6
        have HR6 := Lib.hid hr6
        clear hr8 hr6
        go_upto_if 73 with fail
        obtain ⟨x0, x1, x2, x3, Ab, nb, cb, D2, hgb, y0, y1, y2, y3, y4, hMb, hn491, hbwc⟩ := HBO.out
        obtain ⟨q0, q1, q2, q3, q4, t0, t1, t2, t3, t4⟩ := box6_facts hgb
        have hcg : wc.cell? ⟨w.heap.size, 0, none⟩ = some (.int .u32 (gen : Int)) := by
          have h1 := (HWC.out.block w.heap.size (by have := HS2.out.2.1; omega)).trans HBXr.out
          unfold World.cell?
          rw [h1]
          rfl
        have HGB := Lib.hid hgb
        have HMB := Lib.hid hMb
        have HBW' := Lib.hid hbwc
        clear hgb hMb hbwc
        go_cut [] (fun wx => Box6 wr wr.heap.size wx)
        case first =>
          by_cases h5 : r8 < 5
          · go_wp2_with fail
            go_meet
            exact box6_sets (y0 := gen) (y2 := k) (y3 := 1) HGB.out HMB.out HBW'.out (Nat.le_refl _) hg y1 (by omega) ⟨by omega, by omega⟩ hn491
          · go_wp2_with fail
            go_meet
            exact HBO.out
        case rest =>
        clear q0 q1 q2 q3 q4 t0 t1 t2 t3 t4 hcg HGB HMB HBW' HBO HWC y0 y1 y2 y3 y4 hn491
        obtain ⟨x0, x1, x2, x3, Ab, nb, cb, D2, hgb, y0, y1, y2, y3, y4, hMb, hn491, hbwc⟩ := hcut
        obtain ⟨q0, q1, q2, q3, q4, t0, t1, t2, t3, t4⟩ := box6_facts hgb
        have HPB := Lib.hid (refPage_any wc x0 x1 x2 x3 Ab nb cb D2 y0 y1 y2 y4 hMb.bytes hn491 hMb.len hMb.small)
        have hsec : IsSec (page x0 x1 x2 x3 D2) := page_sec (q := ⟨x0, x1, x2, x3, D2⟩) ⟨y0, y1, y2, y3, by show D2.length ≤ 491; rw [← hMb.len]; exact hn491⟩ y4 hMb.small
        obtain ⟨p0, hp0⟩ : ∃ l, l = page x0 x1 x2 x3 D2 := ⟨_, rfl⟩
        rw [← hp0] at HPB hsec
        have HSEC := Lib.hid hsec
        have HWC := Lib.hid hbwc
        clear hgb hMb hbwc hp0 hsec y0 y1 y2 y3 y4 hn491
        go_upto_block 2 with (first
          | (go_at_call 30; (with_reducible refine (HPB.out).mono ?_); rintro e w5 ⟨A5, n5, c5, rfl, hM5, hb5⟩))
        obtain rfl : n5 = 512 := by rw [hM5.len]; exact HSEC.out.1
        obtain ⟨g5, _, rfl, hg5, _, _, _, _⟩ := hM5.at_ (k := 0) (by omega)
        have hw5 : Below wr.heap.size wr w5 := HWC.out.trans (hb5.mono HWC.out.size)
        have HW5 := Lib.hid hw5
        have HWS : Hid (wr.heap.size ≤ wc.heap.size) := Lib.hid HWC.out.size
        have HM5 := Lib.hid hM5
        clear q0 q1 q2 q3 q4 t0 t1 t2 t3 t4 HPB HWC hb5 hw5 hM5
        have HFU := Lib.hid (full_any w5 R rs ((HR.out.along HBb.out).along HW5.out))
        go_cut [17] (fun pv wx => ∃ A c l, pv = .slice A 512 c ∧ Bytes wx wx.heap.size (.slice A 512 c) l ∧ IsSec l ∧ Below wr.heap.size wr wx)
        case first =>
          by_cases h13 : r6 = 13
          · subst h13
            have hq253 : q ≤ 253 := by have := HR6.out; omega
            obtain ⟨g6, b, hA, hg6, hbl, hb256, hcl, hfr⟩ := HM5.out.at_ (k := q) (by omega)
            obtain rfl : g5 = g6 := by injection hA with h1; injection h1
            have hx : bits .xor .u8 (b : Int) (1 + (q : Int)) = ((b ^^^ (1 + q) : Nat) : Int) := by
              have h := u8_xor_nat b (1 + q) hb256 (by omega)
              rw [← h]
              congr 1
            have hxl : b ^^^ (1 + q) < 256 := Nat.xor_lt_two_pow (n := 8) (by omega) (by omega)
            clear hA hbl e8 e8'
            go_wp2_with fail
            go_meet
            have hM := mine_set (i := q) HM5.out hxl
            exact ⟨_, _, _, rfl, hM.bytes, ⟨hM.len.symm, hM.small⟩, HW5.out.setCell (p := ⟨g5, q, none⟩) (Nat.le_trans (HWS.out) hg6) _⟩
          · by_cases h14 : r6 = 14
            · subst h14
              go_wp2_with (go_at_call 31; (with_reducible refine (HFU.out).mono ?_); rintro e w6 ⟨A6, n6, c6, rfl, hM6, hb6⟩; obtain rfl : n6 = 512 := (by rw [hM6.len]; exact full_length _))
              go_meet
              exact ⟨_, _, _, rfl, hM6.bytes, ⟨full_length _, hM6.small⟩, HW5.out.trans (hb6.mono HW5.out.size)⟩
            · by_cases h15 : r6 = 15
              · subst h15
                have hmk := run_make_512
                go_wp2_with fail
                go_meet
                exact ⟨_, _, _, rfl, made_bytes w5 512 (by omega), ⟨by simp, fun b hb => by rw [List.eq_of_mem_replicate hb]; omega⟩, HW5.out.alloc HW5.out.size _⟩
              · have n13 : ((r6 : Int) == 13) = false := by rw [beq_eq_false_iff_ne]; omega
                have n14 : ((r6 : Int) == 14) = false := by rw [beq_eq_false_iff_ne]; omega
                have n15 : ((r6 : Int) == 15) = false := by rw [beq_eq_false_iff_ne]; omega
                go_wp2_with fail
                go_meet
                exact ⟨_, _, _, rfl, HM5.out.bytes, HSEC.out, HW5.out⟩
        case rest =>
        obtain ⟨Aw, cw, lw, rfl, hBw, hSw, hbw⟩ := hcut
        have hFN : halfN N h + k < N := by
          have := HNN.out
          unfold halfN
          rw [if_neg (by omega)]
          rcases (show h = 0 ∨ h = 1 by omega) with e | e <;> subst e <;> simp <;> omega
        have hFk : ((halfN N h : Nat) : Int) + (k : Int) = ((halfN N h + k : Nat) : Int) := by omega
        have HWR : Hid (∀ i : Int, i = ((halfN N h + k : Nat) : Int) → Calls Try.prog 32 #[.pointer (some ⟨gs, 0, none⟩), .int .i64 i, .slice Aw 512 cw] wc fun e w' => e = .returned (.int .i64 0) ∧ ∃ b2 : DB, Disk w' gs b2 (List.replicate N noughts) (pend ++ [(halfN N h + k, lw)]) ((k : Int) + 1) (less (-1)) ∧ b2.gd = bk.gd ∧ b2.cd = bk.cd ∧ b2.gl = bk.gl ∧ b2.cl = bk.cl ∧ (b2.pv.ownBlock = bk.pv.ownBlock ∨ ∃ g, b2.pv.ownBlock = some g ∧ wc.heap.size ≤ g) ∧ OnlyAt wc w' (fun k => k = gs ∨ k = bk.gl ∨ some k = bk.pv.ownBlock)) := Lib.hid fun i hi => by
          rw [hi]
          exact write_good (HD.out.below hbw) (by decide) (by decide) (by omega) (by omega) _ (by rw [List.length_replicate]; exact hFN) Aw cw lw hBw hSw
        have HBw := Lib.hid hbw
        have HFk := Lib.hid hFk
        clear hBw hSw hbw hFk
        clear e8 e8' e6 e6'
        go_wp2_with (go_at_call 32; go_loud (with_reducible refine (HWR.out _ HFk.out).mono ?_); rintro e w9 ⟨rfl, b2, hD9, z1, z2, z3, z4, z5, hO9⟩; go_loud (
          have HD9 := Lib.hid hD9;
          have HZ := Lib.hid (show b2.gd = bk.gd ∧ b2.gl = bk.gl ∧ (b2.pv.ownBlock = bk.pv.ownBlock ∨ ∃ g, b2.pv.ownBlock = some g ∧ wc.heap.size ≤ g) from ⟨z1, z3, z5⟩);
          have HO9 := Lib.hid hO9;
          clear hD9 z1 z2 z3 z4 z5 hO9))
        go_roundw
        case rel =>
          obtain ⟨p1, p2, p3⟩ := HPV.out
          have hb9 : Below w1.heap.size wc w9 := HO9.out.below (fun j hj => by
            rcases hj with e | e | e
            · rw [e]; exact HS2.out.2.2.1
            · rw [e]; exact p2
            · exact p3 j e.symm) (Nat.le_trans hbs HBw.out.size)
          have hw1 := HS2.out.2.1
          have hbc : Below w.heap.size w wc := HBb.out.trans (HBw.out.mono HBb.out.size)
          refine ⟨k + 1, _, b2, by omega, by go_num, HD9.out, by rw [List.length_append, hpl]; rfl, by rw [HZ.out.1]; exact p1, by rw [HZ.out.2.1]; exact p2, fun g e => ?_, ?_, hbc.trans (hb9.mono (by omega)), Nat.le_trans (Nat.le_trans hbs HBw.out.size) hb9.size⟩
          · rcases HZ.out.2.2 with h1 | ⟨g', h1, h2⟩
            · rw [h1] at e; exact p3 g e
            · rw [h1] at e
              injection e with e
              subst e
              exact Nat.le_trans (Nat.le_trans hbs HBw.out.size) h2
          · exact (hb9.block w.heap.size hw1).trans ((HBw.out.block w.heap.size (by omega)).trans HBXr.out)
        case measure => simp [intOf]; omega
      · obtain rfl : k = 8 := by omega
        obtain ⟨DU, hDU⟩ : ∃ x, x = applied pend (List.replicate N noughts) := ⟨_, rfl⟩
        have hDUl : DU.length = N := by rw [hDU, applied_length, List.length_replicate]
        obtain ⟨X, hX⟩ : ∃ x, x = ((applied [] DU).drop (halfN N h)).take (halfK N h) := ⟨_, rfl⟩
        have hXl : X.length ≤ 20 := by
          rw [hX, List.length_take, List.length_drop, show applied [] DU = DU from rfl, hDUl]
          omega
        have HSY := Lib.hid (sync_good hD (by decide) (by decide))
        have HX := Lib.hid hX
        have HDU := Lib.hid hDU
        have htwo := openF_two gen X s0 0 [] true 0
        clear hD hbx hX hDU hb hgd hgl hpv
        rcases htwo with ⟨j, ho1, ho2⟩ | ⟨qs, lk, ho1, ho2⟩
        · have hj := openF_lt ho1
          have ho1 : openX gen s0 X = .inr j := ho1
          have ho2 : openX gen 0 X = .inr j := ho2
          have hj20 : j < 20 := by omega
          have hFb : halfN N h < 20 := by
            unfold halfN
            rw [if_neg (by omega)]
            rcases (show h = 0 ∨ h = 1 by omega) with e | e <;> subst e <;> simp <;> omega
          obtain ⟨J, hJ⟩ : ∃ J, J = halfN N h + j := ⟨_, rfl⟩
          have hFj : ((halfN N h : Nat) : Int) + (j : Int) = (J : Int) := by omega
          have HJ := Lib.hid hJ
          clear hJ
          go_wp2_with (first
            | (go_at_call 33; (with_reducible refine (HSY.out).mono ?_); rintro e w5 ⟨rfl, hD5, hO5⟩; go_loud (
              rw [← HDU.out] at hD5;
              have hb5 : Below w1.heap.size wr w5 := hO5.below (fun j hj => by
                rcases hj with e | e | e
                · rw [e]; exact HS2.out.2.2.1
                · rw [e]; exact HPV.out.1
                · rw [e]; exact HPV.out.2.1) hbs;
              have hbx5 : crownBox w5 w.heap.size gen h s0 := (hb5.block w.heap.size HS2.out.2.1).trans HBXr.out;
              obtain ⟨u0, u1, u2⟩ := hbx5.cells;
              have HD5 := Lib.hid hD5;
              have HBX5 := Lib.hid hbx5;
              have HB5 : Hid (Below w.heap.size w w5) := Lib.hid (HBb.out.trans (hb5.mono (Nat.le_of_lt HS2.out.2.1)));
              have hop := ropen_good hD5 gen h s0 hg hs0 (by rw [hDUl]; omega) hh1 X (by rw [hDUl]; exact HX.out);
              rw [hDUl, ho1] at hop;
              have HOP : Hid (Calls Try.prog 12 #[.pointer (some ⟨gs, 0, none⟩), .agg #[.int .u32 (gen : Int), .int .u8 (h : Int), .int .u32 (s0 : Int)]] w5 fun e w' => e = .returned (.tuple #[.pointer none, .int .i64 (J : Int), .int .i64 7]) ∧ Below w5.heap.size w5 w') := Lib.hid (by rw [HJ.out]; exact hop.mono fun e w' hh => ⟨hh.2, hh.1⟩);
              clear hD5 hO5 hb5 hbx5 hop))
            | (go_at_call 12; (with_reducible refine (HOP.out).mono ?_); rintro e w6 ⟨rfl, hb6⟩))
          have HB6 : Hid (Below w.heap.size w w6) := Lib.hid (HB5.out.trans (hb6.mono HB5.out.size))
          have HBX6 : Hid (crownBox w6 w.heap.size gen h s0) := Lib.hid ((hb6.block w.heap.size (lt_of_heap HBX5.out)).trans HBX5.out)
          have HD6 := Lib.hid (HD5.out.below hb6)
          have HC6 : Hid (∀ x, Below w6.heap.size w6 x → x.cell? ⟨w.heap.size, 0, none⟩ = some (.int .u32 (gen : Int)) ∧ x.cell? ⟨w.heap.size, 1, none⟩ = some (.int .u8 (h : Int)) ∧ x.cell? ⟨w.heap.size, 2, none⟩ = some (.int .u32 (s0 : Int))) := Lib.hid fun x hx => by
            have h3 := (hx.block w.heap.size (lt_of_heap HBX6.out)).trans HBX6.out
            exact ⟨by unfold World.cell?; rw [h3]; rfl, by unfold World.cell?; rw [h3]; rfl, by unfold World.cell?; rw [h3]; rfl⟩
          have HHA : Hid (∀ x, Below w6.heap.size w6 x → Calls Try.prog 25 #[.pointer (some ⟨gs, 0, none⟩), .agg #[.int .u32 (gen : Int), .int .u8 (h : Int), .int .u32 (s0 : Int)]] x fun e w' => ∃ u, e = .returned u ∧ Rows3 w' x.heap.size u X ∧ Below x.heap.size x w') := Lib.hid fun x hx => half_any (HD6.out.below hx) gen h s0 (by rw [hDUl]; omega) hh1 X (by rw [hDUl]; exact HX.out)
          have HRO : Hid (∀ (x : World) (v : Value), Parts x x.heap.size v X → Calls Try.prog 26 #[v, .int .u32 (gen : Int)] x fun e w' => e = .returned (.tuple #[.slice none 0 0, .int .i64 (j : Int)]) ∧ Below x.heap.size x w') := Lib.hid fun x v hv => by
            have h1 := refOpen_any x v X gen hg hv (by omega)
            rw [ho2] at h1
            exact h1.mono fun e w' hh => ⟨hh.2, hh.1⟩
          clear hb6 u0 u1 u2
          go_region_held3 (fun x => Below w6.heap.size w6 x ∧ x.cell? ⟨w.heap.size, 0, none⟩ = some (.int .u32 (gen : Int)) ∧ x.cell? ⟨w.heap.size, 1, none⟩ = some (.int .u8 (h : Int)) ∧ x.cell? ⟨w.heap.size, 2, none⟩ = some (.int .u32 (s0 : Int)))
            ((refine (fun h => ⟨h, HC6.out _ h⟩) ?_; repeat (with_reducible (first | exact Below.refl _ _ | assumption | refine ride_alloc ?_ _ | refine ride_drew ?_ | refine below_drewN ?_ _ | refine ride_call (by assumption) ?_))))
            (first
              | (go_at_call 25; (with_reducible refine (HHA.out _ (by repeat (with_reducible (first | exact Below.refl _ _ | assumption | refine ride_alloc ?_ _ | refine ride_drew ?_ | refine below_drewN ?_ _ | refine ride_call (by assumption) ?_)))).mono ?_); rintro e w7 ⟨v7, rfl, hR7, hb7⟩)
              | (go_at_call 26; (with_reducible refine (HRO.out _ _ ((hR7.below (show Below w7.heap.size w7 _ from (by repeat (with_reducible (first | exact Below.refl _ _ | assumption | refine ride_alloc ?_ _ | refine ride_drew ?_ | refine below_drewN ?_ _ | refine ride_call (by assumption) ?_))))).two.parts (Nat.le_refl _) (by unfold maxLen; omega))).mono ?_); rintro e w8 ⟨rfl, hb8⟩))
          rename_i hHeld
          have HH9 := Lib.hid (HB6.out.trans (hHeld.1.mono HB6.out.size))
          clear hHeld
          go_wp2
          go_ret
          exact ⟨rfl, HH9.out⟩
        · have hsm : ∀ b ∈ rowP qs, b < 256 := openF_small (o' := ⟨topX gen s0 X, qs, lk⟩) ho1 (fun s hs => by
            rw [HX.out, show applied [] DU = DU from rfl, HDU.out] at hs
            exact (applied_sec HD.out.sec (fun p hp => (HD.out.wri p hp).2) s (List.mem_of_mem_drop (List.mem_of_mem_take hs))).2) (fun b hb => by cases hb)
          have ho1 : openX gen s0 X = .inl ⟨topX gen s0 X, qs, lk⟩ := ho1
          have ho2 : openX gen 0 X = .inl ⟨topX gen 0 X, qs, lk⟩ := ho2
          obtain ⟨C, hC⟩ : ∃ x, x = cutL (rowP qs) := ⟨_, rfl⟩
          obtain ⟨T, hT⟩ : ∃ x, x = (topX gen s0 X + 1) % 4294967296 := ⟨_, rfl⟩
          have hCl : C.length ≤ 1048576 := by
            have h1 := openF_short (o := ⟨s0, [], true⟩) (o' := ⟨topX gen s0 X, qs, lk⟩) (k := 0) ho1 (fun s hs => by
              rw [HX.out, show applied [] DU = DU from rfl, HDU.out] at hs
              exact (applied_sec HD.out.sec (fun p hp => (HD.out.wri p hp).2) s (List.mem_of_mem_drop (List.mem_of_mem_take hs))).2)
            have h2 := cut_short hsm
            have h3 : X.length * 491 ≤ 20 * 491 := Nat.mul_le_mul_right _ hXl
            have h4 : (rowP ([] : List Pg)).length = 0 := rfl
            rw [hC]
            have h5 : (rowP qs).length ≤ (rowP ([] : List Pg)).length + X.length * 491 := h1
            omega
          have hKb : halfK N h ≤ 2048 := by
            unfold halfK
            rw [if_neg (by omega)]
            omega
          have HOQ : Hid (∀ (w5 : World) (e : Ending) (w' : World), ROpenR gs gen (halfN N h) (halfK N h) (.inl ⟨topX gen s0 X, qs, lk⟩) w5 e w' → ∃ gr, e = .returned (.tuple #[.pointer (some ⟨gr, 0, none⟩), .int .i64 0, .int .i64 0]) ∧ (∀ y, Below w'.heap.size w' y → Calls Try.prog 15 #[.pointer (some ⟨gr, 0, none⟩)] y (RecsR y C)) ∧ (∀ y, Below w'.heap.size w' y → Calls Try.prog 34 #[.pointer (some ⟨gr, 0, none⟩)] y fun e w' => e = .returned (.int .u32 (T : Int)) ∧ y = w') ∧ Below w5.heap.size w5 w') := Lib.hid fun w5 e w' hh => by
            obtain ⟨hB, gr, pv, ps, e1, e2, e3, e4, e5, e6⟩ := hh
            have e3' : pgs ps = qs := e3
            have e4' : Reel w' gr gs gen T (halfN N h) (halfK N h) pv ps (layR (cutL (rowP qs))).length (cutL (rowP qs)).length := by rw [hT]; exact e4
            refine ⟨gr, e1, fun y hy => ?_, fun y hy => serial_any (e4'.below hy).w, hB⟩
            rw [hC]
            exact records_open e4' (by rw [rowOf_pgs, e3']) hsm (Nat.le_trans e6 hKb) y hy
          have HT := Lib.hid hT
          have HCC := Lib.hid hC
          clear hsm hC hT
          go_wp2_with (first
            | (go_at_call 33; (with_reducible refine (HSY.out).mono ?_); rintro e w5 ⟨rfl, hD5, hO5⟩; go_loud (
              rw [← HDU.out] at hD5;
              have hb5 : Below w1.heap.size wr w5 := hO5.below (fun j hj => by
                rcases hj with e | e | e
                · rw [e]; exact HS2.out.2.2.1
                · rw [e]; exact HPV.out.1
                · rw [e]; exact HPV.out.2.1) hbs;
              have hbx5 : crownBox w5 w.heap.size gen h s0 := (hb5.block w.heap.size HS2.out.2.1).trans HBXr.out;
              obtain ⟨u0, u1, u2⟩ := hbx5.cells;
              have HD5 := Lib.hid hD5;
              have HBX5 := Lib.hid hbx5;
              have HB5 : Hid (Below w.heap.size w w5) := Lib.hid (HBb.out.trans (hb5.mono (Nat.le_of_lt HS2.out.2.1)));
              have hop := ropen_good hD5 gen h s0 hg hs0 (by rw [hDUl]; omega) hh1 X (by rw [hDUl]; exact HX.out);
              rw [hDUl, ho1] at hop;
              have HOP : Hid (Calls Try.prog 12 #[.pointer (some ⟨gs, 0, none⟩), .agg #[.int .u32 (gen : Int), .int .u8 (h : Int), .int .u32 (s0 : Int)]] w5 fun e w' => ∃ gr, e = .returned (.tuple #[.pointer (some ⟨gr, 0, none⟩), .int .i64 0, .int .i64 0]) ∧ (∀ y, Below w'.heap.size w' y → Calls Try.prog 15 #[.pointer (some ⟨gr, 0, none⟩)] y (RecsR y C)) ∧ (∀ y, Below w'.heap.size w' y → Calls Try.prog 34 #[.pointer (some ⟨gr, 0, none⟩)] y fun e w' => e = .returned (.int .u32 (T : Int)) ∧ y = w') ∧ Below w5.heap.size w5 w') := Lib.hid (hop.mono fun e w' hh => HOQ.out w5 e w' hh);
              clear hD5 hO5 hb5 hbx5 hop))
            | (go_at_call 12; (with_reducible refine (HOP.out).mono ?_); rintro e w6 ⟨gr, rfl, hRC, hSE, hb6⟩; go_loud (have HRC := Lib.hid hRC; have HSE := Lib.hid hSE; clear hRC hSE)))
          have HB6 : Hid (Below w.heap.size w w6) := Lib.hid (HB5.out.trans (hb6.mono HB5.out.size))
          have HBX6 : Hid (crownBox w6 w.heap.size gen h s0) := Lib.hid ((hb6.block w.heap.size (lt_of_heap HBX5.out)).trans HBX5.out)
          have HD6 := Lib.hid (HD5.out.below hb6)
          have HC6 : Hid (∀ x, Below w6.heap.size w6 x → x.cell? ⟨w.heap.size, 0, none⟩ = some (.int .u32 (gen : Int)) ∧ x.cell? ⟨w.heap.size, 1, none⟩ = some (.int .u8 (h : Int)) ∧ x.cell? ⟨w.heap.size, 2, none⟩ = some (.int .u32 (s0 : Int))) := Lib.hid fun x hx => by
            have h3 := (hx.block w.heap.size (lt_of_heap HBX6.out)).trans HBX6.out
            exact ⟨by unfold World.cell?; rw [h3]; rfl, by unfold World.cell?; rw [h3]; rfl, by unfold World.cell?; rw [h3]; rfl⟩
          have HHA : Hid (∀ x, Below w6.heap.size w6 x → Calls Try.prog 25 #[.pointer (some ⟨gs, 0, none⟩), .agg #[.int .u32 (gen : Int), .int .u8 (h : Int), .int .u32 (s0 : Int)]] x fun e w' => ∃ u, e = .returned u ∧ Rows3 w' x.heap.size u X ∧ Below x.heap.size x w') := Lib.hid fun x hx => half_any (HD6.out.below hx) gen h s0 (by rw [hDUl]; omega) hh1 X (by rw [hDUl]; exact HX.out)
          have HRO : Hid (∀ (x : World) (v : Value), Parts x x.heap.size v X → Calls Try.prog 26 #[v, .int .u32 (gen : Int)] x fun e w' => ∃ u, e = .returned (.tuple #[u, .int .i64 (-1)]) ∧ Rows2 w' x.heap.size w'.heap.size u C ∧ Below x.heap.size x w') := Lib.hid fun x v hv => by
            have h1 := refOpen_any x v X gen hg hv (by omega)
            rw [ho2] at h1
            refine h1.mono ?_
            rintro e w' ⟨hB, u, e1, e2⟩
            exact ⟨u, e1, by rw [HCC.out]; exact e2, hB⟩
          have HRS : Hid (∀ (x : World) (v : Value), Parts x x.heap.size v X → Calls Try.prog 35 #[v, .int .u32 (gen : Int), .int .u32 (s0 : Int)] x fun e w' => e = .returned (.int .u32 (T : Int)) ∧ Below x.heap.size x w') := Lib.hid fun x v hv => by
            have h1 := refSerial_any x v X gen s0 hg hs0 hv
            rw [← HT.out] at h1
            exact h1
          have HSM : Hid (∀ (x : World) (u v : Value), Parts x x.heap.size u C → Parts x x.heap.size v C → Calls Try.prog 22 #[u, v] x fun e w' => e = .returned (.bool true) ∧ Below x.heap.size x w') := Lib.hid fun x u v hu hv => by
            refine (same_rows x u v C C hu hv).mono ?_
            rintro e w' ⟨e1, q, rfl⟩
            rw [decide_eq_true rfl] at e1
            exact ⟨e1, below_drewN (Below.refl _ _) q⟩
          have HWT : Hid (∀ x, Below w6.heap.size w6 x → Calls Try.prog 36 #[.pointer (some ⟨gs, 0, none⟩)] x fun e w' => ∃ g c, e = .returned (.slice (some ⟨g, 0, none⟩) 0 c) ∧ Below x.heap.size x w') := Lib.hid fun x hx => (waiting_any (HD6.out.below hx)).mono (by rintro e w' ⟨g, c, e1, _, hB⟩; exact ⟨g, c, e1, hB⟩)
          have HUP : Hid (∀ x, Below w6.heap.size w6 x → Below w6.heap.size w6 x) := Lib.hid fun x hx => hx
          clear hb6 u0 u1 u2
          go_region_held3 (fun x => Below w6.heap.size w6 x ∧ x.cell? ⟨w.heap.size, 0, none⟩ = some (.int .u32 (gen : Int)) ∧ x.cell? ⟨w.heap.size, 1, none⟩ = some (.int .u8 (h : Int)) ∧ x.cell? ⟨w.heap.size, 2, none⟩ = some (.int .u32 (s0 : Int)))
            ((refine (fun h => ⟨h, HC6.out _ (HUP.out _ h)⟩) ?_; repeat (with_reducible (first | exact Below.refl _ _ | assumption | refine ride_alloc ?_ _ | refine ride_drew ?_ | refine below_drewN ?_ _ | refine ride_call (by assumption) ?_))))
            (first
              | (go_at_call 25; (with_reducible refine (HHA.out _ (by repeat (with_reducible (first | exact Below.refl _ _ | assumption | refine ride_alloc ?_ _ | refine ride_drew ?_ | refine below_drewN ?_ _ | refine ride_call (by assumption) ?_)))).mono ?_); rintro e w7 ⟨v7, rfl, hR7, hb7⟩)
              | (go_at_call 26; (with_reducible refine (HRO.out _ _ ((hR7.below (show Below w7.heap.size w7 _ from (by repeat (with_reducible (first | exact Below.refl _ _ | assumption | refine ride_alloc ?_ _ | refine ride_drew ?_ | refine below_drewN ?_ _ | refine ride_call (by assumption) ?_))))).two.parts (Nat.le_refl _) (by unfold maxLen; omega))).mono ?_); rintro e w8 ⟨v8, rfl, hR8, hb8⟩))
          rename_i hHeld
          have h69 := hHeld.1
          have HP8 : Hid (∀ y, Below w8.heap.size w8 y → Parts y y.heap.size v8 C) := Lib.hid fun y hy => (hR8.below (Nat.le_refl _) hy).parts hy.size (by unfold maxLen; omega)
          have HH9 := Lib.hid h69
          clear hHeld hR7 hR8 hb7 hb8 h69
          go_wp2
          have HUP9 : Hid (∀ x, Below w8.heap.size w8 x → Below w6.heap.size w6 x) := Lib.hid fun x hx => HH9.out.trans (hx.mono HH9.out.size)
          go_region_held3 (fun x => Below w8.heap.size w8 x ∧ x.cell? ⟨w.heap.size, 0, none⟩ = some (.int .u32 (gen : Int)) ∧ x.cell? ⟨w.heap.size, 1, none⟩ = some (.int .u8 (h : Int)) ∧ x.cell? ⟨w.heap.size, 2, none⟩ = some (.int .u32 (s0 : Int)))
            ((refine (fun h => ⟨h, HC6.out _ (HUP9.out _ h)⟩) ?_; repeat (with_reducible (first | exact Below.refl _ _ | assumption | refine ride_alloc ?_ _ | refine ride_drew ?_ | refine below_drewN ?_ _ | refine ride_call (by assumption) ?_))))
            (first
              | (go_at_call 15; (with_reducible refine (HRC.out _ (HUP9.out _ (by repeat (with_reducible (first | exact Below.refl _ _ | assumption | refine ride_alloc ?_ _ | refine ride_drew ?_ | refine below_drewN ?_ _ | refine ride_call (by assumption) ?_))))).mono ?_); rintro e wa ⟨va, rfl, hRa, hba⟩)
              | (go_at_call 22; (with_reducible refine (HSM.out _ _ _ ((hRa.below (Nat.le_refl _) (show Below wa.heap.size wa _ from (by repeat (with_reducible (first | exact Below.refl _ _ | assumption | refine ride_alloc ?_ _ | refine ride_drew ?_ | refine below_drewN ?_ _ | refine ride_call (by assumption) ?_))))).parts (Below.size (show Below wa.heap.size wa _ from (by repeat (with_reducible (first | exact Below.refl _ _ | assumption | refine ride_alloc ?_ _ | refine ride_drew ?_ | refine below_drewN ?_ _ | refine ride_call (by assumption) ?_))))) (by unfold maxLen; omega)) (HP8.out _ (by repeat (with_reducible (first | exact Below.refl _ _ | assumption | refine ride_alloc ?_ _ | refine ride_drew ?_ | refine below_drewN ?_ _ | refine ride_call (by assumption) ?_))))).mono ?_); rintro e wb ⟨rfl, hbb⟩)
              | (go_at_call 34; (with_reducible refine (HSE.out _ (HUP9.out _ (by repeat (with_reducible (first | exact Below.refl _ _ | assumption | refine ride_alloc ?_ _ | refine ride_drew ?_ | refine below_drewN ?_ _ | refine ride_call (by assumption) ?_))))).mono ?_); rintro e wc ⟨rfl, rfl⟩)
              | (go_at_call 25; (with_reducible refine (HHA.out _ (HUP9.out _ (by repeat (with_reducible (first | exact Below.refl _ _ | assumption | refine ride_alloc ?_ _ | refine ride_drew ?_ | refine below_drewN ?_ _ | refine ride_call (by assumption) ?_))))).mono ?_); rintro e wd ⟨vd, rfl, hRd, hbd⟩)
              | (go_at_call 35; (with_reducible refine (HRS.out _ _ ((hRd.below (show Below wd.heap.size wd _ from (by repeat (with_reducible (first | exact Below.refl _ _ | assumption | refine ride_alloc ?_ _ | refine ride_drew ?_ | refine below_drewN ?_ _ | refine ride_call (by assumption) ?_))))).two.parts (Nat.le_refl _) (by unfold maxLen; omega))).mono ?_); rintro e we ⟨rfl, hbe⟩)
              | (go_at_call 36; (with_reducible refine (HWT.out _ (HUP9.out _ (by repeat (with_reducible (first | exact Below.refl _ _ | assumption | refine ride_alloc ?_ _ | refine ride_drew ?_ | refine below_drewN ?_ _ | refine ride_call (by assumption) ?_))))).mono ?_); rintro e wf ⟨gf, cf, rfl, hbf⟩))
          all_goals
            rename_i hHeld
            have HHE := Lib.hid (HB6.out.trans ((HH9.out.trans (hHeld.1.mono HH9.out.size)).mono HB6.out.size))
            clear hHeld
            go_wp2
            go_ret
            exact ⟨rfl, HHE.out⟩
end Go.Proofs.Ytalpippeelomjaa
