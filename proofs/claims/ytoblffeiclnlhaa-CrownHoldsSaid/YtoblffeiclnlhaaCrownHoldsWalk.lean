/- The walk of the law CrownHolds: whatever survives of a crown's write, it answers true, and writes nothing that was there. -/
import Derived.Test.YtoblffeiclnlhaaCHold
namespace Go.Proofs.Ytoblffeiclnlhaa
open Go.RowKit
set_option linter.unusedSimpArgs false
set_option linter.unusedVariables false
theorem hride_alloc {W x : World} (h : Below W.heap.size W x) (o : Obj) : Below W.heap.size W (x.alloc o) := h.alloc h.size o
theorem hride_drew {W x : World} (h : Below W.heap.size W x) : Below W.heap.size W x.drew := h.drew
theorem row3_lt {x : World} {g : Nat} {cs : Array Value} {t : TypeId} {z : Nat × Nat} (h : x.heap[g]? = some (.cells cs t z)) : g < x.heap.size := (Array.getElem?_eq_some_iff.1 h).1
theorem read_kept {w : World} {gs n : Nat} {b : DB} {dur : List (List Nat)} {nw : Int} {F : List Nat} (ks : List Bool) (hd : Disk w gs b (kept ks [(5, F), ((n + 2) % 2, crownSec (n + 2) ((n + 1) % 2) (n + 1))] dur) [] nw (-1)) (h : Both n dur) (hn : n ≤ 5) (hl : dur.length = 10) :
    ∃ m, (m = n ∨ m = n + 1) ∧ Calls Try.prog 13 #[.pointer (some ⟨gs, 0, none⟩)] w fun e w' => e = .returned (.tuple #[.agg #[.int .u32 ((m + 1 : Nat) : Int), .int .u8 ((m % 2 : Nat) : Int), .int .u32 (m : Int)], .int .i64 0, .int .i64 0]) ∧ Below w.heap.size w w' := by
  obtain ⟨m, hm, hb⟩ := both_kept (F := F) h (by omega) hl ks
  exact ⟨m, hm, cread_good hd (by rw [kept_length]; omega) (exoN m) hb _ (exoN_best7 (by omega))⟩
theorem read_both {w : World} {gs m : Nat} {b : DB} {dur : List (List Nat)} {nw : Int} (hd : Disk w gs b dur [] nw (-1)) (h : Both m dur) (hm : m ≤ 8) (hl : dur.length = 10) :
    Calls Try.prog 13 #[.pointer (some ⟨gs, 0, none⟩)] w fun e w' => e = .returned (.tuple #[.agg #[.int .u32 ((m + 1 : Nat) : Int), .int .u8 ((m % 2 : Nat) : Int), .int .u32 (m : Int)], .int .i64 0, .int .i64 0]) ∧ Below w.heap.size w w' :=
  cread_good hd (by omega) (exoN m) h _ (exoN_best7 hm)
theorem waiting_none {w : World} {gs : Nat} {b : DB} {dur : List (List Nat)} {nw bud : Int} (h : Disk w gs b dur [] nw bud) :
    Calls Try.prog 22 #[.pointer (some ⟨gs, 0, none⟩)] w fun e w' => ∃ g c, e = .returned (.slice (some ⟨g, 0, none⟩) 0 c) ∧ Below w.heap.size w w' :=
  (waiting_any h).mono fun e w' ⟨g, c, he, _, hb⟩ => ⟨g, c, he, hb⟩
theorem read_as {w : World} {gs m G H S : Nat} {b : DB} {dur : List (List Nat)} {nw : Int} (hd : Disk w gs b dur [] nw (-1)) (h : Both m dur) (hm : m ≤ 8) (hl : dur.length = 10) (hG : G = m + 1) (hH : H = m % 2) (hS : S = m) :
    Calls Try.prog 13 #[.pointer (some ⟨gs, 0, none⟩)] w fun e w' => e = .returned (.tuple #[.agg #[.int .u32 (G : Int), .int .u8 (H : Int), .int .u32 (S : Int)], .int .i64 0, .int .i64 0]) ∧ Below w.heap.size w w' := by
  subst hG hH hS
  exact read_both hd h hm hl
/-- The disk, and both crowns, behind both writes. -/
def HoldA (w : World) (gs GD GL gc gn g0 h0 s0 g1 h1 s1 : Nat) (dur : List (List Nat)) (p q : Nat × List Nat) (nw : Int) (v : Value) (x : World) : Prop :=
  v = .pointer (some ⟨gs, 0, none⟩) ∧ ∃ b, Disk x gs b dur [p, q] nw (-1) ∧ b.gd = GD ∧ b.gl = GL ∧ (∀ g, b.pv.ownBlock = some g → w.heap.size ≤ g ∧ g ≠ gc ∧ g ≠ gn) ∧
    x.heap[gc]? = some (.cells #[.int .u32 (g0 : Int), .int .u8 (h0 : Int), .int .u32 (s0 : Int)] 24 (0, 0)) ∧ x.heap[gn]? = some (.cells #[.int .u32 (g1 : Int), .int .u8 (h1 : Int), .int .u32 (s1 : Int)] 24 (0, 0)) ∧ Below w.heap.size w x
set_option maxRecDepth 100000 in
set_option maxHeartbeats 8000000 in
theorem holds_core (w : World) (st : Nat) (pv kv : Value) (lp : List Nat) (ks : List Bool) (hst : st < 256) (hp : Bytes w w.heap.size pv lp) (hk : Flags w kv ks) :
    Calls Try.prog 4 #[.int .u8 (st : Int), pv, kv] w fun e w' => e = .returned (.bool true) ∧ Below w.heap.size w w' := by
  obtain ⟨D, hD⟩ : ∃ D, D = List.replicate 10 noughts := ⟨_, rfl⟩
  have hDl : D.length = 10 := by rw [hD, List.length_replicate]
  have HL := Lib.hid hDl
  have HPV := Lib.hid hp
  have HKV := Lib.hid hk
  have HA := hide (awake_true w)
  have HN0 := fun x : World => hide (new_good x 10 (by omega) (by omega))
  rw [← hD] at HN0
  simp only [show ((10 : Nat) : Int) = 10 from rfl] at HN0
  obtain ⟨n, hn⟩ : ∃ n, n = st % 6 := ⟨_, rfl⟩
  have hn5 : n ≤ 5 := by omega
  have hk1 : (st : Int) % 6 = (n : Int) := by omega
  have HK := Lib.hid hk1
  clear hD hDl hn hk1 hp hk
  go_enter Try.func4, Try.ntmps4
  go_wp2_with (first
    | (go_at_call 7; (with_reducible refine (unhide HA).mono ?_); rintro e w1 ⟨rfl, hw1⟩; go_loud (
       have HN := HN0 w1))
    | (go_at_call 8; (with_reducible refine (unhide HN).mono ?_); rintro e w2 ⟨gs, b, rfl, hD2, hgs, hgd, hgl, hpv, hw2⟩; go_loud (
       have HF := hide (cformat_good hD2 (by rw [HL.out]; decide) (by decide) (by simp))))
    | (go_at_call 15; (with_reducible refine (unhide HF).mono ?_); rintro e w3 ⟨rfl, cd, cl, n2, hD3, hn2, hn3, hO3⟩)
    | (go_at_call 16; (with_reducible refine (first_any _).mono ?_); rintro e w4 ⟨rfl, hb4⟩))
  have s1 := hw1.size
  have s2 := hw2.size
  have q1 := hD3.lt
  have q2 := (World.ownsRow.lt hD3.la b.gl rfl).2
  have q3 := (World.ownsRow.lt hD3.du b.gd rfl).2
  have q4 := hb4.size
  have hb2 := hw1.trans (hw2.mono s1)
  have hb3 := hb2.trans (hO3.below (B := w.heap.size) (fun k hk => by
    rcases hk with (h | h | h | h) | h
    · omega
    · omega
    · omega
    · rw [hpv] at h; cases h
    · have := hb2.size; omega) hb2.size)
  have hb34 := hb3.trans (hb4.mono hb3.size)
  have hbx := hb34.alloc hb34.size (.cells #[.int .u32 1, .int .u8 0, .int .u32 0] 24)
  have hD4 := (hD3.below hb4).below ((Below.refl w4.heap.size w4).alloc (Nat.le_refl _) (.cells #[.int .u32 1, .int .u8 0, .int .u32 0] 24))
  have g4 := Go.heap_alloc_new w4 (.cells #[.int .u32 1, .int .u8 0, .int .u32 0] 24)
  have hlen3 : ((wiped (applied [] D) 2).set 1 (crownSec 1 0 0)).length = 10 := by rw [List.length_set, wiped_length, applied_length]; exact HL.out
  have hboth := both_first HL.out
  obtain ⟨GD, hGD⟩ : ∃ GD, GD = b.gd := ⟨_, rfl⟩
  obtain ⟨GL, hGL⟩ : ∃ GL, GL = b.gl := ⟨_, rfl⟩
  rw [← hGD] at hgd q3 hD4
  rw [← hGL] at hgl q2 hD4
  have HD4 := Lib.hid hD4
  have HG4 := Lib.hid g4
  have HBX := Lib.hid hbx
  have HLN := Lib.hid hlen3
  have HBT := Lib.hid hboth
  have hgc1 : gs < w4.heap.size := by omega
  have hgc2 : GD < w4.heap.size := by omega
  have hgc3 : GL < w4.heap.size := by omega
  have hws : w.heap.size ≤ w4.heap.size := by have := hb34.size; omega
  have hwgs : w.heap.size ≤ gs := by omega
  have hwgd : w.heap.size ≤ GD := by omega
  have hwgl : w.heap.size ≤ GL := by omega
  clear hGD hGL hD4 g4 hbx hlen3 hboth hb34 hb3 hb2 hD3 hO3 hb4 hw2 hw1 hD2 HF HN HA HN0
  go_loopw [35] (fun i wr => RotsR w n gs GD GL w4.heap.size i wr) (fun i _ => n - (intOf i).toNat)
  case atStart => exact ⟨0, cd, cl, n2, _, by omega, rfl, HD4.out, HLN.out, HBT.out, by omega, by omega, HG4.out, HBX.out⟩
  case round =>
    obtain ⟨j, cdj, clj, nwj, dur, hj, rfl, hDj, hlj, hbj, hn0, hn1, hgj, hBj⟩ := hrel
    obtain ⟨g0, hg0⟩ : ∃ g0, g0 = j + 1 := ⟨_, rfl⟩
    obtain ⟨h0, hh0⟩ : ∃ h0, h0 = j % 2 := ⟨_, rfl⟩
    obtain ⟨s0, hs0⟩ : ∃ s0, s0 = j := ⟨_, rfl⟩
    rw [← hg0, ← hh0] at hgj
    rw [show (Value.int .u32 (j : Int)) = .int .u32 (s0 : Int) by rw [hs0]] at hgj
    have hgc := (Array.getElem?_eq_some_iff.1 hgj).1
    obtain ⟨c0, c1, c2, f0, f1, f2⟩ := crown_facts hgj
    have HDj := Lib.hid hDj
    have HGj := Lib.hid hgj
    have HBj := Lib.hid hBj
    have HBB := Lib.hid hbj
    have HLj := Lib.hid hlj
    have HNx := next_any wr g0 h0 s0 (by omega) (by omega) (by omega)
    have hnh : nextHalf h0 = (j + 1) % 2 := by rw [hh0]; exact half_next j
    obtain ⟨g1, hg1⟩ : ∃ g1, g1 = g0 + 1 := ⟨_, rfl⟩
    obtain ⟨h1, hh1⟩ : ∃ h1, h1 = nextHalf h0 := ⟨_, rfl⟩
    obtain ⟨s1, hs1⟩ : ∃ s1, s1 = s0 + 1 := ⟨_, rfl⟩
    rw [← hg1, ← hh1, ← hs1] at HNx
    rw [← hh1] at hnh
    have HE := Lib.hid (show g1 = j + 2 ∧ h1 = (j + 1) % 2 ∧ s1 = j + 1 from ⟨by omega, hnh, by omega⟩)
    have HNx := hide HNx
    by_cases hlt : (j : Int) < (st : Int) % 6
    · have hjn : j < n := by have := HK.out; omega
      clear hDj hgj hBj hbj hlj hg0 hh0 hs0 hg1 hh1 hs1 hnh
      go_wp2_with (first
        | (go_at_call 17; (with_reducible refine (unhide HNx).mono ?_); rintro e w5 ⟨rfl, hb5⟩; go_loud (
           have g5 := (hb5.block _ hgc).trans HGj.out;
           obtain ⟨d0, d1, d2, e0, e1, e2⟩ := crown_facts g5;
           have hD5 := HDj.out.below hb5;
           have hD6 := disk_crown hD5 hgc1 hgc2 hgc3 rfl (.int .u32 (g1 : Int)) (.int .u8 (h1 : Int)) (.int .u32 (s1 : Int));
           have g6 := set_crown (v0 := .int .u32 (g1 : Int)) (v1 := .int .u8 (h1 : Int)) (v2 := .int .u32 (s1 : Int)) g5;
           have hbb := below_crown (g := w4.heap.size) (v0 := .int .u32 (g1 : Int)) (v1 := .int .u8 (h1 : Int)) (v2 := .int .u32 (s1 : Int)) (HBj.out.trans (hb5.mono HBj.out.size)) (by omega);
           have HW := hide (cwrite_good hD6 g1 h1 s1 (by have := HE.out; omega) (by have := HE.out; omega) (by have := HE.out; omega) (by rw [HLj.out]; decide) (by omega));
           have HG6 := Lib.hid g6;
           have HBBB := Lib.hid hbb;
           clear g5 hD5 hD6 g6 hbb hb5))
        | (go_at_call 18; (with_reducible refine (unhide HW).mono ?_); rintro e w7 ⟨rfl, cdn, cln, hD7, hO7⟩))
      have hE := HE.out
      rw [hE.1, hE.2.1, hE.2.2, show (j + 2) % 2 = j % 2 by omega] at hD7
      have hlen := HLj.out
      have hg7 := (hO7.block _ (Array.getElem?_eq_some_iff.1 HG6.out).1 (by rintro (h | h | h) <;> omega)).trans HG6.out
      have hB7 := HBBB.out.trans (hO7.below (B := w.heap.size) (fun k hk => by rcases hk with h | h | h <;> omega) HBBB.out.size)
      have hnb := both_next HBB.out (by omega) hlen
      rw [show (j + 2) % 2 = j % 2 by omega] at hnb
      rw [hE.1, hE.2.1, hE.2.2] at hg7
      go_round
      case rel => exact ⟨j + 1, cdn, cln, nwj + 1, _, by omega, rfl, hD7, by show (dur.set _ _).length = 10; rw [List.length_set]; exact hlen, hnb, by omega, by omega, hg7, hB7⟩
      case measure => simp [intOf]; omega
    · have hjn : j = n := by have := HK.out; omega
      obtain ⟨g2, hg2⟩ : ∃ g2, g2 = g1 + 1 := ⟨_, rfl⟩
      obtain ⟨h2, hh2⟩ : ∃ h2, h2 = nextHalf h1 := ⟨_, rfl⟩
      obtain ⟨s2, hs2⟩ : ∃ s2, s2 = s1 + 1 := ⟨_, rfl⟩
      have HE0 := Lib.hid (show g0 = j + 1 ∧ h0 = j % 2 ∧ s0 = j from ⟨hg0, hh0, hs0⟩)
      have HE2 := Lib.hid (show g2 = j + 3 ∧ h2 = (j + 2) % 2 ∧ s2 = j + 2 from ⟨by omega, by rw [hh2, hnh]; exact half_next (j + 1), by omega⟩)
      have HNy := fun x => next_any x g1 h1 s1 (by omega) (by omega) (by omega)
      simp only [← hg2, ← hh2, ← hs2] at HNy
      have HNy := fun x => hide (HNy x)
      obtain ⟨r, hr⟩ : ∃ r, r = g1 % 2 := ⟨_, rfl⟩
      have HR := Lib.hid (show r = (j + 2) % 2 ∧ r < 2 from ⟨by omega, by omega⟩)
      have hr1 : (g1 : Int) % 2 = (r : Int) := by omega
      have hr2 : (g1 : Int).tmod 2 = (r : Int) := by rw [Int.tmod_eq_emod_of_nonneg (by omega)]; omega
      have hr3 : IntKind.i64.wrap (r : Int) = (r : Int) := by rw [IntKind.wrap_i64]; omega
      obtain ⟨n1, hn1e⟩ : ∃ n1, n1 = nwj + 2 := ⟨_, rfl⟩
      have hn1b : 0 ≤ n1 ∧ n1 ≤ 1000 := by omega
      have HN1 := Lib.hid hn1e
      have hJ5 : j ≤ 5 := by omega
      clear hDj hgj hBj hbj hlj hg0 hh0 hs0 hg1 hh1 hs1 hnh hg2 hh2 hs2 hr hn1e
      go_wp2_with (first
        | (go_at_call 17; (with_reducible refine (unhide HNx).mono ?_); rintro e w5 ⟨rfl, hb5⟩; go_loud (
           have hbA := (hb5.alloc hb5.size (.cells #[.int .u32 (g1 : Int), .int .u8 (h1 : Int), .int .u32 (s1 : Int)] 24));
           have g5 := (hbA.block _ hgc).trans HGj.out;
           have gn5 := Go.heap_alloc_new w5 (.cells #[.int .u32 (g1 : Int), .int .u8 (h1 : Int), .int .u32 (s1 : Int)] 24);
           have hD5 := HDj.out.below hbA;
           have hB5 := HBj.out.trans (hbA.mono HBj.out.size);
           have hF5 := full_any _ pv lp (HPV.out.along hB5);
           have hgn : w4.heap.size < w5.heap.size := Nat.lt_of_lt_of_le hgc hb5.size;
           have HG5 := Lib.hid g5;
           have HN5 := Lib.hid gn5;
           have HD5 := Lib.hid hD5;
           have HB5 := Lib.hid hB5;
           have HF5 := hide hF5;
           clear hbA g5 gn5 hD5 hB5 hF5 hb5))
        | (go_at_call 10; (with_reducible refine (unhide HF5).mono ?_); rintro e w6 ⟨A6, n6, c6, rfl, hM6, hb6⟩; go_loud (
           obtain rfl : n6 = 512 := hM6.len.trans (full_length _);
           have hD6 := HD5.out.below hb6;
           have HG6 := Lib.hid ((hb6.block _ (row3_lt HG5.out)).trans HG5.out);
           have HN6 := Lib.hid ((hb6.block _ (row3_lt HN5.out)).trans HN5.out);
           have HB6 := Lib.hid (HB5.out.trans (hb6.mono HB5.out.size));
           have hw6 := write_good hD6 (by decide) (by decide) (by omega) (by simp) 5 (by rw [HLj.out]; decide) A6 c6 (full lp) hM6.bytes ⟨full_length _, full_small HPV.out.small⟩;
           rw [show ((5 : Nat) : Int) = 5 from rfl] at hw6;
           have HW6 := hide hw6;
           have HZ6 := Lib.hid hb6.size;
           clear hb6 hM6 hD6 hw6))
        | (go_at_call 12; (with_reducible refine (unhide HW6).mono ?_); rintro e w7 ⟨rfl, b7, hD7, i1, i2, i3, i4, i5, hO7⟩; go_loud (
           have hgd7 : b7.gd = GD := i1;
           have hgl7 : b7.gl = GL := i3;
           have hpv7 : ∀ g, b7.pv.ownBlock = some g → w6.heap.size ≤ g := (fun g hg => by
             rcases i5 with h | ⟨g2, h, hle⟩
             · rw [h] at hg; cases hg
             · rw [h] at hg; injection hg with hg; omega);
           have hlt6 := HZ6.out;
           have g7 := (hO7.block _ (row3_lt HG6.out) (by rintro (h | h | h); omega; (have h' : w4.heap.size = GL := h; omega); cases h)).trans HG6.out;
           have gn7 := (hO7.block _ (row3_lt HN6.out) (by rintro (h | h | h); omega; (have h' : w5.heap.size = GL := h; omega); cases h)).trans HN6.out;
           have hB7 := HB6.out.trans (hO7.below (B := w.heap.size) (fun k hk => by
             rcases hk with h | h | h
             · omega
             · have h' : k = GL := h; omega
             · cases h) HB6.out.size);
           obtain ⟨d0, d1, d2, e0, e1, e2⟩ := crown_facts gn7;
           have hD7' : Disk w7 gs b7 dur [(5, full lp)] (nwj + 1) (-1) := hD7;
           have HD7 := Lib.hid hD7';
           have HG7 := Lib.hid g7;
           have HN7 := Lib.hid gn7;
           have HB7 := Lib.hid hB7;
           have HPV7 := Lib.hid hpv7;
           have HGD7 := Lib.hid hgd7;
           have HGL7 := Lib.hid hgl7;
           have HC7 := fun x (hx : Below w7.heap.size w7 x) => Lib.hid (crown_facts ((hx.block _ (row3_lt gn7)).trans gn7));
           clear hD7' hD7 i1 i2 i3 i4 i5 hO7 hgd7 hgl7 hpv7 hlt6 g7 gn7 hB7)))
      have HS7 := Lib.hid (fun (x : World) (hx : Below w7.heap.size w7 x) => (show x.cell? ⟨w5.heap.size, 0, none⟩ = some (.int .u32 (g1 : Int)) ∧ x.cell? ⟨w5.heap.size, 1, none⟩ = some (.int .u8 (h1 : Int)) ∧ x.cell? ⟨w5.heap.size, 2, none⟩ = some (.int .u32 (s1 : Int)) from ⟨(HC7 x hx).out.1, (HC7 x hx).out.2.1, (HC7 x hx).out.2.2.1⟩))
      go_cut [7] (fun v x => HoldA w gs GD GL w4.heap.size w5.heap.size g0 h0 s0 g1 h1 s1 dur (5, full lp) (r, crownSec g1 h1 s1) (nwj + 2) v x)
      case first =>
        go_region_held3 (fun x => x.cell? ⟨w5.heap.size, 0, none⟩ = some (.int .u32 (g1 : Int)) ∧ x.cell? ⟨w5.heap.size, 1, none⟩ = some (.int .u8 (h1 : Int)) ∧ x.cell? ⟨w5.heap.size, 2, none⟩ = some (.int .u32 (s1 : Int)))
          ((first | assumption | (refine HS7.out _ ?_; repeat (with_reducible (first | exact Below.refl _ _ | assumption | refine hride_drew ?_)))))
          (first
            | (go_at_call 9; (with_reducible refine (rcBytes_any _ g1 h1 s1 (by have := HE.out; omega) (by have := HE.out; omega) (by have := HE.out; omega)).mono ?_); rintro e w8 ⟨A8, c8, rfl, hM8, hb8⟩; go_loud (
                 have hb8' : Below w7.heap.size w7 w8 := below_on (Below.refl _ _).drew hb8;
                 have HW8 := hide (write_good (HD7.out.below hb8') (by decide) (by decide) (by omega) (by simp) r (by rw [HLj.out]; have := HR.out; omega) A8 c8 (crownSec g1 h1 s1) hM8.bytes (crownSec_sec (by have := HE.out; omega)));
                 have HB8 := Lib.hid (HB7.out.trans (hb8'.mono HB7.out.size));
                 have HG8 := Lib.hid ((hb8'.block _ (row3_lt HG7.out)).trans HG7.out);
                 have HN8 := Lib.hid ((hb8'.block _ (row3_lt HN7.out)).trans HN7.out);
                 have hs78 := hb8'.size))
            | (go_at_call 12; (with_reducible refine (unhide HW8).mono ?_); rintro e w9 ⟨rfl, b9, hD9, i1, i2, i3, i4, i5, hO9⟩; go_loud (
                 have hgd9 : b9.gd = GD := i1.trans HGD7.out;
                 have hgl9 : b9.gl = GL := i3.trans HGL7.out;
                 have hlt6 := HZ6.out;
                 have hs6 := HB6.out.size;
                 have hpv7 := HPV7.out;
                 have hw56 := row3_lt HN6.out;
                 have hpv9 : ∀ g, b9.pv.ownBlock = some g → w.heap.size ≤ g ∧ g ≠ w4.heap.size ∧ g ≠ w5.heap.size := (fun g hg => by
                   rcases i5 with h | ⟨g2, h, hle⟩
                   · rw [h] at hg; have := hpv7 g hg; omega
                   · rw [h] at hg; injection hg with hg; have hn7 := row3_lt HN7.out; omega);
                 have hno : ∀ k, (k = gs ∨ k = b7.gl ∨ some k = b7.pv.ownBlock) → w.heap.size ≤ k ∧ k ≠ w4.heap.size ∧ k ≠ w5.heap.size := (fun k hk => by
                   rcases hk with h | h | h
                   · omega
                   · rw [HGL7.out] at h; omega
                   · have := hpv7 k h.symm; omega);
                 have g9 := (hO9.block _ (row3_lt HG8.out) (fun h => (hno _ h).2.1 rfl)).trans HG8.out;
                 have gn9 := (hO9.block _ (row3_lt HN8.out) (fun h => (hno _ h).2.2 rfl)).trans HN8.out;
                 have hB9 := HB8.out.trans (hO9.below (B := w.heap.size) (fun k hk => (hno k hk).1) HB8.out.size);
                 have hD9' : Disk w9 gs b9 dur [(5, full lp), (r, crownSec g1 h1 s1)] (nwj + 2) (-1) := (by rw [show nwj + 2 = nwj + 1 + 1 by omega]; exact hD9);
                 have HOLD := Lib.hid (show HoldA w gs GD GL w4.heap.size w5.heap.size g0 h0 s0 g1 h1 s1 dur (5, full lp) (r, crownSec g1 h1 s1) (nwj + 2) (.pointer (some ⟨gs, 0, none⟩)) w9 from ⟨rfl, b9, hD9', hgd9, hgl9, hpv9, g9, gn9, hB9⟩);
                 have hS9 : w9.cell? ⟨w5.heap.size, 0, none⟩ = some (.int .u32 (g1 : Int)) ∧ w9.cell? ⟨w5.heap.size, 1, none⟩ = some (.int .u8 (h1 : Int)) ∧ w9.cell? ⟨w5.heap.size, 2, none⟩ = some (.int .u32 (s1 : Int)) := ⟨(crown_facts gn9).1, (crown_facts gn9).2.1, (crown_facts gn9).2.2.1⟩;
                 clear hD9' hD9 hgd9 hgl9 hpv9 g9 gn9 hB9 hno hO9 i1 i2 i3 i4 i5)))
        all_goals go_wp2_with fail
        all_goals go_meet
        all_goals exact HOLD.out
      case rest =>
        obtain ⟨rfl, b9, hD9, hgd9, hgl9, hpv9, g9, gn9, hB9⟩ := hcut
        clear HS7 HC7 HPV7 HGD7 HGL7 HB7 HN7 HG7 HD7 HW6 HF5 d0 d1 d2 e0 e1 e2
        have hE := HE.out
        have hE0 := HE0.out
        have hRR := HR.out
        have hcr := crash_any hD9 kv ks (HKV.out.along hB9)
        rw [hRR.1, hE.1, hE.2.1, hE.2.2] at hcr
        have HCr := hide hcr
        have HD9 := Lib.hid hD9
        have HG9 := Lib.hid g9
        have HN9 := Lib.hid gn9
        have HB9 := Lib.hid hB9
        have HPV9 := Lib.hid hpv9
        have HGD9 := Lib.hid hgd9
        have HGL9 := Lib.hid hgl9
        have HLE := Lib.hid HLj.out
        clear hcr hD9 g9 gn9 hB9 hpv9 hgd9 hgl9 hE hE0 hRR
        go_wp2_with (first
          | (go_at_call 19; (with_reducible refine (unhide HCr).mono ?_); rintro e w10 ⟨gs2, b10, rfl, hD10, hgs10, hgd10, hgl10, hpv10, hb10⟩))
        have hrd : ∃ G H S : Nat, ((G = g0 ∧ H = h0 ∧ S = s0) ∨ (G = g1 ∧ H = h1 ∧ S = s1)) ∧ Calls Try.prog 13 #[.pointer (some ⟨gs2, 0, none⟩)] w10 fun e w' => e = .returned (.tuple #[.agg #[.int .u32 (G : Int), .int .u8 (H : Int), .int .u32 (S : Int)], .int .i64 0, .int .i64 0]) ∧ Below w10.heap.size w10 w' := by
          obtain ⟨m, hm, hrd⟩ := read_kept ks hD10 HBB.out hJ5 HLj.out
          refine ⟨m + 1, m % 2, m, ?_, hrd⟩
          have hE := HE.out
          have hE0 := HE0.out
          rcases hm with h | h
          · exact Or.inl ⟨by omega, by rw [h]; exact hE0.2.1.symm, by omega⟩
          · exact Or.inr ⟨by omega, by rw [h]; exact hE.2.1.symm, by omega⟩
        obtain ⟨G, H, S, hcs, hrd⟩ := hrd
        have HRD := hide hrd
        have HB10 := Lib.hid hb10
        have hne : ¬ (g1 : Int) = (g0 : Int) := by have := HE.out; have := HE0.out; omega
        have hne2 : ((g1 : Int) == (g0 : Int)) = false := by rw [beq_eq_false_iff_ne]; exact hne
        clear hrd hD10 hgs10 hgd10 hgl10 hpv10 hb10
        obtain ⟨E, hE12⟩ : ∃ E, E = applied [(5, full lp), (r, crownSec g1 h1 s1)] dur := ⟨_, rfl⟩
        have hEl : E.length = 10 := by rw [hE12, applied_length]; exact HLj.out
        have hEb : Both (j + 1) E := by
          have hE := HE.out
          have h := both_next7 (both_far (F := full lp) HBB.out (show 2 ≤ 5 by decide)) (show j ≤ 100 by omega) (by rw [List.length_set]; exact HLj.out)
          rw [← HR.out.1, ← hE.1, ← hE.2.1, ← hE.2.2] at h
          rw [hE12, hE.2.2]
          rw [hE.2.2] at h
          exact h
        obtain ⟨E2, hE2⟩ : ∃ E2, E2 = (applied [(5, full lp)] E).set (g2 % 2) (crownSec g2 h2 s2) := ⟨_, rfl⟩
        have hE2l : E2.length = 10 := by rw [hE2, List.length_set, applied_length]; exact hEl
        have hE2b : Both (j + 2) E2 := by
          have hE := HE2.out
          have h := both_next7 (both_far (F := full lp) hEb (show 2 ≤ 5 by decide)) (show j + 1 ≤ 100 by omega) (by rw [List.length_set]; exact hEl)
          rw [hE2, hE.1, hE.2.1, hE.2.2]
          exact h
        have hE25 : E2[5]? = some (full lp) := by
          rw [hE2, List.getElem?_set_ne (by omega)]
          show (E.set 5 (full lp))[5]? = _
          rw [List.getElem?_set_self (by omega)]
        have HE12 := Lib.hid hE12
        have HEL := Lib.hid hEl
        have HE2E := Lib.hid hE2
        have HE2L := Lib.hid hE2l
        have HE2B := Lib.hid hE2b
        have HE25 := Lib.hid hE25
        obtain ⟨hn10, hn11⟩ := hn1b
        have hgnw : w.heap.size ≤ w5.heap.size := by omega
        clear hE12 hEl hEb hE2 hE2l hE2b hE25
        rcases hcs with ⟨eG, eH, eS⟩ | ⟨eG, eH, eS⟩
        all_goals
          replace eG := eG.symm
          replace eH := eH.symm
          replace eS := eS.symm
          subst eG eH eS
        all_goals go_wp2_with (first
          | (go_at_call 13; (with_reducible refine (unhide HRD).mono ?_); rintro e w11 ⟨rfl, hb11⟩; go_loud (
               have hbo := fun o => hride_alloc (HB10.out.trans (hb11.mono HB10.out.size)) o;
               have HGo := fun o => Lib.hid (((hbo o).block _ (row3_lt HG9.out)).trans HG9.out);
               have HNo := fun o => Lib.hid (((hbo o).block _ (row3_lt HN9.out)).trans HN9.out);
               have x0 := fun o => (crown_facts (HGo o).out).1;
               have x1 := fun o => (crown_facts (HGo o).out).2.1;
               have x2 := fun o => (crown_facts (HGo o).out).2.2.1;
               have y0 := fun o => (crown_facts (HNo o).out).1;
               have y1 := fun o => (crown_facts (HNo o).out).2.1;
               have y2 := fun o => (crown_facts (HNo o).out).2.2.1;
               have HBo := fun o => Lib.hid (HB9.out.trans ((hbo o).mono HB9.out.size));
               have HSY := fun o => hide (sync_good (HD9.out.below (hbo o)) (by decide) (by decide));
               clear hbo hb11))
          | (go_at_call 20; (with_reducible refine (unhide (HSY _)).mono ?_); rintro e w12 ⟨rfl, hD12, hO12⟩; go_loud (
               have hno : ∀ k, (k = gs ∨ k = b9.gd ∨ k = b9.gl) → w.heap.size ≤ k ∧ k ≠ w5.heap.size := (fun k hk => by
                 rw [HGD9.out, HGL9.out] at hk
                 rcases hk with h | h | h <;> omega);
               have gn12 := (hO12.block _ (row3_lt (HNo _).out) (fun h => (hno _ h).2 rfl)).trans (HNo _).out;
               have hB12 := (HBo _).out.trans (hO12.below (B := w.heap.size) (fun k hk => (hno k hk).1) (HBo _).out.size);
               have hD12' : Disk w12 gs ⟨GD, b9.cd, GL, b9.cl, .slice none 0 0⟩ E [] n1 (-1) := (by rw [← HGD9.out, ← HGL9.out, HE12.out, HN1.out]; exact hD12);
               have HWr := hide (writes_any hD12');
               have HF12 := hide (full_any w12 pv lp (HPV.out.along hB12));
               have HD12 := Lib.hid hD12';
               have HN12 := Lib.hid gn12;
               have HB12 := Lib.hid hB12;
               clear hno gn12 hB12 hD12' hD12 hO12 x0 x1 x2 y0 y1 y2))
          | (go_at_call 21; (first | (with_reducible refine (unhide HWr).mono ?_) | (with_reducible refine (unhide HWr2).mono ?_)); rintro e w' ⟨rfl, rfl⟩)
          | (go_at_call 10; (with_reducible refine (unhide HF12).mono ?_); rintro e w13 ⟨A13, n13, c13, rfl, hM13, hb13⟩; go_loud (
               obtain rfl : n13 = 512 := hM13.len.trans (full_length _);
               have hD13 := HD12.out.below hb13;
               have HN13 := Lib.hid ((hb13.block _ (row3_lt HN12.out)).trans HN12.out);
               have HB13 := Lib.hid (HB12.out.trans (hb13.mono HB12.out.size));
               have hw13 := write_good hD13 (by decide) (by decide) (by omega) (by simp) 5 (by rw [HEL.out]; decide) A13 c13 (full lp) hM13.bytes ⟨full_length _, full_small HPV.out.small⟩;
               rw [show ((5 : Nat) : Int) = 5 from rfl] at hw13;
               have HW13 := hide hw13;
               clear hb13 hM13 hD13 hw13))
          | (go_at_call 12; (with_reducible refine (unhide HW13).mono ?_); rintro e w14 ⟨rfl, b14, hD14, i1, i2, i3, i4, i5, hO14⟩; go_loud (
               have hno : ∀ k, (k = gs ∨ k = GL ∨ some k = (none : Option Nat)) → w.heap.size ≤ k ∧ k ≠ w5.heap.size := (fun k hk => by rcases hk with h | h | h; omega; omega; cases h);
               have gn14 := (hO14.block _ (row3_lt HN13.out) (fun h => (hno _ h).2 rfl)).trans HN13.out;
               have hB14 := HB13.out.trans (hO14.below (B := w.heap.size) (fun k hk => (hno k hk).1) HB13.out.size);
               have hD14' : Disk w14 gs b14 E [(5, full lp)] (n1 + 1) (-1) := hD14;
               obtain ⟨y0, y1, y2, -, -, -⟩ := crown_facts gn14;
               have HGD14 : Hid (b14.gd = GD) := Lib.hid i1;
               have HGL14 : Hid (b14.gl = GL) := Lib.hid i3;
               have HD14 := Lib.hid hD14';
               have HN14 := Lib.hid gn14;
               have HB14 := Lib.hid hB14;
               clear hno gn14 hB14 hD14' hD14 hO14 i1 i2 i3 i4 i5))
          | (go_at_call 17; (with_reducible refine (unhide (HNy _)).mono ?_); rintro e w15 ⟨rfl, hb15⟩; go_loud (
               have hcw := cwrite_good (HD14.out.below hb15) g2 h2 s2 (by have := HE2.out; omega) (by have := HE2.out; omega) (by have := HE2.out; omega) (by rw [HEL.out]; decide) (by omega);
               rw [← HE2E.out, HGD14.out, HGL14.out] at hcw;
               have HCW := hide hcw;
               have HN15 := Lib.hid ((hb15.block _ (row3_lt HN14.out)).trans HN14.out);
               have HB15 := Lib.hid (HB14.out.trans (hb15.mono HB14.out.size));
               clear hcw hb15))
          | (go_at_call 18; (with_reducible refine (unhide HCW).mono ?_); rintro e w16 ⟨rfl, cd16, cl16, hD16, hO16⟩; go_loud (
               have hno : ∀ k, (k = gs ∨ k = GD ∨ k = GL) → w.heap.size ≤ k ∧ k ≠ w5.heap.size := (fun k hk => by rcases hk with h | h | h <;> omega);
               have gn16 := (hO16.block _ (row3_lt HN15.out) (fun h => (hno _ h).2 rfl)).trans HN15.out;
               have hB16 := HB15.out.trans (hO16.below (B := w.heap.size) (fun k hk => (hno k hk).1) HB15.out.size);
               have hD16' : Disk w16 gs ⟨GD, cd16, GL, cl16, .slice none 0 0⟩ E2 [] (n1 + 2) (-1) := (by rw [show n1 + 2 = n1 + 1 + 1 by omega]; exact hD16);
               have HWr2 := hide (writes_any hD16');
               have HWt := hide (waiting_none hD16');
               have HD16 := Lib.hid hD16';
               have HN16 := Lib.hid gn16;
               have HB16 := Lib.hid hB16;
               clear hno gn16 hB16 hD16' hD16 hO16 y0 y1 y2))
          | (go_at_call 22; (with_reducible refine (unhide HWt).mono ?_); rintro e w17 ⟨g17, c17, rfl, hb17⟩; go_loud (
               have HCr2 := hide (crash_any (HD16.out.below hb17) (.slice none 0 0) [] (flags_none _));
               have HN17 := Lib.hid ((hb17.block _ (row3_lt HN16.out)).trans HN16.out);
               have HB17 := Lib.hid (HB16.out.trans (hb17.mono HB16.out.size));
               clear hb17))
          | (go_at_call 19; (with_reducible refine (unhide HCr2).mono ?_); rintro e w18 ⟨gs3, b18, rfl, hD18, -, -, -, -, hb18⟩; go_loud (
               have hD18' : Disk w18 gs3 b18 E2 [] 0 (-1) := hD18;
               have HRD2 := hide (read_as (m := j + 2) (G := g2) hD18' HE2B.out (by omega) HE2L.out (by have := HE2.out; omega) HE2.out.2.1 HE2.out.2.2);
               have HD18 := Lib.hid hD18';
               have HN18 := Lib.hid ((hb18.block _ (row3_lt HN17.out)).trans HN17.out);
               have HB18 := Lib.hid (HB17.out.trans (hb18.mono HB17.out.size));
               clear hD18 hD18' hb18))
          | (go_at_call 13; (with_reducible refine (unhide HRD2).mono ?_); rintro e w19 ⟨rfl, hb19⟩; go_loud (
               have hbo := fun o => hride_alloc hb19 o;
               have hrq := fun o => read_any (HD18.out.below (hbo o)) 5 (by rw [HE2L.out]; decide) (full lp) HE25.out;
               simp only [show ((5 : Nat) : Int) = 5 from rfl] at hrq;
               have HRQ := fun o => hide (hrq o);
               have HNq := fun o => Lib.hid (((hbo o).block _ (row3_lt HN18.out)).trans HN18.out);
               have HMq := fun (cs : Array Value) => Lib.hid (Go.heap_alloc_new w19 (.cells cs 24));
               have HBq := fun o => Lib.hid (HB18.out.trans ((hbo o).mono HB18.out.size));
               clear hbo hrq hb19))
          | (go_at_call 23; (with_reducible refine (unhide (HRQ _)).mono ?_); rintro e w21 ⟨g21, rfl, hM21, hb21⟩; go_loud (
               have HN21 := Lib.hid ((hb21.block _ (row3_lt (HNq _).out)).trans (HNq _).out);
               have HM21 := Lib.hid ((hb21.block _ (row3_lt (HMq _).out)).trans (HMq _).out);
               have HB21 := Lib.hid ((HBq _).out.trans (hb21.mono (HBq _).out.size));
               have HP21 := Lib.hid hM21.bytes;
               clear hb21 hM21)))
        all_goals
          have HS21 := Lib.hid (fun (x : World) (hx : Below w21.heap.size w21 x) => (show (x.cell? ⟨w5.heap.size, 0, none⟩ = some (.int .u32 (g1 : Int)) ∧ x.cell? ⟨w5.heap.size, 1, none⟩ = some (.int .u8 (h1 : Int)) ∧ x.cell? ⟨w5.heap.size, 2, none⟩ = some (.int .u32 (s1 : Int))) ∧
              x.cell? ⟨w19.heap.size, 0, none⟩ = some (.int .u32 (g2 : Int)) ∧ x.cell? ⟨w19.heap.size, 1, none⟩ = some (.int .u8 (h2 : Int)) ∧ x.cell? ⟨w19.heap.size, 2, none⟩ = some (.int .u32 (s2 : Int)) from
            have a := crown_facts ((hx.block _ (row3_lt HN21.out)).trans HN21.out)
            have c := crown_facts ((hx.block _ (row3_lt HM21.out)).trans HM21.out)
            ⟨⟨a.1, a.2.1, a.2.2.1⟩, c.1, c.2.1, c.2.2.1⟩))
          go_region_held3 (fun x => (x.cell? ⟨w5.heap.size, 0, none⟩ = some (.int .u32 (g1 : Int)) ∧ x.cell? ⟨w5.heap.size, 1, none⟩ = some (.int .u8 (h1 : Int)) ∧ x.cell? ⟨w5.heap.size, 2, none⟩ = some (.int .u32 (s1 : Int))) ∧
              x.cell? ⟨w19.heap.size, 0, none⟩ = some (.int .u32 (g2 : Int)) ∧ x.cell? ⟨w19.heap.size, 1, none⟩ = some (.int .u8 (h2 : Int)) ∧ x.cell? ⟨w19.heap.size, 2, none⟩ = some (.int .u32 (s2 : Int)))
            ((refine HS21.out _ ?_; repeat (with_reducible (first | exact Below.refl _ _ | assumption | refine hride_drew ?_ | refine below_drewN ?_ _ | refine ride_call (by assumption) ?_))))
            (first
              | (go_at_call 17; (with_reducible refine (unhide (HNy _)).mono ?_); rintro e w22 ⟨rfl, hb22⟩)
              | (go_at_call 10; (with_reducible refine (full_any _ pv lp (HPV.out.along (HB21.out.trans (Below.mono (by repeat (with_reducible (first | exact Below.refl _ _ | assumption | refine hride_drew ?_ | refine ride_call (by assumption) ?_))) HB21.out.size)))).mono ?_); rintro e w23 ⟨A23, n23, c23, rfl, hM23, hb23⟩)
              | (go_at_call 24; (with_reducible refine (same_yes _ _ _ (full lp) (HP21.out.along (by repeat (with_reducible (first | exact Below.refl _ _ | assumption | refine hride_drew ?_ | refine ride_call (by assumption) ?_)))) (by repeat (with_reducible (first | exact hM23.bytes | refine go_drew ?_)))).mono ?_); rintro e w24 ⟨rfl, nq, rfl⟩))
          all_goals
            have hb24 : Below w.heap.size w (w23.drewN nq) := HB21.out.trans (Below.mono (by repeat (with_reducible (first | exact Below.refl _ _ | assumption | refine hride_drew ?_ | refine below_drewN ?_ _ | refine ride_call (by assumption) ?_))) HB21.out.size)
            go_wp2_with fail
            go_ret
            exact ⟨rfl, hb24⟩
theorem crownHolds_walk (a0 : Int) (v1 v2 : Value) (lp : List Nat) (ks : List Bool) (w0 : (Lit.int .u8 a0).wf = true) (w : World) (hp : Bytes w w.heap.size v1 lp) (hk : Flags w v2 ks) :
    Calls Try.prog 4 #[.int .u8 a0, v1, v2] w fun e w' => e = .returned (.bool true) ∧ Below w.heap.size w w' := by
  have b0 := bounds_u8 w0
  obtain ⟨m0, rfl⟩ := Int.eq_ofNat_of_zero_le b0.1
  exact holds_core w m0 v1 v2 lp ks (by omega) hp hk
end Go.Proofs.Ytoblffeiclnlhaa
