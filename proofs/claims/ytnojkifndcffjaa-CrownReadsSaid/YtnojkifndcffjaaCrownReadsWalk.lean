/- The walk of the law CrownReads: of any two sectors crown.Read and the reference's Read answer the same. -/
import Derived.Test.YtnojkifndcffjaaCHold
import Derived.Test.YtnojkifndcffjaaCRefRead
import Derived.Test.YtnojkifndcffjaaCReadAll
import Derived.Test.YtnojkifndcffjaaDApart
import Derived.Deep.CutBlock
namespace Go.Proofs.Ytnojkifndcffjaa
open Go.RowKit
set_option linter.unusedSimpArgs false
set_option linter.unusedVariables false
def pnd (F : Nat → List Nat) (i : Nat) : List (Nat × List Nat) := (List.range i).map fun j => (j, F j)
def rowV (A : Nat → Option Addr) (c : Nat → Nat) (i j : Nat) : Value := if j < i then .slice (A j) 512 (c j) else .slice none 0 0
def RdsR (W W2 : World) (gs : Nat) (cs : Array Value) (t : Value) (x : World) : Prop :=
  ∃ (i : Nat) (b : DB) (F : Nat → List Nat) (A : Nat → Option Addr) (c : Nat → Nat), i ≤ 2 ∧ t = .int .i64 (i : Int) ∧ Disk x gs b (List.replicate 6 noughts) (pnd F i) (i : Int) (-1) ∧ W.heap.size ≤ b.gl ∧ (∀ g, b.pv.ownBlock = some g → W.heap.size ≤ g) ∧
    (∀ j, j < i → IsSec (F j) ∧ Mine x W.heap.size (A j) 512 (c j) (F j)) ∧
    x.heap[W2.heap.size]? = some (.cells #[rowV A c i 0, rowV A c i 1] 32 (0, 0)) ∧ x.heap[W2.heap.size + 1]? = some (.cells cs 24 (0, 0)) ∧ Below W.heap.size W x
/-- No block of a disk has another type's cells. -/
theorem Disk.not_type {w : World} {gs g : Nat} {b : DB} {dur : List (List Nat)} {pend : List (Nat × List Nat)} {wr bud : Int} {cur : Array Value} {t : TypeId} (h : Disk w gs b dur pend wr bud) (hg : w.heap[g]? = some (.cells cur t (0, 0))) (n1 : t ≠ 75) (n2 : t ≠ 70) (n3 : t ≠ 3) (n4 : t ≠ 72) : g ≠ gs ∧ g ≠ b.gd ∧ g ≠ b.gl ∧ some g ≠ b.pv.ownBlock := by
  refine ⟨fun e => ?_, fun e => ?_, fun e => ?_, fun e => ?_⟩
  · have h1 := h.st
    rw [← e, hg] at h1
    injection h1 with h1
    injection h1 with _ h2
    exact n1 h2
  · obtain ⟨c2, h1⟩ := row_of h.du
    rw [← e, hg] at h1
    injection h1 with h1
    injection h1 with _ h2
    exact n2 h2
  · obtain ⟨c2, h1⟩ := row_of h.la
    rw [← e, hg] at h1
    injection h1 with h1
    injection h1 with _ h2
    exact n3 h2
  · rcases h.pe.2 with ⟨h1, _⟩ | ⟨g2, cap, c2, h1, _, h2, _⟩
    · rw [h1] at e; cases e
    · rw [h1] at e
      have e2 : g = g2 := by simpa [Value.ownBlock] using e
      rw [← e2, hg] at h2
      injection h2 with h2
      injection h2 with _ h3
      exact n4 h3
theorem mine_made (w : World) : Mine (w.alloc (.cells (byt noughts).toArray 5)) w.heap.size (some ⟨w.heap.size, 0, none⟩) 512 512 noughts :=
  ⟨⟨by rw [byt_length, noughts_length], .inr ⟨_, 512, _, rfl, Nat.le_refl _, Go.heap_alloc_new w _, by omega, by unfold maxLen; omega, by simp [byt_length, noughts_length], by
    rw [show 512 * 1 = (byt noughts).length by rw [byt_length, noughts_length]]
    exact List.take_length⟩⟩, noughts_length.symm, noughts_small⟩
theorem mine_row {w w' : World} {base m c g : Nat} {A : Option Addr} {l : List Nat} {cs : Array Value} {t : TypeId} (h : Mine w base A m c l) (hg : w.heap[g]? = some (.cells cs t (0, 0))) (ht : (5 : TypeId) ≠ t) (hk : ∀ k, k < w.heap.size → k ≠ g → w'.heap[k]? = w.heap[k]?) : Mine w' base A m c l :=
  ⟨row_kept h.own hg ht hk, h.len, h.small⟩
theorem noughts_sec : IsSec noughts := ⟨noughts_length, noughts_small⟩
theorem less_neg : less (-1) = -1 := rfl
theorem pnd_snoc (F : Nat → List Nat) (i : Nat) (f : List Nat) : pnd (fun j => if j = i then f else F j) (i + 1) = pnd F i ++ [(i, f)] := by
  unfold pnd
  rw [List.range_succ, List.map_append]
  congr 1
  · refine List.map_congr_left fun j hj => ?_
    have := List.mem_range.1 hj
    show (j, if j = i then f else F j) = _
    rw [if_neg (by omega)]
  · simp
theorem pnd_at (F : Nat → List Nat) : (applied (pnd F 2) (List.replicate 6 noughts))[0]? = some (F 0) ∧ (applied (pnd F 2) (List.replicate 6 noughts))[1]? = some (F 1) := ⟨rfl, rfl⟩
/-- The sector stored into the law's own row: the disk stays. -/
theorem rds_store {wr wc : World} {gs g i : Nat} {br : DB} {dur : List (List Nat)} {pend : List (Nat × List Nat)} {nw bud : Int} {cs : Array Value} (v : Value) (hD : Disk wr gs br dur pend nw bud) (hb : Below wr.heap.size wr wc) (hg : wr.heap[g]? = some (.cells cs 32 (0, 0))) :
    Disk (wc.setCell ⟨g, i, none⟩ v) gs br dur pend nw bud := by
  obtain ⟨n1, n2, n3, n4⟩ := hD.not_type hg (by decide) (by decide) (by decide) (by decide)
  exact (hD.below hb).only (OnlyAt.setCell wc g i v) (fun e => n1 e.symm) (fun e => n2 e.symm) (fun e => n3 e.symm) (fun k hk e => n4 (by rw [hk, e]))
theorem row_set {A : Nat → Option Addr} {c : Nat → Nat} {i : Nat} (hi : i < 2) (A6 : Option Addr) (c6 : Nat) : (#[rowV A c i 0, rowV A c i 1] : Array Value).setIfInBounds i (.slice A6 512 c6) = #[rowV (fun j => if j = i then A6 else A j) (fun j => if j = i then c6 else c j) (i + 1) 0, rowV (fun j => if j = i then A6 else A j) (fun j => if j = i then c6 else c j) (i + 1) 1] := by
  rcases (show i = 0 ∨ i = 1 by omega) with rfl | rfl <;> rfl
theorem rds_step {W W2 wr wc w7 : World} {gs i c6 : Nat} {A6 : Option Addr} {F6 : List Nat} {br b2 : DB} {F : Nat → List Nat} {V : Nat → Option Addr} {cc : Nat → Nat} {CS : Array Value} (hi : i < 2) (hgs : W.heap.size ≤ gs) (hws : W.heap.size ≤ W2.heap.size)
    (hD : Disk wr gs br (List.replicate 6 noughts) (pnd F i) (i : Int) (-1)) (hgl : W.heap.size ≤ br.gl) (hpv : ∀ g, br.pv.ownBlock = some g → W.heap.size ≤ g)
    (hF : ∀ j, j < i → IsSec (F j) ∧ Mine wr W.heap.size (V j) 512 (cc j) (F j)) (hga : wr.heap[W2.heap.size]? = some (.cells #[rowV V cc i 0, rowV V cc i 1] 32 (0, 0))) (hgc : wr.heap[W2.heap.size + 1]? = some (.cells CS 24 (0, 0))) (hB : Below W.heap.size W wr)
    (hS6 : IsSec F6) (hM6 : Mine wc wr.heap.size A6 512 c6 F6) (hb6 : Below wr.heap.size wr wc)
    (hD7 : Disk w7 gs b2 (List.replicate 6 noughts) (pnd F i ++ [(i, F6)]) ((i : Int) + 1) (less (-1))) (h3 : b2.gl = br.gl) (h5 : b2.pv.ownBlock = br.pv.ownBlock ∨ ∃ g, b2.pv.ownBlock = some g ∧ (wc.setCell ⟨W2.heap.size, i, none⟩ (.slice A6 512 c6)).heap.size ≤ g)
    (hO : OnlyAt (wc.setCell ⟨W2.heap.size, i, none⟩ (.slice A6 512 c6)) w7 (fun k => k = gs ∨ k = br.gl ∨ some k = br.pv.ownBlock)) :
    RdsR W W2 gs CS (.int .i64 ((i : Int) + 1)) w7 := by
  have lga := lt_heap hga
  have lgc := lt_heap hgc
  have gac := (hb6.block _ lga).trans hga
  have gcc := (hb6.block _ lgc).trans hgc
  have hX : Disk (wc.setCell ⟨W2.heap.size, i, none⟩ (.slice A6 512 c6)) gs br (List.replicate 6 noughts) (pnd F i) (i : Int) (-1) := rds_store _ hD hb6 hga
  have gaX := heap_setCell_same wc W2.heap.size i _ _ (.slice A6 512 c6) gac
  rw [row_set hi] at gaX
  have gcX : (wc.setCell ⟨W2.heap.size, i, none⟩ (.slice A6 512 c6)).heap[W2.heap.size + 1]? = some (.cells CS 24 (0, 0)) := by
    rw [heap_setCell_other _ ⟨W2.heap.size, i, none⟩ _ _ (by simp)]; exact gcc
  have hk := setCell_others wc W2.heap.size i (.slice A6 512 c6)
  have hsz : (wc.setCell ⟨W2.heap.size, i, none⟩ (.slice A6 512 c6)).heap.size = wc.heap.size := by simp [World.setCell]
  have hwr := hB.size
  have hwc := hb6.size
  have hBX : Below W.heap.size W (wc.setCell ⟨W2.heap.size, i, none⟩ (.slice A6 512 c6)) := (hB.trans (hb6.mono hwr)).setCell (p := ⟨W2.heap.size, i, none⟩) hws _
  generalize wc.setCell ⟨W2.heap.size, i, none⟩ (.slice A6 512 c6) = X at hX gaX gcX hk hsz hBX hO h5
  obtain ⟨n1, n2, n3, n4⟩ := hX.not_type gaX (by decide) (by decide) (by decide) (by decide)
  obtain ⟨m1, m2, m3, m4⟩ := hX.not_type gcX (by decide) (by decide) (by decide) (by decide)
  refine ⟨i + 1, b2, (fun j => if j = i then F6 else F j), (fun j => if j = i then A6 else V j), (fun j => if j = i then c6 else cc j), by omega, by go_num, ?_, by rw [h3]; exact hgl, ?_, ?_, ?_, ?_, ?_⟩
  · rw [pnd_snoc, show ((i + 1 : Nat) : Int) = (i : Int) + 1 by omega]
    exact hD7
  · intro g hg
    rcases h5 with h | ⟨g', h, h'⟩
    · rw [h] at hg; exact hpv g hg
    · rw [h] at hg
      injection hg with hg
      omega
  · intro j hj
    have hq : ∀ k, (k = gs ∨ k = br.gl ∨ some k = br.pv.ownBlock) → k = gs ∨ k = br.gd ∨ k = br.gl ∨ some k = br.pv.ownBlock := by
      rintro k (h | h | h)
      · exact .inl h
      · exact .inr (.inr (.inl h))
      · exact .inr (.inr (.inr h))
    by_cases hji : j = i
    · simp only [if_pos hji]
      exact ⟨hS6, (mine_row (hM6.lower hwr) gac (by decide) hk).disk hX hO hq⟩
    · simp only [if_neg hji]
      obtain ⟨f1, f2⟩ := hF j (by omega)
      exact ⟨f1, (mine_row (f2.below hb6) gac (by decide) hk).disk hX hO hq⟩
  · rw [hO.block _ (lt_heap gaX) (by rintro (h | h | h); exact n1 h; exact n3 h; exact n4 h)]
    exact gaX
  · rw [hO.block _ (lt_heap gcX) (by rintro (h | h | h); exact m1 h; exact m3 h; exact m4 h)]
    exact gcX
  · exact hBX.trans (hO.below (B := W.heap.size) (fun k hk => by
      rcases hk with h | h | h
      · omega
      · omega
      · exact hpv k h.symm) hBX.size)
theorem cbit_set {mask k : Nat} (h : mask / 2 ^ k % 2 = 1) : (((mask : Int) / 2 ^ k).tmod 2 == 1) = true := by
  have e : (mask : Int) / 2 ^ k = ((mask / 2 ^ k : Nat) : Int) := by simp
  rw [e]
  generalize mask / 2 ^ k = t at h
  rw [Int.tmod_eq_emod_of_nonneg (by omega)]
  simp
  omega
theorem cbit_unset {mask k : Nat} (h : ¬ mask / 2 ^ k % 2 = 1) : (((mask : Int) / 2 ^ k).tmod 2 == 1) = false := by
  have e : (mask : Int) / 2 ^ k = ((mask / 2 ^ k : Nat) : Int) := by simp
  rw [e]
  generalize mask / 2 ^ k = t at h
  rw [Int.tmod_eq_emod_of_nonneg (by omega)]
  simp
  omega
def TurR (W : World) (base : Nat) (A : Option Addr) (c : Nat) (i : Value) (wr : World) : Prop :=
  ∃ (k : Nat) (f : List Nat), k ≤ 32 ∧ i = .int .i64 (k : Int) ∧ Mine wr base A 512 c f ∧ Below base W wr
theorem tur_step {W wr : World} {base gq c k i j b : Nat} {f : List Nat} (hk : k < 32) (hM : Mine wr base (some ⟨gq, 0, none⟩) 512 c f) (hg : base ≤ gq)
    (hb : Below base W wr) (hj : j < 8) (hb2 : b < 256) :
    TurR W base (some ⟨gq, 0, none⟩) c (.int .i64 ((k : Int) + 1)) (wr.setCell ⟨gq, i, none⟩ (.int .u8 (bits .xor .u8 (b : Int) (2 ^ j % 256)))).drew := by
  have hpow : 2 ^ j < 256 := by
    have := Nat.pow_lt_pow_right (a := 2) (by omega) hj
    omega
  have hx8 : bits .xor .u8 (b : Int) (2 ^ j % 256) = ((b ^^^ 2 ^ j : Nat) : Int) := by
    have h := u8_xor_nat b (2 ^ j) hb2 hpow
    rw [← h]
    congr 1
    have : (2 : Int) ^ j = ((2 ^ j : Nat) : Int) := by simp
    rw [this]
    generalize 2 ^ j = p at hpow ⊢
    omega
  have hlt : b ^^^ 2 ^ j < 256 := Nat.xor_lt_two_pow (n := 8) (by omega) (by omega)
  refine ⟨k + 1, f.set i (b ^^^ 2 ^ j), by omega, by go_num, ⟨?_, by rw [List.length_set]; exact hM.len, ?_⟩, ?_⟩
  · have h := (hM.own.stored i (.int .u8 ((b ^^^ 2 ^ j : Nat) : Int))).1
    have e : byt (f.set i (b ^^^ 2 ^ j)) = (byt f).set i (.int .u8 ((b ^^^ 2 ^ j : Nat) : Int)) := by unfold byt; rw [List.map_set]
    rw [hx8, e]
    exact h
  · intro d hd
    rcases List.mem_or_eq_of_mem_set hd with h | h
    · exact hM.small d h
    · rw [h]; exact hlt
  · exact (hb.setCell hg _).drew
theorem run_min2 (x : Nat) (w : World) : (Builtin.min_ #[3, 3] 3 #[.int .i64 (x : Int), .int .i64 2]).run Try.prog w = .ok (.int .i64 ((lesser x 2 : Nat) : Int)) w := by
  by_cases h : x ≤ 2
  · have e : lesser x 2 = x := if_pos h
    rw [e]
    have h1 : ¬ (2 : Int) < (x : Int) := by omega
    have h2 : ¬ (x : Int) > 2 := by omega
    go_simp
  · have e : lesser x 2 = 2 := if_neg h
    rw [e]
    have h1 : (2 : Int) < (x : Int) := by omega
    have h2 : (x : Int) > 2 := by omega
    go_simp
theorem page_sec {gen ser num kind : Nat} {d : List Nat} (hl : d.length ≤ 491) (hk : kind < 256) (hd : ∀ b ∈ d, b < 256) : IsSec (page gen ser num kind d) := by
  refine ⟨page_length hl, fun b hb => ?_⟩
  rcases List.mem_append.1 hb with h1 | h1
  · exact pg_small hk hd b h1
  · exact le4_small _ b h1
theorem refRead_512 (w : World) (A : Nat → Option Addr) (c : Nat → Nat) (l : Nat → List Nat) (hp : ∀ i, i < 2 → Bytes w w.heap.size (.slice (A i) 512 (c i)) (l i)) (g h s sec er : Nat) (hR : ((g, h, s), sec, er) = readOf (l 0) (l 1)) :
    Calls Try.prog 14 #[.slice (A 0) 512 (c 0), .slice (A 1) 512 (c 1)] w fun e w' => e = .returned (.tuple #[.agg #[.int .u32 (g : Int), .int .u8 (h : Int), .int .u32 (s : Int)], .int .i64 (sec : Int), .int .i64 (er : Int)]) ∧ Below w.heap.size w w' := by
  have hr := refRead_any w A (fun _ => 512) c l hp
  rw [← hR] at hr
  exact hr
set_option maxRecDepth 100000 in
set_option maxHeartbeats 8000000 in
theorem reads_core (w : World) (x0 x1 x2 y0 y1 y2 att mask how : Nat) (A : Option Addr) (n c : Nat) (raw : List Nat) (h0 : x0 < 4294967296) (h1 : x1 < 256) (h2 : x2 < 4294967296) (k0 : y0 < 4294967296) (k1 : y1 < 256) (k2 : y2 < 4294967296) (hat : att < 65536) (hma : mask < 4294967296) (hhow : how < 256) (hp : Bytes w w.heap.size (.slice A n c) raw) :
    Calls Try.prog 3 #[.agg #[.int .u32 (x0 : Int), .int .u8 (x1 : Int), .int .u32 (x2 : Int)], .agg #[.int .u32 (y0 : Int), .int .u8 (y1 : Int), .int .u32 (y2 : Int)], .slice A n c, .int .u16 (att : Int), .int .u32 (mask : Int), .int .u8 (how : Int)] w fun e w' => e = .returned (.bool true) ∧ Below w.heap.size w w' := by
  have HA := fun o o2 => hide (awake_true ((w.alloc o).alloc o2))
  have HN0 := fun x : World => hide (new_good x 6 (by omega) (by omega))
  simp only [show ((6 : Nat) : Int) = 6 from rfl] at HN0
  have HP := Lib.hid hp
  clear hp
  go_enter Try.func3, Try.ntmps3
  go_wp2_with (first
    | (go_at_call 7; (with_reducible refine (unhide (HA _ _)).mono ?_); rintro e w1 ⟨rfl, hw1⟩; go_loud (
       have HN := HN0 w1;
       have b1 := (((Below.refl w.heap.size w).alloc (Nat.le_refl _) _).alloc (by simp) _).trans (hw1.mono (by simp; omega));
       have q0 : w1.heap[w.heap.size]? = _ := ((hw1.block _ (by simp; omega)).trans (Go.heap_alloc_old _ _ (by simp))).trans (Go.heap_alloc_new w _);
       have q1 : w1.heap[w.heap.size + 1]? = _ := (hw1.block _ (by simp)).trans (Go.heap_alloc2_new w _ _);
       have HQ0 := Lib.hid q0;
       have HQ1 := Lib.hid q1;
       have HB1 := Lib.hid b1;
       clear q0 q1 b1 hw1))
    | (go_at_call 8; (with_reducible refine (unhide HN).mono ?_); rintro e w2 ⟨gs, b, rfl, hD2, hgs, hgd, hgl, hpv, hw2⟩; go_loud (
       have q0 := (hw2.block _ (lt_heap HQ0.out)).trans HQ0.out;
       have q1 := (hw2.block _ (lt_heap HQ1.out)).trans HQ1.out;
       obtain ⟨r0, r1, r2, -, -, -⟩ := crown_facts q0;
       obtain ⟨r3, r4, r5, -, -, -⟩ := crown_facts q1;
       have l0 := lt_heap q0;
       have l1 := lt_heap q1;
       have m0 : ¬ w.heap.size = w2.heap.size := by omega;
       have m1 : ¬ w.heap.size + 1 = w2.heap.size := by omega;
       have HB2 := Lib.hid (HB1.out.trans (hw2.mono HB1.out.size));
       have HD2 := Lib.hid hD2;
       clear q0 q1 hw2 hD2)))
  obtain ⟨CS, hCS⟩ : ∃ CS : Array Value, CS = #[.int .u32 (x0 : Int), .int .u8 (x1 : Int), .int .u32 (x2 : Int), .int .u32 (y0 : Int), .int .u8 (y1 : Int), .int .u32 (y2 : Int)] := ⟨_, rfl⟩
  have HCS := Lib.hid hCS
  go_loopw [37] (fun t wr => RdsR w w2 gs CS t wr) (fun t _ => 2 - (intOf t).toNat)
  case atStart =>
    have e1 := Go.heap_alloc_new w2 (.cells #[.slice none 0 0, .slice none 0 0] 32)
    have e2 := Go.heap_alloc2_new w2 (.cells #[.slice none 0 0, .slice none 0 0] 32) (.cells CS 24)
    have e3 := ((HB2.out.alloc HB2.out.size (.cells #[.slice none 0 0, .slice none 0 0] 32)).alloc (by have := HB2.out.size; simp; omega) (.cells CS 24))
    refine ⟨0, b, fun _ => [], fun _ => none, fun _ => 0, by omega, rfl, ?_, ?_, ?_, fun j hj => by omega, ?_, ?_, ?_⟩
    · exact (HD2.out.below ((Below.refl _ _).alloc (Nat.le_refl _) _)).below ((Below.refl _ _).alloc (Nat.le_refl _) _)
    · have := HB1.out.size; omega
    · intro g hg; rw [hpv] at hg; cases hg
    · rw [Go.heap_alloc_old _ _ (by simp)]; exact e1
    · rw [← hCS]; exact e2
    · rw [← hCS]; exact e3
  case round =>
    obtain ⟨i, br, F, V, cc, hi, rfl, hD, hgl', hpv', hF, hga, hgc, hB⟩ := hrel
    have HD := Lib.hid hD
    have HF := Lib.hid hF
    have HGA := Lib.hid hga
    have HGC := Lib.hid hgc
    have HB := Lib.hid hB
    have lga := lt_heap hga
    have lgc := lt_heap hgc
    have hws := HB1.out.size
    by_cases hlt : i < 2
    · obtain ⟨z0, z1, z2, hz, p0, p1, p2⟩ : ∃ z0 z1 z2 : Nat, (z0 < 4294967296 ∧ z1 < 256 ∧ z2 < 4294967296) ∧ wr.cell? ⟨w2.heap.size + 1, i * 3, none⟩ = some (.int .u32 (z0 : Int)) ∧ wr.cell? ⟨w2.heap.size + 1, i * 3 + 1, none⟩ = some (.int .u8 (z1 : Int)) ∧ wr.cell? ⟨w2.heap.size + 1, i * 3 + 2, none⟩ = some (.int .u32 (z2 : Int)) := by
        rw [cell_of_row wr _ _ _ _ _ hgc, cell_of_row wr _ _ _ _ _ hgc, cell_of_row wr _ _ _ _ _ hgc, hCS]
        rcases (show i = 0 ∨ i = 1 by omega) with rfl | rfl
        · exact ⟨x0, x1, x2, ⟨h0, h1, h2⟩, rfl, rfl, rfl⟩
        · exact ⟨y0, y1, y2, ⟨k0, k1, k2⟩, rfl, rfl, rfl⟩
      have hlti : (i : Int) < 2 := by omega
      obtain ⟨hz0, hz1, hz2⟩ := hz
      have HRC := fun o => hide (rcBytes_any (wr.alloc o) z0 z1 z2 hz0 hz1 hz2)
      clear hD hF hga hgc hB
      go_upto_region 9 with (first
        | (go_at_call 9; (with_reducible refine (unhide (HRC _)).mono ?_); rintro e w5 ⟨A5, c5, rfl, hM5, hb5⟩))
      have hs5 := hb5.size
      have hs5' : wr.heap.size + 1 ≤ w5.heap.size := by simpa using hs5
      have bx5 := ((Below.refl wr.heap.size wr).alloc (Nat.le_refl _) (.cells #[.int .u32 (z0 : Int), .int .u8 (z1 : Int), .int .u32 (z2 : Int)] 24)).trans (hb5.mono (by simp))
      have gc5 : w5.heap[wr.heap.size]? = _ := (hb5.block wr.heap.size (by simp)).trans (Go.heap_alloc_new wr _)
      have hM5' := hM5.lower (base' := wr.heap.size) (by simp)
      have HM5 := Lib.hid hM5'
      have HX5 := Lib.hid bx5
      have HG5 := Lib.hid gc5
      have hsec5 := Lib.hid (crownSec_sec (gen := z0) (half := z1) (ser := z2) hz1)
      clear hb5 hM5 hM5' bx5 gc5 HRC
      go_cut [48] (fun v wx => (∃ m : Nat, m < 8 ∧ v = .int .u8 (m : Int)) ∧ wx = w5)
      case first =>
        obtain ⟨k, hk⟩ : ∃ k, k = 4 * i := ⟨_, rfl⟩
        have hk4 : 4 * (i : Int) = (k : Int) := by omega
        have hk0 : (0 : Int) ≤ 4 * (i : Int) := by omega
        obtain ⟨q, hq⟩ : ∃ q, q = how / 2 ^ k := ⟨_, rfl⟩
        have hq4 : (how : Int) / 2 ^ k = (q : Int) := by rw [hq]; simp
        have hm1 : (q : Int).tmod 8 = ((q % 8 : Nat) : Int) := by rw [Int.tmod_eq_emod_of_nonneg (by omega)]; omega
        clear hk hq
        go_wp2_with fail
        go_meet
        exact ⟨⟨q % 8, by omega, by simp⟩, rfl⟩
      case rest =>
      obtain ⟨⟨m, hm8, rfl⟩, hwc⟩ := hcut
      obtain ⟨wx5, hwx⟩ : ∃ x, x = w5 := ⟨_, rfl⟩
      rw [hwc, ← hwx]
      rw [← hwx] at HM5 HX5 HG5
      clear hwc hwx
      go_upto_block 2 with fail
      go_cut [18] (fun v wx => ∃ A6 c6 F6, v = .slice A6 512 c6 ∧ IsSec F6 ∧ Mine wx wr.heap.size A6 512 c6 F6 ∧ Below wr.heap.size wr wx)
      case first =>
        have hbw5 : Below w.heap.size w wx5 := HB.out.trans (HX5.out.mono HB.out.size)
        by_cases e0 : m = 0
        · subst e0
          simp only [show ((0 : Nat) : Int) = 0 from rfl]
          have hmk := run_make512
          obtain ⟨Z, hZ⟩ : ∃ Z, Z = (byt noughts).toArray := ⟨_, rfl⟩
          rw [← hZ] at hmk
          have HZ := Lib.hid hZ
          clear hZ
          go_wp2_with fail
          go_meet
          have e9 := HX5.out.alloc HX5.out.size (.cells Z 5)
          refine ⟨some ⟨wx5.heap.size, 0, none⟩, 512, noughts, rfl, noughts_sec, ?_, e9⟩
          rw [HZ.out]
          exact (mine_made wx5).lower HX5.out.size
        · by_cases e1 : m = 1
          · subst e1
            simp only [show ((1 : Nat) : Int) = 1 from rfl]
            have HFu := hide (full_any wx5 _ raw (HP.out.along hbw5))
            go_wp2_with (first
              | (go_at_call 10; (with_reducible refine (unhide HFu).mono ?_); rintro e w6 ⟨A6, n6, c6, rfl, hM6, hb6⟩))
            go_meet
            obtain rfl : n6 = 512 := hM6.len.trans (full_length raw)
            exact ⟨A6, c6, full raw, rfl, full_sec HP.out.small, hM6.lower HX5.out.size, HX5.out.trans (hb6.mono HX5.out.size)⟩
          · by_cases e2 : m = 2
            · subst e2
              simp only [show ((2 : Nat) : Int) = 2 from rfl]
              clear hbw5 HB HP HGA HGC HF HD
              obtain ⟨a, ha⟩ : ∃ a, a = att % 4096 := ⟨_, rfl⟩
              have hmod : (att : Int).tmod 4096 = (a : Int) := by rw [Int.tmod_eq_emod_of_nonneg (by omega)]; omega
              have ha4 : a < 4096 := by omega
              clear ha
              go_wp2_with fail
              go_loopw [58] (fun i x => TurR wx5 wr.heap.size A5 c5 i x) (fun i _ => 32 - (intOf i).toNat)
              case atStart => exact ⟨0, _, by omega, rfl, HM5.out, Below.refl _ _⟩
              case round =>
                obtain ⟨k, f, hk, rfl, hMr, hbr⟩ := hrel
                have HMr := Lib.hid hMr
                have Hbr := Lib.hid hbr
                by_cases hlt : k < 32
                · by_cases hin : a + k < 4096
                  · have hint : ((a : Int) + (k : Int) < 4096) := by omega
                    by_cases hbit : mask / 2 ^ k % 2 = 1
                    · have hb1 := cbit_set hbit
                      obtain ⟨i', hi'⟩ : ∃ i', i' = (a + k) / 8 := ⟨_, rfl⟩
                      obtain ⟨j, hj⟩ : ∃ j, j = (a + k) % 8 := ⟨_, rfl⟩
                      have hi2 : ((a : Int) + (k : Int)) / 8 = (i' : Int) := by omega
                      have hj2 : ((a : Int) + (k : Int)) % 8 = (j : Int) := by omega
                      have hi2' : ((a : Int) + (k : Int)).tdiv 8 = (i' : Int) := by rw [Int.tdiv_eq_ediv_of_nonneg (by omega)]; exact hi2
                      have hj2' : ((a : Int) + (k : Int)).tmod 8 = (j : Int) := by rw [Int.tmod_eq_emod_of_nonneg (by omega)]; exact hj2
                      have hin2 : i' < 512 := by omega
                      have hin3 : (i' : Int) < 512 := by omega
                      have hi0 : (0 : Int) ≤ (i' : Int) := by omega
                      have hj0 : (0 : Int) ≤ (j : Int) := by omega
                      have hj8 : j < 8 := by omega
                      clear hi' hj
                      obtain ⟨gq, b, rfl, hgq, hfb, hb256, hcell, hfroz⟩ := hMr.at_ hin2
                      have hpow : 2 ^ j < 256 := by
                        have := Nat.pow_lt_pow_right (a := 2) (by omega) hj8
                        omega
                      have hx8 : bits .xor .u8 (b : Int) (2 ^ j) = ((b ^^^ 2 ^ j : Nat) : Int) := by
                        have h := u8_xor_nat b (2 ^ j) hb256 hpow
                        simpa using h
                      clear hfb hMr hbr
                      go_wp2
                      go_region
                      go_wp2
                      go_roundw
                      case rel => exact tur_step hlt HMr.out hgq Hbr.out hj8 hb256
                      case measure => simp [intOf]; omega
                    · have hb0 := cbit_unset hbit
                      clear hMr hbr
                      go_wp2
                      go_roundw
                      case rel => exact ⟨k + 1, f, by omega, by go_num, HMr.out, Hbr.out⟩
                      case measure => simp [intOf]; omega
                  · have hout : decide ((a : Int) + (k : Int) < 4096) = false := by simp; omega
                    clear hMr hbr
                    go_wp2
                    go_roundw
                    case rel => exact ⟨k + 1, f, by omega, by go_num, HMr.out, Hbr.out⟩
                    case measure => simp [intOf]; omega
                · obtain rfl : k = 32 := by omega
                  clear hMr hbr
                  go_wp2_with fail
                  go_meet
                  exact ⟨A5, c5, f, rfl, ⟨HMr.out.len.symm, HMr.out.small⟩, HMr.out, HX5.out.trans Hbr.out⟩
            · by_cases e3 : m = 3
              · subst e3
                simp only [show ((3 : Nat) : Int) = 3 from rfl]
                have hmin := run_min2 n
                obtain ⟨d0, d1, d2, -, -, -⟩ := crown_facts HG5.out
                obtain ⟨kk, hkk⟩ : ∃ kk, kk = z1 % 9 := ⟨_, rfl⟩
                have hk9 : (z1 : Int).tmod 9 = (kk : Int) := by rw [Int.tmod_eq_emod_of_nonneg (by omega)]; omega
                obtain ⟨kd, hkd⟩ : ∃ kd, kd = 1 + kk := ⟨_, rfl⟩
                have hkd1 : (1 : Int) + (kk : Int) = (kd : Int) := by omega
                have hkd2 : kd < 256 := by omega
                have hnl : n = raw.length := by
                  obtain ⟨⟨A1, c1, hv, _⟩, _, _⟩ := id HP.out
                  injection hv
                obtain ⟨n2, hn2⟩ : ∃ n2, n2 = lesser n 2 := ⟨_, rfl⟩
                have hle2 : n2 ≤ 2 := by rw [hn2]; exact lesser_le n 2
                have hle1 : n2 ≤ n := by rw [hn2]; unfold lesser; split <;> omega
                rw [← hn2] at hmin
                have hcap : n ≤ c := HP.out.cap
                have hcap2 : (n2 : Int) ≤ (c : Int) := by omega
                have hn20 : (0 : Int) ≤ (n2 : Int) := by omega
                have hbd : ∀ x, Below wx5.heap.size wx5 x → Bytes x x.heap.size (.slice A n2 c) (raw.take n2) := fun x hx => (HP.out.first (by omega)).along (hbw5.trans (hx.mono hbw5.size))
                have hpp : ∀ x, Below wx5.heap.size wx5 x → _ := fun x hx => refPage_any x z0 0 0 kd A n2 c (raw.take n2) hz0 (by decide) (by decide) hkd2 (hbd x hx) (by omega) (by rw [List.length_take]; omega) (fun b hb => HP.out.small b (List.mem_of_mem_take hb))
                simp only [show ((0 : Nat) : Int) = 0 from rfl] at hpp
                have HPP := fun x hx => hide (hpp x hx)
                have HSEC := Lib.hid (page_sec (gen := z0) (ser := 0) (num := 0) (kind := kd) (d := raw.take n2) (by rw [List.length_take]; omega) hkd2 (fun b hb => HP.out.small b (List.mem_of_mem_take hb)))
                clear hkk hkd hnl hn2 hbd hpp hbw5
                have hwk : IntKind.u8.wrap (kd : Int) = (kd : Int) := by simp [IntKind.wrap, IntKind.signed, IntKind.bits]; omega
                have HPA := HPP wx5 (Below.refl _ _)
                have HPB := HPP wx5.drew (Below.refl _ _).drew
                have q5 := lt_heap HG5.out
                clear HPP
                go_wp2_with fail
                go_region_with (first
                  | (go_at_call 11; (with_reducible refine (unhide HPA).mono ?_); rintro e w6 ⟨A6, n6, c6, rfl, hM6, hb6⟩)
                  | (go_at_call 11; (with_reducible refine (unhide HPB).mono ?_); rintro e w6 ⟨A6, n6, c6, rfl, hM6, hb6⟩))
                all_goals
                  go_wp2_with fail
                  go_meet
                  obtain rfl : n6 = 512 := hM6.len.trans HSEC.out.1
                  first
                    | exact ⟨A6, c6, _, rfl, HSEC.out, hM6.lower HX5.out.size, HX5.out.trans ((below_on (Below.refl _ _).drew hb6).mono HX5.out.size)⟩
                    | exact ⟨A6, c6, _, rfl, HSEC.out, hM6.lower HX5.out.size, HX5.out.trans ((below_on (Below.refl _ _) hb6).mono HX5.out.size)⟩
              · have f0 : ((m : Int) == 0) = false := by rw [beq_eq_false_iff_ne]; omega
                have f1 : ((m : Int) == 1) = false := by rw [beq_eq_false_iff_ne]; omega
                have f2 : ((m : Int) == 2) = false := by rw [beq_eq_false_iff_ne]; omega
                have f3 : ((m : Int) == 3) = false := by rw [beq_eq_false_iff_ne]; omega
                clear hbw5
                go_wp2_with fail
                go_meet
                exact ⟨A5, c5, _, rfl, hsec5.out, HM5.out, HX5.out⟩
      case rest =>
      obtain ⟨A6, c6, F6, rfl, hS6, hM6, hb6⟩ := hcut
      have HX := hide (write_good (rds_store (i := i) (.slice A6 512 c6) HD.out hb6 HGA.out) (by decide) (by decide) (by omega) (by unfold pnd; simp; omega) i (by simp; omega) A6 c6 F6 (mine_row hM6 ((hb6.block _ lga).trans HGA.out) (by decide) (setCell_others wc w2.heap.size i (.slice A6 512 c6))).bytes hS6)
      have gac := (hb6.block _ lga).trans HGA.out
      have ci : wc.cell? ⟨w2.heap.size, i, none⟩ = some (rowV V cc i i) := by
        rw [cell_of_row wc _ _ _ _ _ gac]
        rcases (show i = 0 ∨ i = 1 by omega) with rfl | rfl <;> rfl
      have fi : wc.frozen? ⟨w2.heap.size, i, none⟩ = false := frozen_of_row wc _ _ _ _ gac
      have HM6 := Lib.hid hM6
      have HB6 := Lib.hid hb6
      have HS6 := Lib.hid hS6
      have hi0 : (0 : Int) ≤ (i : Int) := by omega
      clear gac hM6 hb6 hS6
      go_wp2_with (first
        | (go_at_call 12; (with_reducible refine (unhide HX).mono ?_); rintro e w7 ⟨rfl, b2, hD7, -, -, h3, -, h5, hO7⟩))
      go_roundw
      case rel => exact rds_step hlt (by omega) (by omega) HD.out hgl' hpv' HF.out HGA.out HGC.out HB.out HS6.out HM6.out HB6.out hD7 h3 h5 hO7
      case measure => simp [intOf]; omega
    · obtain rfl : i = 2 := by omega
      have hlt2 : ¬ ((2 : Nat) : Int) < 2 := by omega
      have hrd := cread_any hD (by simp) (F 0) (F 1) (pnd_at F).1 (pnd_at F).2 (hF 0 (by omega)).1.2 (hF 1 (by omega)).1.2 (hF 0 (by omega)).1.1 (hF 1 (by omega)).1.1
      obtain ⟨⟨⟨rg, rh, rs⟩, sec, er⟩, hR⟩ : ∃ R, R = readOf (F 0) (F 1) := ⟨_, rfl⟩
      rw [← hR] at hrd
      dsimp only at hrd
      have HRD := hide hrd
      have HR := Lib.hid hR
      clear hrd hD hF hga hgc hB hR
      go_wp2_with (first
        | (go_at_call 13; (with_reducible refine (unhide HRD).mono ?_); rintro e w8 ⟨rfl, hb8⟩; go_loud (
           have ga8 := (hb8.block _ lga).trans HGA.out;
           have a0 : w8.cell? ⟨w2.heap.size, 0, none⟩ = some (.slice (V 0) 512 (cc 0)) := by (rw [cell_of_row w8 _ _ _ _ _ ga8]; rfl);
           have a1 : w8.cell? ⟨w2.heap.size, 1, none⟩ = some (.slice (V 1) 512 (cc 1)) := by (rw [cell_of_row w8 _ _ _ _ _ ga8]; rfl);
           have l8 := lt_heap ga8;
           have n8 : ¬ w2.heap.size = w8.heap.size := by omega;
           have HB8 := Lib.hid hb8;
           have HRR := fun o => hide (refRead_512 (w8.alloc o) V cc F (fun j hj => (((HF.out j hj).2.below hb8).bytes).along ((Below.refl _ _).alloc (Nat.le_refl _) o)) rg rh rs sec er HR.out);
           clear ga8 hb8))
        | (go_at_call 14; (with_reducible refine (unhide (HRR _)).mono ?_); rintro e w9 ⟨rfl, hb9⟩; go_loud (
           have g9 := (hb9.block w8.heap.size (by simp)).trans (Go.heap_alloc_new w8 _);
           obtain ⟨b0, b1, b2, -, -, -⟩ := crown_facts g9;
           have l9 := lt_heap g9;
           have n9 : ¬ w8.heap.size = w9.heap.size := by omega)))
      have e8 := HB.out.trans (HB8.out.mono HB.out.size)
      have e8b := e8.alloc e8.size (.cells #[.int .u32 (rg : Int), .int .u8 (rh : Int), .int .u32 (rs : Int)] 24)
      have e9 := e8b.trans (hb9.mono e8b.size)
      go_ret
      exact ⟨rfl, e9.alloc e9.size _⟩
end Go.Proofs.Ytnojkifndcffjaa
