/- GExpr: joined by program (tools/merge.py). -/
import Derived.Test.YtecbaceinifjiaaGreatDoorZ20
namespace Go.Proofs.YtecbaceinifjiaaGreatDoor
open Go.RowKit
set_option linter.unusedSimpArgs false
set_option linter.unusedVariables false
set_option maxRecDepth 100000
attribute [local go_sem] Oper.semAt_some undef
theorem step_tok {w w1 wA w' : World} {base : Nat} {M : GM} {l : Value} {s' : PS} (hT : Touch w w1 (Only M.gp)) (hb : Below w1.heap.size w1 wA) (h : GStep wA base { M with left := l } s' w') : GStep w base M s' w' :=
  GStep.trans (M1 := { M with left := l }) rfl (hT.more fun j e => .inl e) (fun j h => .inl h) (fun h => h) (GStep.pre hb h)
structure Nx (s s1 : PS) : Prop where
  left : s1.left.length + 1 = s.left.length
  nodes : s1.nodes = s.nodes
  cnt : s1.cnt = s.cnt
  vis : s1.vis = s.vis
theorem nx_of {s : PS} (h : nextT s ≠ noTok) : Nx s (nextS s) := by
  unfold nextT at h
  unfold nextS
  cases hs : s.left with
  | nil => rw [hs] at h; exact absurd rfl h
  | cons t r => exact ⟨by rw [hs]; rfl, rfl, rfl, rfl⟩
set_option maxHeartbeats 8000000 in
theorem ex_true (w : World) (base : Nat) (M : GM) (s : PS) (h : GR w base M s) (f u tk ta : Nat) (tt : List Nat) (ht : (⟨tk, tt, ta⟩ : Tok) = nextT s) (h2 : ¬ tk = 2) (h1 : ¬ tk = 1) (q0 : tt = c_true) (hf : s.left.length < f + 1) (hu0 : 0 < u) (hu : u ≤ s.nodes.length) (hl : Live M) (hex : ExC f base) :
    Calls Tryz.prog 86 #[.pointer (some ⟨M.gp, 0, none⟩), .int .u64 (u : Int)] w fun e w' => e = .returned (.tuple #[]) ∧ GStep w base M (growS u { nd0 14 with num := 1 } (nextS s)) w' := by
  have hgt := h.goodN
  rw [← ht] at hgt
  have k2 : ¬ (tk : Int) = 2 := by omega
  have k1 : ¬ (tk : Int) = 1 := by omega
  have e0 : (ba tt).toList = [116, 114, 117, 101] := (text_lit (x := tt) (c := ⟨#[116, 114, 117, 101]⟩) (L := [116, 114, 117, 101]) rfl hgt.1).2 q0
  have hnn : Nx s (nextS s) := nx_of (by rw [← ht]; intro e; injection e with e1 e2 e3; rw [e2] at q0; exact absurd q0 (by decide))
  have HNN := Lib.hid hnn
  clear hnn
  clear q0
  have hnx := next_any w base M s h
  rw [← ht] at hnx
  unfold tokV at hnx
  dsimp only at hnx
  have HNX := Lib.hid hnx
  have HSUM := Lib.hid h.sum
  have HFF := Lib.hid hf
  have HUU := Lib.hid hu
  have HU0 := Lib.hid hu0
  have HL := Lib.hid hl
  have HEX := Lib.hid hex
  have HGTT := Lib.hid hgt
  obtain ⟨s1, hs1⟩ : ∃ s1, s1 = nextS s := ⟨_, rfl⟩
  rw [← hs1] at HNX
  have HS1 := Lib.hid hs1
  clear h hnx hgt hf hu hu0 hl hex
  try clear ht
  go_enter Tryz.func86, Tryz.ntmps86
  go_upto_region 2 with (go_at_call 67; (with_reducible refine (HNX.out).mono ?_); rintro e w1 ⟨rfl, l1, hg1, hT1⟩; go_loud (
      have hx : (w1.alloc (.cells #[.int .u8 (tk : Int), .string (ba tt), .int .i64 (ta : Int)] 74)).heap[w1.heap.size]? = some (.cells #[.int .u8 (tk : Int), .string (ba tt), .int .i64 (ta : Int)] 74 (0, 0)) := Go.heap_alloc_new _ _;
      obtain ⟨⟨d0, d1, d2⟩, z0, z1, z2⟩ := tok_cells hx;
      have hal : Below w1.heap.size w1 (w1.alloc (.cells #[.int .u8 (tk : Int), .string (ba tt), .int .i64 (ta : Int)] 74)) := (Below.refl _ _).alloc (Nat.le_refl _) _;
      have HAL := Lib.hid hal;
      have HG1 := Lib.hid (hg1.below hal);
      have HT1 := Lib.hid hT1;
      clear hg1 hT1 hal))
  obtain ⟨M1, hM1⟩ : ∃ M1 : GM, M1 = { M with left := l1 } := ⟨_, rfl⟩
  obtain ⟨wA, hwA⟩ : ∃ wA, wA = w1.alloc (.cells #[.int .u8 (tk : Int), .string (ba tt), .int .i64 (ta : Int)] 74) := ⟨_, rfl⟩
  have hg1 : GR wA base M1 s1 := by rw [hM1, hwA]; exact HG1.out
  have hgp1 : M1.gp = M.gp := by rw [hM1]
  have hl1 : Live M1 := by rw [hM1]; exact HL.out
  have hst : ∀ {s' w'}, GStep wA base M1 s' w' → GStep w base M s' w' := fun h9 => step_tok (l := l1) HT1.out HAL.out (by rw [← hM1, ← hwA]; exact h9)
  have hx : wA.heap[w1.heap.size]? = some (.cells #[.int .u8 (tk : Int), .string (ba tt), .int .i64 (ta : Int)] 74 (0, 0)) := by rw [hwA]; exact Go.heap_alloc_new _ _
  obtain ⟨⟨d0, d1, d2⟩, z0, z1, z2⟩ := tok_cells hx
  clear HG1 HAL HT1
  rw [← hwA]
  have HM1 := Lib.hid hM1
  have HX := Lib.hid hx
  clear hwA hM1 hx
  have hnn := HNN.out
  rw [← HS1.out] at hnn
  have hgr := grow_any wA base M1 s1 hg1 u { nd0 14 with num := 1 } (by rw [hnn.nodes]; exact HUU.out) ⟨by decide, by decide, by show (-9223372036854775808 : Int) ≤ 1 ∧ (1 : Int) ≤ _; omega, by decide, by decide⟩ rfl (by have a1 := hnn.left; have a2 := HSUM.out; rw [hnn.nodes, hnn.cnt]; omega)
  unfold ndV nd0 at hgr
  dsimp only at hgr
  rw [hgp1, show ((14 : Nat) : Int) = 14 from rfl, show ((0 : Nat) : Int) = 0 from rfl] at hgr
  have HGR := Lib.hid hgr
  clear hgr hnn
  have HST : Hid (∀ s' w', GStep wA base M1 s' w' → GStep w base M s' w') := Lib.hid (fun s' w' h9 => hst h9)
  have HGP1 := Lib.hid hgp1
  clear hg1 hgp1 hl1 hst
  go_wp2_with (go_at_call 30; (with_reducible refine (HGR.out).mono ?_); rintro e w3 ⟨rfl, hw3⟩; go_loud (have HW3 := Lib.hid hw3; clear hw3))
  go_end0
  refine ⟨rfl, ?_⟩
  rw [← HS1.out]
  exact HST.out _ _ HW3.out
set_option maxHeartbeats 8000000 in
theorem ex_false (w : World) (base : Nat) (M : GM) (s : PS) (h : GR w base M s) (f u tk ta : Nat) (tt : List Nat) (ht : (⟨tk, tt, ta⟩ : Tok) = nextT s) (h2 : ¬ tk = 2) (h1 : ¬ tk = 1) (q0 : ¬ tt = c_true) (q1 : tt = c_false) (hf : s.left.length < f + 1) (hu0 : 0 < u) (hu : u ≤ s.nodes.length) (hl : Live M) (hex : ExC f base) :
    Calls Tryz.prog 86 #[.pointer (some ⟨M.gp, 0, none⟩), .int .u64 (u : Int)] w fun e w' => e = .returned (.tuple #[]) ∧ GStep w base M (growS u (nd0 14) (nextS s)) w' := by
  have hgt := h.goodN
  rw [← ht] at hgt
  have k2 : ¬ (tk : Int) = 2 := by omega
  have k1 : ¬ (tk : Int) = 1 := by omega
  have e0 : ¬ (ba tt).toList = [116, 114, 117, 101] := fun e => q0 ((text_lit (x := tt) (c := ⟨#[116, 114, 117, 101]⟩) (L := [116, 114, 117, 101]) rfl hgt.1).1 e)
  have e0b : ((ba tt).toList == [116, 114, 117, 101]) = false := beq_eq_false_iff_ne.2 e0
  have e1 : (ba tt).toList = [102, 97, 108, 115, 101] := (text_lit (x := tt) (c := ⟨#[102, 97, 108, 115, 101]⟩) (L := [102, 97, 108, 115, 101]) rfl hgt.1).2 q1
  have hnn : Nx s (nextS s) := nx_of (by rw [← ht]; intro e; injection e with e1 e2 e3; rw [e2] at q1; exact absurd q1 (by decide))
  have HNN := Lib.hid hnn
  clear hnn
  clear q0 q1
  have hnx := next_any w base M s h
  rw [← ht] at hnx
  unfold tokV at hnx
  dsimp only at hnx
  have HNX := Lib.hid hnx
  have HSUM := Lib.hid h.sum
  have HFF := Lib.hid hf
  have HUU := Lib.hid hu
  have HU0 := Lib.hid hu0
  have HL := Lib.hid hl
  have HEX := Lib.hid hex
  have HGTT := Lib.hid hgt
  obtain ⟨s1, hs1⟩ : ∃ s1, s1 = nextS s := ⟨_, rfl⟩
  rw [← hs1] at HNX
  have HS1 := Lib.hid hs1
  clear h hnx hgt hf hu hu0 hl hex
  try clear ht
  go_enter Tryz.func86, Tryz.ntmps86
  go_upto_region 2 with (go_at_call 67; (with_reducible refine (HNX.out).mono ?_); rintro e w1 ⟨rfl, l1, hg1, hT1⟩; go_loud (
      have hx : (w1.alloc (.cells #[.int .u8 (tk : Int), .string (ba tt), .int .i64 (ta : Int)] 74)).heap[w1.heap.size]? = some (.cells #[.int .u8 (tk : Int), .string (ba tt), .int .i64 (ta : Int)] 74 (0, 0)) := Go.heap_alloc_new _ _;
      obtain ⟨⟨d0, d1, d2⟩, z0, z1, z2⟩ := tok_cells hx;
      have hal : Below w1.heap.size w1 (w1.alloc (.cells #[.int .u8 (tk : Int), .string (ba tt), .int .i64 (ta : Int)] 74)) := (Below.refl _ _).alloc (Nat.le_refl _) _;
      have HAL := Lib.hid hal;
      have HG1 := Lib.hid (hg1.below hal);
      have HT1 := Lib.hid hT1;
      clear hg1 hT1 hal))
  obtain ⟨M1, hM1⟩ : ∃ M1 : GM, M1 = { M with left := l1 } := ⟨_, rfl⟩
  obtain ⟨wA, hwA⟩ : ∃ wA, wA = w1.alloc (.cells #[.int .u8 (tk : Int), .string (ba tt), .int .i64 (ta : Int)] 74) := ⟨_, rfl⟩
  have hg1 : GR wA base M1 s1 := by rw [hM1, hwA]; exact HG1.out
  have hgp1 : M1.gp = M.gp := by rw [hM1]
  have hl1 : Live M1 := by rw [hM1]; exact HL.out
  have hst : ∀ {s' w'}, GStep wA base M1 s' w' → GStep w base M s' w' := fun h9 => step_tok (l := l1) HT1.out HAL.out (by rw [← hM1, ← hwA]; exact h9)
  have hx : wA.heap[w1.heap.size]? = some (.cells #[.int .u8 (tk : Int), .string (ba tt), .int .i64 (ta : Int)] 74 (0, 0)) := by rw [hwA]; exact Go.heap_alloc_new _ _
  obtain ⟨⟨d0, d1, d2⟩, z0, z1, z2⟩ := tok_cells hx
  clear HG1 HAL HT1
  rw [← hwA]
  have HM1 := Lib.hid hM1
  have HX := Lib.hid hx
  clear hwA hM1 hx
  have hnn := HNN.out
  rw [← HS1.out] at hnn
  have hgr := grow_any wA base M1 s1 hg1 u (nd0 14) (by rw [hnn.nodes]; exact HUU.out) (okNd 14 (by omega)) rfl (by have a1 := hnn.left; have a2 := HSUM.out; rw [hnn.nodes, hnn.cnt]; omega)
  unfold ndV nd0 at hgr
  dsimp only at hgr
  rw [hgp1, show ((14 : Nat) : Int) = 14 from rfl, show ((0 : Nat) : Int) = 0 from rfl] at hgr
  have HGR := Lib.hid hgr
  clear hgr hnn
  have HST : Hid (∀ s' w', GStep wA base M1 s' w' → GStep w base M s' w') := Lib.hid (fun s' w' h9 => hst h9)
  have HGP1 := Lib.hid hgp1
  clear hg1 hgp1 hl1 hst
  go_wp2_with (go_at_call 30; (with_reducible refine (HGR.out).mono ?_); rintro e w3 ⟨rfl, hw3⟩; go_loud (have HW3 := Lib.hid hw3; clear hw3))
  go_end0
  refine ⟨rfl, ?_⟩
  rw [← HS1.out]
  exact HST.out _ _ HW3.out
set_option maxHeartbeats 8000000 in
theorem ex_read (w : World) (base : Nat) (M : GM) (s : PS) (h : GR w base M s) (f u tk ta : Nat) (tt : List Nat) (ht : (⟨tk, tt, ta⟩ : Tok) = nextT s) (h2 : ¬ tk = 2) (h1 : ¬ tk = 1) (q0 : ¬ tt = c_true) (q1 : ¬ tt = c_false) (q2 : tt = c_read) (hf : s.left.length < f + 1) (hu0 : 0 < u) (hu : u ≤ s.nodes.length) (hl : Live M) (hex : ExC f base) :
    Calls Tryz.prog 86 #[.pointer (some ⟨M.gp, 0, none⟩), .int .u64 (u : Int)] w fun e w' => e = .returned (.tuple #[]) ∧ GStep w base M (growS u (nd0 20) (nextS s)) w' := by
  have hgt := h.goodN
  rw [← ht] at hgt
  have k2 : ¬ (tk : Int) = 2 := by omega
  have k1 : ¬ (tk : Int) = 1 := by omega
  have e0 : ¬ (ba tt).toList = [116, 114, 117, 101] := fun e => q0 ((text_lit (x := tt) (c := ⟨#[116, 114, 117, 101]⟩) (L := [116, 114, 117, 101]) rfl hgt.1).1 e)
  have e0b : ((ba tt).toList == [116, 114, 117, 101]) = false := beq_eq_false_iff_ne.2 e0
  have e1 : ¬ (ba tt).toList = [102, 97, 108, 115, 101] := fun e => q1 ((text_lit (x := tt) (c := ⟨#[102, 97, 108, 115, 101]⟩) (L := [102, 97, 108, 115, 101]) rfl hgt.1).1 e)
  have e1b : ((ba tt).toList == [102, 97, 108, 115, 101]) = false := beq_eq_false_iff_ne.2 e1
  have e2 : (ba tt).toList = [114, 101, 97, 100] := (text_lit (x := tt) (c := ⟨#[114, 101, 97, 100]⟩) (L := [114, 101, 97, 100]) rfl hgt.1).2 q2
  have hnn : Nx s (nextS s) := nx_of (by rw [← ht]; intro e; injection e with e1 e2 e3; rw [e2] at q2; exact absurd q2 (by decide))
  have HNN := Lib.hid hnn
  clear hnn
  clear q0 q1 q2
  have hnx := next_any w base M s h
  rw [← ht] at hnx
  unfold tokV at hnx
  dsimp only at hnx
  have HNX := Lib.hid hnx
  have HSUM := Lib.hid h.sum
  have HFF := Lib.hid hf
  have HUU := Lib.hid hu
  have HU0 := Lib.hid hu0
  have HL := Lib.hid hl
  have HEX := Lib.hid hex
  have HGTT := Lib.hid hgt
  obtain ⟨s1, hs1⟩ : ∃ s1, s1 = nextS s := ⟨_, rfl⟩
  rw [← hs1] at HNX
  have HS1 := Lib.hid hs1
  clear h hnx hgt hf hu hu0 hl hex
  try clear ht
  go_enter Tryz.func86, Tryz.ntmps86
  go_upto_region 2 with (go_at_call 67; (with_reducible refine (HNX.out).mono ?_); rintro e w1 ⟨rfl, l1, hg1, hT1⟩; go_loud (
      have hx : (w1.alloc (.cells #[.int .u8 (tk : Int), .string (ba tt), .int .i64 (ta : Int)] 74)).heap[w1.heap.size]? = some (.cells #[.int .u8 (tk : Int), .string (ba tt), .int .i64 (ta : Int)] 74 (0, 0)) := Go.heap_alloc_new _ _;
      obtain ⟨⟨d0, d1, d2⟩, z0, z1, z2⟩ := tok_cells hx;
      have hal : Below w1.heap.size w1 (w1.alloc (.cells #[.int .u8 (tk : Int), .string (ba tt), .int .i64 (ta : Int)] 74)) := (Below.refl _ _).alloc (Nat.le_refl _) _;
      have HAL := Lib.hid hal;
      have HG1 := Lib.hid (hg1.below hal);
      have HT1 := Lib.hid hT1;
      clear hg1 hT1 hal))
  obtain ⟨M1, hM1⟩ : ∃ M1 : GM, M1 = { M with left := l1 } := ⟨_, rfl⟩
  obtain ⟨wA, hwA⟩ : ∃ wA, wA = w1.alloc (.cells #[.int .u8 (tk : Int), .string (ba tt), .int .i64 (ta : Int)] 74) := ⟨_, rfl⟩
  have hg1 : GR wA base M1 s1 := by rw [hM1, hwA]; exact HG1.out
  have hgp1 : M1.gp = M.gp := by rw [hM1]
  have hl1 : Live M1 := by rw [hM1]; exact HL.out
  have hst : ∀ {s' w'}, GStep wA base M1 s' w' → GStep w base M s' w' := fun h9 => step_tok (l := l1) HT1.out HAL.out (by rw [← hM1, ← hwA]; exact h9)
  have hx : wA.heap[w1.heap.size]? = some (.cells #[.int .u8 (tk : Int), .string (ba tt), .int .i64 (ta : Int)] 74 (0, 0)) := by rw [hwA]; exact Go.heap_alloc_new _ _
  obtain ⟨⟨d0, d1, d2⟩, z0, z1, z2⟩ := tok_cells hx
  clear HG1 HAL HT1
  rw [← hwA]
  have HM1 := Lib.hid hM1
  have HX := Lib.hid hx
  clear hwA hM1 hx
  have hnn := HNN.out
  rw [← HS1.out] at hnn
  have hgr := grow_any wA base M1 s1 hg1 u (nd0 20) (by rw [hnn.nodes]; exact HUU.out) (okNd 20 (by omega)) rfl (by have a1 := hnn.left; have a2 := HSUM.out; rw [hnn.nodes, hnn.cnt]; omega)
  unfold ndV nd0 at hgr
  dsimp only at hgr
  rw [hgp1, show ((20 : Nat) : Int) = 20 from rfl, show ((0 : Nat) : Int) = 0 from rfl] at hgr
  have HGR := Lib.hid hgr
  clear hgr hnn
  have HST : Hid (∀ s' w', GStep wA base M1 s' w' → GStep w base M s' w') := Lib.hid (fun s' w' h9 => hst h9)
  have HGP1 := Lib.hid hgp1
  clear hg1 hgp1 hl1 hst
  go_wp2_with (go_at_call 30; (with_reducible refine (HGR.out).mono ?_); rintro e w3 ⟨rfl, hw3⟩; go_loud (have HW3 := Lib.hid hw3; clear hw3))
  go_end0
  refine ⟨rfl, ?_⟩
  rw [← HS1.out]
  exact HST.out _ _ HW3.out
set_option maxHeartbeats 8000000 in
theorem ex_not (w : World) (base : Nat) (M : GM) (s : PS) (h : GR w base M s) (f u tk ta : Nat) (tt : List Nat) (ht : (⟨tk, tt, ta⟩ : Tok) = nextT s) (h2 : ¬ tk = 2) (h1 : ¬ tk = 1) (q0 : ¬ tt = c_true) (q1 : ¬ tt = c_false) (q2 : ¬ tt = c_read) (q3 : tt = c_bang) (hf : s.left.length < f + 1) (hu0 : 0 < u) (hu : u ≤ s.nodes.length) (hl : Live M) (hex : ExC f base) :
    Calls Tryz.prog 86 #[.pointer (some ⟨M.gp, 0, none⟩), .int .u64 (u : Int)] w fun e w' => e = .returned (.tuple #[]) ∧ GStep w base M (nestS (exprS f (growId (nextS s))) (growS u (nd0 16) (nextS s))) w' := by
  have hgt := h.goodN
  rw [← ht] at hgt
  have k2 : ¬ (tk : Int) = 2 := by omega
  have k1 : ¬ (tk : Int) = 1 := by omega
  have e0 : ¬ (ba tt).toList = [116, 114, 117, 101] := fun e => q0 ((text_lit (x := tt) (c := ⟨#[116, 114, 117, 101]⟩) (L := [116, 114, 117, 101]) rfl hgt.1).1 e)
  have e0b : ((ba tt).toList == [116, 114, 117, 101]) = false := beq_eq_false_iff_ne.2 e0
  have e1 : ¬ (ba tt).toList = [102, 97, 108, 115, 101] := fun e => q1 ((text_lit (x := tt) (c := ⟨#[102, 97, 108, 115, 101]⟩) (L := [102, 97, 108, 115, 101]) rfl hgt.1).1 e)
  have e1b : ((ba tt).toList == [102, 97, 108, 115, 101]) = false := beq_eq_false_iff_ne.2 e1
  have e2 : ¬ (ba tt).toList = [114, 101, 97, 100] := fun e => q2 ((text_lit (x := tt) (c := ⟨#[114, 101, 97, 100]⟩) (L := [114, 101, 97, 100]) rfl hgt.1).1 e)
  have e2b : ((ba tt).toList == [114, 101, 97, 100]) = false := beq_eq_false_iff_ne.2 e2
  have e3 : (ba tt).toList = [33] := (text_lit (x := tt) (c := ⟨#[33]⟩) (L := [33]) rfl hgt.1).2 q3
  have hnn : Nx s (nextS s) := nx_of (by rw [← ht]; intro e; injection e with e1 e2 e3; rw [e2] at q3; exact absurd q3 (by decide))
  have HNN := Lib.hid hnn
  clear hnn
  clear q0 q1 q2 q3
  have hnx := next_any w base M s h
  rw [← ht] at hnx
  unfold tokV at hnx
  dsimp only at hnx
  have HNX := Lib.hid hnx
  have HSUM := Lib.hid h.sum
  have HFF := Lib.hid hf
  have HUU := Lib.hid hu
  have HU0 := Lib.hid hu0
  have HL := Lib.hid hl
  have HEX := Lib.hid hex
  have HGTT := Lib.hid hgt
  obtain ⟨s1, hs1⟩ : ∃ s1, s1 = nextS s := ⟨_, rfl⟩
  rw [← hs1] at HNX
  have HS1 := Lib.hid hs1
  clear h hnx hgt hf hu hu0 hl hex
  try clear ht
  go_enter Tryz.func86, Tryz.ntmps86
  go_upto_region 2 with (go_at_call 67; (with_reducible refine (HNX.out).mono ?_); rintro e w1 ⟨rfl, l1, hg1, hT1⟩; go_loud (
      have hx : (w1.alloc (.cells #[.int .u8 (tk : Int), .string (ba tt), .int .i64 (ta : Int)] 74)).heap[w1.heap.size]? = some (.cells #[.int .u8 (tk : Int), .string (ba tt), .int .i64 (ta : Int)] 74 (0, 0)) := Go.heap_alloc_new _ _;
      obtain ⟨⟨d0, d1, d2⟩, z0, z1, z2⟩ := tok_cells hx;
      have hal : Below w1.heap.size w1 (w1.alloc (.cells #[.int .u8 (tk : Int), .string (ba tt), .int .i64 (ta : Int)] 74)) := (Below.refl _ _).alloc (Nat.le_refl _) _;
      have HAL := Lib.hid hal;
      have HG1 := Lib.hid (hg1.below hal);
      have HT1 := Lib.hid hT1;
      clear hg1 hT1 hal))
  obtain ⟨M1, hM1⟩ : ∃ M1 : GM, M1 = { M with left := l1 } := ⟨_, rfl⟩
  obtain ⟨wA, hwA⟩ : ∃ wA, wA = w1.alloc (.cells #[.int .u8 (tk : Int), .string (ba tt), .int .i64 (ta : Int)] 74) := ⟨_, rfl⟩
  have hg1 : GR wA base M1 s1 := by rw [hM1, hwA]; exact HG1.out
  have hgp1 : M1.gp = M.gp := by rw [hM1]
  have hl1 : Live M1 := by rw [hM1]; exact HL.out
  have hst : ∀ {s' w'}, GStep wA base M1 s' w' → GStep w base M s' w' := fun h9 => step_tok (l := l1) HT1.out HAL.out (by rw [← hM1, ← hwA]; exact h9)
  have hx : wA.heap[w1.heap.size]? = some (.cells #[.int .u8 (tk : Int), .string (ba tt), .int .i64 (ta : Int)] 74 (0, 0)) := by rw [hwA]; exact Go.heap_alloc_new _ _
  obtain ⟨⟨d0, d1, d2⟩, z0, z1, z2⟩ := tok_cells hx
  clear HG1 HAL HT1
  rw [← hwA]
  have HM1 := Lib.hid hM1
  have HX := Lib.hid hx
  clear hwA hM1 hx
  have hnn := HNN.out
  rw [← HS1.out] at hnn
  have hun := unary_any wA base M1 s1 hg1 f u 16 (by omega) (by rw [hnn.nodes]; exact HUU.out) hl1 (by have a1 := hnn.left; have a2 := HFF.out; omega) (by have a1 := hnn.left; have a2 := HSUM.out; rw [hnn.nodes, hnn.cnt]; omega) HEX.out (fun t => (ok_expr f _ t).depth)
  rw [hgp1, show ((16 : Nat) : Int) = 16 from rfl] at hun
  have HUN := Lib.hid hun
  clear hun hnn
  have HST : Hid (∀ s' w', GStep wA base M1 s' w' → GStep w base M s' w') := Lib.hid (fun s' w' h9 => hst h9)
  have HGP1 := Lib.hid hgp1
  clear hg1 hgp1 hl1 hst
  go_wp2_with (go_at_call 103; (with_reducible refine (HUN.out).mono ?_); rintro e w3 ⟨rfl, hw3⟩; go_loud (have HW3 := Lib.hid hw3; clear hw3))
  go_end0
  refine ⟨rfl, ?_⟩
  rw [← HS1.out]
  exact HST.out _ _ HW3.out
set_option maxHeartbeats 8000000 in
theorem ex_neg (w : World) (base : Nat) (M : GM) (s : PS) (h : GR w base M s) (f u tk ta : Nat) (tt : List Nat) (ht : (⟨tk, tt, ta⟩ : Tok) = nextT s) (h2 : ¬ tk = 2) (h1 : ¬ tk = 1) (q0 : ¬ tt = c_true) (q1 : ¬ tt = c_false) (q2 : ¬ tt = c_read) (q3 : ¬ tt = c_bang) (q4 : tt = c_minus) (hf : s.left.length < f + 1) (hu0 : 0 < u) (hu : u ≤ s.nodes.length) (hl : Live M) (hex : ExC f base) :
    Calls Tryz.prog 86 #[.pointer (some ⟨M.gp, 0, none⟩), .int .u64 (u : Int)] w fun e w' => e = .returned (.tuple #[]) ∧ GStep w base M (nestS (exprS f (growId (nextS s))) (growS u (nd0 17) (nextS s))) w' := by
  have hgt := h.goodN
  rw [← ht] at hgt
  have k2 : ¬ (tk : Int) = 2 := by omega
  have k1 : ¬ (tk : Int) = 1 := by omega
  have e0 : ¬ (ba tt).toList = [116, 114, 117, 101] := fun e => q0 ((text_lit (x := tt) (c := ⟨#[116, 114, 117, 101]⟩) (L := [116, 114, 117, 101]) rfl hgt.1).1 e)
  have e0b : ((ba tt).toList == [116, 114, 117, 101]) = false := beq_eq_false_iff_ne.2 e0
  have e1 : ¬ (ba tt).toList = [102, 97, 108, 115, 101] := fun e => q1 ((text_lit (x := tt) (c := ⟨#[102, 97, 108, 115, 101]⟩) (L := [102, 97, 108, 115, 101]) rfl hgt.1).1 e)
  have e1b : ((ba tt).toList == [102, 97, 108, 115, 101]) = false := beq_eq_false_iff_ne.2 e1
  have e2 : ¬ (ba tt).toList = [114, 101, 97, 100] := fun e => q2 ((text_lit (x := tt) (c := ⟨#[114, 101, 97, 100]⟩) (L := [114, 101, 97, 100]) rfl hgt.1).1 e)
  have e2b : ((ba tt).toList == [114, 101, 97, 100]) = false := beq_eq_false_iff_ne.2 e2
  have e3 : ¬ (ba tt).toList = [33] := fun e => q3 ((text_lit (x := tt) (c := ⟨#[33]⟩) (L := [33]) rfl hgt.1).1 e)
  have e3b : ((ba tt).toList == [33]) = false := beq_eq_false_iff_ne.2 e3
  have e4 : (ba tt).toList = [45] := (text_lit (x := tt) (c := ⟨#[45]⟩) (L := [45]) rfl hgt.1).2 q4
  have hnn : Nx s (nextS s) := nx_of (by rw [← ht]; intro e; injection e with e1 e2 e3; rw [e2] at q4; exact absurd q4 (by decide))
  have HNN := Lib.hid hnn
  clear hnn
  clear q0 q1 q2 q3 q4
  have hnx := next_any w base M s h
  rw [← ht] at hnx
  unfold tokV at hnx
  dsimp only at hnx
  have HNX := Lib.hid hnx
  have HSUM := Lib.hid h.sum
  have HFF := Lib.hid hf
  have HUU := Lib.hid hu
  have HU0 := Lib.hid hu0
  have HL := Lib.hid hl
  have HEX := Lib.hid hex
  have HGTT := Lib.hid hgt
  obtain ⟨s1, hs1⟩ : ∃ s1, s1 = nextS s := ⟨_, rfl⟩
  rw [← hs1] at HNX
  have HS1 := Lib.hid hs1
  clear h hnx hgt hf hu hu0 hl hex
  try clear ht
  go_enter Tryz.func86, Tryz.ntmps86
  go_upto_region 2 with (go_at_call 67; (with_reducible refine (HNX.out).mono ?_); rintro e w1 ⟨rfl, l1, hg1, hT1⟩; go_loud (
      have hx : (w1.alloc (.cells #[.int .u8 (tk : Int), .string (ba tt), .int .i64 (ta : Int)] 74)).heap[w1.heap.size]? = some (.cells #[.int .u8 (tk : Int), .string (ba tt), .int .i64 (ta : Int)] 74 (0, 0)) := Go.heap_alloc_new _ _;
      obtain ⟨⟨d0, d1, d2⟩, z0, z1, z2⟩ := tok_cells hx;
      have hal : Below w1.heap.size w1 (w1.alloc (.cells #[.int .u8 (tk : Int), .string (ba tt), .int .i64 (ta : Int)] 74)) := (Below.refl _ _).alloc (Nat.le_refl _) _;
      have HAL := Lib.hid hal;
      have HG1 := Lib.hid (hg1.below hal);
      have HT1 := Lib.hid hT1;
      clear hg1 hT1 hal))
  obtain ⟨M1, hM1⟩ : ∃ M1 : GM, M1 = { M with left := l1 } := ⟨_, rfl⟩
  obtain ⟨wA, hwA⟩ : ∃ wA, wA = w1.alloc (.cells #[.int .u8 (tk : Int), .string (ba tt), .int .i64 (ta : Int)] 74) := ⟨_, rfl⟩
  have hg1 : GR wA base M1 s1 := by rw [hM1, hwA]; exact HG1.out
  have hgp1 : M1.gp = M.gp := by rw [hM1]
  have hl1 : Live M1 := by rw [hM1]; exact HL.out
  have hst : ∀ {s' w'}, GStep wA base M1 s' w' → GStep w base M s' w' := fun h9 => step_tok (l := l1) HT1.out HAL.out (by rw [← hM1, ← hwA]; exact h9)
  have hx : wA.heap[w1.heap.size]? = some (.cells #[.int .u8 (tk : Int), .string (ba tt), .int .i64 (ta : Int)] 74 (0, 0)) := by rw [hwA]; exact Go.heap_alloc_new _ _
  obtain ⟨⟨d0, d1, d2⟩, z0, z1, z2⟩ := tok_cells hx
  clear HG1 HAL HT1
  rw [← hwA]
  have HM1 := Lib.hid hM1
  have HX := Lib.hid hx
  clear hwA hM1 hx
  have hnn := HNN.out
  rw [← HS1.out] at hnn
  have hun := unary_any wA base M1 s1 hg1 f u 17 (by omega) (by rw [hnn.nodes]; exact HUU.out) hl1 (by have a1 := hnn.left; have a2 := HFF.out; omega) (by have a1 := hnn.left; have a2 := HSUM.out; rw [hnn.nodes, hnn.cnt]; omega) HEX.out (fun t => (ok_expr f _ t).depth)
  rw [hgp1, show ((17 : Nat) : Int) = 17 from rfl] at hun
  have HUN := Lib.hid hun
  clear hun hnn
  have HST : Hid (∀ s' w', GStep wA base M1 s' w' → GStep w base M s' w') := Lib.hid (fun s' w' h9 => hst h9)
  have HGP1 := Lib.hid hgp1
  clear hg1 hgp1 hl1 hst
  go_wp2_with (go_at_call 103; (with_reducible refine (HUN.out).mono ?_); rintro e w3 ⟨rfl, hw3⟩; go_loud (have HW3 := Lib.hid hw3; clear hw3))
  go_end0
  refine ⟨rfl, ?_⟩
  rw [← HS1.out]
  exact HST.out _ _ HW3.out
set_option maxHeartbeats 8000000 in
theorem ex_bin (w : World) (base : Nat) (M : GM) (s : PS) (h : GR w base M s) (f u tk ta : Nat) (tt : List Nat) (ht : (⟨tk, tt, ta⟩ : Tok) = nextT s) (h2 : ¬ tk = 2) (h1 : ¬ tk = 1) (q0 : ¬ tt = c_true) (q1 : ¬ tt = c_false) (q2 : ¬ tt = c_read) (q3 : ¬ tt = c_bang) (q4 : ¬ tt = c_minus) (q5 : tt = c_lpar) (hf : s.left.length < f + 1) (hu0 : 0 < u) (hu : u ≤ s.nodes.length) (hl : Live M) (hex : ExC f base) :
    Calls Tryz.prog 86 #[.pointer (some ⟨M.gp, 0, none⟩), .int .u64 (u : Int)] w fun e w' => e = .returned (.tuple #[]) ∧ GStep w base M (binS (exprS f) u (nextS s)) w' := by
  have hgt := h.goodN
  rw [← ht] at hgt
  have k2 : ¬ (tk : Int) = 2 := by omega
  have k1 : ¬ (tk : Int) = 1 := by omega
  have e0 : ¬ (ba tt).toList = [116, 114, 117, 101] := fun e => q0 ((text_lit (x := tt) (c := ⟨#[116, 114, 117, 101]⟩) (L := [116, 114, 117, 101]) rfl hgt.1).1 e)
  have e0b : ((ba tt).toList == [116, 114, 117, 101]) = false := beq_eq_false_iff_ne.2 e0
  have e1 : ¬ (ba tt).toList = [102, 97, 108, 115, 101] := fun e => q1 ((text_lit (x := tt) (c := ⟨#[102, 97, 108, 115, 101]⟩) (L := [102, 97, 108, 115, 101]) rfl hgt.1).1 e)
  have e1b : ((ba tt).toList == [102, 97, 108, 115, 101]) = false := beq_eq_false_iff_ne.2 e1
  have e2 : ¬ (ba tt).toList = [114, 101, 97, 100] := fun e => q2 ((text_lit (x := tt) (c := ⟨#[114, 101, 97, 100]⟩) (L := [114, 101, 97, 100]) rfl hgt.1).1 e)
  have e2b : ((ba tt).toList == [114, 101, 97, 100]) = false := beq_eq_false_iff_ne.2 e2
  have e3 : ¬ (ba tt).toList = [33] := fun e => q3 ((text_lit (x := tt) (c := ⟨#[33]⟩) (L := [33]) rfl hgt.1).1 e)
  have e3b : ((ba tt).toList == [33]) = false := beq_eq_false_iff_ne.2 e3
  have e4 : ¬ (ba tt).toList = [45] := fun e => q4 ((text_lit (x := tt) (c := ⟨#[45]⟩) (L := [45]) rfl hgt.1).1 e)
  have e4b : ((ba tt).toList == [45]) = false := beq_eq_false_iff_ne.2 e4
  have e5 : (ba tt).toList = [40] := (text_lit (x := tt) (c := ⟨#[40]⟩) (L := [40]) rfl hgt.1).2 q5
  have hnn : Nx s (nextS s) := nx_of (by rw [← ht]; intro e; injection e with e1 e2 e3; rw [e2] at q5; exact absurd q5 (by decide))
  have HNN := Lib.hid hnn
  clear hnn
  clear q0 q1 q2 q3 q4 q5
  have hnx := next_any w base M s h
  rw [← ht] at hnx
  unfold tokV at hnx
  dsimp only at hnx
  have HNX := Lib.hid hnx
  have HSUM := Lib.hid h.sum
  have HFF := Lib.hid hf
  have HUU := Lib.hid hu
  have HU0 := Lib.hid hu0
  have HL := Lib.hid hl
  have HEX := Lib.hid hex
  have HGTT := Lib.hid hgt
  obtain ⟨s1, hs1⟩ : ∃ s1, s1 = nextS s := ⟨_, rfl⟩
  rw [← hs1] at HNX
  have HS1 := Lib.hid hs1
  clear h hnx hgt hf hu hu0 hl hex
  try clear ht
  go_enter Tryz.func86, Tryz.ntmps86
  go_upto_region 2 with (go_at_call 67; (with_reducible refine (HNX.out).mono ?_); rintro e w1 ⟨rfl, l1, hg1, hT1⟩; go_loud (
      have hx : (w1.alloc (.cells #[.int .u8 (tk : Int), .string (ba tt), .int .i64 (ta : Int)] 74)).heap[w1.heap.size]? = some (.cells #[.int .u8 (tk : Int), .string (ba tt), .int .i64 (ta : Int)] 74 (0, 0)) := Go.heap_alloc_new _ _;
      obtain ⟨⟨d0, d1, d2⟩, z0, z1, z2⟩ := tok_cells hx;
      have hal : Below w1.heap.size w1 (w1.alloc (.cells #[.int .u8 (tk : Int), .string (ba tt), .int .i64 (ta : Int)] 74)) := (Below.refl _ _).alloc (Nat.le_refl _) _;
      have HAL := Lib.hid hal;
      have HG1 := Lib.hid (hg1.below hal);
      have HT1 := Lib.hid hT1;
      clear hg1 hT1 hal))
  obtain ⟨M1, hM1⟩ : ∃ M1 : GM, M1 = { M with left := l1 } := ⟨_, rfl⟩
  obtain ⟨wA, hwA⟩ : ∃ wA, wA = w1.alloc (.cells #[.int .u8 (tk : Int), .string (ba tt), .int .i64 (ta : Int)] 74) := ⟨_, rfl⟩
  have hg1 : GR wA base M1 s1 := by rw [hM1, hwA]; exact HG1.out
  have hgp1 : M1.gp = M.gp := by rw [hM1]
  have hl1 : Live M1 := by rw [hM1]; exact HL.out
  have hst : ∀ {s' w'}, GStep wA base M1 s' w' → GStep w base M s' w' := fun h9 => step_tok (l := l1) HT1.out HAL.out (by rw [← hM1, ← hwA]; exact h9)
  have hx : wA.heap[w1.heap.size]? = some (.cells #[.int .u8 (tk : Int), .string (ba tt), .int .i64 (ta : Int)] 74 (0, 0)) := by rw [hwA]; exact Go.heap_alloc_new _ _
  obtain ⟨⟨d0, d1, d2⟩, z0, z1, z2⟩ := tok_cells hx
  clear HG1 HAL HT1
  rw [← hwA]
  have HM1 := Lib.hid hM1
  have HX := Lib.hid hx
  clear hwA hM1 hx
  have hnn := HNN.out
  rw [← HS1.out] at hnn
  have hbi := binary_any wA base M1 s1 hg1 f u (by rw [hnn.nodes]; exact HUU.out) hl1 (by have a1 := hnn.left; have a2 := HFF.out; omega) (by have a1 := hnn.left; have a2 := HSUM.out; rw [hnn.nodes, hnn.cnt]; omega) HEX.out
  rw [hgp1] at hbi
  have HBI := Lib.hid hbi
  clear hbi hnn
  have HST : Hid (∀ s' w', GStep wA base M1 s' w' → GStep w base M s' w') := Lib.hid (fun s' w' h9 => hst h9)
  have HGP1 := Lib.hid hgp1
  clear hg1 hgp1 hl1 hst
  go_wp2_with (go_at_call 104; (with_reducible refine (HBI.out).mono ?_); rintro e w3 ⟨rfl, hw3⟩; go_loud (have HW3 := Lib.hid hw3; clear hw3))
  go_end0
  refine ⟨rfl, ?_⟩
  rw [← HS1.out]
  exact HST.out _ _ HW3.out
set_option maxHeartbeats 8000000 in
theorem ex_fail (w : World) (base : Nat) (M : GM) (s : PS) (h : GR w base M s) (f u tk ta : Nat) (tt : List Nat) (ht : (⟨tk, tt, ta⟩ : Tok) = nextT s) (h2 : ¬ tk = 2) (h1 : ¬ tk = 1) (q0 : ¬ tt = c_true) (q1 : ¬ tt = c_false) (q2 : ¬ tt = c_read) (q3 : ¬ tt = c_bang) (q4 : ¬ tt = c_minus) (q5 : ¬ tt = c_lpar) (hf : s.left.length < f + 1) (hu0 : 0 < u) (hu : u ≤ s.nodes.length) (hl : Live M) (hex : ExC f base) :
    Calls Tryz.prog 86 #[.pointer (some ⟨M.gp, 0, none⟩), .int .u64 (u : Int)] w fun e w' => e = .returned (.tuple #[]) ∧ GStep w base M (failS (nextS s)) w' := by
  have hgt := h.goodN
  rw [← ht] at hgt
  have k2 : ¬ (tk : Int) = 2 := by omega
  have k1 : ¬ (tk : Int) = 1 := by omega
  have e0 : ¬ (ba tt).toList = [116, 114, 117, 101] := fun e => q0 ((text_lit (x := tt) (c := ⟨#[116, 114, 117, 101]⟩) (L := [116, 114, 117, 101]) rfl hgt.1).1 e)
  have e0b : ((ba tt).toList == [116, 114, 117, 101]) = false := beq_eq_false_iff_ne.2 e0
  have e1 : ¬ (ba tt).toList = [102, 97, 108, 115, 101] := fun e => q1 ((text_lit (x := tt) (c := ⟨#[102, 97, 108, 115, 101]⟩) (L := [102, 97, 108, 115, 101]) rfl hgt.1).1 e)
  have e1b : ((ba tt).toList == [102, 97, 108, 115, 101]) = false := beq_eq_false_iff_ne.2 e1
  have e2 : ¬ (ba tt).toList = [114, 101, 97, 100] := fun e => q2 ((text_lit (x := tt) (c := ⟨#[114, 101, 97, 100]⟩) (L := [114, 101, 97, 100]) rfl hgt.1).1 e)
  have e2b : ((ba tt).toList == [114, 101, 97, 100]) = false := beq_eq_false_iff_ne.2 e2
  have e3 : ¬ (ba tt).toList = [33] := fun e => q3 ((text_lit (x := tt) (c := ⟨#[33]⟩) (L := [33]) rfl hgt.1).1 e)
  have e3b : ((ba tt).toList == [33]) = false := beq_eq_false_iff_ne.2 e3
  have e4 : ¬ (ba tt).toList = [45] := fun e => q4 ((text_lit (x := tt) (c := ⟨#[45]⟩) (L := [45]) rfl hgt.1).1 e)
  have e4b : ((ba tt).toList == [45]) = false := beq_eq_false_iff_ne.2 e4
  have e5 : ¬ (ba tt).toList = [40] := fun e => q5 ((text_lit (x := tt) (c := ⟨#[40]⟩) (L := [40]) rfl hgt.1).1 e)
  have e5b : ((ba tt).toList == [40]) = false := beq_eq_false_iff_ne.2 e5
  clear q0 q1 q2 q3 q4 q5
  have hnx := next_any w base M s h
  rw [← ht] at hnx
  unfold tokV at hnx
  dsimp only at hnx
  have HNX := Lib.hid hnx
  have HSUM := Lib.hid h.sum
  have HFF := Lib.hid hf
  have HUU := Lib.hid hu
  have HU0 := Lib.hid hu0
  have HL := Lib.hid hl
  have HEX := Lib.hid hex
  have HGTT := Lib.hid hgt
  obtain ⟨s1, hs1⟩ : ∃ s1, s1 = nextS s := ⟨_, rfl⟩
  rw [← hs1] at HNX
  have HS1 := Lib.hid hs1
  clear h hnx hgt hf hu hu0 hl hex
  try clear ht
  go_enter Tryz.func86, Tryz.ntmps86
  go_upto_region 2 with (go_at_call 67; (with_reducible refine (HNX.out).mono ?_); rintro e w1 ⟨rfl, l1, hg1, hT1⟩; go_loud (
      have hx : (w1.alloc (.cells #[.int .u8 (tk : Int), .string (ba tt), .int .i64 (ta : Int)] 74)).heap[w1.heap.size]? = some (.cells #[.int .u8 (tk : Int), .string (ba tt), .int .i64 (ta : Int)] 74 (0, 0)) := Go.heap_alloc_new _ _;
      obtain ⟨⟨d0, d1, d2⟩, z0, z1, z2⟩ := tok_cells hx;
      have hal : Below w1.heap.size w1 (w1.alloc (.cells #[.int .u8 (tk : Int), .string (ba tt), .int .i64 (ta : Int)] 74)) := (Below.refl _ _).alloc (Nat.le_refl _) _;
      have HAL := Lib.hid hal;
      have HG1 := Lib.hid (hg1.below hal);
      have HT1 := Lib.hid hT1;
      clear hg1 hT1 hal))
  obtain ⟨M1, hM1⟩ : ∃ M1 : GM, M1 = { M with left := l1 } := ⟨_, rfl⟩
  obtain ⟨wA, hwA⟩ : ∃ wA, wA = w1.alloc (.cells #[.int .u8 (tk : Int), .string (ba tt), .int .i64 (ta : Int)] 74) := ⟨_, rfl⟩
  have hg1 : GR wA base M1 s1 := by rw [hM1, hwA]; exact HG1.out
  have hgp1 : M1.gp = M.gp := by rw [hM1]
  have hl1 : Live M1 := by rw [hM1]; exact HL.out
  have hst : ∀ {s' w'}, GStep wA base M1 s' w' → GStep w base M s' w' := fun h9 => step_tok (l := l1) HT1.out HAL.out (by rw [← hM1, ← hwA]; exact h9)
  have hx : wA.heap[w1.heap.size]? = some (.cells #[.int .u8 (tk : Int), .string (ba tt), .int .i64 (ta : Int)] 74 (0, 0)) := by rw [hwA]; exact Go.heap_alloc_new _ _
  obtain ⟨⟨d0, d1, d2⟩, z0, z1, z2⟩ := tok_cells hx
  clear HG1 HAL HT1
  rw [← hwA]
  have HM1 := Lib.hid hM1
  have HX := Lib.hid hx
  clear hwA hM1 hx
  have hfa := fail_any wA base M1 s1 hg1
  rw [hgp1] at hfa
  have HFA := Lib.hid hfa
  clear hfa
  have HST : Hid (∀ s' w', GStep wA base M1 s' w' → GStep w base M s' w') := Lib.hid (fun s' w' h9 => hst h9)
  have HGP1 := Lib.hid hgp1
  clear hg1 hgp1 hl1 hst
  go_wp2_with (go_at_call 66; (with_reducible refine (HFA.out).mono ?_); rintro e w3 ⟨rfl, hw3⟩; go_loud (have HW3 := Lib.hid hw3; clear hw3))
  go_end0
  refine ⟨rfl, ?_⟩
  rw [← HS1.out]
  exact HST.out _ _ HW3.out.step
set_option maxHeartbeats 8000000 in
theorem ex_num (w : World) (base : Nat) (M : GM) (s : PS) (h : GR w base M s) (f u ta : Nat) (tt : List Nat) (ht : (⟨2, tt, ta⟩ : Tok) = nextT s) (hf : s.left.length < f + 1) (hu0 : 0 < u) (hu : u ≤ s.nodes.length) (hl : Live M) (hex : ExC f base) :
    Calls Tryz.prog 86 #[.pointer (some ⟨M.gp, 0, none⟩), .int .u64 (u : Int)] w fun e w' => e = .returned (.tuple #[]) ∧ GStep w base M (growS u { nd0 13 with num := (valL tt : Int) } (nextS s)) w' := by
  have hgt := h.goodN
  rw [← ht] at hgt
  have hnn : Nx s (nextS s) := nx_of (by rw [← ht]; intro e; injection e with e1 e2 e3; exact absurd e1 (by decide))
  have HNN := Lib.hid hnn
  clear hnn
  have hnx := next_any w base M s h
  rw [← ht] at hnx
  unfold tokV at hnx
  dsimp only at hnx
  rw [show ((2 : Nat) : Int) = 2 from rfl] at hnx
  have HNX := Lib.hid hnx
  have HSUM := Lib.hid h.sum
  have HFF := Lib.hid hf
  have HUU := Lib.hid hu
  have HU0 := Lib.hid hu0
  have HL := Lib.hid hl
  have HEX := Lib.hid hex
  have HGTT := Lib.hid hgt
  obtain ⟨s1, hs1⟩ : ∃ s1, s1 = nextS s := ⟨_, rfl⟩
  rw [← hs1] at HNX
  have HS1 := Lib.hid hs1
  clear h hnx hgt hf hu hu0 hl hex
  try clear ht
  go_enter Tryz.func86, Tryz.ntmps86
  go_upto_region 2 with (go_at_call 67; (with_reducible refine (HNX.out).mono ?_); rintro e w1 ⟨rfl, l1, hg1, hT1⟩; go_loud (
      have hx : (w1.alloc (.cells #[.int .u8 2, .string (ba tt), .int .i64 (ta : Int)] 74)).heap[w1.heap.size]? = some (.cells #[.int .u8 2, .string (ba tt), .int .i64 (ta : Int)] 74 (0, 0)) := Go.heap_alloc_new _ _;
      obtain ⟨⟨d0, d1, d2⟩, z0, z1, z2⟩ := tok_cells hx;
      have hal : Below w1.heap.size w1 (w1.alloc (.cells #[.int .u8 2, .string (ba tt), .int .i64 (ta : Int)] 74)) := (Below.refl _ _).alloc (Nat.le_refl _) _;
      have HAL := Lib.hid hal;
      have HG1 := Lib.hid (hg1.below hal);
      have HT1 := Lib.hid hT1;
      clear hg1 hT1 hal))
  obtain ⟨M1, hM1⟩ : ∃ M1 : GM, M1 = { M with left := l1 } := ⟨_, rfl⟩
  obtain ⟨wA, hwA⟩ : ∃ wA, wA = w1.alloc (.cells #[.int .u8 2, .string (ba tt), .int .i64 (ta : Int)] 74) := ⟨_, rfl⟩
  have hg1 : GR wA base M1 s1 := by rw [hM1, hwA]; exact HG1.out
  have hgp1 : M1.gp = M.gp := by rw [hM1]
  have hl1 : Live M1 := by rw [hM1]; exact HL.out
  have hst : ∀ {s' w'}, GStep wA base M1 s' w' → GStep w base M s' w' := fun h9 => step_tok (l := l1) HT1.out HAL.out (by rw [← hM1, ← hwA]; exact h9)
  have hx : wA.heap[w1.heap.size]? = some (.cells #[.int .u8 2, .string (ba tt), .int .i64 (ta : Int)] 74 (0, 0)) := by rw [hwA]; exact Go.heap_alloc_new _ _
  obtain ⟨⟨d0, d1, d2⟩, z0, z1, z2⟩ := tok_cells hx
  clear HG1 HAL HT1
  rw [← hwA]
  have HM1 := Lib.hid hM1
  have HX := Lib.hid hx
  clear hwA hM1 hx
  have hnn := HNN.out
  rw [← HS1.out] at hnn
  have hnl := (HGTT.out.2.2.2.2 rfl).1
  have hrl := (HGTT.out.2.2.2.2 rfl).2
  have hvl : valL tt ≤ 9223372036854775807 := by unfold numL at hnl; simp only [Bool.and_eq_true, decide_eq_true_eq] at hnl; exact hnl.2
  have hsb := str_ba HGTT.out.1
  have hsz : (ba tt).size = tt.length := by rw [← str_length, hsb]
  have hva := value_num wA (ba tt) (ta : Int) (by rw [hsz]; have := HGTT.out.2.1; dsimp only at this; omega) hg1.vs.vr (by rw [hsb, hsz]; exact hrl) (by rw [hsb]; exact hnl)
  rw [hsb] at hva
  obtain ⟨v, hv⟩ : ∃ v, v = valL tt := ⟨_, rfl⟩
  rw [← hv] at hva hvl
  have hgr := fun w3 (hb : Below wA.heap.size wA w3) => grow_any w3 base M1 s1 (hg1.below hb) u { nd0 13 with num := (v : Int) } (by rw [hnn.nodes]; exact HUU.out) ⟨(okNd 13 (by omega)).kind, (okNd 13 (by omega)).name, by show (-9223372036854775808 : Int) ≤ (v : Int) ∧ (v : Int) ≤ 9223372036854775807; omega, (okNd 13 (by omega)).typ, (okNd 13 (by omega)).ref⟩ rfl (by have a1 := hnn.left; have a2 := HSUM.out; rw [hnn.nodes, hnn.cnt]; omega)
  unfold ndV nd0 at hgr
  dsimp only at hgr
  rw [hgp1, show ((13 : Nat) : Int) = 13 from rfl, show ((0 : Nat) : Int) = 0 from rfl] at hgr
  have HVV := Lib.hid hv
  have HVA := Lib.hid hva
  have HGR := Lib.hid hgr
  clear hgr hnn hnl hrl hvl hsb hsz hva hv
  have HST : Hid (∀ s' w', GStep wA base M1 s' w' → GStep w base M s' w') := Lib.hid (fun s' w' h9 => hst h9)
  have HGP1 := Lib.hid hgp1
  clear hg1 hgp1 hl1 hst
  go_wp2_with (first | (go_at_call 102; (with_reducible refine (HVA.out).mono ?_); rintro e w2 ⟨rfl, hb2⟩; go_loud (have HB2 := Lib.hid hb2; have hgr := HGR.out w2 hb2; have HGRA := Lib.hid hgr; clear hb2 hgr)) | (go_at_call 30; (with_reducible refine (HGRA.out).mono ?_); rintro e w3 ⟨rfl, hw3⟩; go_loud (have HW3 := Lib.hid hw3; clear hw3)))
  go_end0
  refine ⟨rfl, ?_⟩
  rw [← HS1.out]
  exact HST.out _ _ (by rw [← HVV.out]; exact GStep.pre HB2.out HW3.out)
set_option maxHeartbeats 8000000 in
theorem ex_call (w : World) (base : Nat) (M : GM) (s : PS) (h : GR w base M s) (f u ta : Nat) (tt : List Nat) (ht : (⟨1, tt, ta⟩ : Tok) = nextT s) (hd : isS c_dot (nextS s) = true) (hf : s.left.length < f + 1) (hu0 : 0 < u) (hu : u ≤ s.nodes.length) (hl : Live M) (hex : ExC f base) :
    Calls Tryz.prog 86 #[.pointer (some ⟨M.gp, 0, none⟩), .int .u64 (u : Int)] w fun e w' => e = .returned (.tuple #[]) ∧ GStep w base M (callS (exprS f) u tt (nextS s)) w' := by
  have hgt := h.goodN
  rw [← ht] at hgt
  have hnn : Nx s (nextS s) := nx_of (by rw [← ht]; intro e; injection e with e1 e2 e3; exact absurd e1 (by decide))
  have HNN := Lib.hid hnn
  clear hnn
  have HDOT := Lib.hid hd
  clear hd
  have hnx := next_any w base M s h
  rw [← ht] at hnx
  unfold tokV at hnx
  dsimp only at hnx
  rw [show ((1 : Nat) : Int) = 1 from rfl] at hnx
  have HNX := Lib.hid hnx
  have HSUM := Lib.hid h.sum
  have HFF := Lib.hid hf
  have HUU := Lib.hid hu
  have HU0 := Lib.hid hu0
  have HL := Lib.hid hl
  have HEX := Lib.hid hex
  have HGTT := Lib.hid hgt
  obtain ⟨s1, hs1⟩ : ∃ s1, s1 = nextS s := ⟨_, rfl⟩
  rw [← hs1] at HNX
  have HS1 := Lib.hid hs1
  clear h hnx hgt hf hu hu0 hl hex
  try clear ht
  go_enter Tryz.func86, Tryz.ntmps86
  go_upto_region 2 with (go_at_call 67; (with_reducible refine (HNX.out).mono ?_); rintro e w1 ⟨rfl, l1, hg1, hT1⟩; go_loud (
      have hx : (w1.alloc (.cells #[.int .u8 1, .string (ba tt), .int .i64 (ta : Int)] 74)).heap[w1.heap.size]? = some (.cells #[.int .u8 1, .string (ba tt), .int .i64 (ta : Int)] 74 (0, 0)) := Go.heap_alloc_new _ _;
      obtain ⟨⟨d0, d1, d2⟩, z0, z1, z2⟩ := tok_cells hx;
      have hal : Below w1.heap.size w1 (w1.alloc (.cells #[.int .u8 1, .string (ba tt), .int .i64 (ta : Int)] 74)) := (Below.refl _ _).alloc (Nat.le_refl _) _;
      have HAL := Lib.hid hal;
      have HG1 := Lib.hid (hg1.below hal);
      have HT1 := Lib.hid hT1;
      clear hg1 hT1 hal))
  obtain ⟨M1, hM1⟩ : ∃ M1 : GM, M1 = { M with left := l1 } := ⟨_, rfl⟩
  obtain ⟨wA, hwA⟩ : ∃ wA, wA = w1.alloc (.cells #[.int .u8 1, .string (ba tt), .int .i64 (ta : Int)] 74) := ⟨_, rfl⟩
  have hg1 : GR wA base M1 s1 := by rw [hM1, hwA]; exact HG1.out
  have hgp1 : M1.gp = M.gp := by rw [hM1]
  have hl1 : Live M1 := by rw [hM1]; exact HL.out
  have hst : ∀ {s' w'}, GStep wA base M1 s' w' → GStep w base M s' w' := fun h9 => step_tok (l := l1) HT1.out HAL.out (by rw [← hM1, ← hwA]; exact h9)
  have hx : wA.heap[w1.heap.size]? = some (.cells #[.int .u8 1, .string (ba tt), .int .i64 (ta : Int)] 74 (0, 0)) := by rw [hwA]; exact Go.heap_alloc_new _ _
  obtain ⟨⟨d0, d1, d2⟩, z0, z1, z2⟩ := tok_cells hx
  clear HG1 HAL HT1
  rw [← hwA]
  have HM1 := Lib.hid hM1
  have HX := Lib.hid hx
  clear hwA hM1 hx
  have hnn := HNN.out
  rw [← HS1.out] at hnn
  have hdd := HDOT.out
  rw [← HS1.out] at hdd
  have his := is_any wA base M1 s1 hg1 ⟨#[46]⟩
  rw [show str ⟨#[46]⟩ = c_dot from rfl, hdd, hgp1] at his
  have HIS := Lib.hid his
  have hca := call_any wA base M1 s1 hg1 f u tt ⟨HGTT.out.1, HGTT.out.2.1⟩ (by rw [hnn.nodes]; exact HUU.out) hl1 (by have a1 := hnn.left; have a2 := HFF.out; omega) (by have a1 := hnn.left; have a2 := HSUM.out; rw [hnn.nodes, hnn.cnt]; omega) HEX.out
  rw [hgp1] at hca
  have HCA := Lib.hid hca
  clear his hca hnn hdd
  have HST : Hid (∀ s' w', GStep wA base M1 s' w' → GStep w base M s' w') := Lib.hid (fun s' w' h9 => hst h9)
  have HGP1 := Lib.hid hgp1
  clear hg1 hgp1 hl1 hst
  go_wp2_with (first | (go_at_call 48; (with_reducible refine (HIS.out).mono ?_); rintro e w2 ⟨rfl, rfl⟩) | (go_at_call 100; (with_reducible refine (HCA.out).mono ?_); rintro e w3 ⟨rfl, hw3⟩; go_loud (have HW3 := Lib.hid hw3; clear hw3)))
  go_end0
  refine ⟨rfl, ?_⟩
  rw [← HS1.out]
  exact HST.out _ _ HW3.out
set_option maxHeartbeats 8000000 in
theorem ex_var (w : World) (base : Nat) (M : GM) (s : PS) (h : GR w base M s) (f u ta : Nat) (tt : List Nat) (ht : (⟨1, tt, ta⟩ : Tok) = nextT s) (hd : isS c_dot (nextS s) = false) (hf : s.left.length < f + 1) (hu0 : 0 < u) (hu : u ≤ s.nodes.length) (hl : Live M) (hex : ExC f base) :
    Calls Tryz.prog 86 #[.pointer (some ⟨M.gp, 0, none⟩), .int .u64 (u : Int)] w fun e w' => e = .returned (.tuple #[]) ∧ GStep w base M (growS u { nd0 15 with ref := (nextS s).vis tt } (varS tt (nextS s))) w' := by
  have hgt := h.goodN
  rw [← ht] at hgt
  have hnn : Nx s (nextS s) := nx_of (by rw [← ht]; intro e; injection e with e1 e2 e3; exact absurd e1 (by decide))
  have HNN := Lib.hid hnn
  clear hnn
  have HDOT := Lib.hid hd
  clear hd
  have hnx := next_any w base M s h
  rw [← ht] at hnx
  unfold tokV at hnx
  dsimp only at hnx
  rw [show ((1 : Nat) : Int) = 1 from rfl] at hnx
  have HNX := Lib.hid hnx
  have HSUM := Lib.hid h.sum
  have HFF := Lib.hid hf
  have HUU := Lib.hid hu
  have HU0 := Lib.hid hu0
  have HL := Lib.hid hl
  have HEX := Lib.hid hex
  have HGTT := Lib.hid hgt
  obtain ⟨s1, hs1⟩ : ∃ s1, s1 = nextS s := ⟨_, rfl⟩
  rw [← hs1] at HNX
  have HS1 := Lib.hid hs1
  clear h hnx hgt hf hu hu0 hl hex
  try clear ht
  go_enter Tryz.func86, Tryz.ntmps86
  go_upto_region 2 with (go_at_call 67; (with_reducible refine (HNX.out).mono ?_); rintro e w1 ⟨rfl, l1, hg1, hT1⟩; go_loud (
      have hx : (w1.alloc (.cells #[.int .u8 1, .string (ba tt), .int .i64 (ta : Int)] 74)).heap[w1.heap.size]? = some (.cells #[.int .u8 1, .string (ba tt), .int .i64 (ta : Int)] 74 (0, 0)) := Go.heap_alloc_new _ _;
      obtain ⟨⟨d0, d1, d2⟩, z0, z1, z2⟩ := tok_cells hx;
      have hal : Below w1.heap.size w1 (w1.alloc (.cells #[.int .u8 1, .string (ba tt), .int .i64 (ta : Int)] 74)) := (Below.refl _ _).alloc (Nat.le_refl _) _;
      have HAL := Lib.hid hal;
      have HG1 := Lib.hid (hg1.below hal);
      have HT1 := Lib.hid hT1;
      clear hg1 hT1 hal))
  obtain ⟨M1, hM1⟩ : ∃ M1 : GM, M1 = { M with left := l1 } := ⟨_, rfl⟩
  obtain ⟨wA, hwA⟩ : ∃ wA, wA = w1.alloc (.cells #[.int .u8 1, .string (ba tt), .int .i64 (ta : Int)] 74) := ⟨_, rfl⟩
  have hg1 : GR wA base M1 s1 := by rw [hM1, hwA]; exact HG1.out
  have hgp1 : M1.gp = M.gp := by rw [hM1]
  have hl1 : Live M1 := by rw [hM1]; exact HL.out
  have hst : ∀ {s' w'}, GStep wA base M1 s' w' → GStep w base M s' w' := fun h9 => step_tok (l := l1) HT1.out HAL.out (by rw [← hM1, ← hwA]; exact h9)
  have hx : wA.heap[w1.heap.size]? = some (.cells #[.int .u8 1, .string (ba tt), .int .i64 (ta : Int)] 74 (0, 0)) := by rw [hwA]; exact Go.heap_alloc_new _ _
  obtain ⟨⟨d0, d1, d2⟩, z0, z1, z2⟩ := tok_cells hx
  clear HG1 HAL HT1
  rw [← hwA]
  have HM1 := Lib.hid hM1
  have HX := Lib.hid hx
  clear hwA hM1 hx
  have hnn := HNN.out
  rw [← HS1.out] at hnn
  have hdd := HDOT.out
  rw [← HS1.out] at hdd
  have his := is_any wA base M1 s1 hg1 ⟨#[46]⟩
  rw [show str ⟨#[46]⟩ = c_dot from rfl, hdd, hgp1] at his
  have HIS := Lib.hid his
  obtain ⟨gv, hgv⟩ := hl1.2
  obtain ⟨v, hv⟩ : ∃ v, v = s1.vis tt := ⟨_, rfl⟩
  have hvb : v < 18446744073709551616 := by rw [hv]; exact hg1.vb tt
  have hva := fun wd (hb : Below wA.heap.size wA wd) => var_any wd base M1 s1 (hg1.below hb) tt ⟨HGTT.out.1, HGTT.out.2.1⟩ gv hgv
  rw [hgp1, ← hv] at hva
  have hok := ok_var tt s1
  have hgr := fun w3 (h3 : GR w3 base M1 (varS tt s1)) => grow_any w3 base M1 _ h3 u { nd0 15 with ref := v } (by have := hok.nodes; rw [hnn.nodes] at this; exact Nat.le_trans HUU.out this) ⟨(okNd 15 (by omega)).kind, (okNd 15 (by omega)).name, (okNd 15 (by omega)).num, (okNd 15 (by omega)).typ, hvb⟩ rfl (by have a1 := hnn.left; have a2 := HSUM.out; have a3 := hok.sum; rw [hnn.nodes, hnn.cnt] at a3; omega)
  unfold ndV nd0 at hgr
  dsimp only at hgr
  rw [hgp1, show ((15 : Nat) : Int) = 15 from rfl, show ((0 : Nat) : Int) = 0 from rfl] at hgr
  have HVV := Lib.hid hv
  have HVA := Lib.hid hva
  have HGR := Lib.hid hgr
  clear hgr hnn hdd his hva hok hgv hvb hv
  have HST : Hid (∀ s' w', GStep wA base M1 s' w' → GStep w base M s' w') := Lib.hid (fun s' w' h9 => hst h9)
  have HGP1 := Lib.hid hgp1
  clear hg1 hgp1 hl1 hst
  go_upto_region 7 with (first | (go_at_call 48; (with_reducible refine (HIS.out).mono ?_); rintro e w2 ⟨rfl, rfl⟩) | (go_at_call 101; (with_reducible refine (HVA.out _ (by repeat (with_reducible (first | exact Below.refl _ _ | refine ride_alloc ?_ _ | refine ride_drew ?_ | refine below_drewN ?_ _)))).mono ?_); rintro e w3 ⟨rfl, hg3, hT3⟩; go_loud (have HG3 := Lib.hid hg3; have HT3 := Lib.hid hT3; clear hg3 hT3)) | (go_at_call 30; (with_reducible refine (HGR.out _ (HG3.out.below (by repeat (with_reducible (first | exact Below.refl _ _ | refine ride_alloc ?_ _ | refine ride_drew ?_ | refine below_drewN ?_ _))))).mono ?_); rintro e w4 ⟨rfl, hw4⟩; go_loud (have HW4 := Lib.hid hw4; clear hw4)))
  go_region_with (first | (go_at_call 48; (with_reducible refine (HIS.out).mono ?_); rintro e w2 ⟨rfl, rfl⟩) | (go_at_call 101; (with_reducible refine (HVA.out _ (by repeat (with_reducible (first | exact Below.refl _ _ | refine ride_alloc ?_ _ | refine ride_drew ?_ | refine below_drewN ?_ _)))).mono ?_); rintro e w3 ⟨rfl, hg3, hT3⟩; go_loud (have HG3 := Lib.hid hg3; have HT3 := Lib.hid hT3; clear hg3 hT3)) | (go_at_call 30; (with_reducible refine (HGR.out _ (HG3.out.below (by repeat (with_reducible (first | exact Below.refl _ _ | refine ride_alloc ?_ _ | refine ride_drew ?_ | refine below_drewN ?_ _))))).mono ?_); rintro e w4 ⟨rfl, hw4⟩; go_loud (have HW4 := Lib.hid hw4; clear hw4)))
  go_end0
  refine ⟨rfl, ?_⟩
  rw [← HS1.out]
  exact HST.out _ _ (by rw [← HVV.out]; exact GStep.pre (w1 := _) (by repeat (with_reducible (first | exact Below.refl _ _ | refine ride_alloc ?_ _ | refine ride_drew ?_ | refine below_drewN ?_ _))) (GStep.trans (M1 := M1) rfl (HT3.out.more fun j e => .inl (show j = M1.gp from (show j = M.gp from e).trans HGP1.out.symm)) (fun j h => .inl h) (fun h => h) (GStep.pre (by repeat (with_reducible (first | exact Below.refl _ _ | refine ride_alloc ?_ _ | refine ride_drew ?_ | refine below_drewN ?_ _))) HW4.out)))
theorem ex_more (f base : Nat) (hex : ExC f base) : ExC (f + 1) base := by
  intro w M s u h hf hu0 hu hl
  have e : exprS (f + 1) u s = (if (nextT s).kind = 2 then growS u { nd0 13 with num := (valL (nextT s).text : Int) } (nextS s)
      else if (nextT s).kind = 1 then (if isS c_dot (nextS s) then callS (exprS f) u (nextT s).text (nextS s) else growS u { nd0 15 with ref := (nextS s).vis (nextT s).text } (varS (nextT s).text (nextS s)))
      else if (nextT s).text = c_true then growS u { nd0 14 with num := 1 } (nextS s)
      else if (nextT s).text = c_false then growS u (nd0 14) (nextS s)
      else if (nextT s).text = c_read then growS u (nd0 20) (nextS s)
      else if (nextT s).text = c_bang then nestS (exprS f (growId (nextS s))) (growS u (nd0 16) (nextS s))
      else if (nextT s).text = c_minus then nestS (exprS f (growId (nextS s))) (growS u (nd0 17) (nextS s))
      else if (nextT s).text = c_lpar then binS (exprS f) u (nextS s)
      else failS (nextS s)) := rfl
  rw [e]
  obtain ⟨t, ht⟩ : ∃ t, t = nextT s := ⟨_, rfl⟩
  rw [← ht]
  obtain ⟨tk, tt, ta⟩ := t
  dsimp only
  by_cases h2 : tk = 2
  · subst h2
    rw [if_pos rfl]
    exact ex_num w base M s h f u ta tt ht hf hu0 hu hl hex
  rw [if_neg h2]
  by_cases h1 : tk = 1
  · subst h1
    rw [if_pos rfl]
    cases hd : isS c_dot (nextS s) with
    | true => rw [if_pos rfl]; exact ex_call w base M s h f u ta tt ht hd hf hu0 hu hl hex
    | false => rw [if_neg (by decide)]; exact ex_var w base M s h f u ta tt ht hd hf hu0 hu hl hex
  rw [if_neg h1]
  by_cases q0 : tt = c_true
  · rw [if_pos q0]; exact ex_true w base M s h f u tk ta tt ht h2 h1 q0 hf hu0 hu hl hex
  rw [if_neg q0]
  by_cases q1 : tt = c_false
  · rw [if_pos q1]; exact ex_false w base M s h f u tk ta tt ht h2 h1 q0 q1 hf hu0 hu hl hex
  rw [if_neg q1]
  by_cases q2 : tt = c_read
  · rw [if_pos q2]; exact ex_read w base M s h f u tk ta tt ht h2 h1 q0 q1 q2 hf hu0 hu hl hex
  rw [if_neg q2]
  by_cases q3 : tt = c_bang
  · rw [if_pos q3]; exact ex_not w base M s h f u tk ta tt ht h2 h1 q0 q1 q2 q3 hf hu0 hu hl hex
  rw [if_neg q3]
  by_cases q4 : tt = c_minus
  · rw [if_pos q4]; exact ex_neg w base M s h f u tk ta tt ht h2 h1 q0 q1 q2 q3 q4 hf hu0 hu hl hex
  rw [if_neg q4]
  by_cases q5 : tt = c_lpar
  · rw [if_pos q5]; exact ex_bin w base M s h f u tk ta tt ht h2 h1 q0 q1 q2 q3 q4 q5 hf hu0 hu hl hex
  rw [if_neg q5]
  exact ex_fail w base M s h f u tk ta tt ht h2 h1 q0 q1 q2 q3 q4 q5 hf hu0 hu hl hex
/-- WHAT AN EXPRESSION DOES, AT ANY FUEL. -/
theorem ex_all (base : Nat) : ∀ f, ExC f base
  | 0 => fun w M s u h hf => absurd hf (by omega)
  | f + 1 => ex_more f base (ex_all base f)
theorem expr_any (w : World) (base : Nat) (M : GM) (s : PS) (h : GR w base M s) (u : Nat) (hu0 : 0 < u) (hu : u ≤ s.nodes.length) (hl : Live M) :
    Calls Tryz.prog 86 #[.pointer (some ⟨M.gp, 0, none⟩), .int .u64 (u : Int)] w fun e w' => e = .returned (.tuple #[]) ∧ GStep w base M (exprT u s) w' :=
  ex_all base _ w M s u h (Nat.lt_succ_self _) hu0 hu hl
end Go.Proofs.YtecbaceinifjiaaGreatDoor
