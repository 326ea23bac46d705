/- Contracts: the small functions of a crown: the first one, the next one, its place, its page; what Write leaves of a disk. -/
import Derived.Test.YtnojkifndcffjaaDRot
import Derived.Test.YtnojkifndcffjaaLike
import Derived.Test.YtnojkifndcffjaaBurst
namespace Go.Proofs.Ytnojkifndcffjaa
open Go.RowKit
set_option linter.unusedSimpArgs false
set_option linter.unusedVariables false

theorem crownInfo : (Try.prog.info? 24).map (·.size) = some 3 := by kernel_rfl
set_option maxRecDepth 100000 in
set_option maxHeartbeats 1000000 in
theorem first_any (w : World) : Calls Try.prog 16 #[] w fun e w' => e = .returned (.agg #[.int .u32 1, .int .u8 0, .int .u32 0]) ∧ Below w.heap.size w w' := by
  go_enter Try.func16, Try.ntmps16
  go_wp2
  exact bodyPost_ret_by (results_cell_row rfl _ _ _ _ _ _ _ rfl (Go.heap_alloc_new w _) Try.underlying24 rfl crownInfo) rfl ⟨rfl, (Below.refl _ _).alloc (Nat.le_refl _) _⟩
theorem heap_three (w : World) (o1 o2 o3 : Obj) : (((w.alloc o1).alloc o2).alloc o3).heap[w.heap.size + 1]? = some o2 ∧ (((w.alloc o1).alloc o2).alloc o3).heap[w.heap.size + 1 + 1]? = some o3 ∧ Below w.heap.size w (((w.alloc o1).alloc o2).alloc o3) := by
  have h2 : ((w.alloc o1).alloc o2).heap.size = w.heap.size + 1 + 1 := by simp
  refine ⟨?_, ?_, (below_two (w := w)).alloc (by omega) _⟩
  · rw [Go.heap_alloc_old _ _ (by omega), Go.heap_alloc2_new]
  · rw [← h2, Go.heap_alloc_new]
def nextHalf (h : Nat) : Nat := h ^^^ 1
set_option maxRecDepth 100000 in
set_option maxHeartbeats 1000000 in
theorem next_any (w : World) (gen half ser : Nat) (hg : gen < 4294967295) (hh : half < 256) (hs : ser < 4294967295) : Calls Try.prog 17 #[.agg #[.int .u32 (gen : Int), .int .u8 (half : Int), .int .u32 (ser : Int)]] w fun e w' =>
    e = .returned (.agg #[.int .u32 ((gen + 1 : Nat) : Int), .int .u8 ((nextHalf half : Nat) : Int), .int .u32 ((ser + 1 : Nat) : Int)]) ∧ Below w.heap.size w w' := by
  have hx : bits .xor .u8 (half : Int) 1 = ((nextHalf half : Nat) : Int) := u8_xor_nat half 1 hh (by decide)
  obtain ⟨nh, hn⟩ : ∃ nh, nh = nextHalf half := ⟨_, rfl⟩
  rw [← hn] at hx ⊢
  go_enter Try.func17, Try.ntmps17
  go_wp2
  exact bodyPost_ret_by (results_cell_row rfl _ _ _ _ _ _ _ rfl (Go.heap_alloc2_new w _ _) Try.underlying24 rfl crownInfo) rfl ⟨by simp [hn], below_two⟩
set_option maxRecDepth 100000 in
set_option maxHeartbeats 1000000 in
theorem place_any (w : World) (gen half ser : Nat) : Calls Try.prog 39 #[.agg #[.int .u32 (gen : Int), .int .u8 (half : Int), .int .u32 (ser : Int)]] w fun e w' =>
    e = .returned (.int .i64 ((gen % 2 : Nat) : Int)) ∧ Below w.heap.size w w' := by
  have hm : (gen : Int).tmod 2 = ((gen % 2 : Nat) : Int) := by rw [Int.tmod_eq_emod_of_nonneg (by omega)]; omega
  have hm2 : (gen : Int) % 2 = ((gen % 2 : Nat) : Int) := by omega
  obtain ⟨r, hr⟩ : ∃ r, r = gen % 2 := ⟨_, rfl⟩
  have hr2 : r < 2 := by omega
  rw [← hr] at hm hm2 ⊢
  clear hr
  go_enter Try.func39, Try.ntmps39
  go_wp2
  go_ret
  exact ⟨rfl, (Below.refl _ _).alloc (Nat.le_refl _) _⟩
set_option maxRecDepth 100000 in
set_option maxHeartbeats 1000000 in
theorem cpage_any (w : World) (gen half ser : Nat) (hh : half < 256) : Calls Try.prog 37 #[.agg #[.int .u32 (gen : Int), .int .u8 (half : Int), .int .u32 (ser : Int)]] w fun e w' =>
    ∃ A n c, e = .returned (.agg #[.int .u32 (gen : Int), .int .u32 (ser : Int), .int .u32 0, .int .u8 9, .slice A n c]) ∧ n = 1 ∧ Bytes w' w'.heap.size (.slice A n c) [half] ∧ Below w.heap.size w w' := by
  go_enter Try.func37, Try.ntmps37
  go_wp2
  have h1 := heap_three w (.cells #[.int .u32 (gen : Int), .int .u8 (half : Int), .int .u32 (ser : Int)] 24)
    (.cells #[.int .u32 (gen : Int), .int .u32 (ser : Int), .int .u32 0, .int .u8 9, .slice (some ⟨w.heap.size + 1 + 1, 0, none⟩) 1 1] 81) (.cells #[.int .u8 (half : Int)] 5)
  exact bodyPost_ret_by (results_cell_row rfl _ _ _ _ _ _ _ rfl h1.1 Try.underlying81 rfl pageInfo) rfl ⟨_, _, _, rfl, rfl, bytes_block (l := [half]) h1.2.1 (by simp) rfl (Nat.le_refl _) (by simpa using hh) (by unfold maxLen; simp), h1.2.2⟩
set_option maxRecDepth 100000 in
set_option maxHeartbeats 1000000 in
theorem sectors_any {w : World} {gs : Nat} {b : DB} {dur : List (List Nat)} {pend : List (Nat × List Nat)} {nw bud : Int} (h : Disk w gs b dur pend nw bud) :
    Calls Try.prog 34 #[.pointer (some ⟨gs, 0, none⟩)] w fun e w' => e = .returned (.int .i64 (dur.length : Int)) ∧ w = w' := by
  have c0 := h.c0
  clear h
  go_enter Try.func34, Try.ntmps34
  go_wp2
  go_ret
  exact ⟨rfl, rfl⟩

theorem below_only {w w' : World} {p : Nat → Prop} (h : Below w.heap.size w w') : OnlyAt w w' p := ⟨h.os, h.tape, h.output, h.size, fun k hk _ => h.block k hk⟩
/-- What a crown's Write leaves: what waited is safe, and the crown in its place. -/
def crownSec (gen half ser : Nat) : List Nat := Go.Proofs.Ytnojkifndcffjaa.page gen ser 0 9 [half]
theorem crownSec_sec {gen half ser : Nat} (h : half < 256) : IsSec (crownSec gen half ser) := by
  refine ⟨page_length (by simp), fun b hb => ?_⟩
  rcases List.mem_append.1 hb with h1 | h1
  · exact pg_small (by decide) (by simpa using h) b h1
  · exact le4_small _ b h1
set_option maxRecDepth 100000 in
set_option maxHeartbeats 4000000 in
theorem cwrite_good {w : World} {gs : Nat} {b : DB} {dur : List (List Nat)} {pend : List (Nat × List Nat)} {nw : Int} (h : Disk w gs b dur pend nw (-1)) (gen half ser : Nat) (hg : gen < 4294967296) (hh : half ≤ 1) (hs : ser < 4294967296) (hl : 2 ≤ dur.length) (hnw : 0 ≤ nw ∧ nw ≤ 1048576) :
    Calls Try.prog 18 #[.pointer (some ⟨gs, 0, none⟩), .agg #[.int .u32 (gen : Int), .int .u8 (half : Int), .int .u32 (ser : Int)]] w fun e w' => e = .returned (.int .i64 0) ∧
      ∃ cd cl, Disk w' gs ⟨b.gd, cd, b.gl, cl, .slice none 0 0⟩ ((applied pend dur).set (gen % 2) (crownSec gen half ser)) [] (nw + 1) (-1) ∧ OnlyAt w w' (fun k => k = gs ∨ k = b.gd ∨ k = b.gl) := by
  have HC0 := fun o => hide (cpage_any (w.alloc o) gen half ser (by omega))
  have HD := Lib.hid h
  have hgs := h.lt
  have hn1 : ¬ (half : Int) > 1 := by omega
  have hgl := (World.ownsRow.lt h.la b.gl rfl).2
  have hgd := (World.ownsRow.lt h.du b.gd rfl).2
  obtain ⟨r, hr⟩ : ∃ r, r = gen % 2 := ⟨_, rfl⟩
  have hr2 : r < 2 := by omega
  rw [← hr]
  have HRR := Lib.hid hr
  clear h hr
  go_enter Try.func18, Try.ntmps18
  go_wp2_with (first
    | (go_at_call 37; (with_reducible refine (unhide (HC0 _)).mono ?_); rintro e w2 ⟨A2, n2, c2, rfl, rfl, hB2, hb2⟩; go_loud (
       have HC1 := hide (bytes_good w2 gen ser 0 9 A2 1 c2 [half] hg hs (by decide) (by decide) hB2 (by decide));
       rw [show pg gen ser 0 9 [half] ++ le4 (crc (pg gen ser 0 9 [half])) = crownSec gen half ser from rfl, show ((0 : Nat) : Int) = 0 from rfl, show ((9 : Nat) : Int) = 9 from rfl] at HC1))
    | (go_at_call 38; (with_reducible refine (unhide HC1).mono ?_); rintro e w3 ⟨A3, n3, c3, rfl, hM3, hb3⟩; go_loud (
       obtain rfl : n3 = 512 := hM3.len.trans (crownSec_sec (by omega)).1;
       have hb1 := (Below.refl w.heap.size w).alloc (Nat.le_refl _) (.cells #[.int .u32 (gen : Int), .int .u8 (half : Int), .int .u32 (ser : Int)] 24);
       have hb13 := hb2.trans (hb3.mono hb2.size);
       have hbw3 := hb1.trans (hb13.mono hb1.size);
       have g3 : w3.heap[w.heap.size]? = _ := (hb13.block w.heap.size (by simp)).trans (Go.heap_alloc_new w _);
       have hD3 := HD.out.below hbw3;
       have HS1 := hide (sync_good hD3 (by decide) (by decide))))
    | (go_at_call 20; (with_reducible refine (unhide HS1).mono ?_); rintro e w4 ⟨rfl, hD4, hO4⟩; go_loud (
       have hD4' : Disk w4 gs ⟨b.gd, b.cd, b.gl, b.cl, .slice none 0 0⟩ (applied pend dur) [] nw (-1) := hD4;
       have hM4 := hM3.disk hD3 hO4 (fun k hk => hk.imp_right fun h => h.imp_right fun h => .inl h);
       have g4 : w4.heap[w.heap.size]? = _ := (hO4.block w.heap.size (Nat.lt_of_lt_of_le (by simp) hb13.size) (by omega)).trans g3;
       have q0 : w4.cell? ⟨w.heap.size, 0, none⟩ = some (.int .u32 (gen : Int)) := by rw [cell_of_row w4 w.heap.size 0 _ _ _ g4]; rfl;
       have q1 : w4.cell? ⟨w.heap.size, 1, none⟩ = some (.int .u8 (half : Int)) := by rw [cell_of_row w4 w.heap.size 1 _ _ _ g4]; rfl;
       have q2 : w4.cell? ⟨w.heap.size, 2, none⟩ = some (.int .u32 (ser : Int)) := by rw [cell_of_row w4 w.heap.size 2 _ _ _ g4]; rfl;
       have HP1 := hide (place_any w4 gen half ser);
       rw [← HRR.out] at HP1))
    | (go_at_call 39; (with_reducible refine (unhide HP1).mono ?_); rintro e w5 ⟨rfl, hb5⟩; go_loud (
       have hD5 := hD4'.below hb5;
       have hM5 := hM4.below hb5;
       have HW1 := hide (write_good hD5 (by decide) (by decide) hnw (by simp) r (by rw [applied_length]; omega) A3 c3 (crownSec gen half ser) hM5.bytes (crownSec_sec (by omega)))))
    | (go_at_call 12; (with_reducible refine (unhide HW1).mono ?_); rintro e w6 ⟨rfl, b6, hD6, i1, i2, i3, i4, i5, hO6⟩; go_loud (
       have hD6' : Disk w6 gs b6 (applied pend dur) [(r, crownSec gen half ser)] (nw + 1) (-1) := hD6;
       have HS2 := hide (sync_good hD6' (by decide) (by decide))))
    | (go_at_call 20; (with_reducible refine (unhide HS2).mono ?_); rintro e w7 ⟨rfl, hD7, hO7⟩))
  go_ret
  have o3 : OnlyAt w w3 (fun k => k = gs ∨ k = b.gd ∨ k = b.gl) := below_only hbw3
  have hs3 := hbw3.size
  have o5 : OnlyAt w4 w5 (fun k => k = gs ∨ k = b.gd ∨ k = b.gl) := below_only hb5
  have o6 : OnlyAt w5 w6 (fun k => k = gs ∨ k = b.gd ∨ k = b.gl) := hO6.mono fun k _ hk => by
    rcases hk with h | h | h
    · exact .inl h
    · exact .inr (.inr h)
    · cases h
  have o7 : OnlyAt w6 w7 (fun k => k = gs ∨ k = b.gd ∨ k = b.gl) := hO7.mono fun k _ hk => by
    rcases hk with h | h | h
    · exact .inl h
    · exact .inr (.inl (by rw [h, i1]))
    · exact .inr (.inr (by rw [h, i3]))
  refine ⟨rfl, b6.cd, b6.cl, ?_, (((o3.trans hO4).trans o5).trans o6).trans o7⟩
  have e : applied [(r, crownSec gen half ser)] (applied pend dur) = (applied pend dur).set r (crownSec gen half ser) := rfl
  rw [e] at hD7
  rw [i1, i3] at hD7
  exact hD7
end Go.Proofs.Ytnojkifndcffjaa
