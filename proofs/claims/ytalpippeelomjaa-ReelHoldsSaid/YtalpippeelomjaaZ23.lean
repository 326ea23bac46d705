/- RBytes, LBel: joined by program (tools/merge.py). -/
import Derived.Test.YtalpippeelomjaaZ22
import Derived.Test.YtalpippeelomjaaZ6
import Derived.Deep.RegionHeld3
import Derived.Deep.RegionLaw
import Derived.Deep.DeepCutAuto
import Derived.BigQuiet
import Derived.Deep.QuietTactic
namespace Go.Proofs.Ytalpippeelomjaa
open Go.RowKit
set_option linter.unusedSimpArgs false
set_option linter.unusedVariables false
theorem rbox_facts {x : World} {g : Nat} {v0 v1 v2 v3 v4 : Value} (h : x.heap[g]? = some (.cells #[v0, v1, v2, v3, v4] 56 (0, 0))) :
    x.cell? ⟨g, 0, none⟩ = some v0 ∧ x.cell? ⟨g, 1, none⟩ = some v1 ∧ x.cell? ⟨g, 2, none⟩ = some v2 ∧ x.cell? ⟨g, 3, none⟩ = some v3 ∧ x.cell? ⟨g, 4, none⟩ = some v4 := by
  refine ⟨?_, ?_, ?_, ?_, ?_⟩
  all_goals (rw [cell_of_row x g _ _ _ _ h]; rfl)
theorem num_low (w : World) (n k : Nat) (m i : Int) (hm : m = (n : Int)) (hi : i = (k : Int)) (hn : n < 18446744073709551616) (hk : k ≤ 8) :
    Calls Try.prog 58 #[.int .u64 m, .int .i64 i] w fun e w' => ∃ g, e = .returned (.slice (some ⟨g, 0, none⟩) k k) ∧ Bytes w' w'.heap.size (.slice (some ⟨g, 0, none⟩) k k) (beN k n) ∧ Below w.heap.size w w' := by
  subst hm hi
  refine (num_any w n k hn hk).mono ?_
  rintro e w' ⟨he, hh, hb⟩
  exact ⟨_, he, bytes_block hh (Array.getElem?_eq_some_iff.1 hh).1 (beN_length n k).symm (Nat.le_refl _) (beN_small n k) (by rw [beN_length]; unfold maxLen; omega), hb⟩
theorem ride_alloc {W x : World} (h : Below W.heap.size W x) (o : Obj) : Below W.heap.size W (x.alloc o) := h.alloc h.size o
theorem ride_drew {W x : World} (h : Below W.heap.size W x) : Below W.heap.size W x.drew := h.drew
theorem ride_call {W x y : World} (hb : Below x.heap.size x y) (h : Below W.heap.size W x) : Below W.heap.size W y := h.trans (hb.mono h.size)
theorem go_alloc {x : World} {v : Value} {l : List Nat} (h : Bytes x x.heap.size v l) (o : Obj) : Bytes (x.alloc o) (x.alloc o).heap.size v l := h.along ((Below.refl _ _).alloc (Nat.le_refl _) o)
theorem go_drew {x : World} {v : Value} {l : List Nat} (h : Bytes x x.heap.size v l) : Bytes x.drew x.drew.heap.size v l := h.of_cells fun _ _ => rfl
theorem go_call {x y : World} {v : Value} {l : List Nat} (hb : Below x.heap.size x y) (h : Bytes x x.heap.size v l) : Bytes y y.heap.size v l := h.along hb
theorem head_new (x : World) : Bytes (x.alloc (.cells #[.int .u8 104, .int .u8 103] 5)) (x.alloc (.cells #[.int .u8 104, .int .u8 103] 5)).heap.size (.slice (some ⟨x.heap.size, 0, none⟩) 2 2) [104, 103] :=
  bytes_block (l := [104, 103]) (Go.heap_alloc_new x _) (by simp) rfl (Nat.le_refl _) (by simp) (by unfold maxLen; simp)
theorem kind_new (x : World) (k : Nat) (hk : k < 256) : Bytes (x.alloc (.cells #[.int .u8 (k : Int)] 5)) (x.alloc (.cells #[.int .u8 (k : Int)] 5)).heap.size (.slice (some ⟨x.heap.size, 0, none⟩) 1 1) [k] :=
  bytes_block (l := [k]) (Go.heap_alloc_new x _) (by simp) rfl (Nat.le_refl _) (by simpa using hk) (by unfold maxLen; simp)
theorem head_at (x : World) (g : Nat) (hg : g = x.heap.size) : Bytes (x.alloc (.cells #[.int .u8 104, .int .u8 103] 5)) (x.alloc (.cells #[.int .u8 104, .int .u8 103] 5)).heap.size (.slice (some ⟨g, 0, none⟩) 2 2) [104, 103] := by
  subst hg; exact head_new x
theorem kind_at (x : World) (g k : Nat) (hk : k < 256) (hg : g = x.heap.size) : Bytes (x.alloc (.cells #[.int .u8 (k : Int)] 5)) (x.alloc (.cells #[.int .u8 (k : Int)] 5)).heap.size (.slice (some ⟨g, 0, none⟩) 1 1) [k] := by
  subst hg; exact kind_new x k hk
theorem row_at (x : World) (o : Obj) (g : Nat) (hg : g = x.heap.size) : (x.alloc o).heap[g]? = some o := by
  subst hg; exact Go.heap_alloc_new x o
theorem parts_pairs {y : World} {g n c : Nat} {vs : Array Value} {ls : List (List Nat)} (ps : List (Value × List Nat)) (hy : y.heap[g]? = some (.cells vs 43 (0, 0))) (h1 : vs.toList = ps.map (·.1)) (h2 : ls = ps.map (·.2)) (hn : n = ls.length) (hl : ls.length ≤ maxLen) (h : ∀ p ∈ ps, Bytes y y.heap.size p.1 p.2) :
    Parts y y.heap.size (.slice (some ⟨g, 0, none⟩) n c) ls := by
  have hs : vs.size = ls.length := by rw [← Array.length_toList, h1, h2, List.length_map, List.length_map]
  refine parts_block hy (Array.getElem?_eq_some_iff.1 hy).1 hn hs (fun j u l hu hl => ?_) hl
  have hu2 : vs.toList[j]? = some u := by simpa using hu
  rw [h1, List.getElem?_map] at hu2
  rw [h2, List.getElem?_map] at hl
  cases hp : ps[j]? with
  | none => rw [hp] at hu2; cases hu2
  | some p =>
    rw [hp] at hu2 hl
    injection hu2 with hu2
    injection hl with hl
    subst hu2 hl
    exact h p (List.mem_of_getElem? hp)
theorem parts_seven {y : World} {g : Nat} {v0 v1 v2 v3 v4 v5 v6 : Value} {l0 l1 l2 l3 l4 l5 l6 : List Nat} (hy : y.heap[g]? = some (.cells #[v0, v1, v2, v3, v4, v5, v6] 43 (0, 0)))
    (h0 : Bytes y y.heap.size v0 l0) (h1 : Bytes y y.heap.size v1 l1) (h2 : Bytes y y.heap.size v2 l2) (h3 : Bytes y y.heap.size v3 l3) (h4 : Bytes y y.heap.size v4 l4) (h5 : Bytes y y.heap.size v5 l5) (h6 : Bytes y y.heap.size v6 l6) :
    Parts y y.heap.size (.slice (some ⟨g, 0, none⟩) 7 7) [l0, l1, l2, l3, l4, l5, l6] :=
  parts_pairs [(v0, l0), (v1, l1), (v2, l2), (v3, l3), (v4, l4), (v5, l5), (v6, l6)] hy rfl rfl rfl (by unfold maxLen; simp) (by
    intro p hp
    simp only [List.mem_cons, List.not_mem_nil, or_false] at hp
    rcases hp with rfl | rfl | rfl | rfl | rfl | rfl | rfl <;> assumption)
/-- A page's bytes ahead of the padding. -/
def rparts (gen ser num kind n : Nat) (d : List Nat) : List (List Nat) := [[104, 103], beN 4 gen, beN 4 ser, beN 4 num, [kind], beN 2 n, d]
theorem join_seven (w : World) (g gen ser num kind n : Nat) (d : List Nat) {v0 v1 v2 v3 v4 v5 v6 : Value} (hk : kind < 256) (hd : ∀ b ∈ d, b < 256) (hn : d.length ≤ 491) (hy : w.heap[g]? = some (.cells #[v0, v1, v2, v3, v4, v5, v6] 43 (0, 0)))
    (h0 : Bytes w w.heap.size v0 [104, 103]) (h1 : Bytes w w.heap.size v1 (beN 4 gen)) (h2 : Bytes w w.heap.size v2 (beN 4 ser)) (h3 : Bytes w w.heap.size v3 (beN 4 num)) (h4 : Bytes w w.heap.size v4 [kind]) (h5 : Bytes w w.heap.size v5 (beN 2 n)) (h6 : Bytes w w.heap.size v6 d) :
    Calls Try.prog 57 #[.slice (some ⟨g, 0, none⟩) 7 7] w fun e w' => ∃ A5 n5 c5, e = .returned (.slice A5 n5 c5) ∧ Mine w' w.heap.size A5 n5 c5 (rparts gen ser num kind n d).flatten ∧ Below w.heap.size w w' :=
  join_mine w _ (rparts gen ser num kind n d) (parts_seven hy h0 h1 h2 h3 h4 h5 h6) (by
    intro b hb
    unfold rparts at hb
    simp only [List.flatten_cons, List.flatten_nil, List.append_nil, List.mem_append] at hb
    rcases hb with h | h | h | h | h | h | h
    · simp at h; omega
    · exact beN_small _ _ _ h
    · exact beN_small _ _ _ h
    · exact beN_small _ _ _ h
    · simp at h; omega
    · exact beN_small _ _ _ h
    · exact hd b h) (by
    unfold rparts
    simp [beN_length]
    omega)
theorem join_pair (w : World) (g : Nat) {v u : Value} (l1 l2 : List Nat) (hy : w.heap[g]? = some (.cells #[v, u] 43 (0, 0))) (h1 : Bytes w w.heap.size v l1) (h2 : Bytes w w.heap.size u l2) (hl : l1.length + l2.length ≤ 1048576) :
    Calls Try.prog 57 #[.slice (some ⟨g, 0, none⟩) 2 2] w fun e w' => ∃ A n c, e = .returned (.slice A n c) ∧ Mine w' w.heap.size A n c (l1 ++ l2) ∧ Below w.heap.size w w' := by
  have h := join_mine w _ [l1, l2] (parts_two hy h1 h2 (Nat.le_refl _)) (by
    intro b hb
    simp only [List.flatten_cons, List.flatten_nil, List.append_nil, List.mem_append] at hb
    rcases hb with h | h
    · exact h1.small b h
    · exact h2.small b h) (by simpa using hl)
  rw [show [l1, l2].flatten = l1 ++ l2 by simp] at h
  exact h
/-- What is sealed: a page's bytes, padded to 508. -/
def rbody (gen ser num kind n : Nat) (d : List Nat) : List Nat := ((rparts gen ser num kind n d).flatten ++ List.replicate 508 0).take 508
theorem rflat_length (gen ser num kind n : Nat) (d : List Nat) (h : d.length ≤ 491) : (rparts gen ser num kind n d).flatten.length ≤ 508 := by
  unfold rparts
  simp [beN_length]
  omega
set_option maxRecDepth 100000 in
set_option maxHeartbeats 8000000 in
theorem refBytes_any (w : World) (gen ser num kind : Nat) (A : Option Addr) (n c : Nat) (d : List Nat) (hg : gen < 4294967296) (hs : ser < 4294967296) (hu : num < 4294967296) (hk : kind < 256) (hd : Bytes w w.heap.size (.slice A n c) d) (hn : n ≤ 491) (hnd : n = d.length) (hds : ∀ b ∈ d, b < 256) :
    Calls Try.prog 30 #[.agg #[.int .u32 (gen : Int), .int .u32 (ser : Int), .int .u32 (num : Int), .int .u8 (kind : Int), .slice A n c]] w fun e w' => ∃ A2 n2 c2, e = .returned (.slice A2 n2 c2) ∧ Mine w' w.heap.size A2 n2 c2 (rbody gen ser num kind n d ++ le4 (crc (rbody gen ser num kind n d))) ∧ Below w.heap.size w w' := by
  have hfl := rflat_length gen ser num kind n d (by omega)
  have HFL := Lib.hid hfl
  clear hfl
  have hw1 : IntKind.u64.wrap (n : Int) = (n : Int) := by rw [IntKind.wrap_u64]; omega
  have hw2 : IntKind.u64.wrap (gen : Int) = (gen : Int) := by rw [IntKind.wrap_u64]; omega
  have hw3 : IntKind.u64.wrap (ser : Int) = (ser : Int) := by rw [IntKind.wrap_u64]; omega
  have hw4 : IntKind.u64.wrap (num : Int) = (num : Int) := by rw [IntKind.wrap_u64]; omega
  have HD := Lib.hid hd
  have HND := Lib.hid hnd
  have HDL := Lib.hid (show d.length ≤ 491 by omega)
  have HDS := Lib.hid hds
  clear hd hnd hds
  go_enter Try.func30, Try.ntmps30
  go_wp2
  obtain ⟨W, hW⟩ : ∃ W, W = w.alloc (.cells #[.int .u32 (gen : Int), .int .u32 (ser : Int), .int .u32 (num : Int), .int .u8 (kind : Int), .slice A n c] 56) := ⟨_, rfl⟩
  have hg0 : W.heap[w.heap.size]? = some (.cells #[.int .u32 (gen : Int), .int .u32 (ser : Int), .int .u32 (num : Int), .int .u8 (kind : Int), .slice A n c] 56 (0, 0)) := by rw [hW]; exact Go.heap_alloc_new w _
  have hbW : Below w.heap.size w W := by rw [hW]; exact (Below.refl _ _).alloc (Nat.le_refl _) _
  rw [← hW]
  obtain ⟨p0, p1, p2, p3, p4⟩ := rbox_facts hg0
  have HDW := HD.out.along hbW
  have HG0 := Lib.hid hg0
  have HBW := Lib.hid hbW
  have HDW := Lib.hid HDW
  have hlw := (Array.getElem?_eq_some_iff.1 hg0).1
  have HS := Lib.hid (fun (x : World) (hx : Below W.heap.size W x) => (show Below W.heap.size W x ∧ x.cell? ⟨w.heap.size, 0, none⟩ = some (.int .u32 (gen : Int)) ∧ x.cell? ⟨w.heap.size, 1, none⟩ = some (.int .u32 (ser : Int)) ∧ x.cell? ⟨w.heap.size, 2, none⟩ = some (.int .u32 (num : Int)) ∧ x.cell? ⟨w.heap.size, 3, none⟩ = some (.int .u8 (kind : Int)) ∧ x.cell? ⟨w.heap.size, 4, none⟩ = some (.slice A n c) from ⟨hx, rbox_facts ((hx.block _ hlw).trans hg0)⟩))
  clear hg0 hbW hW
  go_cut [3] (fun v x => ∃ A m c, v = .slice A m c ∧ Bytes x x.heap.size (.slice A m c) (rparts gen ser num kind n d).flatten ∧ Below w.heap.size w x)
  case first =>
    go_region_held3 (fun x => Below W.heap.size W x ∧ x.cell? ⟨w.heap.size, 0, none⟩ = some (.int .u32 (gen : Int)) ∧ x.cell? ⟨w.heap.size, 1, none⟩ = some (.int .u32 (ser : Int)) ∧ x.cell? ⟨w.heap.size, 2, none⟩ = some (.int .u32 (num : Int)) ∧ x.cell? ⟨w.heap.size, 3, none⟩ = some (.int .u8 (kind : Int)) ∧ x.cell? ⟨w.heap.size, 4, none⟩ = some (.slice A n c))
      ((refine HS.out _ ?_; repeat (with_reducible (first | exact Below.refl _ _ | assumption | refine ride_alloc ?_ _ | refine ride_drew ?_ | refine ride_call (by assumption) ?_))))
      (first
        | (go_at_call 58; (with_reducible refine (num_low _ gen 4 (gen : Int) 4 rfl rfl (by omega) (by omega)).mono ?_); rintro e w1 ⟨g1, rfl, hB1, hb1⟩)
        | (go_at_call 58; (with_reducible refine (num_low _ ser 4 (ser : Int) 4 rfl rfl (by omega) (by omega)).mono ?_); rintro e w2 ⟨g2, rfl, hB2, hb2⟩)
        | (go_at_call 58; (with_reducible refine (num_low _ num 4 (num : Int) 4 rfl rfl (by omega) (by omega)).mono ?_); rintro e w3 ⟨g3, rfl, hB3, hb3⟩)
        | (go_at_call 58; (with_reducible refine (num_low _ n 2 (n : Int) 2 rfl rfl (by omega) (by omega)).mono ?_); rintro e w4 ⟨g4, rfl, hB4, hb4⟩)
        | (go_at_call 57; (with_reducible refine (join_seven _ _ gen ser num kind n d hk HDS.out HDL.out (by first | exact Go.heap_alloc_new _ _ | exact row_at _ _ _ (by simp) | exact new_drew _ _ _ rfl | exact new_drew _ _ _ (by simp)) (by repeat (with_reducible (first | exact HDW.out | assumption | exact head_at _ _ rfl | exact kind_at _ _ _ hk rfl | exact head_at _ _ (by simp) | exact kind_at _ _ _ hk (by simp) | refine go_alloc ?_ _ | refine go_drew ?_ | refine go_call hb4 ?_ | refine go_call hb3 ?_ | refine go_call hb2 ?_ | refine go_call hb1 ?_))) (by repeat (with_reducible (first | exact HDW.out | assumption | exact head_at _ _ rfl | exact kind_at _ _ _ hk rfl | exact head_at _ _ (by simp) | exact kind_at _ _ _ hk (by simp) | refine go_alloc ?_ _ | refine go_drew ?_ | refine go_call hb4 ?_ | refine go_call hb3 ?_ | refine go_call hb2 ?_ | refine go_call hb1 ?_))) (by repeat (with_reducible (first | exact HDW.out | assumption | exact head_at _ _ rfl | exact kind_at _ _ _ hk rfl | exact head_at _ _ (by simp) | exact kind_at _ _ _ hk (by simp) | refine go_alloc ?_ _ | refine go_drew ?_ | refine go_call hb4 ?_ | refine go_call hb3 ?_ | refine go_call hb2 ?_ | refine go_call hb1 ?_))) (by repeat (with_reducible (first | exact HDW.out | assumption | exact head_at _ _ rfl | exact kind_at _ _ _ hk rfl | exact head_at _ _ (by simp) | exact kind_at _ _ _ hk (by simp) | refine go_alloc ?_ _ | refine go_drew ?_ | refine go_call hb4 ?_ | refine go_call hb3 ?_ | refine go_call hb2 ?_ | refine go_call hb1 ?_))) (by repeat (with_reducible (first | exact HDW.out | assumption | exact head_at _ _ rfl | exact kind_at _ _ _ hk rfl | exact head_at _ _ (by simp) | exact kind_at _ _ _ hk (by simp) | refine go_alloc ?_ _ | refine go_drew ?_ | refine go_call hb4 ?_ | refine go_call hb3 ?_ | refine go_call hb2 ?_ | refine go_call hb1 ?_))) (by repeat (with_reducible (first | exact HDW.out | assumption | exact head_at _ _ rfl | exact kind_at _ _ _ hk rfl | exact head_at _ _ (by simp) | exact kind_at _ _ _ hk (by simp) | refine go_alloc ?_ _ | refine go_drew ?_ | refine go_call hb4 ?_ | refine go_call hb3 ?_ | refine go_call hb2 ?_ | refine go_call hb1 ?_))) (by repeat (with_reducible (first | exact HDW.out | assumption | exact head_at _ _ rfl | exact kind_at _ _ _ hk rfl | exact head_at _ _ (by simp) | exact kind_at _ _ _ hk (by simp) | refine go_alloc ?_ _ | refine go_drew ?_ | refine go_call hb4 ?_ | refine go_call hb3 ?_ | refine go_call hb2 ?_ | refine go_call hb1 ?_)))).mono ?_); rintro e w5 ⟨A5, n5, c5, rfl, hM5, hb5⟩))
    all_goals
      go_wp2_with fail
      go_meet
      exact ⟨A5, n5, c5, rfl, hM5.bytes, HBW.out.trans (Below.mono (by repeat (with_reducible (first | exact Below.refl _ _ | assumption | refine ride_alloc ?_ _ | refine ride_drew ?_ | refine ride_call (by assumption) ?_))) HBW.out.size)⟩
  case rest =>
    obtain ⟨A5, n5, c5, rfl, hB5, hb5⟩ := hcut
    have h508 := fun x => run_make_i x 508 (by omega)
    simp only [show ((508 : Nat) : Int) = 508 from rfl] at h508
    have HZ : Hid (∀ x : World, Bytes (x.alloc (.cells (byt (List.replicate 508 0)).toArray 5)) (x.alloc (.cells (byt (List.replicate 508 0)).toArray 5)).heap.size (.slice (some ⟨x.heap.size, 0, none⟩) 508 508) (List.replicate 508 0)) :=
      Lib.hid (fun x => bytes_block (Go.heap_alloc_new x _) (by simp) List.length_replicate.symm (Nat.le_refl _) (fun b hb => by rw [List.eq_of_mem_replicate hb]; omega) (by unfold maxLen; rw [List.length_replicate]; omega))
    obtain ⟨Z, hZ⟩ : ∃ Z, Z = byt (List.replicate 508 0) := ⟨_, rfl⟩
    rw [← hZ] at h508 HZ
    have HBB := Lib.hid hb5
    have HB5 := Lib.hid hB5
    clear hZ hB5 hb5
    go_wp2_with (first
      | (go_at_call 57; (with_reducible refine (join_pair _ _ (rparts gen ser num kind n d).flatten (List.replicate 508 0) (by first | exact Go.heap_alloc_new _ _ | exact row_at _ _ _ (by simp)) (go_alloc (go_alloc HB5.out _) _) (go_alloc (HZ.out _) _) (by have := HFL.out; rw [List.length_replicate]; omega)).mono ?_); rintro e w6 ⟨A6, n6, c6, rfl, hM6, hb6⟩)
      | (go_at_call 29; (with_reducible refine (cut_mine _ _ _ 508 508 rfl hM6.bytes (by omega)).mono ?_); rintro e w7 ⟨A7, n7, c7, rfl, hM7, hb7⟩)
      | (go_at_call 59; (with_reducible refine (refSeal_any _ _ _ _ _ hM7.bytes (by rw [List.length_take]; omega)).mono ?_); rintro e w8 ⟨A8, n8, c8, rfl, hM8, hb8⟩))
    go_ret
    have z0 := HBB.out.size
    have z1 := (HBB.out.alloc z0 (.cells Z.toArray 5))
    have z2 := z1.alloc z1.size (.cells #[.slice A5 n5 c5, .slice (some ⟨wc.heap.size, 0, none⟩) 508 508] 43)
    have z6 := z2.trans (hb6.mono z2.size)
    have z7 := z6.trans (hb7.mono z6.size)
    have z8 := z7.trans (hb8.mono z7.size)
    exact ⟨A8, n8, c8, rfl, hM8.lower z7.size, z8⟩
end Go.Proofs.Ytalpippeelomjaa
namespace Go.Proofs.Ytalpippeelomjaa
open Go.RowKit
set_option linter.unusedSimpArgs false
set_option linter.unusedVariables false
/-- Is it the next page? -/
def nextIs (gen : Nat) (ps : List PV) (g nu ki : Nat) (d : List Nat) : Bool := decide (g = gen) && decide (ki = 1) && decide (nu = ps.length) && decide (d.take 4 = be4 (serB ps ps.length))
set_option maxRecDepth 100000 in
set_option maxHeartbeats 4000000 in
theorem bel_gen (w : World) (gr gs gen ser first secs size count : Nat) (pv rv : Value) (ps : List PV) (hst : w.heap[gr]? = some (.cells (rcells gs gen ser first secs pv size count rv) 84 (0, 0))) (hp : Pages w 0 pv ps) (hl : ps.length ≤ 2048)
    (g s nu ki : Nat) (A : Option Addr) (m c : Nat) (hg : g ≠ gen) :
    Calls Try.prog 46 #[.pointer (some ⟨gr, 0, none⟩), .agg #[.int .u32 (g : Int), .int .u32 (s : Int), .int .u32 (nu : Int), .int .u8 (ki : Int), .slice A m c]] w fun e w' => e = .returned (.bool false) ∧ Below w.heap.size w w' := by
  obtain ⟨Ap, cp, rfl⟩ := hp.form
  obtain ⟨n, hn⟩ : ∃ n, n = ps.length := ⟨_, rfl⟩
  rw [← hn] at hl
  have hst' : w.heap[gr]? = some (.cells (rcells gs gen ser first secs (.slice Ap n cp) size count rv) 84 (0, 0)) := by rw [hn]; exact hst
  have c1 : w.cell? ⟨gr, 1, none⟩ = some (.int .u32 (gen : Int)) := by unfold World.cell?; rw [hst']; rfl
  have c5 : w.cell? ⟨gr, 5, none⟩ = some (.slice Ap n cp) := by unfold World.cell?; rw [hst']; rfl
  have hlt : gr < w.heap.size := lt_of_heap hst'
  have h1 : ((g : Int) == (gen : Int)) = false := by rw [beq_eq_false_iff_ne]; omega
  have HN := Lib.hid hn
  clear hst hst' hp hn
  go_enter Try.func46, Try.ntmps46
  go_wp2
  go_quiet (fail)
  go_wp2
  go_ret
  exact ⟨rfl, below_drewN ((Below.refl _ _).alloc (Nat.le_refl _) _) nq⟩
set_option maxRecDepth 100000 in
set_option maxHeartbeats 4000000 in
theorem bel_kind (w : World) (gr gs gen ser first secs size count : Nat) (pv rv : Value) (ps : List PV) (hst : w.heap[gr]? = some (.cells (rcells gs gen ser first secs pv size count rv) 84 (0, 0))) (hp : Pages w 0 pv ps) (hl : ps.length ≤ 2048)
    (g s nu ki : Nat) (A : Option Addr) (m c : Nat) (hg : g = gen) (hk : ki ≠ 1) :
    Calls Try.prog 46 #[.pointer (some ⟨gr, 0, none⟩), .agg #[.int .u32 (g : Int), .int .u32 (s : Int), .int .u32 (nu : Int), .int .u8 (ki : Int), .slice A m c]] w fun e w' => e = .returned (.bool false) ∧ Below w.heap.size w w' := by
  obtain ⟨Ap, cp, rfl⟩ := hp.form
  obtain ⟨n, hn⟩ : ∃ n, n = ps.length := ⟨_, rfl⟩
  rw [← hn] at hl
  have hst' : w.heap[gr]? = some (.cells (rcells gs gen ser first secs (.slice Ap n cp) size count rv) 84 (0, 0)) := by rw [hn]; exact hst
  have c1 : w.cell? ⟨gr, 1, none⟩ = some (.int .u32 (gen : Int)) := by unfold World.cell?; rw [hst']; rfl
  have c5 : w.cell? ⟨gr, 5, none⟩ = some (.slice Ap n cp) := by unfold World.cell?; rw [hst']; rfl
  have hlt : gr < w.heap.size := lt_of_heap hst'
  subst hg
  have h2 : ((ki : Int) == 1) = false := by rw [beq_eq_false_iff_ne]; omega
  have HN := Lib.hid hn
  clear hst hst' hp hn
  go_enter Try.func46, Try.ntmps46
  go_wp2
  go_quiet (fail)
  go_wp2
  go_ret
  exact ⟨rfl, below_drewN ((Below.refl _ _).alloc (Nat.le_refl _) _) nq⟩
set_option maxRecDepth 100000 in
set_option maxHeartbeats 4000000 in
theorem bel_num (w : World) (gr gs gen ser first secs size count : Nat) (pv rv : Value) (ps : List PV) (hst : w.heap[gr]? = some (.cells (rcells gs gen ser first secs pv size count rv) 84 (0, 0))) (hp : Pages w 0 pv ps) (hl : ps.length ≤ 2048)
    (g s nu ki : Nat) (A : Option Addr) (m c : Nat) (hg : g = gen) (hk : ki = 1) (hu : nu ≠ ps.length) :
    Calls Try.prog 46 #[.pointer (some ⟨gr, 0, none⟩), .agg #[.int .u32 (g : Int), .int .u32 (s : Int), .int .u32 (nu : Int), .int .u8 (ki : Int), .slice A m c]] w fun e w' => e = .returned (.bool false) ∧ Below w.heap.size w w' := by
  obtain ⟨Ap, cp, rfl⟩ := hp.form
  obtain ⟨n, hn⟩ : ∃ n, n = ps.length := ⟨_, rfl⟩
  rw [← hn] at hl
  have hst' : w.heap[gr]? = some (.cells (rcells gs gen ser first secs (.slice Ap n cp) size count rv) 84 (0, 0)) := by rw [hn]; exact hst
  have c1 : w.cell? ⟨gr, 1, none⟩ = some (.int .u32 (gen : Int)) := by unfold World.cell?; rw [hst']; rfl
  have c5 : w.cell? ⟨gr, 5, none⟩ = some (.slice Ap n cp) := by unfold World.cell?; rw [hst']; rfl
  have hlt : gr < w.heap.size := lt_of_heap hst'
  subst hg
  subst hk
  rw [← hn] at hu
  have h3 : ((nu : Int) == (n : Int)) = false := by rw [beq_eq_false_iff_ne]; omega
  have HN := Lib.hid hn
  clear hst hst' hp hn
  go_enter Try.func46, Try.ntmps46
  go_wp2
  go_quiet (fail)
  go_wp2
  go_ret
  exact ⟨rfl, below_drewN ((Below.refl _ _).alloc (Nat.le_refl _) _) nq⟩
set_option maxRecDepth 100000 in
set_option maxHeartbeats 4000000 in
theorem bel_link (w : World) (gr gs gen ser first secs size count : Nat) (pv rv : Value) (ps : List PV) (hst : w.heap[gr]? = some (.cells (rcells gs gen ser first secs pv size count rv) 84 (0, 0))) (hp : Pages w 0 pv ps) (hl : ps.length ≤ 2048)
    (g s nu ki : Nat) (A : Option Addr) (m c : Nat) (d : List Nat) (hd : Bytes w w.heap.size (.slice A m c) d) (hg : g = gen) (hk : ki = 1) (hu : nu = ps.length) :
    Calls Try.prog 46 #[.pointer (some ⟨gr, 0, none⟩), .agg #[.int .u32 (g : Int), .int .u32 (s : Int), .int .u32 (nu : Int), .int .u8 (ki : Int), .slice A m c]] w fun e w' => e = .returned (.bool (decide (d.take 4 = be4 (serB ps ps.length)))) ∧ Below w.heap.size w w' := by
  obtain ⟨Ap, cp, rfl⟩ := hp.form
  obtain ⟨n, hn⟩ : ∃ n, n = ps.length := ⟨_, rfl⟩
  rw [← hn] at hl hu
  have hst' : w.heap[gr]? = some (.cells (rcells gs gen ser first secs (.slice Ap n cp) size count rv) 84 (0, 0)) := by rw [hn]; exact hst
  have hlt : gr < w.heap.size := lt_of_heap hst'
  subst hg
  subst hk
  subst hu
  have hp' : Pages w 0 (.slice Ap nu cp) ps := by rw [hn]; exact hp
  have HPP := Lib.hid hp'
  have HST := Lib.hid hst'
  have HDD := Lib.hid hd
  have hsl : serB ps nu < 4294967296 := by
    rw [hn]
    cases hq : ps.length with
    | zero => show (0 : Nat) < _; omega
    | succ i =>
      show (ps[i]?.map PV.ser).getD 0 < 4294967296
      rw [List.getElem?_eq_getElem (by omega)]
      exact (hp.ok _ (List.getElem_mem _)).ser
  obtain ⟨sb, hsb⟩ : ∃ sb, sb = serB ps nu := ⟨_, rfl⟩
  rw [← hn, ← hsb]
  rw [← hsb] at hsl
  obtain ⟨W, hW⟩ : ∃ W, W = w.alloc (.cells #[.int .u32 (g : Int), .int .u32 (s : Int), .int .u32 (nu : Int), .int .u8 1, .slice A m c] 85) := ⟨_, rfl⟩
  have hWb : Below w.heap.size w W := by rw [hW]; exact (Below.refl _ _).alloc (Nat.le_refl _) _
  have hcells : ∀ x, Below W.heap.size W x → x.cell? ⟨gr, 1, none⟩ = some (.int .u32 (g : Int)) ∧ x.cell? ⟨gr, 5, none⟩ = some (.slice Ap nu cp) ∧ x.cell? ⟨w.heap.size, 0, none⟩ = some (.int .u32 (g : Int)) ∧ x.cell? ⟨w.heap.size, 2, none⟩ = some (.int .u32 (nu : Int)) ∧ x.cell? ⟨w.heap.size, 3, none⟩ = some (.int .u8 1) ∧ x.cell? ⟨w.heap.size, 4, none⟩ = some (.slice A m c) := fun x hx => by
    have h0 : W.heap[gr]? = some (.cells (rcells gs g ser first secs (.slice Ap nu cp) size count rv) 84 (0, 0)) := by rw [hW, Go.heap_alloc_old _ _ hlt]; exact hst'
    have h1 : W.heap[w.heap.size]? = some (.cells #[.int .u32 (g : Int), .int .u32 (s : Int), .int .u32 (nu : Int), .int .u8 1, .slice A m c] 85 (0, 0)) := by rw [hW]; exact Go.heap_alloc_new w _
    have h2 := (hx.block gr (lt_of_heap h0)).trans h0
    have h3 := (hx.block w.heap.size (lt_of_heap h1)).trans h1
    exact ⟨by unfold World.cell?; rw [h2]; rfl, by unfold World.cell?; rw [h2]; rfl, by unfold World.cell?; rw [h3]; rfl, by unfold World.cell?; rw [h3]; rfl, by unfold World.cell?; rw [h3]; rfl, by unfold World.cell?; rw [h3]; rfl⟩
  have HSB : ∀ x, Below W.heap.size W x → Hid (Calls Try.prog 75 #[.slice Ap nu cp, .int .i64 (nu : Int)] x fun e w' => e = .returned (.int .u32 (sb : Int)) ∧ x = w') := fun x hx => by
    have h := before_all x 0 nu (.slice Ap nu cp) ps (HPP.out.below (hWb.trans (hx.mono hWb.size))) (by omega) (by omega)
    rw [← hsb] at h
    exact hide h
  have HDX : Hid (∀ x, Below W.heap.size W x → Bytes x x.heap.size (.slice A m c) d) := Lib.hid fun x hx => HDD.out.along (hWb.trans (hx.mono hWb.size))
  have HC := Lib.hid hcells
  have HWB := Lib.hid hWb
  have HWE := Lib.hid hW
  have c5 : w.cell? ⟨gr, 5, none⟩ = some (.slice Ap nu cp) := by unfold World.cell?; rw [hst']; rfl
  clear hst hst' hp hp' hd hn hsb hcells hWb hW
  go_enter Try.func46, Try.ntmps46
  go_wp2
  rw [← HWE.out]
  clear c5
  have hw32 : IntKind.u32.wrap (nu : Int) = (nu : Int) := by rw [IntKind.wrap_u32]; exact Int.emod_eq_of_lt (by omega) (by omega)
  go_region_held3 (fun x => Below W.heap.size W x ∧ x.cell? ⟨gr, 1, none⟩ = some (.int .u32 (g : Int)) ∧ x.cell? ⟨gr, 5, none⟩ = some (.slice Ap nu cp) ∧ x.cell? ⟨w.heap.size, 0, none⟩ = some (.int .u32 (g : Int)) ∧ x.cell? ⟨w.heap.size, 2, none⟩ = some (.int .u32 (nu : Int)) ∧ x.cell? ⟨w.heap.size, 3, none⟩ = some (.int .u8 1) ∧ x.cell? ⟨w.heap.size, 4, none⟩ = some (.slice A m c))
    ((refine (fun h => ⟨h, HC.out _ h⟩) ?_; repeat (with_reducible (first | exact Below.refl _ _ | assumption | refine ride_alloc ?_ _ | refine ride_drew ?_ | refine below_drewN ?_ _ | refine ride_call (by assumption) ?_))))
    (first
      | (go_at_call 75; (with_reducible refine (unhide (HSB _ (by repeat (with_reducible (first | exact Below.refl _ _ | assumption | refine ride_alloc ?_ _ | refine ride_drew ?_ | refine below_drewN ?_ _ | refine ride_call (by assumption) ?_))))).mono ?_); rintro e w1 ⟨rfl, rfl⟩)
      | (go_at_call 74; (with_reducible refine (link_any _ sb hsl).mono ?_); rintro e w2 ⟨A2, n2, c2, rfl, hM2, hb2⟩)
      | (go_at_call 73; (with_reducible refine (hasPrefix_any _ A A2 m c n2 c2 d (be4 sb) (HDX.out _ (by repeat (with_reducible (first | exact Below.refl _ _ | assumption | refine ride_alloc ?_ _ | refine ride_drew ?_ | refine below_drewN ?_ _ | refine ride_call (by assumption) ?_)))) hM2.bytes).mono ?_); rintro e w3 ⟨rfl, rfl⟩))
  have hz : Below W.heap.size W w2 := (by repeat (with_reducible (first | exact Below.refl _ _ | assumption | refine ride_alloc ?_ _ | refine ride_drew ?_ | refine below_drewN ?_ _ | refine ride_call (by assumption) ?_)))
  have HZ := Lib.hid hz
  clear hz hb2 hM2 hw32
  go_wp2
  go_ret
  exact ⟨rfl, HWB.out.trans (HZ.out.mono HWB.out.size)⟩
theorem bel_any (w : World) (gr gs gen ser first secs size count : Nat) (pv rv : Value) (ps : List PV) (hst : w.heap[gr]? = some (.cells (rcells gs gen ser first secs pv size count rv) 84 (0, 0))) (hp : Pages w 0 pv ps) (hl : ps.length ≤ 2048)
    (g s nu ki : Nat) (A : Option Addr) (m c : Nat) (d : List Nat) (hd : Bytes w w.heap.size (.slice A m c) d) :
    Calls Try.prog 46 #[.pointer (some ⟨gr, 0, none⟩), .agg #[.int .u32 (g : Int), .int .u32 (s : Int), .int .u32 (nu : Int), .int .u8 (ki : Int), .slice A m c]] w fun e w' => e = .returned (.bool (nextIs gen ps g nu ki d)) ∧ Below w.heap.size w w' := by
  unfold nextIs
  by_cases h1 : g = gen
  · by_cases h2 : ki = 1
    · by_cases h3 : nu = ps.length
      · rw [decide_eq_true h1, decide_eq_true h2, decide_eq_true h3]
        exact bel_link w gr gs gen ser first secs size count pv rv ps hst hp hl g s nu ki A m c d hd h1 h2 h3
      · rw [decide_eq_false h3, Bool.and_false, Bool.false_and]
        exact bel_num w gr gs gen ser first secs size count pv rv ps hst hp hl g s nu ki A m c h1 h2 h3
    · rw [decide_eq_false h2, Bool.and_false, Bool.false_and, Bool.false_and]
      exact bel_kind w gr gs gen ser first secs size count pv rv ps hst hp hl g s nu ki A m c h1 h2
  · rw [decide_eq_false h1, Bool.false_and, Bool.false_and, Bool.false_and]
    exact bel_gen w gr gs gen ser first secs size count pv rv ps hst hp hl g s nu ki A m c h1
end Go.Proofs.Ytalpippeelomjaa
