/- Contracts: what stored answers of a sector that is no page, or a page whose data aren't one byte. -/
import Derived.Test.YtnojkifndcffjaaCBad
import Derived.Test.YtnojkifndcffjaaParseAll
namespace Go.Proofs.Ytnojkifndcffjaa
open Go.RowKit
set_option linter.unusedSimpArgs false
set_option linter.unusedVariables false
set_option maxRecDepth 100000 in
set_option maxHeartbeats 4000000 in
theorem stored_err {w : World} {gs : Nat} {b : DB} {dur : List (List Nat)} {pend : List (Nat × List Nat)} {nw bud : Int} (h : Disk w gs b dur pend nw bud) (i : Nat) (hi : i < dur.length) (s : List Nat) (hs : (applied pend dur)[i]? = some s) (hbad : errOf s ≠ 0 ∨ (dataOf s).length ≠ 1) :
    Calls Try.prog 35 #[.pointer (some ⟨gs, 0, none⟩), .int .i64 (i : Int)] w fun e w' => e = .returned (.tuple #[.agg #[.int .u32 0, .int .u8 0, .int .u32 0], .bool false]) ∧ Below w.heap.size w w' := by
  have hb0 := (Below.refl w.heap.size w).alloc (Nat.le_refl _) (.cells #[.int .u32 0, .int .u8 0, .int .u32 0] 24)
  have HRd := hide (read_any (h.below hb0) i hi _ hs)
  have HB0 := Lib.hid hb0
  have HBad := Lib.hid hbad
  obtain ⟨e0, he0⟩ : ∃ e0 : Int, (errOf s : Int) = e0 := ⟨_, rfl⟩
  have hpa := fun x A c hp => parse_all x A 512 c s hp
  unfold Parsed at hpa
  simp only [he0] at hpa
  have HPA := fun x A c hp => hide (hpa x A c hp)
  have HE0 := Lib.hid he0
  clear hs h hb0 hbad he0 hpa
  by_cases hz : errOf s = 0
  · have hez : (e0 != 0) = false := by have := HE0.out; simp; omega
    have hlen : (dataOf s).length ≠ 1 := HBad.out.resolve_left (fun h => h hz)
    have HLen := Lib.hid hlen
    clear hz hlen
    go_enter Try.func35, Try.ntmps35
    go_wp2_with (first
      | (go_at_call 23; (with_reducible refine (unhide HRd).mono ?_); rintro e w1 ⟨g1, rfl, hM1, hb1⟩)
      | (go_at_call 45; (with_reducible refine (unhide (HPA w1 (some ⟨g1, 0, none⟩) 512 hM1.bytes)).mono ?_); rintro e w2 ⟨A2, n2, c2, rfl, hM2, hb2⟩; go_loud (
         have hb12 := hb1.trans (hb2.mono hb1.size);
         have hn2 : ¬ n2 = 1 := (by have := hM2.len; have := HLen.out; omega);
         have hn2' : ((n2 : Int) != 1) = true := (by simp; omega);
         have hn2'' : ¬ (n2 : Int) = 1 := (by omega);
         have hbw2 := HB0.out.trans (hb12.mono HB0.out.size);
         have g4 : w2.heap[w.heap.size]? = _ := (hb12.block w.heap.size (by simp)).trans (Go.heap_alloc_new w _);
         have l4 : w.heap.size < w2.heap.size := Nat.lt_of_lt_of_le (by simp) hb12.size;
         have n4 : ¬ w.heap.size = w2.heap.size := by omega;
         obtain ⟨a0, a1, a2, f0, f1, f2⟩ := crown_facts g4;
         have HG4 := Lib.hid g4;
         have HBW := Lib.hid hbw2;
         clear g4 hb12 hbw2 hb1 hb2 hM1 hM2)))
    exact stored_ret rfl rfl rfl ((Go.heap_alloc_old _ _ (Array.getElem?_eq_some_iff.1 (set_crown HG4.out)).1).trans (set_crown HG4.out)) rfl ⟨rfl, (below_crown HBW.out (Nat.le_refl _)).alloc (below_crown HBW.out (Nat.le_refl _)).size _⟩
  · have hez : (e0 != 0) = true := by have := HE0.out; simp; omega
    have hez2 : ¬ e0 = 0 := by have := HE0.out; omega
    clear hz
    go_enter Try.func35, Try.ntmps35
    go_wp2_with (first
      | (go_at_call 23; (with_reducible refine (unhide HRd).mono ?_); rintro e w1 ⟨g1, rfl, hM1, hb1⟩)
      | (go_at_call 45; (with_reducible refine (unhide (HPA w1 (some ⟨g1, 0, none⟩) 512 hM1.bytes)).mono ?_); rintro e w2 ⟨A2, n2, c2, rfl, hM2, hb2⟩; go_loud (
         have hb12 := hb1.trans (hb2.mono hb1.size);
         have hbw2 := HB0.out.trans (hb12.mono HB0.out.size);
         have g4 : w2.heap[w.heap.size]? = _ := (hb12.block w.heap.size (by simp)).trans (Go.heap_alloc_new w _);
         have l4 : w.heap.size < w2.heap.size := Nat.lt_of_lt_of_le (by simp) hb12.size;
         have n4 : ¬ w.heap.size = w2.heap.size := by omega;
         obtain ⟨a0, a1, a2, f0, f1, f2⟩ := crown_facts g4;
         have HG4 := Lib.hid g4;
         have HBW := Lib.hid hbw2;
         clear g4 hb12 hbw2 hb1 hb2 hM1 hM2)))
    exact stored_ret rfl rfl rfl ((Go.heap_alloc_old _ _ (Array.getElem?_eq_some_iff.1 (set_crown HG4.out)).1).trans (set_crown HG4.out)) rfl ⟨rfl, (below_crown HBW.out (Nat.le_refl _)).alloc (below_crown HBW.out (Nat.le_refl _)).size _⟩
end Go.Proofs.Ytnojkifndcffjaa
