/- Contract: what Read answers where each of the first two sectors is blank or has a crown of its own: the newer one. -/
import Derived.Test.YtnojkifndcffjaaCStored
namespace Go.Proofs.Ytnojkifndcffjaa
open Go.RowKit
set_option linter.unusedSimpArgs false
set_option linter.unusedVariables false

/-- The newest of the first i crowns. -/
def bestOf (o : Nat → Option (Nat × Nat × Nat)) : Nat → Option (Nat × Nat × Nat)
  | 0 => none
  | i + 1 => match o i with
    | none => bestOf o i
    | some c => match bestOf o i with
      | none => some c
      | some l => if l.1 < c.1 then some c else some l
/-- Sector i is blank, or has a crown of its own. -/
def Holds (s : List Nat) (i : Nat) : Option (Nat × Nat × Nat) → Prop
  | none => s = noughts
  | some c => s = crownSec c.1 c.2.1 c.2.2 ∧ c.1 < 4294967296 ∧ c.2.1 ≤ 1 ∧ c.2.2 < 4294967296 ∧ c.1 % 2 = i
theorem crownSec_not {gen half ser : Nat} : ¬ crownSec gen half ser = noughts := fun h => by
  refine page_not_blank gen ser 0 9 [half] fun b hb => ?_
  have h2 : b ∈ noughts := by rw [← h]; exact hb
  exact List.eq_of_mem_replicate h2
theorem results_three {fn : Func} {p u v : Tmp} {ty : TypeId} (h : fn.results = #[.cell p ty, .tmp u, .tmp v]) (tmps : Array Value) (P : Program) (w : World) :
    (results fn tmps).run P w =
      ((asAddr (tmps.getD p undef)).run P w).andThen fun a w₁ => ((loadVar ty a).run P w₁).andThen fun x w₂ => .ok (.tuple #[x, tmps.getD u undef, tmps.getD v undef]) w₂ := by
  simp only [results, h]
  simp [Sem.run_bind, Result.andThen]
theorem read_ret {a : Act} {w : World} {R : Ending → World → Prop} {g : Nat} {cs : Array Value} {v v2 : Value} (hd : a.defers = []) (h2 : a.tmps.getD 2 undef = .pointer (some ⟨g, 0, none⟩)) (h3 : a.tmps.getD 3 undef = v) (h4 : a.tmps.getD 4 undef = v2)
    (hg : w.heap[g]? = some (.cells cs 24 (0, 0))) (hs : cs.size = 3) (hR : R (.returned (.tuple #[.agg cs, v, v2])) w) : bodyPost Try.prog Try.f13 R .ret a w := by
  refine bodyPost_ret_by (v := .tuple #[.agg cs, v, v2]) ?_ hd hR
  have hl := run_loadVar_row (P := Try.prog) w g 24 24 cs (0, 0) _ hg Try.underlying24 rfl (by rw [crownInfo, hs])
  rw [results_three (p := 2) (ty := 24) (u := 3) (v := 4) rfl, h2, h3, h4]
  simp [asAddr, Result.andThen, hl]
def RdR (w : World) (o : Nat → Option (Nat × Nat × Nat)) (f t : Value) (x : World) : Prop :=
  ∃ (i g h s : Nat), i ≤ 2 ∧ t = .int .i64 (i : Int) ∧ f = .bool (bestOf o i).isSome ∧ (g, h, s) = (bestOf o i).getD (0, 0, 0) ∧ x.heap[w.heap.size + 1]? = some (.cells #[.int .u32 (g : Int), .int .u8 (h : Int), .int .u32 (s : Int)] 24 (0, 0)) ∧
    x.heap[w.heap.size]? = some (.cells #[.int .u32 0, .int .u8 0, .int .u32 0] 24 (0, 0)) ∧ Below w.heap.size w x

theorem rd_store {w w3 : World} {o : Nat → Option (Nat × Nat × Nat)} {i g2 h2 s2 : Nat} {u0 u1 u2 : Value} (hnx : bestOf o (i + 1) = some (g2, h2, s2)) (hi : i < 2) (hg : w3.heap[w.heap.size + 1]? = some (.cells #[u0, u1, u2] 24 (0, 0)))
    (hz : w3.heap[w.heap.size]? = some (.cells #[.int .u32 0, .int .u8 0, .int .u32 0] 24 (0, 0))) (hb : Below w.heap.size w w3) (ob : Obj) :
    RdR w o (.bool true) (.int .i64 ((i : Int) + 1)) ((((w3.setCell ⟨w.heap.size + 1, 0, none⟩ (.int .u32 (g2 : Int))).setCell ⟨w.heap.size + 1, 1, none⟩ (.int .u8 (h2 : Int))).setCell ⟨w.heap.size + 1, 2, none⟩ (.int .u32 (s2 : Int))).alloc ob) := by
  have e1 := set_crown (v0 := .int .u32 (g2 : Int)) (v1 := .int .u8 (h2 : Int)) (v2 := .int .u32 (s2 : Int)) hg
  have e2 := below_crown (v0 := .int .u32 (g2 : Int)) (v1 := .int .u8 (h2 : Int)) (v2 := .int .u32 (s2 : Int)) hb (show w.heap.size ≤ w.heap.size + 1 by omega)
  have e3 : (((w3.setCell ⟨w.heap.size + 1, 0, none⟩ (.int .u32 (g2 : Int))).setCell ⟨w.heap.size + 1, 1, none⟩ (.int .u8 (h2 : Int))).setCell ⟨w.heap.size + 1, 2, none⟩ (.int .u32 (s2 : Int))).heap[w.heap.size]? = some (.cells #[.int .u32 0, .int .u8 0, .int .u32 0] 24 (0, 0)) := by
    rw [heap_setCell_other _ ⟨w.heap.size + 1, 2, none⟩ w.heap.size _ (by simp), heap_setCell_other _ ⟨w.heap.size + 1, 1, none⟩ w.heap.size _ (by simp), heap_setCell_other _ ⟨w.heap.size + 1, 0, none⟩ w.heap.size _ (by simp)]
    exact hz
  generalize ((w3.setCell ⟨w.heap.size + 1, 0, none⟩ (.int .u32 (g2 : Int))).setCell ⟨w.heap.size + 1, 1, none⟩ (.int .u8 (h2 : Int))).setCell ⟨w.heap.size + 1, 2, none⟩ (.int .u32 (s2 : Int)) = X at e1 e2 e3 ⊢
  have l1 := (Array.getElem?_eq_some_iff.1 e1).1
  refine ⟨i + 1, g2, h2, s2, by omega, by go_num, by rw [hnx]; rfl, by rw [hnx]; rfl, ?_, ?_, e2.alloc e2.size _⟩
  · rw [Go.heap_alloc_old _ _ l1]; exact e1
  · rw [Go.heap_alloc_old _ _ (by omega)]; exact e3
theorem rd_keep {w w3 : World} {o : Nat → Option (Nat × Nat × Nat)} {i g h s : Nat} (hnx : bestOf o (i + 1) = some (g, h, s)) (hi : i < 2) (hg : w3.heap[w.heap.size + 1]? = some (.cells #[.int .u32 (g : Int), .int .u8 (h : Int), .int .u32 (s : Int)] 24 (0, 0)))
    (hz : w3.heap[w.heap.size]? = some (.cells #[.int .u32 0, .int .u8 0, .int .u32 0] 24 (0, 0))) (hb : Below w.heap.size w w3) (ob : Obj) : RdR w o (.bool true) (.int .i64 ((i : Int) + 1)) (w3.alloc ob) := by
  have l1 := (Array.getElem?_eq_some_iff.1 hg).1
  refine ⟨i + 1, g, h, s, by omega, by go_num, by rw [hnx]; rfl, by rw [hnx]; rfl, ?_, ?_, hb.alloc hb.size _⟩
  · rw [Go.heap_alloc_old _ _ l1]; exact hg
  · rw [Go.heap_alloc_old _ _ (by omega)]; exact hz
set_option maxRecDepth 100000 in
set_option maxHeartbeats 4000000 in
theorem cread_good {w : World} {gs : Nat} {b : DB} {dur : List (List Nat)} {pend : List (Nat × List Nat)} {nw bud : Int} (h : Disk w gs b dur pend nw bud) (hl : 4 ≤ dur.length) (o : Nat → Option (Nat × Nat × Nat)) (ho : ∀ i, i < 2 → ∃ s, (applied pend dur)[i]? = some s ∧ Holds s i (o i)) (c : Nat × Nat × Nat) (hc : bestOf o 2 = some c) :
    Calls Try.prog 13 #[.pointer (some ⟨gs, 0, none⟩)] w fun e w' => e = .returned (.tuple #[.agg #[.int .u32 (c.1 : Int), .int .u8 (c.2.1 : Int), .int .u32 (c.2.2 : Int)], .int .i64 0, .int .i64 0]) ∧ Below w.heap.size w w' := by
  have hn1 : ¬ (dur.length : Int) < 4 := by omega
  have hb0 := (Below.refl w.heap.size w).alloc (Nat.le_refl _) (.cells #[.int .u32 0, .int .u8 0, .int .u32 0] 24)
  have HSc := hide (sectors_any (h.below hb0))
  have HD := Lib.hid h
  have HO := Lib.hid ho
  have HC := Lib.hid hc
  clear h ho hc hb0
  go_enter Try.func13, Try.ntmps13
  go_wp2_with (first
    | (go_at_call 34; (with_reducible refine (unhide HSc).mono ?_); rintro e w1 ⟨rfl, rfl⟩))
  go_loopw [6, 14] (fun f t x => RdR w o f t x) (fun _ t _ => 2 - (intOf t).toNat)
  case atStart =>
    refine ⟨0, 0, 0, 0, by omega, rfl, rfl, rfl, Go.heap_alloc2_new w _ _, ?_, below_two⟩
    rw [Go.heap_alloc_old _ _ (by simp)]
    exact Go.heap_alloc_new w _
  case round =>
    obtain ⟨i, g, hf, se, hi, rfl, rfl, hbest, hL, hZ, hB⟩ := hrel
    have lB : w.heap.size + 1 < wr.heap.size := by
      rcases Nat.lt_or_ge (w.heap.size + 1) wr.heap.size with h | h
      · exact h
      · rw [Array.getElem?_eq_none h] at hL; cases hL
    have hDr := HD.out.below hB
    have HDr := Lib.hid hDr
    have HL := Lib.hid hL
    have HZ := Lib.hid hZ
    have HB := Lib.hid hB
    have HBest := Lib.hid hbest
    by_cases hlt : i < 2
    · obtain ⟨s, hs, hh⟩ := HO.out i hlt
      have HBl := hide (blank_any hDr i (by omega) s hs)
      cases hoi : o i with
      | none =>
        rw [hoi] at hh
        have hh' : s = noughts := hh
        rw [decide_eq_true hh'] at HBl
        have hnx : bestOf o (i + 1) = bestOf o i := by rw [bestOf, hoi]
        have HNX := Lib.hid hnx
        clear hDr hL hZ hB hbest hs hh hh' hoi hnx
        go_wp2_with (first
          | (go_at_call 25; (with_reducible refine (unhide HBl).mono ?_); rintro e w2 ⟨rfl, rfl⟩))
        go_roundw
        case rel => exact ⟨i + 1, g, hf, se, by omega, by go_num, by rw [HNX.out], by rw [HNX.out]; exact HBest.out, HL.out, HZ.out, HB.out⟩
        case measure => simp [intOf]; omega
      | some c =>
        obtain ⟨g2, h2, s2⟩ := c
        rw [hoi] at hh
        obtain ⟨hh1, hh2, hh3, hh4, hh5⟩ := hh
        dsimp only at hh1 hh2 hh3 hh4 hh5
        rw [decide_eq_false (by rw [hh1]; exact crownSec_not)] at HBl
        have HSt := hide (stored_good hDr i (by omega) g2 h2 s2 (by rw [hs, hh1]) hh2 hh3 hh4 hh5)
        have HOI := Lib.hid hoi
        clear hDr hB hbest hs hh1 hoi
        cases hbo : bestOf o i with
        | none =>
          have hnx : bestOf o (i + 1) = some (g2, h2, s2) := by rw [bestOf, HOI.out, hbo]
          have HNX := Lib.hid hnx
          clear hnx hbo
          go_wp2_with (first
            | (go_at_call 25; (with_reducible refine (unhide HBl).mono ?_); rintro e w2 ⟨rfl, rfl⟩)
            | (go_at_call 35; (with_reducible refine (unhide HSt).mono ?_); rintro e w3 ⟨rfl, hb3⟩; go_loud (
               have g3 := (hb3.block (w.heap.size + 1) lB).trans hL;
               have z3 := (hb3.block w.heap.size (by omega)).trans hZ;
               obtain ⟨a0, a1, a2, f0, f1, f2⟩ := crown_facts g3;
               have l3 := Nat.lt_of_lt_of_le lB hb3.size;
               have n3 : ¬ w.heap.size + 1 = w3.heap.size := by omega;
               have HG3 := Lib.hid g3;
               have HZ3 := Lib.hid z3;
               have HB3 := Lib.hid (HB.out.trans (hb3.mono HB.out.size));
               clear g3 z3 hb3)))
          go_roundw
          case rel => exact rd_store HNX.out hlt HG3.out HZ3.out HB3.out _
          case measure => simp [intOf]; omega
        | some l =>
          obtain ⟨lg, lh, ls⟩ := l
          have hb2 := HBest.out
          rw [hbo] at hb2
          obtain ⟨rfl, rfl, rfl⟩ : g = lg ∧ hf = lh ∧ se = ls := by
            injection hb2 with h1 h2
            injection h2 with h2 h3
            exact ⟨h1, h2, h3⟩
          by_cases hgt : g < g2
          · have hnx : bestOf o (i + 1) = some (g2, h2, s2) := by rw [bestOf, HOI.out, hbo]; exact if_pos hgt
            have hgti : (g2 : Int) > (g : Int) := by omega
            have hgti2 : (g : Int) < (g2 : Int) := by omega
            have HNX := Lib.hid hnx
            clear hnx hbo hb2 hgt
            go_wp2_with (first
              | (go_at_call 25; (with_reducible refine (unhide HBl).mono ?_); rintro e w2 ⟨rfl, rfl⟩)
              | (go_at_call 35; (with_reducible refine (unhide HSt).mono ?_); rintro e w3 ⟨rfl, hb3⟩; go_loud (
                 have g3 := (hb3.block (w.heap.size + 1) lB).trans hL;
                 have z3 := (hb3.block w.heap.size (by omega)).trans hZ;
                 obtain ⟨a0, a1, a2, f0, f1, f2⟩ := crown_facts g3;
                 have l3 := Nat.lt_of_lt_of_le lB hb3.size;
                 have n3 : ¬ w.heap.size + 1 = w3.heap.size := by omega;
                 have HG3 := Lib.hid g3;
                 have HZ3 := Lib.hid z3;
                 have HB3 := Lib.hid (HB.out.trans (hb3.mono HB.out.size));
                 clear g3 z3 hb3)))
            go_roundw
            case rel => exact rd_store HNX.out hlt HG3.out HZ3.out HB3.out _
            case measure => simp [intOf]; omega
          · have hnx : bestOf o (i + 1) = some (g, hf, se) := by rw [bestOf, HOI.out, hbo]; exact if_neg hgt
            have hgti : ¬ (g2 : Int) > (g : Int) := by omega
            have HNX := Lib.hid hnx
            clear hnx hbo hb2 hgt
            go_wp2_with (first
              | (go_at_call 25; (with_reducible refine (unhide HBl).mono ?_); rintro e w2 ⟨rfl, rfl⟩)
              | (go_at_call 35; (with_reducible refine (unhide HSt).mono ?_); rintro e w3 ⟨rfl, hb3⟩; go_loud (
                 have g3 := (hb3.block (w.heap.size + 1) lB).trans hL;
                 have z3 := (hb3.block w.heap.size (by omega)).trans hZ;
                 obtain ⟨a0, a1, a2, f0, f1, f2⟩ := crown_facts g3;
                 have l3 := Nat.lt_of_lt_of_le lB hb3.size;
                 have n3 : ¬ w.heap.size + 1 = w3.heap.size := by omega;
                 have HG3 := Lib.hid g3;
                 have HZ3 := Lib.hid z3;
                 have HB3 := Lib.hid (HB.out.trans (hb3.mono HB.out.size));
                 clear g3 z3 hb3)))
            go_roundw
            case rel => exact rd_keep HNX.out hlt HG3.out HZ3.out HB3.out _
            case measure => simp [intOf]; omega
    · obtain rfl : i = 2 := by omega
      have hlt2 : ¬ ((2 : Nat) : Int) < 2 := by omega
      have hb2 := HBest.out
      have hcc := HC.out
      obtain ⟨c0, c1, c2⟩ := c
      rw [hcc] at hb2
      obtain ⟨rfl, rfl, rfl⟩ : g = c0 ∧ hf = c1 ∧ se = c2 := by
        injection hb2 with h1 h2
        injection h2 with h2 h3
        exact ⟨h1, h2, h3⟩
      have hsome : (bestOf o 2).isSome = true := by rw [hcc]; rfl
      obtain ⟨a0, a1, a2, -, -, -⟩ := crown_facts hL
      obtain ⟨z0, z1, z2, f0, f1, f2⟩ := crown_facts hZ
      clear hDr hL hZ hB hbest hb2 hcc
      go_wp2
      exact read_ret rfl rfl rfl rfl (set_crown HZ.out) rfl ⟨rfl, below_crown HB.out (Nat.le_refl _)⟩
end Go.Proofs.Ytnojkifndcffjaa
