/- Contract: what Waiting tells: where each pending write goes, in memory of one's own. -/
import Derived.Test.YtpmgihfdiahfdaaZ21
namespace Go.Proofs.Ytpmgihfdiahfdaa
open Go.RowKit
set_option linter.unusedSimpArgs false
set_option linter.unusedVariables false

/-- At the head of each round of Waiting: the first k places are told. -/
def WaitR (w : World) (B gl c : Nat) (pend : List (Nat × List Nat)) (t : Value) (x : World) : Prop :=
  ∃ k : Nat, k ≤ pend.length ∧ t = .int .i64 (k : Int) ∧ x.ownsRow w.heap.size 3 1 (.slice (some ⟨gl, 0, none⟩) pend.length c) pend.length (ints ((pend.take k).map (·.1) ++ List.replicate (pend.length - k) 0)) ∧ Below w.heap.size w x
theorem wait_next {pend : List (Nat × List Nat)} {k : Nat} {p : Nat × List Nat} (hp : pend[k]? = some p) :
    (ints ((pend.take k).map (·.1) ++ List.replicate (pend.length - k) 0)).set k (.int .i64 (p.1 : Int)) = ints ((pend.take (k + 1)).map (·.1) ++ List.replicate (pend.length - (k + 1)) 0) := by
  have hlt : k < pend.length := (List.getElem?_eq_some_iff.1 hp).1
  rw [← ints_set]
  congr 1
  have hl : ((pend.take k).map (·.1)).length = k := by rw [List.length_map, List.length_take]; omega
  rw [List.set_append_right _ _ (by omega), hl, Nat.sub_self, List.take_add_one, hp]
  obtain ⟨m, hm⟩ : ∃ m, pend.length - k = m + 1 := ⟨pend.length - k - 1, by omega⟩
  have hm2 : pend.length - (k + 1) = m := by omega
  rw [hm, hm2, List.replicate_succ]
  simp

set_option maxRecDepth 100000 in
set_option maxHeartbeats 2000000 in
theorem waiting_any {w : World} {gs : Nat} {b : DB} {dur : List (List Nat)} {pend : List (Nat × List Nat)} {nw bud : Int} (h : Disk w gs b dur pend nw bud) :
    Calls Try.prog 36 #[.pointer (some ⟨gs, 0, none⟩)] w fun e w' => ∃ g c, e = .returned (.slice (some ⟨g, 0, none⟩) pend.length c) ∧ w'.ownsRow w.heap.size 3 1 (.slice (some ⟨g, 0, none⟩) pend.length c) pend.length (ints (pend.map (·.1))) ∧ Below w.heap.size w w' := by
  obtain ⟨i0, hi0, hz0, hz1, hz2⟩ := info_parts infoInt
  have HI := Lib.hid hi0
  have H0 := Lib.hid hz0
  have H1 := Lib.hid hz1
  have H2 := Lib.hid hz2
  obtain ⟨P, cp, hpv⟩ := pv_form h.pe
  have HPV := Lib.hid hpv
  have HD := Lib.hid h
  have c1 : w.cell? ⟨gs, 1, none⟩ = some (.slice P pend.length cp) := by rw [h.c1, hpv]
  have hgs := h.lt
  have hmany := h.many
  clear hi0 hz0 hz1 hz2 h hpv
  go_enter Try.func36, Try.ntmps36
  go_wp2_with (at_make; refine wpList_make_full _ rfl _ _ 63 rfl w.heap.size 3 i0 (.int .i64 0) 1 Try.underlying63 HI.out H0.out H1.out _ _ _ _ pend.length rfl rfl rfl rfl ?b1 ?b2 (Nat.le_refl _) ?_)
  case b1 => rw [H2.out]; omega
  case b2 => unfold maxLen; omega
  intro w1 hown1 hg1
  have hb1 : Below w.heap.size w w1 := (Below.refl _ _).grown hg1 (Nat.le_refl _) (fun _ h => by cases h)
  have d1 := (hb1.cell (p := ⟨gs, 1, none⟩) hgs).trans c1
  have h0 : WaitR w w.heap.size w.heap.size pend.length pend (.int .i64 0) w1 := by
    refine ⟨0, Nat.zero_le _, rfl, ?_, hb1⟩
    have e : (madeCells #[Value.int .i64 0] pend.length).toList = ints ((pend.take 0).map (·.1) ++ List.replicate (pend.length - 0) 0) := by
      rw [toList_madeCells_one]
      unfold ints
      simp
    rw [← e]
    exact hown1
  have HW := Lib.hid h0
  have HB1 := Lib.hid hb1
  clear hown1 hg1 hb1 h0
  go_wp2
  go_loopw [18] (fun t x => WaitR w w.heap.size w.heap.size pend.length pend t x) (fun t _ => pend.length - (intOf t).toNat)
  case atStart => exact HW.out
  case round =>
    obtain ⟨k, hk, rfl, hO, hB⟩ := hrel
    by_cases hlt : k < pend.length
    · obtain ⟨p, hp⟩ : ∃ p, pend[k]? = some p := ⟨_, List.getElem?_eq_getElem hlt⟩
      have hnext := wait_next hp
      have HN := Lib.hid hnext
      obtain ⟨gp, hP⟩ : ∃ gp, P = some ⟨gp, 0, none⟩ := by
        rcases HD.out.pe.2 with ⟨_, h0⟩ | ⟨g, cap, cur, h1, _⟩
        · omega
        · rw [HPV.out] at h1
          injection h1 with h1
          exact ⟨g, h1⟩
      subst hP
      have hgp : gp < w.heap.size := by
        obtain ⟨cur, hcur⟩ := row_of (by have h1 := HD.out.pe; rw [HPV.out] at h1; exact h1)
        exact (Array.getElem?_eq_some_iff.1 hcur).1
      have q1 : wr.cell? ⟨gs, 1, none⟩ = some (.slice (some ⟨gp, 0, none⟩) pend.length cp) := (hB.cell (p := ⟨gs, 1, none⟩) hgs).trans c1
      have q2 : wr.cell? ⟨gp, k * 513, none⟩ = some (.int .i64 (p.1 : Int)) := range_below (HD.out.write_at hp HPV.out) hB hgp 0 _ rfl
      obtain ⟨u, q3⟩ : ∃ u, wr.cell? ⟨w.heap.size, k, none⟩ = some u := by
        rw [hO.cellAt k (by omega), List.getElem?_eq_getElem (by rw [hO.1]; omega)]
        exact ⟨_, rfl⟩
      have q4 : wr.frozen? ⟨w.heap.size, k, none⟩ = false := hO.frozenAt k
      have i0 : (0 : Int) ≤ (k : Int) := by omega
      have i1 : (k : Int) < (pend.length : Int) := by omega
      clear hp hnext
      go_wp2
      go_roundw
      case rel => exact ⟨k + 1, by omega, by go_num, by rw [← HN.out]; exact (hO.stored k _).1, hB.setCell (Nat.le_refl _) _⟩
      case measure => simp [intOf]; omega
    · obtain rfl : k = pend.length := by omega
      rw [List.take_length, Nat.sub_self, List.replicate_zero, List.append_nil] at hO
      go_wp2
      go_ret
      exact ⟨w.heap.size, pend.length, rfl, hO, hB⟩
end Go.Proofs.Ytpmgihfdiahfdaa
