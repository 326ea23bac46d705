/- The sector that a disk shows: its last pending write, or the durable one; whether it is blank. -/
import Derived.Test.YtmhhcblgeellnaaPut
import Derived.ChangeKeysEq
namespace Go.Proofs.Ytmhhcblgeellnaa
open Go.RowKit
set_option linter.unusedSimpArgs false

/-- The sectors with each pending write done. -/
def applied (pend : List (Nat × List Nat)) (dur : List (List Nat)) : List (List Nat) := pend.foldl (fun d p => d.set p.1 p.2) dur
theorem applied_snoc (l : List (Nat × List Nat)) (p : Nat × List Nat) (dur : List (List Nat)) : applied (l ++ [p]) dur = (applied l dur).set p.1 p.2 := by
  unfold applied
  rw [List.foldl_append]
  rfl
theorem applied_length (pend : List (Nat × List Nat)) (dur : List (List Nat)) : (applied pend dur).length = dur.length := by
  unfold applied
  induction pend generalizing dur with
  | nil => rfl
  | cons p r ih => rw [List.foldl_cons, ih, List.length_set]
theorem applied_sec {pend : List (Nat × List Nat)} {dur : List (List Nat)} (hd : ∀ s ∈ dur, IsSec s) (hw : ∀ p ∈ pend, IsSec p.2) : ∀ s ∈ applied pend dur, IsSec s := by
  unfold applied
  induction pend generalizing dur with
  | nil => exact hd
  | cons p r ih =>
    rw [List.foldl_cons]
    exact ih (sec_set hd (hw p (List.mem_cons_self ..))) (fun q hq => hw q (List.mem_cons_of_mem _ hq))
/-- The note of the last write tells where the shown sector lies. -/
theorem seen_at (pend : List (Nat × List Nat)) (dur : List (List Nat)) (i : Nat) (hi : i < dur.length) : ∀ k, k ≤ pend.length →
    ∃ L : Nat, (lats dur.length (pend.take k))[i]? = some L ∧ L ≤ k ∧ (L = 0 → (applied (pend.take k) dur)[i]? = dur[i]?) ∧ (0 < L → ∃ s, pend[L - 1]? = some (i, s) ∧ (applied (pend.take k) dur)[i]? = some s) := by
  intro k
  induction k with
  | zero =>
    intro _
    refine ⟨0, ?_, Nat.le_refl _, fun _ => rfl, fun h => absurd h (by omega)⟩
    show (List.replicate dur.length 0)[i]? = some 0
    rw [List.getElem?_replicate, if_pos hi]
  | succ k ih =>
    intro hk
    obtain ⟨L, h1, h2, h3, h4⟩ := ih (by omega)
    obtain ⟨p, hp⟩ : ∃ p, pend[k]? = some p := ⟨_, List.getElem?_eq_getElem (by omega)⟩
    have e : pend.take (k + 1) = pend.take k ++ [p] := by rw [List.take_add_one, hp]; rfl
    have hl : (pend.take k).length = k := by rw [List.length_take]; omega
    rw [e, lats_snoc, applied_snoc, hl]
    by_cases hpi : p.1 = i
    · refine ⟨k + 1, ?_, Nat.le_refl _, fun h => by omega, fun _ => ⟨p.2, ?_, ?_⟩⟩
      · rw [hpi, List.getElem?_set_self (by rw [lats_length]; exact hi)]
      · rw [Nat.add_sub_cancel, hp, ← hpi]
      · rw [hpi, List.getElem?_set_self (by rw [applied_length]; exact hi)]
    · refine ⟨L, ?_, by omega, fun h => ?_, fun h => ?_⟩
      · rw [List.getElem?_set_ne hpi]; exact h1
      · rw [List.getElem?_set_ne hpi]; exact h3 h
      · obtain ⟨s, h5, h6⟩ := h4 h
        exact ⟨s, h5, by rw [List.getElem?_set_ne hpi]; exact h6⟩
/-- A durable sector's bytes. -/
theorem Disk.durable_at {w : World} {gs i : Nat} {b : DB} {dur : List (List Nat)} {pend : List (Nat × List Nat)} {wr bud : Int} {s : List Nat} (h : Disk w gs b dur pend wr bud) (hs : dur[i]? = some s) : w.rangeAt b.gd (i * 512) (byt s) := fun j v hj => by
  have hi : i < dur.length := (List.getElem?_eq_some_iff.1 hs).1
  have hss : IsSec s := h.sec s (List.mem_of_getElem? hs)
  have hj2 : j < 512 := by
    have h1 := (List.getElem?_eq_some_iff.1 hj).1
    rw [byt_length, hss.1] at h1
    exact h1
  have h0 := scells_set h.sec hi hss
  have e : dur.set i s = dur := by
    obtain ⟨h1, h2⟩ := List.getElem?_eq_some_iff.1 hs
    rw [← h2, List.set_getElem_self]
  have hlen : (scells dur).length = dur.length * 512 := h.du.1
  have lb : (byt s).length = 512 := by rw [byt_length, hss.1]
  rw [e, laid_eq _ _ _ (by rw [hlen, lb]; omega)] at h0
  rw [h.du.cellAt _ (by omega), ← h0, List.append_assoc, List.getElem?_append_right (by rw [List.length_take]; omega), List.length_take, hlen, Nat.min_eq_left (by omega), Nat.add_sub_cancel_left, List.getElem?_append_left (by omega)]
  exact hj

set_option maxRecDepth 100000 in
set_option maxHeartbeats 2000000 in
theorem current_any {w : World} {gs : Nat} {b : DB} {dur : List (List Nat)} {pend : List (Nat × List Nat)} {wr bud : Int} (h : Disk w gs b dur pend wr bud) (i : Nat) (hi : i < dur.length) (s : List Nat) (hs : (applied pend dur)[i]? = some s) :
    Calls Try.prog 38 #[.pointer (some ⟨gs, 0, none⟩), .int .i64 (i : Int)] w fun e w' => ∃ g o, e = .returned (.pointer (some ⟨g, o, none⟩)) ∧ w = w' ∧ w.rangeAt g o (byt s) := by
  obtain ⟨L, h1, h2, h3, h4⟩ := seen_at pend dur i hi pend.length (Nat.le_refl _)
  rw [List.take_length] at h1 h3 h4
  have c0 := h.c0
  have c1 := h.c1
  have c2 := h.c2
  have hmany := h.many
  have c3 : w.cell? ⟨b.gl, i, none⟩ = some (.int .i64 (L : Int)) := by
    rw [h.la.cellAt i (by rw [Nat.mul_one]; exact hi)]
    unfold ints
    rw [List.getElem?_map, h1]
    rfl
  have i0 : (0 : Int) ≤ (i : Int) := by omega
  have i1 : (i : Int) < (dur.length : Int) := by omega
  have HD := Lib.hid h
  have H3 := Lib.hid h3
  have H4 := Lib.hid h4
  have HS := Lib.hid hs
  clear h h1 h3 h4 hs
  rcases Nat.eq_zero_or_pos L with hL | hL
  · subst hL
    go_enter Try.func38, Try.ntmps38
    go_wp2
    go_ret
    exact ⟨_, _, rfl, rfl, HD.out.durable_at ((H3.out trivial).symm.trans HS.out)⟩
  · obtain ⟨s2, h5, h6⟩ := H4.out hL
    have e : s2 = s := Option.some.inj (h6.symm.trans HS.out)
    subst e
    obtain ⟨gp, cp, hpv⟩ : ∃ gp cp, b.pv = .slice (some ⟨gp, 0, none⟩) pend.length cp := by
      rcases HD.out.pe.2 with ⟨_, h0⟩ | ⟨g, cap, cur, h1, _⟩
      · omega
      · exact ⟨g, cap, h1⟩
    have hrg := HD.out.write_at h5 hpv
    rw [hpv] at c1
    have HR := Lib.hid hrg
    have j0 : (0 : Int) ≤ (L : Int) - 1 := by omega
    have j1 : (L : Int) - 1 < (pend.length : Int) := by omega
    have j2 : ((L : Int) - 1).toNat = L - 1 := by omega
    clear h5 h6 hrg hpv
    go_enter Try.func38, Try.ntmps38
    go_wp2
    go_ret
    refine ⟨_, _, rfl, rfl, fun j v hj => ?_⟩
    have h7 := HR.out (j + 1) v hj
    first
      | exact h7
      | (simp only [j2] at *; rw [Nat.add_assoc, Nat.add_comm 1 j]; exact h7)
theorem run_eqItems_byt (w : World) (d : Nat) (xs ys : List Nat) : ∀ is : List Nat, (∀ i ∈ is, i < xs.length ∧ i < ys.length) →
    (Op.eqItems (d + 1) 5 1 (byt xs).toArray (byt ys).toArray is).run Try.prog w = .ok (decide (∀ i ∈ is, xs[i]? = ys[i]?)) w := by
  intro is
  induction is with
  | nil => intro _; simp [Op.eqItems]
  | cons i is ih =>
    intro h
    obtain ⟨h1, h2⟩ := h i (List.mem_cons_self ..)
    have k := ih fun j hj => h j (List.mem_cons_of_mem _ hj)
    have p : ∀ l : List Nat, ∀ h : i < l.length, (part 5 (byt l).toArray (i * 1)).run Try.prog w = .ok (.int .u8 ((l[i] : Nat) : Int)) w := fun l h => by
      refine run_part_plain w (by kernel_rfl) ?_
      rw [Nat.mul_one, List.getElem?_toArray, byt_at, List.getElem?_eq_getElem h]
      rfl
    simp only [Op.eqItems, Sem.run_bind, p xs h1, p ys h2, Result.andThen_ok, run_equalIn_int w d 5 .u8 .u8 _ _ Try.underlying5]
    by_cases he : xs[i] = ys[i]
    · have e : ((xs[i] : Nat) : Int) = ((ys[i] : Nat) : Int) := by rw [he]
      simp only [e, beq_self_eq_true, Bool.not_true, Bool.false_eq_true, if_false, k]
      congr 1
      have q : xs[i]? = ys[i]? := by rw [List.getElem?_eq_getElem h1, List.getElem?_eq_getElem h2, he]
      simp [q]
    · have e : (((xs[i] : Nat) : Int) == ((ys[i] : Nat) : Int)) = false := by
        rw [beq_eq_false_iff_ne]
        omega
      have q : ¬ xs[i]? = ys[i]? := by rw [List.getElem?_eq_getElem h1, List.getElem?_eq_getElem h2]; simpa using he
      simp [e, q]
theorem run_eql_sec (w : World) (xs ys : List Nat) (hx : xs.length = 512) (hy : ys.length = 512) : (binOp .eql 72 (.agg (byt xs).toArray) (.agg (byt ys).toArray)).run Try.prog w = .ok (.bool (decide (xs = ys))) w := by
  obtain ⟨i0, hi0, hz0, hz1, hz2⟩ := info_parts infoByte
  rw [run_eql_struct, run_equalIn_array w 9999 _ _ Try.underlying72 hi0]
  have hc : Try.prog.cellsOf 5 = 1 := by kernel_rfl
  rw [hc, run_eqItems_byt w 9998 xs ys (List.range 512) (fun i hi => by have := List.mem_range.1 hi; omega)]
  have e : (∀ i ∈ List.range 512, xs[i]? = ys[i]?) ↔ xs = ys := by
    constructor
    · intro h
      apply List.ext_getElem?
      intro i
      by_cases hi : i < 512
      · exact h i (List.mem_range.2 hi)
      · rw [List.getElem?_eq_none (by omega), List.getElem?_eq_none (by omega)]
    · intro h i _
      rw [h]
  simp only [e]
  rfl
end Go.Proofs.Ytmhhcblgeellnaa
