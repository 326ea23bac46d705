/- DSeen, DSync: joined by program (tools/merge.py). -/
import Derived.Test.YtalpippeelomjaaZ18
import Derived.ChangeKeysEq
import Derived.Lib.SliceRun
namespace Go.Proofs.Ytalpippeelomjaa
open Go.RowKit
set_option linter.unusedSimpArgs false

/-- The sectors with each pending write done. -/
def applied (pend : List (Nat × List Nat)) (dur : List (List Nat)) : List (List Nat) := pend.foldl (fun d p => d.set p.1 p.2) dur
theorem applied_snoc (l : List (Nat × List Nat)) (p : Nat × List Nat) (dur : List (List Nat)) : applied (l ++ [p]) dur = (applied l dur).set p.1 p.2 := by
  unfold applied
  rw [List.foldl_append]
  rfl
theorem applied_length (pend : List (Nat × List Nat)) (dur : List (List Nat)) : (applied pend dur).length = dur.length := by
  unfold applied
  induction pend generalizing dur with
  | nil => rfl
  | cons p r ih => rw [List.foldl_cons, ih, List.length_set]
theorem applied_sec {pend : List (Nat × List Nat)} {dur : List (List Nat)} (hd : ∀ s ∈ dur, IsSec s) (hw : ∀ p ∈ pend, IsSec p.2) : ∀ s ∈ applied pend dur, IsSec s := by
  unfold applied
  induction pend generalizing dur with
  | nil => exact hd
  | cons p r ih =>
    rw [List.foldl_cons]
    exact ih (sec_set hd (hw p (List.mem_cons_self ..))) (fun q hq => hw q (List.mem_cons_of_mem _ hq))
/-- The note of the last write tells where the shown sector lies. -/
theorem seen_at (pend : List (Nat × List Nat)) (dur : List (List Nat)) (i : Nat) (hi : i < dur.length) : ∀ k, k ≤ pend.length →
    ∃ L : Nat, (lats dur.length (pend.take k))[i]? = some L ∧ L ≤ k ∧ (L = 0 → (applied (pend.take k) dur)[i]? = dur[i]?) ∧ (0 < L → ∃ s, pend[L - 1]? = some (i, s) ∧ (applied (pend.take k) dur)[i]? = some s) := by
  intro k
  induction k with
  | zero =>
    intro _
    refine ⟨0, ?_, Nat.le_refl _, fun _ => rfl, fun h => absurd h (by omega)⟩
    show (List.replicate dur.length 0)[i]? = some 0
    rw [List.getElem?_replicate, if_pos hi]
  | succ k ih =>
    intro hk
    obtain ⟨L, h1, h2, h3, h4⟩ := ih (by omega)
    obtain ⟨p, hp⟩ : ∃ p, pend[k]? = some p := ⟨_, List.getElem?_eq_getElem (by omega)⟩
    have e : pend.take (k + 1) = pend.take k ++ [p] := by rw [List.take_add_one, hp]; rfl
    have hl : (pend.take k).length = k := by rw [List.length_take]; omega
    rw [e, lats_snoc, applied_snoc, hl]
    by_cases hpi : p.1 = i
    · refine ⟨k + 1, ?_, Nat.le_refl _, fun h => by omega, fun _ => ⟨p.2, ?_, ?_⟩⟩
      · rw [hpi, List.getElem?_set_self (by rw [lats_length]; exact hi)]
      · rw [Nat.add_sub_cancel, hp, ← hpi]
      · rw [hpi, List.getElem?_set_self (by rw [applied_length]; exact hi)]
    · refine ⟨L, ?_, by omega, fun h => ?_, fun h => ?_⟩
      · rw [List.getElem?_set_ne hpi]; exact h1
      · rw [List.getElem?_set_ne hpi]; exact h3 h
      · obtain ⟨s, h5, h6⟩ := h4 h
        exact ⟨s, h5, by rw [List.getElem?_set_ne hpi]; exact h6⟩
/-- A durable sector's bytes. -/
theorem Disk.durable_at {w : World} {gs i : Nat} {b : DB} {dur : List (List Nat)} {pend : List (Nat × List Nat)} {wr bud : Int} {s : List Nat} (h : Disk w gs b dur pend wr bud) (hs : dur[i]? = some s) : w.rangeAt b.gd (i * 512) (byt s) := fun j v hj => by
  have hi : i < dur.length := (List.getElem?_eq_some_iff.1 hs).1
  have hss : IsSec s := h.sec s (List.mem_of_getElem? hs)
  have hj2 : j < 512 := by
    have h1 := (List.getElem?_eq_some_iff.1 hj).1
    rw [byt_length, hss.1] at h1
    exact h1
  have h0 := scells_set h.sec hi hss
  have e : dur.set i s = dur := by
    obtain ⟨h1, h2⟩ := List.getElem?_eq_some_iff.1 hs
    rw [← h2, List.set_getElem_self]
  have hlen : (scells dur).length = dur.length * 512 := h.du.1
  have lb : (byt s).length = 512 := by rw [byt_length, hss.1]
  rw [e, laid_eq _ _ _ (by rw [hlen, lb]; omega)] at h0
  rw [h.du.cellAt _ (by omega), ← h0, List.append_assoc, List.getElem?_append_right (by rw [List.length_take]; omega), List.length_take, hlen, Nat.min_eq_left (by omega), Nat.add_sub_cancel_left, List.getElem?_append_left (by omega)]
  exact hj

set_option maxRecDepth 100000 in
set_option maxHeartbeats 2000000 in
theorem current_any {w : World} {gs : Nat} {b : DB} {dur : List (List Nat)} {pend : List (Nat × List Nat)} {wr bud : Int} (h : Disk w gs b dur pend wr bud) (i : Nat) (hi : i < dur.length) (s : List Nat) (hs : (applied pend dur)[i]? = some s) :
    Calls Try.prog 62 #[.pointer (some ⟨gs, 0, none⟩), .int .i64 (i : Int)] w fun e w' => ∃ g o, e = .returned (.pointer (some ⟨g, o, none⟩)) ∧ w = w' ∧ w.rangeAt g o (byt s) := by
  obtain ⟨L, h1, h2, h3, h4⟩ := seen_at pend dur i hi pend.length (Nat.le_refl _)
  rw [List.take_length] at h1 h3 h4
  have c0 := h.c0
  have c1 := h.c1
  have c2 := h.c2
  have hmany := h.many
  have c3 : w.cell? ⟨b.gl, i, none⟩ = some (.int .i64 (L : Int)) := by
    rw [h.la.cellAt i (by rw [Nat.mul_one]; exact hi)]
    unfold ints
    rw [List.getElem?_map, h1]
    rfl
  have i0 : (0 : Int) ≤ (i : Int) := by omega
  have i1 : (i : Int) < (dur.length : Int) := by omega
  have HD := Lib.hid h
  have H3 := Lib.hid h3
  have H4 := Lib.hid h4
  have HS := Lib.hid hs
  clear h h1 h3 h4 hs
  rcases Nat.eq_zero_or_pos L with hL | hL
  · subst hL
    go_enter Try.func62, Try.ntmps62
    go_wp2
    go_ret
    exact ⟨_, _, rfl, rfl, HD.out.durable_at ((H3.out trivial).symm.trans HS.out)⟩
  · obtain ⟨s2, h5, h6⟩ := H4.out hL
    have e : s2 = s := Option.some.inj (h6.symm.trans HS.out)
    subst e
    obtain ⟨gp, cp, hpv⟩ : ∃ gp cp, b.pv = .slice (some ⟨gp, 0, none⟩) pend.length cp := by
      rcases HD.out.pe.2 with ⟨_, h0⟩ | ⟨g, cap, cur, h1, _⟩
      · omega
      · exact ⟨g, cap, h1⟩
    have hrg := HD.out.write_at h5 hpv
    rw [hpv] at c1
    have HR := Lib.hid hrg
    have j0 : (0 : Int) ≤ (L : Int) - 1 := by omega
    have j1 : (L : Int) - 1 < (pend.length : Int) := by omega
    have j2 : ((L : Int) - 1).toNat = L - 1 := by omega
    clear h5 h6 hrg hpv
    go_enter Try.func62, Try.ntmps62
    go_wp2
    go_ret
    refine ⟨_, _, rfl, rfl, fun j v hj => ?_⟩
    have h7 := HR.out (j + 1) v hj
    first
      | exact h7
      | (simp only [j2] at *; rw [Nat.add_assoc, Nat.add_comm 1 j]; exact h7)
theorem run_eqItems_byt (w : World) (d : Nat) (xs ys : List Nat) : ∀ is : List Nat, (∀ i ∈ is, i < xs.length ∧ i < ys.length) →
    (Op.eqItems (d + 1) 5 1 (byt xs).toArray (byt ys).toArray is).run Try.prog w = .ok (decide (∀ i ∈ is, xs[i]? = ys[i]?)) w := by
  intro is
  induction is with
  | nil => intro _; simp [Op.eqItems]
  | cons i is ih =>
    intro h
    obtain ⟨h1, h2⟩ := h i (List.mem_cons_self ..)
    have k := ih fun j hj => h j (List.mem_cons_of_mem _ hj)
    have p : ∀ l : List Nat, ∀ h : i < l.length, (part 5 (byt l).toArray (i * 1)).run Try.prog w = .ok (.int .u8 ((l[i] : Nat) : Int)) w := fun l h => by
      refine run_part_plain w (by kernel_rfl) ?_
      rw [Nat.mul_one, List.getElem?_toArray, byt_at, List.getElem?_eq_getElem h]
      rfl
    simp only [Op.eqItems, Sem.run_bind, p xs h1, p ys h2, Result.andThen_ok, run_equalIn_int w d 5 .u8 .u8 _ _ Try.underlying5]
    by_cases he : xs[i] = ys[i]
    · have e : ((xs[i] : Nat) : Int) = ((ys[i] : Nat) : Int) := by rw [he]
      simp only [e, beq_self_eq_true, Bool.not_true, Bool.false_eq_true, if_false, k]
      congr 1
      have q : xs[i]? = ys[i]? := by rw [List.getElem?_eq_getElem h1, List.getElem?_eq_getElem h2, he]
      simp [q]
    · have e : (((xs[i] : Nat) : Int) == ((ys[i] : Nat) : Int)) = false := by
        rw [beq_eq_false_iff_ne]
        omega
      have q : ¬ xs[i]? = ys[i]? := by rw [List.getElem?_eq_getElem h1, List.getElem?_eq_getElem h2]; simpa using he
      simp [e, q]
theorem run_eql_sec (w : World) (xs ys : List Nat) (hx : xs.length = 512) (hy : ys.length = 512) : (binOp .eql 92 (.agg (byt xs).toArray) (.agg (byt ys).toArray)).run Try.prog w = .ok (.bool (decide (xs = ys))) w := by
  obtain ⟨i0, hi0, hz0, hz1, hz2⟩ := info_parts infoByte
  rw [run_eql_struct, run_equalIn_array w 9999 _ _ Try.underlying92 hi0]
  have hc : Try.prog.cellsOf 5 = 1 := by kernel_rfl
  rw [hc, run_eqItems_byt w 9998 xs ys (List.range 512) (fun i hi => by have := List.mem_range.1 hi; omega)]
  have e : (∀ i ∈ List.range 512, xs[i]? = ys[i]?) ↔ xs = ys := by
    constructor
    · intro h
      apply List.ext_getElem?
      intro i
      by_cases hi : i < 512
      · exact h i (List.mem_range.2 hi)
      · rw [List.getElem?_eq_none (by omega), List.getElem?_eq_none (by omega)]
    · intro h i _
      rw [h]
  simp only [e]
  rfl
end Go.Proofs.Ytalpippeelomjaa
namespace Go.Proofs.Ytalpippeelomjaa
open Go.RowKit
set_option linter.unusedSimpArgs false

theorem Disk.apart_latest {w : World} {gs : Nat} {b : DB} {dur : List (List Nat)} {pend : List (Nat × List Nat)} {wr bud : Int} (h : Disk w gs b dur pend wr bud) : gs ≠ b.gl := by
  obtain ⟨cur, hcur⟩ := row_of h.la
  intro e
  have h1 := h.st
  rw [e, hcur] at h1
  injection h1 with h1
  injection h1 with _ h3
  exact absurd h3 (by decide)
theorem ints_noughts (n : Nat) : ints (lats n []) = List.replicate n (Value.int .i64 0) := by
  show (List.replicate n 0).map _ = _
  rw [List.map_replicate]
  rfl
/-- No pending write, no note: what Sync's end leaves. -/
theorem Disk.synced {w : World} {gs : Nat} {b : DB} {dur : List (List Nat)} {pend : List (Nat × List Nat)} {wr bud : Int} (h : Disk w gs b dur pend wr bud) :
    Disk ((w.setCell ⟨gs, 1, none⟩ (.slice none 0 0)).setCells b.gl 0 (List.replicate dur.length (.int .i64 0))) gs ⟨b.gd, b.cd, b.gl, b.cl, .slice none 0 0⟩ dur [] wr bud ∧
      OnlyAt w ((w.setCell ⟨gs, 1, none⟩ (.slice none 0 0)).setCells b.gl 0 (List.replicate dur.length (.int .i64 0))) (fun k => k = gs ∨ k = b.gl) := by
  have hne := h.apart_latest
  have k1 := setCell_others w gs 1 (.slice none 0 0)
  have hla := row_kept h.la h.st (by decide) k1
  obtain ⟨cur, hcur⟩ := row_of hla
  have o2 := keptBut_only (w.setCell ⟨gs, 1, none⟩ (.slice none 0 0)) b.gl 0 (List.replicate dur.length (.int .i64 0))
  have k2 := o2.block
  have hsz : gs < (w.setCell ⟨gs, 1, none⟩ (.slice none 0 0)).heap.size := by simpa [World.setCell] using h.lt
  have hst : (w.setCell ⟨gs, 1, none⟩ (.slice none 0 0)).heap[gs]? = some (.cells (stcells ⟨b.gd, b.cd, b.gl, b.cl, .slice none 0 0⟩ dur.length wr bud) 95 (0, 0)) := by
    rw [heap_setCell_same w gs 1 _ _ _ h.st]
    rfl
  refine ⟨⟨?_, ?_, World.ownsRow_nil _ _ _ _, ?_, h.sec, by simp, h.few, by simp⟩, ((OnlyAt.setCell w gs 1 _).mono fun k _ hk => .inl hk).trans (o2.mono fun k _ hk => .inr hk)⟩
  · rw [k2 gs hsz hne]
    exact hst
  · exact row_kept (row_kept h.du h.st (by decide) k1) hcur (by decide) k2
  · have h1 := stored_many (List.replicate dur.length (Value.int .i64 0)) 0 hla
    have hl : (ints (lats dur.length pend)).length = dur.length := by unfold ints; rw [List.length_map, lats_length]
    rw [laid_eq _ _ _ (by rw [hl, List.length_replicate]; omega), List.length_replicate, List.take_zero, List.nil_append, List.drop_of_length_le (by omega), List.append_nil] at h1
    rw [ints_noughts]
    exact h1

theorem applied_next {pend : List (Nat × List Nat)} {dur : List (List Nat)} {k : Nat} {p : Nat × List Nat} (hp : pend[k]? = some p) : applied (pend.take (k + 1)) dur = (applied (pend.take k) dur).set p.1 p.2 := by
  rw [List.take_add_one, hp]
  exact applied_snoc _ _ _
/-- At the head of each round of Sync: the first k pending writes are done. -/
def SyncR (w : World) (gs : Nat) (b : DB) (pend : List (Nat × List Nat)) (dur : List (List Nat)) (wr bud : Int) (t : Value) (x : World) : Prop :=
  ∃ k : Nat, k ≤ pend.length ∧ t = .int .i64 (k : Int) ∧ Disk x gs b (applied (pend.take k) dur) pend wr bud ∧ OnlyAt w x (fun k => k = gs ∨ k = b.gd)
theorem pv_apart {w : World} {gs gp cp : Nat} {b : DB} {dur : List (List Nat)} {pend : List (Nat × List Nat)} {wr bud : Int} (h : Disk w gs b dur pend wr bud) (hpv : b.pv = .slice (some ⟨gp, 0, none⟩) pend.length cp) : gp ≠ b.gd := by
  have h1 := own_apart h.pe h.du (by decide)
  rw [hpv] at h1
  rcases h1 with h1 | h1
  · cases h1
  · intro e
    exact h1 (by rw [e]; rfl)

set_option maxRecDepth 100000 in
set_option maxHeartbeats 2000000 in
theorem sync_good {w : World} {gs : Nat} {b : DB} {dur : List (List Nat)} {pend : List (Nat × List Nat)} {nw bud : Int} (h : Disk w gs b dur pend nw bud) (hb : bud ≠ 0) (hb2 : -9223372036854775808 ≤ bud ∧ bud ≤ 9223372036854775807) :
    Calls Try.prog 33 #[.pointer (some ⟨gs, 0, none⟩)] w fun e w' => e = .returned (.int .i64 0) ∧ Disk w' gs ⟨b.gd, b.cd, b.gl, b.cl, .slice none 0 0⟩ (applied pend dur) [] nw (less bud) ∧
      OnlyAt w w' (fun k => k = gs ∨ k = b.gd ∨ k = b.gl) := by
  have HS := hide (spend_yes h hb hb2)
  obtain ⟨P, cp, hpv⟩ : ∃ P cp, b.pv = .slice P pend.length cp := by
    rcases h.pe.2 with ⟨h1, h0⟩ | ⟨g, cap, cur, h1, _⟩
    · exact ⟨none, 0, by rw [h1, h0]⟩
    · exact ⟨some ⟨g, 0, none⟩, cap, h1⟩
  have HPV := Lib.hid hpv
  have hlen := h.few
  have hmany := h.many
  have HW := Lib.hid h.wri
  clear h hb hb2 hpv
  go_enter Try.func33, Try.ntmps33
  go_wp2_with (go_at_call 61; (with_reducible refine (unhide HS).mono ?_); rintro e w1 ⟨rfl, hD1, hO1⟩; have c1 : w1.cell? ⟨gs, 1, none⟩ = some (.slice P pend.length cp) := (by rw [hD1.c1, HPV.out]))
  have HD1 := Lib.hid hD1
  have HO1 := Lib.hid hO1
  clear hD1 hO1 HS
  go_loopw [14] (fun t x => SyncR w1 gs b pend dur nw (less bud) t x) (fun t _ => pend.length - (intOf t).toNat)
  case atStart => exact ⟨0, Nat.zero_le _, rfl, HD1.out, OnlyAt.refl _ _⟩
  case round =>
    obtain ⟨k, hk, rfl, hD, hO⟩ := hrel
    by_cases hlt : k < pend.length
    · obtain ⟨p, hp⟩ : ∃ p, pend[k]? = some p := ⟨_, List.getElem?_eq_getElem hlt⟩
      have hnext := applied_next (dur := dur) hp
      have HN := Lib.hid hnext
      have HK := Lib.hid hp
      obtain ⟨gp, hP⟩ : ∃ gp, P = some ⟨gp, 0, none⟩ := by
        rcases hD.pe.2 with ⟨_, h0⟩ | ⟨g, cap, cur, h1, _⟩
        · omega
        · rw [HPV.out] at h1
          injection h1 with h1
          exact ⟨g, h1⟩
      subst hP
      have hwri := HW.out p (List.mem_of_getElem? hp)
      clear hp hnext
      have hkl := applied_length (pend.take k) dur
      have d0 : wr.cell? ⟨gs, 0, none⟩ = some (.slice (some ⟨b.gd, 0, none⟩) dur.length b.cd) := by rw [hD.c0, hkl]
      have d1 : wr.cell? ⟨gs, 1, none⟩ = some (.slice (some ⟨gp, 0, none⟩) pend.length cp) := by rw [hD.c1, HPV.out]
      have hrg : wr.rangeAt gp (k * 513) (wcell p) := hD.write_at HK.out HPV.out
      have d2 : wr.cell? ⟨gp, k * 513, none⟩ = some (.int .i64 (p.1 : Int)) := hrg 0 _ rfl
      have d3 : wr.rangeAt gp (k * 513 + 1) (byt p.2) := fun j v hj => by
        rw [Nat.add_assoc, Nat.add_comm 1 j]
        exact hrg (j + 1) v hj
      have hbl : (byt p.2).length = 512 := by rw [byt_length, hwri.2.1]
      have d4 : wr.there b.gd (p.1 * 512) (byt p.2).length := hD.sector (by rw [hkl]; exact hwri.1) hbl
      have hone := one_byt p.2
      have hinfo : (Try.prog.info? 92).map (·.size) = some (byt p.2).length := by rw [hbl]; kernel_rfl
      have hund := Try.underlying92
      have i0 : (0 : Int) ≤ (k : Int) := by omega
      have i1 : (k : Int) < (pend.length : Int) := by omega
      have i2 : (0 : Int) ≤ (p.1 : Int) := by omega
      have i3 : (p.1 : Int) < (dur.length : Int) := by have := hwri.1; omega
      have n1 : gs ≠ b.gd := hD.apart
      have n3 : gp ≠ b.gd := pv_apart hD HPV.out
      obtain ⟨s, hs⟩ : ∃ s, s = byt p.2 := ⟨_, rfl⟩
      rw [← hs] at d3 d4 hone hinfo hbl
      clear hrg
      go_wp2
      go_region_held3 (fun w' => w'.cell? ⟨gs, 0, none⟩ = some (.slice (some ⟨b.gd, 0, none⟩) dur.length b.cd) ∧ w'.cell? ⟨gs, 1, none⟩ = some (.slice (some ⟨gp, 0, none⟩) pend.length cp) ∧ w'.cell? ⟨gp, k * 513, none⟩ = some (.int .i64 (p.1 : Int)) ∧ w'.rangeAt gp (k * 513 + 1) s ∧ w'.there b.gd (p.1 * 512) s.length) (first | (exact crash_keep (by assumption) n1 n1 n3) | (go_keep_ranges)) (fail)
      go_wp2
      go_roundw
      case rel => exact ⟨k + 1, by omega, by go_num, by rw [HN.out]; exact hD.drew.put (by rw [hkl]; exact hwri.1) hwri.2, hO.drew.trans ((keptBut_only _ _ _ _).mono fun j _ hj => .inr hj)⟩
      case measure => simp [intOf]; omega
    · obtain rfl : k = pend.length := by omega
      rw [List.take_length] at hD
      have c1b := hD.c1
      have f1 := hD.fz 1
      have hkl := applied_length pend dur
      have c2 : wr.cell? ⟨gs, 2, none⟩ = some (.slice (some ⟨b.gl, 0, none⟩) dur.length b.cl) := by rw [hD.c2, hkl]
      obtain ⟨hE, hO2⟩ := hD.synced
      rw [hkl] at hE hO2
      have hla := row_kept hD.la hD.st (by decide) (setCell_others wr gs 1 (.slice none 0 0))
      have hcl : ∀ ty, (Builtin.clear_ #[63] ty #[.slice (some ⟨b.gl, 0, none⟩) dur.length b.cl]).run Try.prog (wr.setCell ⟨gs, 1, none⟩ (.slice none 0 0)) = .ok (.tuple #[]) ((wr.setCell ⟨gs, 1, none⟩ (.slice none 0 0)).setCells b.gl 0 (List.replicate dur.length (.int .i64 0))) := fun ty =>
        Lib.run_clear_slice _ 63 3 ty (.int .i64 0) Try.underlying63 (fun w => by go_simp) rfl rfl b.gl 0 dur.length b.cl (by omega) (fun j hj => by
          rw [Nat.zero_add, hla.cellAt j (by rw [hkl]; omega), List.getElem?_eq_getElem (by unfold ints; rw [List.length_map, lats_length, hkl]; exact hj)]
          rfl) (fun j _ => by rw [Nat.zero_add]; exact hla.frozenAt j)
      have HE := Lib.hid hE
      have HO2 := Lib.hid hO2
      have HO3 := Lib.hid hO
      clear hE hO2 hO hla hD
      go_wp2
      go_ret
      refine ⟨rfl, HE.out, ((HO1.out.mono fun k _ hk => .inl hk).trans (HO3.out.mono fun k _ hk => ?_)).trans (HO2.out.mono fun k _ hk => ?_)⟩
      · rcases hk with h | h
        · exact .inl h
        · exact .inr (.inl h)
      · rcases hk with h | h
        · exact .inl h
        · exact .inr (.inr h)
end Go.Proofs.Ytalpippeelomjaa
