/- DSync, DSmall, DCopy, DBlank, DAwake: joined by program (tools/merge.py). -/
import Derived.Test.YtnojkifndcffjaaDCrash
import Derived.Test.YtnojkifndcffjaaDSeen
import Derived.Lib.SliceRun
import Derived.Test.YtnojkifndcffjaaDWrite
namespace Go.Proofs.Ytnojkifndcffjaa
open Go.RowKit
set_option linter.unusedSimpArgs false

theorem Disk.apart_latest {w : World} {gs : Nat} {b : DB} {dur : List (List Nat)} {pend : List (Nat × List Nat)} {wr bud : Int} (h : Disk w gs b dur pend wr bud) : gs ≠ b.gl := by
  obtain ⟨cur, hcur⟩ := row_of h.la
  intro e
  have h1 := h.st
  rw [e, hcur] at h1
  injection h1 with h1
  injection h1 with _ h3
  exact absurd h3 (by decide)
theorem ints_noughts (n : Nat) : ints (lats n []) = List.replicate n (Value.int .i64 0) := by
  show (List.replicate n 0).map _ = _
  rw [List.map_replicate]
  rfl
/-- No pending write, no note: what Sync's end leaves. -/
theorem Disk.synced {w : World} {gs : Nat} {b : DB} {dur : List (List Nat)} {pend : List (Nat × List Nat)} {wr bud : Int} (h : Disk w gs b dur pend wr bud) :
    Disk ((w.setCell ⟨gs, 1, none⟩ (.slice none 0 0)).setCells b.gl 0 (List.replicate dur.length (.int .i64 0))) gs ⟨b.gd, b.cd, b.gl, b.cl, .slice none 0 0⟩ dur [] wr bud ∧
      OnlyAt w ((w.setCell ⟨gs, 1, none⟩ (.slice none 0 0)).setCells b.gl 0 (List.replicate dur.length (.int .i64 0))) (fun k => k = gs ∨ k = b.gl) := by
  have hne := h.apart_latest
  have k1 := setCell_others w gs 1 (.slice none 0 0)
  have hla := row_kept h.la h.st (by decide) k1
  obtain ⟨cur, hcur⟩ := row_of hla
  have o2 := keptBut_only (w.setCell ⟨gs, 1, none⟩ (.slice none 0 0)) b.gl 0 (List.replicate dur.length (.int .i64 0))
  have k2 := o2.block
  have hsz : gs < (w.setCell ⟨gs, 1, none⟩ (.slice none 0 0)).heap.size := by simpa [World.setCell] using h.lt
  have hst : (w.setCell ⟨gs, 1, none⟩ (.slice none 0 0)).heap[gs]? = some (.cells (stcells ⟨b.gd, b.cd, b.gl, b.cl, .slice none 0 0⟩ dur.length wr bud) 75 (0, 0)) := by
    rw [heap_setCell_same w gs 1 _ _ _ h.st]
    rfl
  refine ⟨⟨?_, ?_, World.ownsRow_nil _ _ _ _, ?_, h.sec, by simp, h.few, by simp⟩, ((OnlyAt.setCell w gs 1 _).mono fun k _ hk => .inl hk).trans (o2.mono fun k _ hk => .inr hk)⟩
  · rw [k2 gs hsz hne]
    exact hst
  · exact row_kept (row_kept h.du h.st (by decide) k1) hcur (by decide) k2
  · have h1 := stored_many (List.replicate dur.length (Value.int .i64 0)) 0 hla
    have hl : (ints (lats dur.length pend)).length = dur.length := by unfold ints; rw [List.length_map, lats_length]
    rw [laid_eq _ _ _ (by rw [hl, List.length_replicate]; omega), List.length_replicate, List.take_zero, List.nil_append, List.drop_of_length_le (by omega), List.append_nil] at h1
    rw [ints_noughts]
    exact h1

theorem applied_next {pend : List (Nat × List Nat)} {dur : List (List Nat)} {k : Nat} {p : Nat × List Nat} (hp : pend[k]? = some p) : applied (pend.take (k + 1)) dur = (applied (pend.take k) dur).set p.1 p.2 := by
  rw [List.take_add_one, hp]
  exact applied_snoc _ _ _
/-- At the head of each round of Sync: the first k pending writes are done. -/
def SyncR (w : World) (gs : Nat) (b : DB) (pend : List (Nat × List Nat)) (dur : List (List Nat)) (wr bud : Int) (t : Value) (x : World) : Prop :=
  ∃ k : Nat, k ≤ pend.length ∧ t = .int .i64 (k : Int) ∧ Disk x gs b (applied (pend.take k) dur) pend wr bud ∧ OnlyAt w x (fun k => k = gs ∨ k = b.gd)
theorem pv_apart {w : World} {gs gp cp : Nat} {b : DB} {dur : List (List Nat)} {pend : List (Nat × List Nat)} {wr bud : Int} (h : Disk w gs b dur pend wr bud) (hpv : b.pv = .slice (some ⟨gp, 0, none⟩) pend.length cp) : gp ≠ b.gd := by
  have h1 := own_apart h.pe h.du (by decide)
  rw [hpv] at h1
  rcases h1 with h1 | h1
  · cases h1
  · intro e
    exact h1 (by rw [e]; rfl)

set_option maxRecDepth 100000 in
set_option maxHeartbeats 2000000 in
theorem sync_good {w : World} {gs : Nat} {b : DB} {dur : List (List Nat)} {pend : List (Nat × List Nat)} {nw bud : Int} (h : Disk w gs b dur pend nw bud) (hb : bud ≠ 0) (hb2 : -9223372036854775808 ≤ bud ∧ bud ≤ 9223372036854775807) :
    Calls Try.prog 20 #[.pointer (some ⟨gs, 0, none⟩)] w fun e w' => e = .returned (.int .i64 0) ∧ Disk w' gs ⟨b.gd, b.cd, b.gl, b.cl, .slice none 0 0⟩ (applied pend dur) [] nw (less bud) ∧
      OnlyAt w w' (fun k => k = gs ∨ k = b.gd ∨ k = b.gl) := by
  have HS := hide (spend_yes h hb hb2)
  obtain ⟨P, cp, hpv⟩ : ∃ P cp, b.pv = .slice P pend.length cp := by
    rcases h.pe.2 with ⟨h1, h0⟩ | ⟨g, cap, cur, h1, _⟩
    · exact ⟨none, 0, by rw [h1, h0]⟩
    · exact ⟨some ⟨g, 0, none⟩, cap, h1⟩
  have HPV := Lib.hid hpv
  have hlen := h.few
  have hmany := h.many
  have HW := Lib.hid h.wri
  clear h hb hb2 hpv
  go_enter Try.func20, Try.ntmps20
  go_wp2_with (go_at_call 33; (with_reducible refine (unhide HS).mono ?_); rintro e w1 ⟨rfl, hD1, hO1⟩; have c1 : w1.cell? ⟨gs, 1, none⟩ = some (.slice P pend.length cp) := (by rw [hD1.c1, HPV.out]))
  have HD1 := Lib.hid hD1
  have HO1 := Lib.hid hO1
  clear hD1 hO1 HS
  go_loopw [14] (fun t x => SyncR w1 gs b pend dur nw (less bud) t x) (fun t _ => pend.length - (intOf t).toNat)
  case atStart => exact ⟨0, Nat.zero_le _, rfl, HD1.out, OnlyAt.refl _ _⟩
  case round =>
    obtain ⟨k, hk, rfl, hD, hO⟩ := hrel
    by_cases hlt : k < pend.length
    · obtain ⟨p, hp⟩ : ∃ p, pend[k]? = some p := ⟨_, List.getElem?_eq_getElem hlt⟩
      have hnext := applied_next (dur := dur) hp
      have HN := Lib.hid hnext
      have HK := Lib.hid hp
      obtain ⟨gp, hP⟩ : ∃ gp, P = some ⟨gp, 0, none⟩ := by
        rcases hD.pe.2 with ⟨_, h0⟩ | ⟨g, cap, cur, h1, _⟩
        · omega
        · rw [HPV.out] at h1
          injection h1 with h1
          exact ⟨g, h1⟩
      subst hP
      have hwri := HW.out p (List.mem_of_getElem? hp)
      clear hp hnext
      have hkl := applied_length (pend.take k) dur
      have d0 : wr.cell? ⟨gs, 0, none⟩ = some (.slice (some ⟨b.gd, 0, none⟩) dur.length b.cd) := by rw [hD.c0, hkl]
      have d1 : wr.cell? ⟨gs, 1, none⟩ = some (.slice (some ⟨gp, 0, none⟩) pend.length cp) := by rw [hD.c1, HPV.out]
      have hrg : wr.rangeAt gp (k * 513) (wcell p) := hD.write_at HK.out HPV.out
      have d2 : wr.cell? ⟨gp, k * 513, none⟩ = some (.int .i64 (p.1 : Int)) := hrg 0 _ rfl
      have d3 : wr.rangeAt gp (k * 513 + 1) (byt p.2) := fun j v hj => by
        rw [Nat.add_assoc, Nat.add_comm 1 j]
        exact hrg (j + 1) v hj
      have hbl : (byt p.2).length = 512 := by rw [byt_length, hwri.2.1]
      have d4 : wr.there b.gd (p.1 * 512) (byt p.2).length := hD.sector (by rw [hkl]; exact hwri.1) hbl
      have hone := one_byt p.2
      have hinfo : (Try.prog.info? 70).map (·.size) = some (byt p.2).length := by rw [hbl]; kernel_rfl
      have hund := Try.underlying70
      have i0 : (0 : Int) ≤ (k : Int) := by omega
      have i1 : (k : Int) < (pend.length : Int) := by omega
      have i2 : (0 : Int) ≤ (p.1 : Int) := by omega
      have i3 : (p.1 : Int) < (dur.length : Int) := by have := hwri.1; omega
      have n1 : gs ≠ b.gd := hD.apart
      have n3 : gp ≠ b.gd := pv_apart hD HPV.out
      obtain ⟨s, hs⟩ : ∃ s, s = byt p.2 := ⟨_, rfl⟩
      rw [← hs] at d3 d4 hone hinfo hbl
      clear hrg
      go_wp2
      go_region_held3 (fun w' => w'.cell? ⟨gs, 0, none⟩ = some (.slice (some ⟨b.gd, 0, none⟩) dur.length b.cd) ∧ w'.cell? ⟨gs, 1, none⟩ = some (.slice (some ⟨gp, 0, none⟩) pend.length cp) ∧ w'.cell? ⟨gp, k * 513, none⟩ = some (.int .i64 (p.1 : Int)) ∧ w'.rangeAt gp (k * 513 + 1) s ∧ w'.there b.gd (p.1 * 512) s.length) (first | (exact crash_keep (by assumption) n1 n1 n3) | (go_keep_ranges)) (fail)
      go_wp2
      go_roundw
      case rel => exact ⟨k + 1, by omega, by go_num, by rw [HN.out]; exact hD.drew.put (by rw [hkl]; exact hwri.1) hwri.2, hO.drew.trans ((keptBut_only _ _ _ _).mono fun j _ hj => .inr hj)⟩
      case measure => simp [intOf]; omega
    · obtain rfl : k = pend.length := by omega
      rw [List.take_length] at hD
      have c1b := hD.c1
      have f1 := hD.fz 1
      have hkl := applied_length pend dur
      have c2 : wr.cell? ⟨gs, 2, none⟩ = some (.slice (some ⟨b.gl, 0, none⟩) dur.length b.cl) := by rw [hD.c2, hkl]
      obtain ⟨hE, hO2⟩ := hD.synced
      rw [hkl] at hE hO2
      have hla := row_kept hD.la hD.st (by decide) (setCell_others wr gs 1 (.slice none 0 0))
      have hcl : ∀ ty, (Builtin.clear_ #[53] ty #[.slice (some ⟨b.gl, 0, none⟩) dur.length b.cl]).run Try.prog (wr.setCell ⟨gs, 1, none⟩ (.slice none 0 0)) = .ok (.tuple #[]) ((wr.setCell ⟨gs, 1, none⟩ (.slice none 0 0)).setCells b.gl 0 (List.replicate dur.length (.int .i64 0))) := fun ty =>
        Lib.run_clear_slice _ 53 3 ty (.int .i64 0) Try.underlying53 (fun w => by go_simp) rfl rfl b.gl 0 dur.length b.cl (by omega) (fun j hj => by
          rw [Nat.zero_add, hla.cellAt j (by rw [hkl]; omega), List.getElem?_eq_getElem (by unfold ints; rw [List.length_map, lats_length, hkl]; exact hj)]
          rfl) (fun j _ => by rw [Nat.zero_add]; exact hla.frozenAt j)
      have HE := Lib.hid hE
      have HO2 := Lib.hid hO2
      have HO3 := Lib.hid hO
      clear hE hO2 hO hla hD
      go_wp2
      go_ret
      refine ⟨rfl, HE.out, ((HO1.out.mono fun k _ hk => .inl hk).trans (HO3.out.mono fun k _ hk => ?_)).trans (HO2.out.mono fun k _ hk => ?_)⟩
      · rcases hk with h | h
        · exact .inl h
        · exact .inr (.inl h)
      · rcases hk with h | h
        · exact .inl h
        · exact .inr (.inr h)
end Go.Proofs.Ytnojkifndcffjaa
namespace Go.Proofs.Ytnojkifndcffjaa
open Go.RowKit
set_option linter.unusedSimpArgs false

theorem write_arg {w : World} (gs : Nat) (i : Int) (A : Option Addr) (n c : Nat) (hn : n ≠ 512) :
    Calls Try.prog 12 #[.pointer (some ⟨gs, 0, none⟩), .int .i64 i, .slice A n c] w fun e w' => e = .returned (.int .i64 1) ∧ w = w' := by
  have h1 : ((n : Int) == 512) = false := by rw [beq_eq_false_iff_ne]; omega
  have h2 : ¬ (n : Int) = 512 := by omega
  go_enter Try.func12, Try.ntmps12
  go_wp2
  go_ret
  exact ⟨rfl, rfl⟩
theorem write_index {w : World} {gs : Nat} {b : DB} {dur : List (List Nat)} {pend : List (Nat × List Nat)} {wr bud : Int} (h : Disk w gs b dur pend wr bud) (i : Int) (hi : i < 0 ∨ (dur.length : Int) ≤ i) (A : Option Addr) (c : Nat) :
    Calls Try.prog 12 #[.pointer (some ⟨gs, 0, none⟩), .int .i64 i, .slice A 512 c] w fun e w' => e = .returned (.int .i64 6) ∧ w = w' := by
  have HH := hide (has_no h i hi)
  clear h hi
  go_enter Try.func12, Try.ntmps12
  go_wp2_with (go_at_call 32; (with_reducible refine (unhide HH).mono ?_); rintro e w' ⟨rfl, rfl⟩)
  go_ret
  exact ⟨rfl, rfl⟩
theorem write_off {w : World} {gs : Nat} {b : DB} {dur : List (List Nat)} {pend : List (Nat × List Nat)} {wr : Int} (h : Disk w gs b dur pend wr 0) (i : Nat) (hi : i < dur.length) (A : Option Addr) (c : Nat) :
    Calls Try.prog 12 #[.pointer (some ⟨gs, 0, none⟩), .int .i64 (i : Int), .slice A 512 c] w fun e w' => e = .returned (.int .i64 8) ∧ w = w' := by
  have HH := hide (has_yes h i hi)
  have HS := hide (spend_no h)
  clear h hi
  go_enter Try.func12, Try.ntmps12
  go_wp2_with (first
    | (go_at_call 32; (with_reducible refine (unhide HH).mono ?_); rintro e w' ⟨rfl, rfl⟩)
    | (go_at_call 33; (with_reducible refine (unhide HS).mono ?_); rintro e w' ⟨rfl, rfl⟩))
  go_ret
  exact ⟨rfl, rfl⟩
theorem sync_off {w : World} {gs : Nat} {b : DB} {dur : List (List Nat)} {pend : List (Nat × List Nat)} {wr : Int} (h : Disk w gs b dur pend wr 0) :
    Calls Try.prog 20 #[.pointer (some ⟨gs, 0, none⟩)] w fun e w' => e = .returned (.int .i64 8) ∧ w = w' := by
  have HS := hide (spend_no h)
  clear h
  go_enter Try.func20, Try.ntmps20
  go_wp2_with (go_at_call 33; (with_reducible refine (unhide HS).mono ?_); rintro e w' ⟨rfl, rfl⟩)
  go_ret
  exact ⟨rfl, rfl⟩
end Go.Proofs.Ytnojkifndcffjaa
namespace Go.Proofs.Ytnojkifndcffjaa
open Go.RowKit
set_option linter.unusedSimpArgs false

theorem pv_form {w : World} {base n size : Nat} {t : TypeId} {v : Value} {xs : List Value} (h : w.ownsRow base t size v n xs) : ∃ A c, v = .slice A n c := by
  rcases h.2 with ⟨h1, h0⟩ | ⟨g, cap, cur, h1, _⟩
  · exact ⟨none, 0, by rw [h1, h0]⟩
  · exact ⟨_, cap, h1⟩
theorem wcells_one (l : List (Nat × List Nat)) : ∀ v ∈ wcells l, v.oneCell' = true := fun v hv => by
  unfold wcells at hv
  obtain ⟨c, hc, hv2⟩ := List.mem_flatten.1 hv
  obtain ⟨p, _, rfl⟩ := List.mem_map.1 hc
  exact wcell_one p v hv2
theorem Disk.copied {x : World} {gs : Nat} {b : DB} {dur : List (List Nat)} {pend : List (Nat × List Nat)} {pv : Value} (h : Disk x gs b dur [] 0 (-1)) (hp : x.ownsRow 0 72 513 pv pend.length (wcells pend))
    (hw : ∀ p ∈ pend, p.1 < dur.length ∧ IsSec p.2) (hm : pend.length ≤ 1048576) :
    Disk ((x.setCell ⟨gs, 1, none⟩ pv).drew.setCells b.gl 0 (ints (lats dur.length pend))) gs ⟨b.gd, b.cd, b.gl, b.cl, pv⟩ dur pend 0 (-1) ∧
      OnlyAt x ((x.setCell ⟨gs, 1, none⟩ pv).drew.setCells b.gl 0 (ints (lats dur.length pend))) (fun k => k = gs ∨ k = b.gl) := by
  have hne := h.apart_latest
  have k1 := setCell_others x gs 1 pv
  have hla : (x.setCell ⟨gs, 1, none⟩ pv).drew.ownsRow 0 3 1 (.slice (some ⟨b.gl, 0, none⟩) dur.length b.cl) dur.length (ints (lats dur.length [])) := row_kept h.la h.st (by decide) k1
  obtain ⟨cur, hcur⟩ := row_of hla
  have o2 := keptBut_only (x.setCell ⟨gs, 1, none⟩ pv).drew b.gl 0 (ints (lats dur.length pend))
  have k2 := o2.block
  have hsz : gs < (x.setCell ⟨gs, 1, none⟩ pv).drew.heap.size := by simpa [World.setCell, World.drew] using h.lt
  have hst : (x.setCell ⟨gs, 1, none⟩ pv).drew.heap[gs]? = some (.cells (stcells ⟨b.gd, b.cd, b.gl, b.cl, pv⟩ dur.length 0 (-1)) 75 (0, 0)) := by
    show (x.setCell ⟨gs, 1, none⟩ pv).heap[gs]? = _
    rw [heap_setCell_same x gs 1 _ _ _ h.st]
    rfl
  have hdu : (x.setCell ⟨gs, 1, none⟩ pv).drew.ownsRow 0 70 512 (.slice (some ⟨b.gd, 0, none⟩) dur.length b.cd) dur.length (scells dur) := row_kept h.du h.st (by decide) k1
  have hpe : (x.setCell ⟨gs, 1, none⟩ pv).drew.ownsRow 0 72 513 pv pend.length (wcells pend) := row_kept hp h.st (by decide) k1
  have hln : (ints (lats dur.length pend)).length = dur.length := by unfold ints; rw [List.length_map, lats_length]
  have hl0 : (ints (lats dur.length [])).length = dur.length := by unfold ints; rw [List.length_map, lats_length]
  refine ⟨⟨?_, row_kept hdu hcur (by decide) k2, row_kept hpe hcur (by decide) k2, ?_, h.sec, hw, h.few, hm⟩, ((OnlyAt.setCell x gs 1 _).mono fun k _ hk => .inl hk).drew.trans (o2.mono fun k _ hk => .inr hk)⟩
  · rw [k2 gs hsz hne]
    exact hst
  · have h1 := stored_many (ints (lats dur.length pend)) 0 hla
    rw [laid_eq _ _ _ (by omega), List.take_zero, List.nil_append, List.drop_of_length_le (by omega), List.append_nil] at h1
    exact h1

end Go.Proofs.Ytnojkifndcffjaa
namespace Go.Proofs.Ytnojkifndcffjaa
open Go.RowKit
set_option linter.unusedSimpArgs false

theorem wp_eql_agg {P : Program} {o : Oper} {a : Act} {w : World} {K : Act → World → Prop} {Q : Exit → Act → World → Prop} (t t2 : TypeId) (x y : Operand) (ho : o.op = .binOp .eql t x y t2) (A B : Array Value)
    (hx : a.eval x = .agg A) (hy : a.eval y = .agg B) (hm : P.eqGuardType P.depth t = false) (v : Value) (hrun : (binOp .eql t (.agg A) (.agg B)).run P w = .ok v w)
    (h : K (a.put o.dst v) w) : o.wp P a w K Q := by
  unfold Oper.wp execOp
  simp only [ho, hx, hy, Sem.run_bind, run_eqGuard_agg w .eql t x y A B hm, Result.andThen_ok, hrun]
  exact h
theorem wp_build_to {P : Program} {o : Oper} {a : Act} {w : World} {K : Act → World → Prop} {Q : Exit → Act → World → Prop} (t : TypeId) (parts : Array (Nat × Operand)) (ho : o.op = .build t parts) (cells : Array Value)
    (hb : P.built t (parts.map fun (i, x) => (i, a.eval x)).toList = some cells) (h : K (a.put o.dst (.agg cells)) w) : o.wp P a w K Q :=
  wp_build t parts ho (by rw [hb]; rfl) (by rw [hb]; exact h)
theorem built_sec : Try.prog.built 70 [] = some (byt noughts).toArray := by kernel_rfl
theorem sec_info : (Try.prog.info? 70).map (·.size) = some 512 := by kernel_rfl
theorem sec_guard : Try.prog.eqGuardType Try.prog.depth 70 = false := by kernel_rfl

set_option maxRecDepth 100000 in
set_option maxHeartbeats 2000000 in
theorem blank_any {w : World} {gs : Nat} {b : DB} {dur : List (List Nat)} {pend : List (Nat × List Nat)} {wr bud : Int} (h : Disk w gs b dur pend wr bud) (i : Nat) (hi : i < dur.length) (s : List Nat) (hs : (applied pend dur)[i]? = some s) :
    Calls Try.prog 25 #[.pointer (some ⟨gs, 0, none⟩), .int .i64 (i : Int)] w fun e w' => e = .returned (.bool (decide (s = noughts))) ∧ w = w' := by
  have hsec : IsSec s := applied_sec h.sec (fun p hp => (h.wri p hp).2) s (List.mem_of_getElem? hs)
  have HC := hide (current_any h i hi s hs)
  have HH := hide (has_yes h i hi)
  obtain ⟨Z, hZ⟩ : ∃ Z, Z = byt noughts := ⟨_, rfl⟩
  obtain ⟨S, hS⟩ : ∃ S, S = byt s := ⟨_, rfl⟩
  have hinfo : Hid ((Try.prog.info? 70).map (·.size) = some S.length) := by
    have h1 := sec_info
    rw [hS, byt_length, hsec.1]
    exact h1
  have hb : Hid (Try.prog.built 70 [] = some Z.toArray) := by rw [hZ]; exact built_sec
  have he : Hid (∀ w : World, (binOp .eql 70 (.agg S.toArray) (.agg Z.toArray)).run Try.prog w = .ok (.bool (decide (s = noughts))) w) := fun w => by
    rw [hS, hZ]
    exact run_eql_sec w s noughts hsec.1 noughts_length
  rw [← hS] at HC
  have HS := Lib.hid hS
  clear h hs hsec hZ hS
  go_enter Try.func25, Try.ntmps25
  go_wp2_with (first
    | (go_at_call 32; (with_reducible refine (unhide HH).mono ?_); rintro e w' ⟨rfl, rfl⟩)
    | (go_at_call 41; (with_reducible refine (unhide HC).mono ?_); rintro e w' ⟨g, o, rfl, rfl, hR⟩)
    | (refine wp_load_mid _ _ rfl g o rfl S _ hR Try.underlying70 rfl hinfo.out ?_)
    | (refine wp_build_to _ _ rfl Z.toArray hb.out ?_)
    | (refine wp_eql_agg _ _ _ _ rfl S.toArray Z.toArray rfl rfl sec_guard _ (he.out _) ?_))
  refine wp_load_mid _ _ rfl g o rfl S _ hR Try.underlying70 rfl hinfo.out ?_
  rename_i K1 h1 K2 h2
  refine h2 _ _ ?_
  simp only [Act.put, List.setIfInBounds_toArray, List.set_cons_zero, List.set_cons_succ]
  refine wpList_step fun K3 h3 => ?_
  rw [if_pos (by rfl)]
  refine wp_build_to _ _ rfl Z.toArray (by simpa using hb.out) ?_
  refine h3 _ _ ?_
  simp only [Act.put, List.setIfInBounds_toArray, List.set_cons_zero, List.set_cons_succ]
  refine wpList_step fun K4 h4 => ?_
  rw [if_pos (by rfl)]
  refine wp_eql_agg _ _ _ _ rfl S.toArray Z.toArray rfl rfl sec_guard _ (he.out _) ?_
  refine h4 _ _ ?_
  simp only [Act.put, List.setIfInBounds_toArray, List.set_cons_zero, List.set_cons_succ]
  go_wp2

  go_ret
  exact ⟨rfl, rfl⟩
end Go.Proofs.Ytnojkifndcffjaa
namespace Go.Proofs.Ytnojkifndcffjaa
open Go.RowKit
set_option linter.unusedSimpArgs false

/-- A text of one's own stays where only other blocks turn. -/
theorem Mine.only {w w' : World} {base m c : Nat} {A : Option Addr} {l : List Nat} {p : Nat → Prop} (h : Mine w base A m c l) (ho : OnlyAt w w' p) (hp : ∀ k, base ≤ k → k < w.heap.size → ¬ p k) : Mine w' base A m c l := by
  refine ⟨?_, h.len, h.small⟩
  obtain ⟨hl, hv⟩ := id h.own
  refine ⟨hl, ?_⟩
  rcases hv with hv | ⟨g, cap, cur, h0, h1, h2, h3⟩
  · exact .inl hv
  · refine .inr ⟨g, cap, cur, h0, h1, ?_, h3⟩
    have hlt : g < w.heap.size := (Array.getElem?_eq_some_iff.1 h2).1
    rw [ho.block g hlt (hp g h1 hlt)]
    exact h2
theorem full_sec {l : List Nat} (h : ∀ b ∈ l, b < 256) : IsSec (full l) := ⟨full_length l, full_small h⟩
theorem less_free : less (-1) = -1 := rfl
theorem flags_block {w : World} {g n c : Nat} {t : TypeId} {fr : Nat × Nat} {ks : List Bool} (hb : w.heap[g]? = some (.cells (ks.map Value.bool).toArray t fr)) (hg : g < w.heap.size) (hn : n = ks.length) : Flags w (.slice (some ⟨g, 0, none⟩) n c) ks := by
  subst hn
  have h := lies_block (B := w.heap.size) hb hg
  exact ⟨_, c, rfl, h⟩
end Go.Proofs.Ytnojkifndcffjaa
