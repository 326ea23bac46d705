/- Contracts: what Sync leaves: each pending write done, none pending. -/
import Derived.Test.YtmhhcblgeellnaaCrash
import Derived.Test.YtmhhcblgeellnaaSeen
import Derived.Lib.SliceRun
namespace Go.Proofs.Ytmhhcblgeellnaa
open Go.RowKit
set_option linter.unusedSimpArgs false

theorem Disk.apart_latest {w : World} {gs : Nat} {b : DB} {dur : List (List Nat)} {pend : List (Nat × List Nat)} {wr bud : Int} (h : Disk w gs b dur pend wr bud) : gs ≠ b.gl := by
  obtain ⟨cur, hcur⟩ := row_of h.la
  intro e
  have h1 := h.st
  rw [e, hcur] at h1
  injection h1 with h1
  injection h1 with _ h3
  exact absurd h3 (by decide)
theorem ints_noughts (n : Nat) : ints (lats n []) = List.replicate n (Value.int .i64 0) := by
  show (List.replicate n 0).map _ = _
  rw [List.map_replicate]
  rfl
/-- No pending write, no note: what Sync's end leaves. -/
theorem Disk.synced {w : World} {gs : Nat} {b : DB} {dur : List (List Nat)} {pend : List (Nat × List Nat)} {wr bud : Int} (h : Disk w gs b dur pend wr bud) :
    Disk ((w.setCell ⟨gs, 1, none⟩ (.slice none 0 0)).setCells b.gl 0 (List.replicate dur.length (.int .i64 0))) gs ⟨b.gd, b.cd, b.gl, b.cl, .slice none 0 0⟩ dur [] wr bud ∧
      OnlyAt w ((w.setCell ⟨gs, 1, none⟩ (.slice none 0 0)).setCells b.gl 0 (List.replicate dur.length (.int .i64 0))) (fun k => k = gs ∨ k = b.gl) := by
  have hne := h.apart_latest
  have k1 := setCell_others w gs 1 (.slice none 0 0)
  have hla := row_kept h.la h.st (by decide) k1
  obtain ⟨cur, hcur⟩ := row_of hla
  have o2 := keptBut_only (w.setCell ⟨gs, 1, none⟩ (.slice none 0 0)) b.gl 0 (List.replicate dur.length (.int .i64 0))
  have k2 := o2.block
  have hsz : gs < (w.setCell ⟨gs, 1, none⟩ (.slice none 0 0)).heap.size := by simpa [World.setCell] using h.lt
  have hst : (w.setCell ⟨gs, 1, none⟩ (.slice none 0 0)).heap[gs]? = some (.cells (stcells ⟨b.gd, b.cd, b.gl, b.cl, .slice none 0 0⟩ dur.length wr bud) 69 (0, 0)) := by
    rw [heap_setCell_same w gs 1 _ _ _ h.st]
    rfl
  refine ⟨⟨?_, ?_, World.ownsRow_nil _ _ _ _, ?_, h.sec, by simp, h.few, by simp⟩, ((OnlyAt.setCell w gs 1 _).mono fun k _ hk => .inl hk).trans (o2.mono fun k _ hk => .inr hk)⟩
  · rw [k2 gs hsz hne]
    exact hst
  · exact row_kept (row_kept h.du h.st (by decide) k1) hcur (by decide) k2
  · have h1 := stored_many (List.replicate dur.length (Value.int .i64 0)) 0 hla
    have hl : (ints (lats dur.length pend)).length = dur.length := by unfold ints; rw [List.length_map, lats_length]
    rw [laid_eq _ _ _ (by rw [hl, List.length_replicate]; omega), List.length_replicate, List.take_zero, List.nil_append, List.drop_of_length_le (by omega), List.append_nil] at h1
    rw [ints_noughts]
    exact h1

theorem applied_next {pend : List (Nat × List Nat)} {dur : List (List Nat)} {k : Nat} {p : Nat × List Nat} (hp : pend[k]? = some p) : applied (pend.take (k + 1)) dur = (applied (pend.take k) dur).set p.1 p.2 := by
  rw [List.take_add_one, hp]
  exact applied_snoc _ _ _
/-- At the head of each round of Sync: the first k pending writes are done. -/
def SyncR (w : World) (gs : Nat) (b : DB) (pend : List (Nat × List Nat)) (dur : List (List Nat)) (wr bud : Int) (t : Value) (x : World) : Prop :=
  ∃ k : Nat, k ≤ pend.length ∧ t = .int .i64 (k : Int) ∧ Disk x gs b (applied (pend.take k) dur) pend wr bud ∧ OnlyAt w x (fun k => k = gs ∨ k = b.gd)
theorem pv_apart {w : World} {gs gp cp : Nat} {b : DB} {dur : List (List Nat)} {pend : List (Nat × List Nat)} {wr bud : Int} (h : Disk w gs b dur pend wr bud) (hpv : b.pv = .slice (some ⟨gp, 0, none⟩) pend.length cp) : gp ≠ b.gd := by
  have h1 := own_apart h.pe h.du (by decide)
  rw [hpv] at h1
  rcases h1 with h1 | h1
  · cases h1
  · intro e
    exact h1 (by rw [e]; rfl)

set_option maxRecDepth 100000 in
set_option maxHeartbeats 2000000 in
theorem sync_good {w : World} {gs : Nat} {b : DB} {dur : List (List Nat)} {pend : List (Nat × List Nat)} {nw bud : Int} (h : Disk w gs b dur pend nw bud) (hb : bud ≠ 0) (hb2 : -9223372036854775808 ≤ bud ∧ bud ≤ 9223372036854775807) :
    Calls Try.prog 19 #[.pointer (some ⟨gs, 0, none⟩)] w fun e w' => e = .returned (.int .i64 0) ∧ Disk w' gs ⟨b.gd, b.cd, b.gl, b.cl, .slice none 0 0⟩ (applied pend dur) [] nw (less bud) ∧
      OnlyAt w w' (fun k => k = gs ∨ k = b.gd ∨ k = b.gl) := by
  have HS := hide (spend_yes h hb hb2)
  obtain ⟨P, cp, hpv⟩ : ∃ P cp, b.pv = .slice P pend.length cp := by
    rcases h.pe.2 with ⟨h1, h0⟩ | ⟨g, cap, cur, h1, _⟩
    · exact ⟨none, 0, by rw [h1, h0]⟩
    · exact ⟨some ⟨g, 0, none⟩, cap, h1⟩
  have HPV := Lib.hid hpv
  have hlen := h.few
  have hmany := h.many
  have HW := Lib.hid h.wri
  clear h hb hb2 hpv
  go_enter Try.func19, Try.ntmps19
  go_wp2_with (go_at_call 37; (with_reducible refine (unhide HS).mono ?_); rintro e w1 ⟨rfl, hD1, hO1⟩; have c1 : w1.cell? ⟨gs, 1, none⟩ = some (.slice P pend.length cp) := (by rw [hD1.c1, HPV.out]))
  have HD1 := Lib.hid hD1
  have HO1 := Lib.hid hO1
  clear hD1 hO1 HS
  go_loopw [14] (fun t x => SyncR w1 gs b pend dur nw (less bud) t x) (fun t _ => pend.length - (intOf t).toNat)
  case atStart => exact ⟨0, Nat.zero_le _, rfl, HD1.out, OnlyAt.refl _ _⟩
  case round =>
    obtain ⟨k, hk, rfl, hD, hO⟩ := hrel
    by_cases hlt : k < pend.length
    · obtain ⟨p, hp⟩ : ∃ p, pend[k]? = some p := ⟨_, List.getElem?_eq_getElem hlt⟩
      have hnext := applied_next (dur := dur) hp
      have HN := Lib.hid hnext
      have HK := Lib.hid hp
      obtain ⟨gp, hP⟩ : ∃ gp, P = some ⟨gp, 0, none⟩ := by
        rcases hD.pe.2 with ⟨_, h0⟩ | ⟨g, cap, cur, h1, _⟩
        · omega
        · rw [HPV.out] at h1
          injection h1 with h1
          exact ⟨g, h1⟩
      subst hP
      have hwri := HW.out p (List.mem_of_getElem? hp)
      clear hp hnext
      have hkl := applied_length (pend.take k) dur
      have d0 : wr.cell? ⟨gs, 0, none⟩ = some (.slice (some ⟨b.gd, 0, none⟩) dur.length b.cd) := by rw [hD.c0, hkl]
      have d1 : wr.cell? ⟨gs, 1, none⟩ = some (.slice (some ⟨gp, 0, none⟩) pend.length cp) := by rw [hD.c1, HPV.out]
      have hrg : wr.rangeAt gp (k * 513) (wcell p) := hD.write_at HK.out HPV.out
      have d2 : wr.cell? ⟨gp, k * 513, none⟩ = some (.int .i64 (p.1 : Int)) := hrg 0 _ rfl
      have d3 : wr.rangeAt gp (k * 513 + 1) (byt p.2) := fun j v hj => by
        rw [Nat.add_assoc, Nat.add_comm 1 j]
        exact hrg (j + 1) v hj
      have hbl : (byt p.2).length = 512 := by rw [byt_length, hwri.2.1]
      have d4 : wr.there b.gd (p.1 * 512) (byt p.2).length := hD.sector (by rw [hkl]; exact hwri.1) hbl
      have hone := one_byt p.2
      have hinfo : (Try.prog.info? 72).map (·.size) = some (byt p.2).length := by rw [hbl]; kernel_rfl
      have hund := Try.underlying72
      have i0 : (0 : Int) ≤ (k : Int) := by omega
      have i1 : (k : Int) < (pend.length : Int) := by omega
      have i2 : (0 : Int) ≤ (p.1 : Int) := by omega
      have i3 : (p.1 : Int) < (dur.length : Int) := by have := hwri.1; omega
      have n1 : gs ≠ b.gd := hD.apart
      have n3 : gp ≠ b.gd := pv_apart hD HPV.out
      obtain ⟨s, hs⟩ : ∃ s, s = byt p.2 := ⟨_, rfl⟩
      rw [← hs] at d3 d4 hone hinfo hbl
      clear hrg
      go_wp2
      go_region_held3 (fun w' => w'.cell? ⟨gs, 0, none⟩ = some (.slice (some ⟨b.gd, 0, none⟩) dur.length b.cd) ∧ w'.cell? ⟨gs, 1, none⟩ = some (.slice (some ⟨gp, 0, none⟩) pend.length cp) ∧ w'.cell? ⟨gp, k * 513, none⟩ = some (.int .i64 (p.1 : Int)) ∧ w'.rangeAt gp (k * 513 + 1) s ∧ w'.there b.gd (p.1 * 512) s.length) (first | (exact crash_keep (by assumption) n1 n1 n3) | (go_keep_ranges)) (fail)
      go_wp2
      go_roundw
      case rel => exact ⟨k + 1, by omega, by go_num, by rw [HN.out]; exact hD.drew.put (by rw [hkl]; exact hwri.1) hwri.2, hO.drew.trans ((keptBut_only _ _ _ _).mono fun j _ hj => .inr hj)⟩
      case measure => simp [intOf]; omega
    · obtain rfl : k = pend.length := by omega
      rw [List.take_length] at hD
      have c1b := hD.c1
      have f1 := hD.fz 1
      have hkl := applied_length pend dur
      have c2 : wr.cell? ⟨gs, 2, none⟩ = some (.slice (some ⟨b.gl, 0, none⟩) dur.length b.cl) := by rw [hD.c2, hkl]
      obtain ⟨hE, hO2⟩ := hD.synced
      rw [hkl] at hE hO2
      have hla := row_kept hD.la hD.st (by decide) (setCell_others wr gs 1 (.slice none 0 0))
      have hcl : ∀ ty, (Builtin.clear_ #[49] ty #[.slice (some ⟨b.gl, 0, none⟩) dur.length b.cl]).run Try.prog (wr.setCell ⟨gs, 1, none⟩ (.slice none 0 0)) = .ok (.tuple #[]) ((wr.setCell ⟨gs, 1, none⟩ (.slice none 0 0)).setCells b.gl 0 (List.replicate dur.length (.int .i64 0))) := fun ty =>
        Lib.run_clear_slice _ 49 3 ty (.int .i64 0) Try.underlying49 (fun w => by go_simp) rfl rfl b.gl 0 dur.length b.cl (by omega) (fun j hj => by
          rw [Nat.zero_add, hla.cellAt j (by rw [hkl]; omega), List.getElem?_eq_getElem (by unfold ints; rw [List.length_map, lats_length, hkl]; exact hj)]
          rfl) (fun j _ => by rw [Nat.zero_add]; exact hla.frozenAt j)
      have HE := Lib.hid hE
      have HO2 := Lib.hid hO2
      have HO3 := Lib.hid hO
      clear hE hO2 hO hla hD
      go_wp2
      go_ret
      refine ⟨rfl, HE.out, ((HO1.out.mono fun k _ hk => .inl hk).trans (HO3.out.mono fun k _ hk => ?_)).trans (HO2.out.mono fun k _ hk => ?_)⟩
      · rcases hk with h | h
        · exact .inl h
        · exact .inr (.inl h)
      · rcases hk with h | h
        · exact .inl h
        · exact .inr (.inr h)
end Go.Proofs.Ytmhhcblgeellnaa
