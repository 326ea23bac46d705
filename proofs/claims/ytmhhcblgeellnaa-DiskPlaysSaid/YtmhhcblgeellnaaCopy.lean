/- Contracts: what Copy leaves: another disk, of the same sectors and pending writes. -/
import Derived.Test.YtmhhcblgeellnaaSync
import Derived.Test.YtmhhcblgeellnaaSmall
namespace Go.Proofs.Ytmhhcblgeellnaa
open Go.RowKit
set_option linter.unusedSimpArgs false

set_option maxRecDepth 100000 in
set_option maxHeartbeats 1000000 in
theorem clone_wri {w : World} {gd n cd : Nat} {xs : List Value} (h : w.ownsRow 0 75 513 (.slice (some ⟨gd, 0, none⟩) n cd) n xs) (h1 : ∀ u ∈ xs, u.oneCell' = true) (hn : 1 ≤ n) (hn2 : n ≤ 1048576) :
    Calls Try.prog 33 #[.slice (some ⟨gd, 0, none⟩) n cd] w fun e w' => ∃ g c, e = .returned (.slice (some ⟨g, 0, none⟩) n c) ∧ w'.ownsRow w.heap.size 75 513 (.slice (some ⟨g, 0, none⟩) n c) n xs ∧ Below w.heap.size w w' := by
  obtain ⟨i0, hi0, hz0, hz1, hz2⟩ := info_parts infoWri
  have HI := Lib.hid hi0
  have H0 := Lib.hid hz0
  have H1 := Lib.hid hz1
  have H2 := Lib.hid hz2
  have hlen := h.1
  have HL := Lib.hid hlen
  have hbel : Below w.heap.size w (w.alloc (.cells #[] 75)) := (Below.refl _ _).alloc (Nat.le_refl _) _
  have hnews : ∀ j u, xs[j]? = some u → (w.alloc (.cells #[] 75)).cell? ((⟨gd, 0, none⟩ : Addr).add j) = some u := fun j u hj => by
    have hlt := (World.ownsRow.lt h gd rfl).2
    exact (hbel.cell (p := (⟨gd, 0, none⟩ : Addr).add j) (by rw [addr_add_block]; exact hlt)).trans (h.cells (g := gd) rfl j u hj)
  have HN := Lib.hid hnews
  have HO := Lib.hid h1
  have hown : (w.alloc (.cells #[] 75)).ownsRow w.heap.size 75 513 (.slice (some ⟨w.heap.size, 0, none⟩) 0 0) 0 [] :=
    ⟨rfl, .inr ⟨w.heap.size, 0, #[], rfl, Nat.le_refl _, Go.heap_alloc_new w _, Nat.le_refl _, by simp, rfl, rfl⟩⟩
  have HW := Lib.hid hown
  have Hbel := Lib.hid hbel
  have hnil : ∀ W : World, (binOp .eql 67 (.slice (some ⟨gd, 0, none⟩) n cd) (.slice none 0 0)).run Try.prog W = .ok (.bool false) W := fun W => by
    rw [Lib.run_eql_slice_nil W 67 75 _ n cd 0 0 Try.underlying67]
    rfl
  clear hi0 hz0 hz1 hz2 hlen hnews h1 hown hbel h
  go_enter Try.func33, Try.ntmps33
  go_wp2_with (at_builtin; refine wpList_append_own _ rfl _ _ 67 rfl w.heap.size 75 i0 (.agg (.int .i64 0 :: byt noughts).toArray) 513 520 Try.underlying67 HI.out H0.out H1.out H2.out ?a1 (by decide) _ 0 [] rfl HW.out ⟨gd, 0, none⟩ n cd xs rfl HL.out HN.out HO.out ?a2 ?a3 ?a4 ?_)
  case a1 => rw [show Value.cells (.agg (Value.int .i64 0 :: byt noughts).toArray) = (Value.int .i64 0 :: byt noughts).toArray from rfl, List.size_toArray, List.length_cons, byt_length, noughts_length]
  case a2 => unfold maxLen; omega
  case a3 => omega
  case a4 => exact Hbel.out.size
  intro v' w2 hown2 hg2 _
  have hb2 := Hbel.out.grown hg2 Hbel.out.size (fun g hg => by
    have e : w.heap.size = g := by simpa [Value.ownBlock] using hg
    omega)
  have H3 := Lib.hid hown2
  have H4 := Lib.hid hb2
  clear hown2 hg2 hb2 hnil
  go_wp2
  go_ret
  rcases H3.out.2 with ⟨_, h0⟩ | ⟨g, cap, cur, rfl, _⟩
  · omega
  · have h5 := H3.out
    exact ⟨g, cap, by simp, h5, H4.out⟩
theorem clone_wri_nil (w : World) : Calls Try.prog 33 #[.slice none 0 0] w fun e w' => e = .returned (.slice none 0 0) ∧ w = w' := by
  have hnil : ∀ W : World, (binOp .eql 67 (.slice none 0 0) (.slice none 0 0)).run Try.prog W = .ok (.bool true) W := fun W => by
    rw [Lib.run_eql_slice_nil W 67 75 none 0 0 0 0 Try.underlying67]
    rfl
  go_enter Try.func33, Try.ntmps33
  go_wp2
  go_ret
  exact ⟨rfl, rfl⟩
theorem pv_form {w : World} {base n size : Nat} {t : TypeId} {v : Value} {xs : List Value} (h : w.ownsRow base t size v n xs) : ∃ A c, v = .slice A n c := by
  rcases h.2 with ⟨h1, h0⟩ | ⟨g, cap, cur, h1, _⟩
  · exact ⟨none, 0, by rw [h1, h0]⟩
  · exact ⟨_, cap, h1⟩
theorem wcells_one (l : List (Nat × List Nat)) : ∀ v ∈ wcells l, v.oneCell' = true := fun v hv => by
  unfold wcells at hv
  obtain ⟨c, hc, hv2⟩ := List.mem_flatten.1 hv
  obtain ⟨p, _, rfl⟩ := List.mem_map.1 hc
  exact wcell_one p v hv2
/-- Of the pending writes of a disk: another row of them, or none. -/
theorem clone_pend {w : World} {pv : Value} {pend : List (Nat × List Nat)} (h : w.ownsRow 0 75 513 pv pend.length (wcells pend)) (hp : pend = [] → pv = .slice none 0 0) (hm : pend.length ≤ 1048576) :
    Calls Try.prog 33 #[pv] w fun e w' => ∃ v, e = .returned v ∧ w'.ownsRow w.heap.size 75 513 v pend.length (wcells pend) ∧ (pend = [] → v = .slice none 0 0) ∧ Below w.heap.size w w' := by
  by_cases h0 : pend = []
  · subst h0
    rw [hp rfl]
    refine (clone_wri_nil w).mono ?_
    rintro e w' ⟨rfl, rfl⟩
    exact ⟨_, rfl, World.ownsRow_nil _ _ _ _, fun _ => rfl, Below.refl _ _⟩
  · have hl : 1 ≤ pend.length := by
      rcases pend with _ | ⟨x, r⟩
      · exact absurd rfl h0
      · simp
    obtain ⟨g, c, hv⟩ : ∃ g c, pv = .slice (some ⟨g, 0, none⟩) pend.length c := by
      rcases h.2 with ⟨_, h2⟩ | ⟨g, cap, cur, h1, _⟩
      · omega
      · exact ⟨g, cap, h1⟩
    subst hv
    refine (clone_wri h (wcells_one _) hl hm).mono ?_
    rintro e w' ⟨g2, c2, rfl, h1, h2⟩
    exact ⟨_, rfl, h1, fun h3 => absurd h3 h0, h2⟩
theorem Disk.copied {x : World} {gs : Nat} {b : DB} {dur : List (List Nat)} {pend : List (Nat × List Nat)} {pv : Value} (h : Disk x gs b dur [] 0 (-1)) (hp : x.ownsRow 0 75 513 pv pend.length (wcells pend))
    (hw : ∀ p ∈ pend, p.1 < dur.length ∧ IsSec p.2) (hm : pend.length ≤ 1048576) :
    Disk ((x.setCell ⟨gs, 1, none⟩ pv).drew.setCells b.gl 0 (ints (lats dur.length pend))) gs ⟨b.gd, b.cd, b.gl, b.cl, pv⟩ dur pend 0 (-1) ∧
      OnlyAt x ((x.setCell ⟨gs, 1, none⟩ pv).drew.setCells b.gl 0 (ints (lats dur.length pend))) (fun k => k = gs ∨ k = b.gl) := by
  have hne := h.apart_latest
  have k1 := setCell_others x gs 1 pv
  have hla : (x.setCell ⟨gs, 1, none⟩ pv).drew.ownsRow 0 3 1 (.slice (some ⟨b.gl, 0, none⟩) dur.length b.cl) dur.length (ints (lats dur.length [])) := row_kept h.la h.st (by decide) k1
  obtain ⟨cur, hcur⟩ := row_of hla
  have o2 := keptBut_only (x.setCell ⟨gs, 1, none⟩ pv).drew b.gl 0 (ints (lats dur.length pend))
  have k2 := o2.block
  have hsz : gs < (x.setCell ⟨gs, 1, none⟩ pv).drew.heap.size := by simpa [World.setCell, World.drew] using h.lt
  have hst : (x.setCell ⟨gs, 1, none⟩ pv).drew.heap[gs]? = some (.cells (stcells ⟨b.gd, b.cd, b.gl, b.cl, pv⟩ dur.length 0 (-1)) 69 (0, 0)) := by
    show (x.setCell ⟨gs, 1, none⟩ pv).heap[gs]? = _
    rw [heap_setCell_same x gs 1 _ _ _ h.st]
    rfl
  have hdu : (x.setCell ⟨gs, 1, none⟩ pv).drew.ownsRow 0 72 512 (.slice (some ⟨b.gd, 0, none⟩) dur.length b.cd) dur.length (scells dur) := row_kept h.du h.st (by decide) k1
  have hpe : (x.setCell ⟨gs, 1, none⟩ pv).drew.ownsRow 0 75 513 pv pend.length (wcells pend) := row_kept hp h.st (by decide) k1
  have hln : (ints (lats dur.length pend)).length = dur.length := by unfold ints; rw [List.length_map, lats_length]
  have hl0 : (ints (lats dur.length [])).length = dur.length := by unfold ints; rw [List.length_map, lats_length]
  refine ⟨⟨?_, row_kept hdu hcur (by decide) k2, row_kept hpe hcur (by decide) k2, ?_, h.sec, hw, h.few, hm⟩, ((OnlyAt.setCell x gs 1 _).mono fun k _ hk => .inl hk).drew.trans (o2.mono fun k _ hk => .inr hk)⟩
  · rw [k2 gs hsz hne]
    exact hst
  · have h1 := stored_many (ints (lats dur.length pend)) 0 hla
    rw [laid_eq _ _ _ (by omega), List.take_zero, List.nil_append, List.drop_of_length_le (by omega), List.append_nil] at h1
    exact h1

set_option maxRecDepth 100000 in
set_option maxHeartbeats 2000000 in
theorem copy_any {w : World} {gs : Nat} {b : DB} {dur : List (List Nat)} {pend : List (Nat × List Nat)} {nw bud : Int} (h : Disk w gs b dur pend nw bud) (hp : pend = [] → b.pv = .slice none 0 0) :
    Calls Try.prog 16 #[.pointer (some ⟨gs, 0, none⟩)] w fun e w' => ∃ gs2 b2, e = .returned (.pointer (some ⟨gs2, 0, none⟩)) ∧ Disk w' gs2 b2 dur pend 0 (-1) ∧
      w.heap.size ≤ gs2 ∧ w.heap.size ≤ b2.gd ∧ w.heap.size ≤ b2.gl ∧ (pend = [] → b2.pv = .slice none 0 0) ∧ (∀ g, b2.pv.ownBlock = some g → w.heap.size ≤ g) ∧ Below w.heap.size w w' := by
  have HD := Lib.hid h
  have c0 := h.c0
  have c1 := h.c1
  have c2 := h.c2
  have hgs := h.lt
  have hgl := (World.ownsRow.lt h.la b.gl rfl).2
  have HC := hide (clone_sec h.du (one_byt _) h.few.1 h.few.2)
  have HP := Lib.hid hp
  have hln : (ints (lats dur.length pend)).length = dur.length := by unfold ints; rw [List.length_map, lats_length]
  have HLN := Lib.hid hln
  clear h hp hln
  go_enter Try.func16, Try.ntmps16
  go_wp2_with (first
    | (go_at_call 32; (with_reducible refine (unhide HC).mono ?_); rintro e w1 ⟨g1, cc1, rfl, hd1, hb1⟩; have HS := hide (start_any w1 g1 cc1 dur.length dur rfl (own_lower hd1 (Nat.zero_le _)) HD.out.sec HD.out.few))
    | (go_at_call 28; (with_reducible refine (unhide HS).mono ?_); rintro e w2 ⟨gs2, b2, rfl, hD2, hgs2, hgd2, hcd2, hgl2, hpv2, hb2⟩;
       have hbw := hb1.trans (hb2.mono hb1.size);
       have c3 := (hbw.cell (p := ⟨gs, 1, none⟩) hgs).trans c1;
       have HW := hide (clone_pend (ownsRow_below HD.out.pe hbw) HP.out HD.out.many))
    | (go_at_call 33; (with_reducible refine (unhide HW).mono ?_); rintro e w3 ⟨pv3, rfl, hpe3, hnil3, hb3⟩; obtain ⟨A3, c4, rfl⟩ := pv_form hpe3;
       have hD3 := hD2.below hb3;
       have f31 := hD3.fz 1;
       have c31 := hD3.c1))
  have hn1 : gs ≠ gs2 := by have := hb1.size; omega
  have hn2 : b.gl ≠ gs2 := by have := hb1.size; omega
  have k1 := setCell_others w3 gs2 1 (.slice A3 pend.length c4)
  have hbw3 := hbw.trans (hb3.mono hbw.size)
  have e3 : (w3.setCell ⟨gs2, 1, none⟩ (.slice A3 pend.length c4)).cell? ⟨gs2, 2, none⟩ = some (.slice (some ⟨b2.gl, 0, none⟩) dur.length b2.cl) := by
    rw [World.cell?_setCell_other _ _ _ _ (by simp)]
    exact hD3.c2
  have e4 : (w3.setCell ⟨gs2, 1, none⟩ (.slice A3 pend.length c4)).cell? ⟨gs, 2, none⟩ = some (.slice (some ⟨b.gl, 0, none⟩) dur.length b.cl) := by
    rw [World.cell?_setCell_other _ _ _ _ (by simp [Ne.symm hn1])]
    exact (hbw3.cell (p := ⟨gs, 2, none⟩) hgs).trans c2
  have hsrc : (w3.setCell ⟨gs2, 1, none⟩ (.slice A3 pend.length c4)).drew.ownsRow 0 3 1 (.slice (some ⟨b.gl, 0, none⟩) dur.length b.cl) dur.length (ints (lats dur.length pend)) := row_kept (ownsRow_below (ownsRow_below HD.out.la hbw) hb3) hD3.st (by decide) k1
  have hdst : (w3.setCell ⟨gs2, 1, none⟩ (.slice A3 pend.length c4)).drew.ownsRow 0 3 1 (.slice (some ⟨b2.gl, 0, none⟩) dur.length b2.cl) dur.length (ints (lats dur.length [])) := row_kept hD3.la hD3.st (by decide) k1
  have hone : ∀ v ∈ ints (lats dur.length pend), v.oneCell' = true := fun v hv => by
    obtain ⟨j, _, rfl⟩ := List.mem_map.1 hv
    rfl
  have hl0 : (ints (lats dur.length [])).length = dur.length := by unfold ints; rw [List.length_map, lats_length]
  have hcp : ∀ ty, (Builtin.copy_ #[49, 49] ty #[.slice (some ⟨b2.gl, 0, none⟩) dur.length b2.cl, .slice (some ⟨b.gl, 0, none⟩) dur.length b.cl]).run Try.prog (w3.setCell ⟨gs2, 1, none⟩ (.slice A3 pend.length c4)).drew =
      .ok (goInt (ints (lats dur.length pend)).length) ((w3.setCell ⟨gs2, 1, none⟩ (.slice A3 pend.length c4)).drew.setCells b2.gl 0 (ints (lats dur.length pend))) := fun ty =>
    run_copy_cells _ 49 49 ty 3 b2.gl 0 dur.length b2.cl ⟨b.gl, 0, none⟩ dur.length b.cl _ Try.underlying49 (by kernel_rfl) (by rw [HLN.out]; exact (Nat.min_self _).symm) (hsrc.cells rfl)
      (fun j hj => by
        rw [HLN.out] at hj
        rw [Nat.zero_add, hdst.cellAt j (by omega), List.getElem?_eq_getElem (by omega)]
        rfl) (fun j _ => by rw [Nat.zero_add]; exact hdst.frozenAt j) hone
  obtain ⟨hE, hO⟩ := hD3.copied (own_lower hpe3 (Nat.zero_le _)) HD.out.wri HD.out.many
  have HE := Lib.hid hE
  have HO := Lib.hid hO
  have HPE := Lib.hid hpe3
  clear hE hO hsrc hdst hone hl0 hpe3 k1
  go_region
  all_goals go_wp2
  all_goals
    go_ret
    have hs1 := hb1.size
    have hs2 := hbw.size
    refine ⟨gs2, _, rfl, HE.out, by omega, ?_, by show _ ≤ b2.gl; omega, hnil3, fun g hg => Nat.le_trans hs2 (World.ownsRow.lt HPE.out g hg).1, hbw3.trans (HO.out.below (fun k hk => ?_) hbw3.size)⟩
    · show _ ≤ b2.gd
      rw [hgd2]
      exact (World.ownsRow.lt hd1 g1 rfl).1
    · rcases hk with hk | hk <;> omega
end Go.Proofs.Ytmhhcblgeellnaa
