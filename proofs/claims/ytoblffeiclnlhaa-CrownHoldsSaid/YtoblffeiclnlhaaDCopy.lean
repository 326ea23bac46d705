/- Contracts: what Copy leaves: another disk, of the same sectors and pending writes. -/
import Derived.Test.YtoblffeiclnlhaaDSync
import Derived.Test.YtoblffeiclnlhaaDSmall
namespace Go.Proofs.Ytoblffeiclnlhaa
open Go.RowKit
set_option linter.unusedSimpArgs false

theorem pv_form {w : World} {base n size : Nat} {t : TypeId} {v : Value} {xs : List Value} (h : w.ownsRow base t size v n xs) : ∃ A c, v = .slice A n c := by
  rcases h.2 with ⟨h1, h0⟩ | ⟨g, cap, cur, h1, _⟩
  · exact ⟨none, 0, by rw [h1, h0]⟩
  · exact ⟨_, cap, h1⟩
theorem wcells_one (l : List (Nat × List Nat)) : ∀ v ∈ wcells l, v.oneCell' = true := fun v hv => by
  unfold wcells at hv
  obtain ⟨c, hc, hv2⟩ := List.mem_flatten.1 hv
  obtain ⟨p, _, rfl⟩ := List.mem_map.1 hc
  exact wcell_one p v hv2
theorem Disk.copied {x : World} {gs : Nat} {b : DB} {dur : List (List Nat)} {pend : List (Nat × List Nat)} {pv : Value} (h : Disk x gs b dur [] 0 (-1)) (hp : x.ownsRow 0 72 513 pv pend.length (wcells pend))
    (hw : ∀ p ∈ pend, p.1 < dur.length ∧ IsSec p.2) (hm : pend.length ≤ 1048576) :
    Disk ((x.setCell ⟨gs, 1, none⟩ pv).drew.setCells b.gl 0 (ints (lats dur.length pend))) gs ⟨b.gd, b.cd, b.gl, b.cl, pv⟩ dur pend 0 (-1) ∧
      OnlyAt x ((x.setCell ⟨gs, 1, none⟩ pv).drew.setCells b.gl 0 (ints (lats dur.length pend))) (fun k => k = gs ∨ k = b.gl) := by
  have hne := h.apart_latest
  have k1 := setCell_others x gs 1 pv
  have hla : (x.setCell ⟨gs, 1, none⟩ pv).drew.ownsRow 0 3 1 (.slice (some ⟨b.gl, 0, none⟩) dur.length b.cl) dur.length (ints (lats dur.length [])) := row_kept h.la h.st (by decide) k1
  obtain ⟨cur, hcur⟩ := row_of hla
  have o2 := keptBut_only (x.setCell ⟨gs, 1, none⟩ pv).drew b.gl 0 (ints (lats dur.length pend))
  have k2 := o2.block
  have hsz : gs < (x.setCell ⟨gs, 1, none⟩ pv).drew.heap.size := by simpa [World.setCell, World.drew] using h.lt
  have hst : (x.setCell ⟨gs, 1, none⟩ pv).drew.heap[gs]? = some (.cells (stcells ⟨b.gd, b.cd, b.gl, b.cl, pv⟩ dur.length 0 (-1)) 75 (0, 0)) := by
    show (x.setCell ⟨gs, 1, none⟩ pv).heap[gs]? = _
    rw [heap_setCell_same x gs 1 _ _ _ h.st]
    rfl
  have hdu : (x.setCell ⟨gs, 1, none⟩ pv).drew.ownsRow 0 70 512 (.slice (some ⟨b.gd, 0, none⟩) dur.length b.cd) dur.length (scells dur) := row_kept h.du h.st (by decide) k1
  have hpe : (x.setCell ⟨gs, 1, none⟩ pv).drew.ownsRow 0 72 513 pv pend.length (wcells pend) := row_kept hp h.st (by decide) k1
  have hln : (ints (lats dur.length pend)).length = dur.length := by unfold ints; rw [List.length_map, lats_length]
  have hl0 : (ints (lats dur.length [])).length = dur.length := by unfold ints; rw [List.length_map, lats_length]
  refine ⟨⟨?_, row_kept hdu hcur (by decide) k2, row_kept hpe hcur (by decide) k2, ?_, h.sec, hw, h.few, hm⟩, ((OnlyAt.setCell x gs 1 _).mono fun k _ hk => .inl hk).drew.trans (o2.mono fun k _ hk => .inr hk)⟩
  · rw [k2 gs hsz hne]
    exact hst
  · have h1 := stored_many (ints (lats dur.length pend)) 0 hla
    rw [laid_eq _ _ _ (by omega), List.take_zero, List.nil_append, List.drop_of_length_le (by omega), List.append_nil] at h1
    exact h1

end Go.Proofs.Ytoblffeiclnlhaa
