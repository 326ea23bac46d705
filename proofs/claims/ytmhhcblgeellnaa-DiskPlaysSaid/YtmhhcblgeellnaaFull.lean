/- Contracts: what the reference's Full answers: the text as a whole sector, cut or with noughts behind, in memory of its own. -/
import Derived.Test.YtmhhcblgeellnaaLaw
namespace Go.Proofs.Ytmhhcblgeellnaa
open Go.RowKit
set_option linter.unusedSimpArgs false

def full (l : List Nat) : List Nat := (l.take 512 ++ List.replicate 512 0).take 512
theorem full_length (l : List Nat) : (full l).length = 512 := by
  unfold full
  rw [List.length_take, List.length_append, List.length_replicate]
  omega
theorem full_small {l : List Nat} (h : ∀ b ∈ l, b < 256) : ∀ b ∈ full l, b < 256 := by
  intro b hb
  rcases List.mem_append.1 (List.mem_of_mem_take hb) with h1 | h1
  · exact h b (List.mem_of_mem_take h1)
  · rw [List.eq_of_mem_replicate h1]; omega
def noughts : List Nat := List.replicate 512 0
theorem noughts_length : noughts.length = 512 := List.length_replicate
theorem noughts_small : ∀ b ∈ noughts, b < 256 := by
  intro b hb
  rw [List.eq_of_mem_replicate hb]
  omega
theorem run_make512 (w : World) : (Instr.makeSlice 30 (.int .i64 512) (.int .i64 512)).run Try.prog w = .ok (.slice (some ⟨w.heap.size, 0, none⟩) 512 512) (w.alloc (.cells (byt noughts).toArray 5)) := by
  obtain ⟨i0, hi0, hz0, hz1, hz2⟩ := info_parts infoByte
  have h := run_make (P := Try.prog) w 30 5 i0 (.int .u8 0) Try.underlying30 hi0 hz0 .i64 .i64 512 512 (by omega) (by omega) (by rw [hz2]; decide) (by omega)
  rw [hz1] at h
  have e : madeCells (Value.cells (.int .u8 0)) ((512 : Int).toNat * 1) = (byt noughts).toArray := by
    have e2 := toList_madeCells_one (.int .u8 0) 512
    have e3 : (byt noughts).toArray = (madeCells #[Value.int .u8 0] 512).toList.toArray := by
      rw [e2]
      unfold byt noughts
      rw [List.map_replicate]
      rfl
    rw [e3, Array.toArray_toList]
    rfl
  rw [e] at h
  exact h

theorem new_at (w : World) (o : Obj) (g : Nat) (hg : g = w.heap.size) : (w.alloc o).heap[g]? = some o := by
  rw [hg]
  exact Go.heap_alloc_new w o
theorem cut_noughts_small {l : List Nat} (h : ∀ b ∈ l.take 512, b < 256) : ∀ b ∈ l.take 512 ++ noughts, b < 256 := fun b hb => by
  rcases List.mem_append.1 hb with h1 | h1
  · exact h b h1
  · exact noughts_small b h1

set_option maxRecDepth 100000 in
set_option maxHeartbeats 4000000 in
theorem full_any (w : World) (v : Value) (l : List Nat) (hp : Bytes w w.heap.size v l) :
    Calls Try.prog 17 #[v] w fun e w' => ∃ A n c, e = .returned (.slice A n c) ∧ Mine w' w.heap.size A n c (full l) ∧ Below w.heap.size w w' := by
  have hmk := run_make512
  have HP : Hid (Bytes w.drew w.drew.heap.size v l) := hp.of_cells fun _ _ => rfl
  have HZ : Hid (Bytes (w.alloc (.cells (byt noughts).toArray 5)).drew (w.heap.size + 1) (.slice (some ⟨w.heap.size, 0, none⟩) 512 512) noughts) :=
    (bytes_block (Go.heap_alloc_new w _) (by omega) noughts_length.symm (by omega) noughts_small (by rw [noughts_length]; unfold maxLen; omega) : Bytes (w.alloc (.cells (byt noughts).toArray 5)) _ _ _).of_cells fun _ _ => rfl
  have HP2 : Hid (Bytes (w.alloc (.cells (byt noughts).toArray 5)).drew (w.alloc (.cells (byt noughts).toArray 5)).drew.heap.size v l) :=
    (hp.along ((Below.refl _ _).alloc (Nat.le_refl _) _)).of_cells fun _ _ => rfl
  clear hp
  go_enter Try.func17, Try.ntmps17
  go_wp2
--R1
  refine wp_region_noPanic ?_
  refine wp_region_held_drew (S := (fun w' => Below w.heap.size w w')) (by kernel_rfl) (Below.refl _ _).drew (fun hHeld => ?_)
  refine take_at (i := 0) (v := ?_) (some 3) rfl rfl (by kernel_rfl) (by kernel_rfl) (by kernel_rfl) (fun _ _ _ h => h) (Or.inl ⟨by rfl, ?_⟩) (by assumption) ?_
  rotate_left
  · intro w hSw
    first | (go_simp; done) | (go_simp; with_reducible rfl)
  try simp only [Act.put, List.setIfInBounds_toArray, List.set_cons_zero, List.set_cons_succ]
  refine wpAnyH_ready (rs := [1, 2]) (by kernel_rfl) (by simp) ?_
  refine (AllReadyH.cons rfl (fun K hK => ?_) (AllReadyH.cons rfl (fun K hK => ?_) AllReadyH.nil))
  · go_simp
    with_reducible refine (cut_mine _ _ l 512 512 rfl HP.out (by omega)).mono ?_
    rintro e w1 ⟨A, m, c, rfl, hM, hb⟩
    have hMs := hM.small
    refine hK.out _ _ ?_ (fun hHeld2 => ?_)
    · exact (below_on hHeld hb)
    clear hK K hHeld
    have hHeld := hHeld2
    clear hHeld2
    try simp only [Act.put, List.setIfInBounds_toArray, List.set_cons_zero, List.set_cons_succ]
    refine wpAnyH_ready (rs := [2]) (by kernel_rfl) (by simp) ?_
    refine AllReadyH.cons rfl (fun K hK => ?_) AllReadyH.nil
    go_simp
    refine hK.out _ _ ?_ (fun hHeld2 => ?_)
    · exact (hHeld.alloc hHeld.size _)
    clear hK K hHeld
    have hHeld := hHeld2
    clear hHeld2
    try simp only [Act.put, List.setIfInBounds_toArray, List.set_cons_zero, List.set_cons_succ]
    refine wpAnyH_ready (rs := [3]) (by kernel_rfl) (by simp) ?_
    refine AllReadyH.cons rfl (fun K hK => ?_) AllReadyH.nil
    go_simp
    refine hK.out _ _ ?_ (fun hHeld2 => ?_)
    · exact (hHeld.alloc hHeld.size _)
    clear hK K hHeld
    have hHeld := hHeld2
    clear hHeld2
    try simp only [Act.put, List.setIfInBounds_toArray, List.set_cons_zero, List.set_cons_succ]
    refine wpAnyH_ready (rs := [4]) (by kernel_rfl) (by simp) ?_
    refine AllReadyH.cons rfl (fun K hK => ?_) AllReadyH.nil
    go_simp
    have hPP : Parts ((w1.alloc (.cells (byt noughts).toArray 5)).alloc (.cells #[.slice A m c, .slice (some ⟨w1.heap.size, 0, none⟩) 512 512] 30)) ((w1.alloc (.cells (byt noughts).toArray 5)).alloc (.cells #[.slice A m c, .slice (some ⟨w1.heap.size, 0, none⟩) 512 512] 30)).heap.size (.slice (some ⟨w1.heap.size + 1, 0, none⟩) 2 2) [l.take 512, noughts] := parts_two (B := ((w1.alloc (.cells (byt noughts).toArray 5)).alloc (.cells #[.slice A m c, .slice (some ⟨w1.heap.size, 0, none⟩) 512 512] 30)).heap.size) (new_at _ _ _ (by simp)) ((hM.bytes.along ((Below.refl _ _).alloc (Nat.le_refl _) _)).along ((Below.refl _ _).alloc (Nat.le_refl _) _)) ((bytes_block (Go.heap_alloc_new w1 _) (by simp) noughts_length.symm (by omega) noughts_small (by rw [noughts_length]; unfold maxLen; omega) : Bytes (w1.alloc (.cells (byt noughts).toArray 5)) (w1.alloc (.cells (byt noughts).toArray 5)).heap.size _ noughts).along ((Below.refl _ _).alloc (Nat.le_refl _) _)) (Nat.le_refl _)
    have e : [l.take 512, noughts].flatten = l.take 512 ++ noughts := by simp
    have hJ := join_mine _ _ _ hPP (by rw [e]; exact cut_noughts_small hMs) (by rw [e, List.length_append, noughts_length, List.length_take]; omega)
    rw [e] at hJ
    with_reducible refine hJ.mono ?_
    rintro e3 w5 ⟨A5, m5, c5, rfl, hM5, hb5⟩
    refine hK.out _ _ ?_ (fun hHeld2 => ?_)
    · exact (below_on hHeld hb5)
    clear hK K hHeld
    have hHeld := hHeld2
    clear hHeld2
    try simp only [Act.put, List.setIfInBounds_toArray, List.set_cons_zero, List.set_cons_succ]
    refine wpAnyH_ready (rs := [5]) (by kernel_rfl) (by simp) ?_
    refine AllReadyH.cons rfl (fun K hK => ?_) AllReadyH.nil
    go_simp
    with_reducible refine (cut_mine w5 _ (l.take 512 ++ noughts) 512 512 rfl hM5.bytes (by omega)).mono ?_
    rintro e4 w6 ⟨A6, m6, c6, rfl, hM6, hb6⟩
    refine hK.out _ _ ?_ (fun hHeld2 => ?_)
    · exact (below_on hHeld hb6)
    clear hK K hHeld
    have hHeld := hHeld2
    clear hHeld2
    try simp only [Act.put, List.setIfInBounds_toArray, List.set_cons_zero, List.set_cons_succ]
    refine take_at (i := 6) (v := ?_) (some 2) rfl rfl (by kernel_rfl) (by kernel_rfl) (by kernel_rfl) (fun _ _ _ h => h) (Or.inl ⟨by rfl, ?_⟩) (by assumption) ?_
    rotate_left
    · intro w hSw
      first | (go_simp; done) | (go_simp; with_reducible rfl)
    try simp only [Act.put, List.setIfInBounds_toArray, List.set_cons_zero, List.set_cons_succ]
    refine wpAnyH_done (by kernel_rfl) ?_ _
    refine NoPanic.normal ?_
    have hfin := hM6.lower (base' := w.heap.size) (by have h1 := hb6.size; have h4 : w.heap.size ≤ w1.heap.size := (by first | exact hb.size | exact Nat.le_trans (by simp [World.drew]) hb.size); have h2 := hb5.size; have h3 := hHeld.size; first | omega | (simp at h1 h2 h3 ⊢; omega))
    have hHeld3 := hHeld
    go_wp2
    go_ret
    exact ⟨A6, m6, c6, rfl, hfin, hHeld3⟩
  · go_simp
    refine hK.out _ _ ?_ (fun hHeld2 => ?_)
    · exact (((Below.refl _ _).alloc (Nat.le_refl _) _).drew)
    clear hK K hHeld
    have hHeld := hHeld2
    clear hHeld2
    try simp only [Act.put, List.setIfInBounds_toArray, List.set_cons_zero, List.set_cons_succ]
    refine wpAnyH_ready (rs := [1]) (by kernel_rfl) (by simp) ?_
    refine AllReadyH.cons rfl (fun K hK => ?_) AllReadyH.nil
    go_simp
    with_reducible refine (cut_mine _ _ l 512 512 rfl HP2.out (by omega)).mono ?_
    rintro e w1 ⟨A, m, c, rfl, hM, hb⟩
    have hMs := hM.small
    refine hK.out _ _ ?_ (fun hHeld2 => ?_)
    · exact (below_on hHeld hb)
    clear hK K hHeld
    have hHeld := hHeld2
    clear hHeld2
    try simp only [Act.put, List.setIfInBounds_toArray, List.set_cons_zero, List.set_cons_succ]
    refine wpAnyH_ready (rs := [3]) (by kernel_rfl) (by simp) ?_
    refine AllReadyH.cons rfl (fun K hK => ?_) AllReadyH.nil
    go_simp
    refine hK.out _ _ ?_ (fun hHeld2 => ?_)
    · exact (hHeld.alloc hHeld.size _)
    clear hK K hHeld
    have hHeld := hHeld2
    clear hHeld2
    try simp only [Act.put, List.setIfInBounds_toArray, List.set_cons_zero, List.set_cons_succ]
    refine wpAnyH_ready (rs := [4]) (by kernel_rfl) (by simp) ?_
    refine AllReadyH.cons rfl (fun K hK => ?_) AllReadyH.nil
    go_simp
    have hPP : Parts (w1.alloc (.cells #[.slice A m c, .slice (some ⟨w.heap.size, 0, none⟩) 512 512] 30)) (w1.alloc (.cells #[.slice A m c, .slice (some ⟨w.heap.size, 0, none⟩) 512 512] 30)).heap.size (.slice (some ⟨w1.heap.size, 0, none⟩) 2 2) [l.take 512, noughts] := parts_two (B := (w1.alloc (.cells #[.slice A m c, .slice (some ⟨w.heap.size, 0, none⟩) 512 512] 30)).heap.size) (new_at _ _ _ (by simp)) (hM.bytes.along ((Below.refl _ _).alloc (Nat.le_refl _) _)) (((HZ.out.up (by simp [World.drew])).along hb).along ((Below.refl _ _).alloc (Nat.le_refl _) _)) (Nat.le_refl _)
    have e : [l.take 512, noughts].flatten = l.take 512 ++ noughts := by simp
    have hJ := join_mine _ _ _ hPP (by rw [e]; exact cut_noughts_small hMs) (by rw [e, List.length_append, noughts_length, List.length_take]; omega)
    rw [e] at hJ
    with_reducible refine hJ.mono ?_
    rintro e3 w5 ⟨A5, m5, c5, rfl, hM5, hb5⟩
    refine hK.out _ _ ?_ (fun hHeld2 => ?_)
    · exact (below_on hHeld hb5)
    clear hK K hHeld
    have hHeld := hHeld2
    clear hHeld2
    try simp only [Act.put, List.setIfInBounds_toArray, List.set_cons_zero, List.set_cons_succ]
    refine wpAnyH_ready (rs := [5]) (by kernel_rfl) (by simp) ?_
    refine AllReadyH.cons rfl (fun K hK => ?_) AllReadyH.nil
    go_simp
    with_reducible refine (cut_mine w5 _ (l.take 512 ++ noughts) 512 512 rfl hM5.bytes (by omega)).mono ?_
    rintro e4 w6 ⟨A6, m6, c6, rfl, hM6, hb6⟩
    refine hK.out _ _ ?_ (fun hHeld2 => ?_)
    · exact (below_on hHeld hb6)
    clear hK K hHeld
    have hHeld := hHeld2
    clear hHeld2
    try simp only [Act.put, List.setIfInBounds_toArray, List.set_cons_zero, List.set_cons_succ]
    refine take_at (i := 6) (v := ?_) (some 2) rfl rfl (by kernel_rfl) (by kernel_rfl) (by kernel_rfl) (fun _ _ _ h => h) (Or.inl ⟨by rfl, ?_⟩) (by assumption) ?_
    rotate_left
    · intro w hSw
      first | (go_simp; done) | (go_simp; with_reducible rfl)
    try simp only [Act.put, List.setIfInBounds_toArray, List.set_cons_zero, List.set_cons_succ]
    refine wpAnyH_done (by kernel_rfl) ?_ _
    refine NoPanic.normal ?_
    have hfin := hM6.lower (base' := w.heap.size) (by have h1 := hb6.size; have h4 : w.heap.size ≤ w1.heap.size := (by first | exact hb.size | exact Nat.le_trans (by simp [World.drew]) hb.size); have h2 := hb5.size; have h3 := hHeld.size; first | omega | (simp at h1 h2 h3 ⊢; omega))
    have hHeld3 := hHeld
    go_wp2
    go_ret
    exact ⟨A6, m6, c6, rfl, hfin, hHeld3⟩
--R1E
end Go.Proofs.Ytmhhcblgeellnaa
