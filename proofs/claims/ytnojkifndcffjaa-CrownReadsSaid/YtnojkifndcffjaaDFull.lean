/- Contracts: what the reference's Full answers: the text as a whole sector, cut or with noughts behind, in memory of its own. -/
import Derived.Test.YtnojkifndcffjaaRefSeal
import Derived.Deep.WholeRow
import Derived.Deep.RegionHeld3
import Derived.Deep.MidRow
import Derived.OpenShut
namespace Go.Proofs.Ytnojkifndcffjaa
open Go.RowKit
set_option linter.unusedSimpArgs false

theorem down_lower {w : World} {base base' N : Nat} {t : TypeId} {size : Nat} {v : Value} {xs : List Value} (h : w.ownsRow base t size v N xs) (hb : base' ≤ base) : w.ownsRow base' t size v N xs := by
  obtain ⟨hl, hv⟩ := id h
  refine ⟨hl, ?_⟩
  rcases hv with hv | ⟨g, cap, cur, rfl, h1, h2⟩
  · exact .inl hv
  · exact .inr ⟨g, cap, cur, rfl, Nat.le_trans hb h1, h2⟩
theorem new_past {w : World} {g : Nat} {x : Obj} (o : Obj) (h : w.heap[g]? = some x) : (w.alloc o).heap[g]? = some x := by
  have hlt : g < w.heap.size := by
    rcases Nat.lt_or_ge g w.heap.size with h1 | h1
    · exact h1
    · rw [Array.getElem?_eq_none h1] at h; cases h
  exact (Below.heap_alloc w o g hlt).trans h
theorem own_apart {w : World} {b b' n n' s s' : Nat} {e e' : TypeId} {v v' : Value} {xs xs' : List Value} (h : w.ownsRow b e s v n xs) (h' : w.ownsRow b' e' s' v' n' xs') (hne : e ≠ e') : v.ownBlock = none ∨ v.ownBlock ≠ v'.ownBlock := by
  rcases h.2 with ⟨rfl, _⟩ | ⟨g, cap, cur, rfl, _, h1, _⟩
  · exact .inl rfl
  · rcases h'.2 with ⟨rfl, _⟩ | ⟨g', cap', cur', rfl, _, h2, _⟩
    · exact .inr (by simp [Value.ownBlock])
    · refine .inr (fun he => ?_)
      have hg : g = g' := by simpa [Value.ownBlock] using he
      subst hg
      rw [h1] at h2
      injection h2 with h2
      injection h2 with _ h3
      exact hne h3
/-- A whole row stored into a block that has just been made. -/
theorem fold_set_at (L : List Value) : ∀ (k : Nat) (base : Array Value) (i : Nat), i < base.size →
    ((L.zipIdx k).foldl (fun (cs : Array Value) x => cs.setIfInBounds (0 + x.2) x.1) base)[i]? = if k ≤ i ∧ i < k + L.length then L[i - k]? else base[i]? := by
  induction L with
  | nil => intro k base i hi; rw [if_neg (by intro h; have := h.2; simp at this; omega)]; rfl
  | cons v L ih =>
    intro k base i hi
    rw [List.zipIdx_cons, List.foldl_cons, ih (k + 1) _ i (by simpa using hi)]
    by_cases h1 : k = i
    · subst h1
      rw [if_neg (by omega), if_pos (by simp), Nat.sub_self, Nat.zero_add, Array.getElem?_setIfInBounds, if_pos rfl, if_pos hi]
      rfl
    · by_cases h2 : k + 1 ≤ i ∧ i < k + 1 + L.length
      · rw [if_pos h2, if_pos (by simp; omega)]
        obtain ⟨m, hm⟩ : ∃ m, i - k = m + 1 := ⟨i - k - 1, by omega⟩
        rw [hm, List.getElem?_cons_succ]
        congr 1
        omega
      · rw [if_neg h2, if_neg (by simp; omega), Nat.zero_add, Array.getElem?_setIfInBounds, if_neg h1]
theorem fold_set_size (L : List (Value × Nat)) : ∀ (base : Array Value), (L.foldl (fun (cs : Array Value) x => cs.setIfInBounds (0 + x.2) x.1) base).size = base.size := by
  induction L with
  | nil => intro base; rfl
  | cons x L ih => intro base; rw [List.foldl_cons, ih]; simp
theorem fold_set (L : List Value) (base : Array Value) (h : base.size = L.length) : (L.toArray.zipIdx.foldl (fun (cs : Array Value) x => cs.setIfInBounds (0 + x.2) x.1) base) = L.toArray := by
  have e : L.toArray.zipIdx.foldl (fun (cs : Array Value) x => cs.setIfInBounds (0 + x.2) x.1) base = (L.zipIdx).foldl (fun (cs : Array Value) x => cs.setIfInBounds (0 + x.2) x.1) base := by
    rw [← Array.foldl_toList, Array.toList_zipIdx]
  rw [e]
  apply Array.ext_getElem?
  intro i
  rcases Nat.lt_or_ge i base.size with hi | hi
  · rw [fold_set_at L 0 base i hi, if_pos (by omega)]
    simp
  · rw [Array.getElem?_eq_none (by rw [fold_set_size]; exact hi), Array.getElem?_eq_none (by simp; omega)]
theorem run_buildSlice_one {P : Program} (w : World) (t e : TypeId) (i : TypeInfo) (z : Value) (C : List Value) (ht : P.underlying t = some (.slice e)) (hi : P.info? e = some i) (hz : i.zero = some z) (hs : i.size = C.length) (h0 : 0 < C.length) (hb : C.length ≤ 16777216) :
    (Instr.buildSlice t 1 #[(0, .agg C.toArray)]).run P w = .ok (.slice (some ⟨w.heap.size, 0, none⟩) 1 1) (w.alloc (.cells C.toArray e)) := by
  have hf : Instr.fill (fun j => some (j * C.length, C.length)) ((Array.range (1 * C.length)).map (z.cells[· % z.cells.size]!)) [(0, .agg C.toArray)] = some C.toArray := by
    unfold Instr.fill
    have e1 : (Value.agg C.toArray).cells = C.toArray := rfl
    simp only [e1, Nat.zero_mul]
    rw [if_neg (by simp)]
    unfold Instr.fill
    rw [fold_set C _ (by simp)]
  simp only [Instr.buildSlice, Sem.run_bind, run_underlying ht, Result.andThen_ok, sizeOf, typeInfo]
  simp [zeroValue, typeInfo, hi, hz]
  rw [Nat.one_mul] at hf
  rw [if_neg (by omega), if_neg (by omega), hs, hf]
  rfl

def full (l : List Nat) : List Nat := (l.take 512 ++ List.replicate 512 0).take 512
theorem full_length (l : List Nat) : (full l).length = 512 := by
  unfold full
  rw [List.length_take, List.length_append, List.length_replicate]
  omega
theorem full_small {l : List Nat} (h : ∀ b ∈ l, b < 256) : ∀ b ∈ full l, b < 256 := by
  intro b hb
  rcases List.mem_append.1 (List.mem_of_mem_take hb) with h1 | h1
  · exact h b (List.mem_of_mem_take h1)
  · rw [List.eq_of_mem_replicate h1]; omega
def noughts : List Nat := List.replicate 512 0
theorem noughts_length : noughts.length = 512 := List.length_replicate
theorem noughts_small : ∀ b ∈ noughts, b < 256 := by
  intro b hb
  rw [List.eq_of_mem_replicate hb]
  omega
theorem run_make512 (w : World) : (Instr.makeSlice 25 (.int .i64 512) (.int .i64 512)).run Try.prog w = .ok (.slice (some ⟨w.heap.size, 0, none⟩) 512 512) (w.alloc (.cells (byt noughts).toArray 5)) := by
  obtain ⟨i0, hi0, hz0, hz1, hz2⟩ := info_parts infoByte
  have h := run_make (P := Try.prog) w 25 5 i0 (.int .u8 0) Try.underlying25 hi0 hz0 .i64 .i64 512 512 (by omega) (by omega) (by rw [hz2]; decide) (by omega)
  rw [hz1] at h
  have e : madeCells (Value.cells (.int .u8 0)) ((512 : Int).toNat * 1) = (byt noughts).toArray := by
    have e2 := toList_madeCells_one (.int .u8 0) 512
    have e3 : (byt noughts).toArray = (madeCells #[Value.int .u8 0] 512).toList.toArray := by
      rw [e2]
      unfold byt noughts
      rw [List.map_replicate]
      rfl
    rw [e3, Array.toArray_toList]
    rfl
  rw [e] at h
  exact h

theorem new_at (w : World) (o : Obj) (g : Nat) (hg : g = w.heap.size) : (w.alloc o).heap[g]? = some o := by
  rw [hg]
  exact Go.heap_alloc_new w o
theorem cut_noughts_small {l : List Nat} (h : ∀ b ∈ l.take 512, b < 256) : ∀ b ∈ l.take 512 ++ noughts, b < 256 := fun b hb => by
  rcases List.mem_append.1 hb with h1 | h1
  · exact h b h1
  · exact noughts_small b h1

set_option maxRecDepth 100000 in
set_option maxHeartbeats 4000000 in
theorem full_any (w : World) (v : Value) (l : List Nat) (hp : Bytes w w.heap.size v l) :
    Calls Try.prog 10 #[v] w fun e w' => ∃ A n c, e = .returned (.slice A n c) ∧ Mine w' w.heap.size A n c (full l) ∧ Below w.heap.size w w' := by
  have hmk := run_make512
  have HP : Hid (Bytes w.drew w.drew.heap.size v l) := hp.of_cells fun _ _ => rfl
  have HZ : Hid (Bytes (w.alloc (.cells (byt noughts).toArray 5)).drew (w.heap.size + 1) (.slice (some ⟨w.heap.size, 0, none⟩) 512 512) noughts) :=
    (bytes_block (Go.heap_alloc_new w _) (by omega) noughts_length.symm (by omega) noughts_small (by rw [noughts_length]; unfold maxLen; omega) : Bytes (w.alloc (.cells (byt noughts).toArray 5)) _ _ _).of_cells fun _ _ => rfl
  have HP2 : Hid (Bytes (w.alloc (.cells (byt noughts).toArray 5)).drew (w.alloc (.cells (byt noughts).toArray 5)).drew.heap.size v l) :=
    (hp.along ((Below.refl _ _).alloc (Nat.le_refl _) _)).of_cells fun _ _ => rfl
  clear hp
  go_enter Try.func10, Try.ntmps10
  go_wp2
--R1
  refine wp_region_noPanic ?_
  refine wp_region_held_drew (S := (fun w' => Below w.heap.size w w')) (by kernel_rfl) (Below.refl _ _).drew (fun hHeld => ?_)
  refine take_at (i := 0) (v := ?_) (some 3) rfl rfl (by kernel_rfl) (by kernel_rfl) (by kernel_rfl) (fun _ _ _ h => h) (Or.inl ⟨by rfl, ?_⟩) (by assumption) ?_
  rotate_left
  · intro w hSw
    first | (go_simp; done) | (go_simp; with_reducible rfl)
  try simp only [Act.put, List.setIfInBounds_toArray, List.set_cons_zero, List.set_cons_succ]
  refine wpAnyH_ready (rs := [1, 2]) (by kernel_rfl) (by simp) ?_
  refine (AllReadyH.cons rfl (fun K hK => ?_) (AllReadyH.cons rfl (fun K hK => ?_) AllReadyH.nil))
  · go_simp
    with_reducible refine (cut_mine _ _ l 512 512 rfl HP.out (by omega)).mono ?_
    rintro e w1 ⟨A, m, c, rfl, hM, hb⟩
    have hMs := hM.small
    refine hK.out _ _ ?_ (fun hHeld2 => ?_)
    · exact (below_on hHeld hb)
    clear hK K hHeld
    have hHeld := hHeld2
    clear hHeld2
    try simp only [Act.put, List.setIfInBounds_toArray, List.set_cons_zero, List.set_cons_succ]
    refine wpAnyH_ready (rs := [2]) (by kernel_rfl) (by simp) ?_
    refine AllReadyH.cons rfl (fun K hK => ?_) AllReadyH.nil
    go_simp
    refine hK.out _ _ ?_ (fun hHeld2 => ?_)
    · exact (hHeld.alloc hHeld.size _)
    clear hK K hHeld
    have hHeld := hHeld2
    clear hHeld2
    try simp only [Act.put, List.setIfInBounds_toArray, List.set_cons_zero, List.set_cons_succ]
    refine wpAnyH_ready (rs := [3]) (by kernel_rfl) (by simp) ?_
    refine AllReadyH.cons rfl (fun K hK => ?_) AllReadyH.nil
    go_simp
    refine hK.out _ _ ?_ (fun hHeld2 => ?_)
    · exact (hHeld.alloc hHeld.size _)
    clear hK K hHeld
    have hHeld := hHeld2
    clear hHeld2
    try simp only [Act.put, List.setIfInBounds_toArray, List.set_cons_zero, List.set_cons_succ]
    refine wpAnyH_ready (rs := [4]) (by kernel_rfl) (by simp) ?_
    refine AllReadyH.cons rfl (fun K hK => ?_) AllReadyH.nil
    go_simp
    have hPP : Parts ((w1.alloc (.cells (byt noughts).toArray 5)).alloc (.cells #[.slice A m c, .slice (some ⟨w1.heap.size, 0, none⟩) 512 512] 25)) ((w1.alloc (.cells (byt noughts).toArray 5)).alloc (.cells #[.slice A m c, .slice (some ⟨w1.heap.size, 0, none⟩) 512 512] 25)).heap.size (.slice (some ⟨w1.heap.size + 1, 0, none⟩) 2 2) [l.take 512, noughts] := parts_two (B := ((w1.alloc (.cells (byt noughts).toArray 5)).alloc (.cells #[.slice A m c, .slice (some ⟨w1.heap.size, 0, none⟩) 512 512] 25)).heap.size) (new_at _ _ _ (by simp)) ((hM.bytes.along ((Below.refl _ _).alloc (Nat.le_refl _) _)).along ((Below.refl _ _).alloc (Nat.le_refl _) _)) ((bytes_block (Go.heap_alloc_new w1 _) (by simp) noughts_length.symm (by omega) noughts_small (by rw [noughts_length]; unfold maxLen; omega) : Bytes (w1.alloc (.cells (byt noughts).toArray 5)) (w1.alloc (.cells (byt noughts).toArray 5)).heap.size _ noughts).along ((Below.refl _ _).alloc (Nat.le_refl _) _)) (Nat.le_refl _)
    have e : [l.take 512, noughts].flatten = l.take 512 ++ noughts := by simp
    have hJ := join_mine _ _ _ hPP (by rw [e]; exact cut_noughts_small hMs) (by rw [e, List.length_append, noughts_length, List.length_take]; omega)
    rw [e] at hJ
    with_reducible refine hJ.mono ?_
    rintro e3 w5 ⟨A5, m5, c5, rfl, hM5, hb5⟩
    refine hK.out _ _ ?_ (fun hHeld2 => ?_)
    · exact (below_on hHeld hb5)
    clear hK K hHeld
    have hHeld := hHeld2
    clear hHeld2
    try simp only [Act.put, List.setIfInBounds_toArray, List.set_cons_zero, List.set_cons_succ]
    refine wpAnyH_ready (rs := [5]) (by kernel_rfl) (by simp) ?_
    refine AllReadyH.cons rfl (fun K hK => ?_) AllReadyH.nil
    go_simp
    with_reducible refine (cut_mine w5 _ (l.take 512 ++ noughts) 512 512 rfl hM5.bytes (by omega)).mono ?_
    rintro e4 w6 ⟨A6, m6, c6, rfl, hM6, hb6⟩
    refine hK.out _ _ ?_ (fun hHeld2 => ?_)
    · exact (below_on hHeld hb6)
    clear hK K hHeld
    have hHeld := hHeld2
    clear hHeld2
    try simp only [Act.put, List.setIfInBounds_toArray, List.set_cons_zero, List.set_cons_succ]
    refine take_at (i := 6) (v := ?_) (some 2) rfl rfl (by kernel_rfl) (by kernel_rfl) (by kernel_rfl) (fun _ _ _ h => h) (Or.inl ⟨by rfl, ?_⟩) (by assumption) ?_
    rotate_left
    · intro w hSw
      first | (go_simp; done) | (go_simp; with_reducible rfl)
    try simp only [Act.put, List.setIfInBounds_toArray, List.set_cons_zero, List.set_cons_succ]
    refine wpAnyH_done (by kernel_rfl) ?_ _
    refine NoPanic.normal ?_
    have hfin := hM6.lower (base' := w.heap.size) (by have h1 := hb6.size; have h4 : w.heap.size ≤ w1.heap.size := (by first | exact hb.size | exact Nat.le_trans (by simp [World.drew]) hb.size); have h2 := hb5.size; have h3 := hHeld.size; first | omega | (simp at h1 h2 h3 ⊢; omega))
    have hHeld3 := hHeld
    go_wp2
    go_ret
    exact ⟨A6, m6, c6, rfl, hfin, hHeld3⟩
  · go_simp
    refine hK.out _ _ ?_ (fun hHeld2 => ?_)
    · exact (((Below.refl _ _).alloc (Nat.le_refl _) _).drew)
    clear hK K hHeld
    have hHeld := hHeld2
    clear hHeld2
    try simp only [Act.put, List.setIfInBounds_toArray, List.set_cons_zero, List.set_cons_succ]
    refine wpAnyH_ready (rs := [1]) (by kernel_rfl) (by simp) ?_
    refine AllReadyH.cons rfl (fun K hK => ?_) AllReadyH.nil
    go_simp
    with_reducible refine (cut_mine _ _ l 512 512 rfl HP2.out (by omega)).mono ?_
    rintro e w1 ⟨A, m, c, rfl, hM, hb⟩
    have hMs := hM.small
    refine hK.out _ _ ?_ (fun hHeld2 => ?_)
    · exact (below_on hHeld hb)
    clear hK K hHeld
    have hHeld := hHeld2
    clear hHeld2
    try simp only [Act.put, List.setIfInBounds_toArray, List.set_cons_zero, List.set_cons_succ]
    refine wpAnyH_ready (rs := [3]) (by kernel_rfl) (by simp) ?_
    refine AllReadyH.cons rfl (fun K hK => ?_) AllReadyH.nil
    go_simp
    refine hK.out _ _ ?_ (fun hHeld2 => ?_)
    · exact (hHeld.alloc hHeld.size _)
    clear hK K hHeld
    have hHeld := hHeld2
    clear hHeld2
    try simp only [Act.put, List.setIfInBounds_toArray, List.set_cons_zero, List.set_cons_succ]
    refine wpAnyH_ready (rs := [4]) (by kernel_rfl) (by simp) ?_
    refine AllReadyH.cons rfl (fun K hK => ?_) AllReadyH.nil
    go_simp
    have hPP : Parts (w1.alloc (.cells #[.slice A m c, .slice (some ⟨w.heap.size, 0, none⟩) 512 512] 25)) (w1.alloc (.cells #[.slice A m c, .slice (some ⟨w.heap.size, 0, none⟩) 512 512] 25)).heap.size (.slice (some ⟨w1.heap.size, 0, none⟩) 2 2) [l.take 512, noughts] := parts_two (B := (w1.alloc (.cells #[.slice A m c, .slice (some ⟨w.heap.size, 0, none⟩) 512 512] 25)).heap.size) (new_at _ _ _ (by simp)) (hM.bytes.along ((Below.refl _ _).alloc (Nat.le_refl _) _)) (((HZ.out.up (by simp [World.drew])).along hb).along ((Below.refl _ _).alloc (Nat.le_refl _) _)) (Nat.le_refl _)
    have e : [l.take 512, noughts].flatten = l.take 512 ++ noughts := by simp
    have hJ := join_mine _ _ _ hPP (by rw [e]; exact cut_noughts_small hMs) (by rw [e, List.length_append, noughts_length, List.length_take]; omega)
    rw [e] at hJ
    with_reducible refine hJ.mono ?_
    rintro e3 w5 ⟨A5, m5, c5, rfl, hM5, hb5⟩
    refine hK.out _ _ ?_ (fun hHeld2 => ?_)
    · exact (below_on hHeld hb5)
    clear hK K hHeld
    have hHeld := hHeld2
    clear hHeld2
    try simp only [Act.put, List.setIfInBounds_toArray, List.set_cons_zero, List.set_cons_succ]
    refine wpAnyH_ready (rs := [5]) (by kernel_rfl) (by simp) ?_
    refine AllReadyH.cons rfl (fun K hK => ?_) AllReadyH.nil
    go_simp
    with_reducible refine (cut_mine w5 _ (l.take 512 ++ noughts) 512 512 rfl hM5.bytes (by omega)).mono ?_
    rintro e4 w6 ⟨A6, m6, c6, rfl, hM6, hb6⟩
    refine hK.out _ _ ?_ (fun hHeld2 => ?_)
    · exact (below_on hHeld hb6)
    clear hK K hHeld
    have hHeld := hHeld2
    clear hHeld2
    try simp only [Act.put, List.setIfInBounds_toArray, List.set_cons_zero, List.set_cons_succ]
    refine take_at (i := 6) (v := ?_) (some 2) rfl rfl (by kernel_rfl) (by kernel_rfl) (by kernel_rfl) (fun _ _ _ h => h) (Or.inl ⟨by rfl, ?_⟩) (by assumption) ?_
    rotate_left
    · intro w hSw
      first | (go_simp; done) | (go_simp; with_reducible rfl)
    try simp only [Act.put, List.setIfInBounds_toArray, List.set_cons_zero, List.set_cons_succ]
    refine wpAnyH_done (by kernel_rfl) ?_ _
    refine NoPanic.normal ?_
    have hfin := hM6.lower (base' := w.heap.size) (by have h1 := hb6.size; have h4 : w.heap.size ≤ w1.heap.size := (by first | exact hb.size | exact Nat.le_trans (by simp [World.drew]) hb.size); have h2 := hb5.size; have h3 := hHeld.size; first | omega | (simp at h1 h2 h3 ⊢; omega))
    have hHeld3 := hHeld
    go_wp2
    go_ret
    exact ⟨A6, m6, c6, rfl, hfin, hHeld3⟩
--R1E
end Go.Proofs.Ytnojkifndcffjaa
