/- Contract: an operation's bytes as the reference has them. -/
import Derived.Test.YtfnobibjphnmdaaGreatDoorR4
import Derived.Test.YtfnobibjphnmdaaGreatDoorR5
import Derived.Test.YtfnobibjphnmdaaGreatDoorTpRefLay
namespace Go.Proofs.YtfnobibjphnmdaaGreatDoor
open Go.RowKit
set_option linter.unusedVariables false
set_option linter.unusedSimpArgs false
theorem parts_four {y : World} {v0 v1 v2 v3 : Value} {l0 l1 l2 l3 : List Nat} {B gx : Nat} (hy : y.heap[gx]? = some (.cells #[v0, v1, v2, v3] 26 (0, 0))) (h0 : Bytes y B v0 l0) (h1 : Bytes y B v1 l1) (h2 : Bytes y B v2 l2) (h3 : Bytes y B v3 l3) (hB : B ≤ y.heap.size) :
    Parts y y.heap.size (.slice (some ⟨gx, 0, none⟩) 4 4) [l0, l1, l2, l3] := by
  refine parts_block hy (lt_of_heap hy) rfl rfl ?_ (by unfold maxLen; simp)
  intro j u l e1 e3
  match j, e1, e3 with
  | 0, e1, e3 => simp at e1 e3; subst e1 e3; exact h0.up hB
  | 1, e1, e3 => simp at e1 e3; subst e1 e3; exact h1.up hB
  | 2, e1, e3 => simp at e1 e3; subst e1 e3; exact h2.up hB
  | 3, e1, e3 => simp at e1 e3; subst e1 e3; exact h3.up hB
  | j + 4, e1, e3 => simp at e1
theorem join_four (w : World) (v0 v1 v2 v3 : Value) (l0 l1 l2 l3 : List Nat) (h0 : Bytes w w.heap.size v0 l0) (h1 : Bytes w w.heap.size v1 l1) (h2 : Bytes w w.heap.size v2 l2) (h3 : Bytes w w.heap.size v3 l3) (hl : l0.length + l1.length + l2.length + l3.length ≤ 1048576) :
    Calls Tryz.prog 17 #[.slice (some ⟨w.heap.size, 0, none⟩) 4 4] (w.alloc (.cells #[v0, v1, v2, v3] 26)) fun e w' => ∃ A n c, e = .returned (.slice A n c) ∧ Mine w' w.heap.size A n c (l0 ++ (l1 ++ (l2 ++ l3))) ∧ Below w.heap.size w w' := by
  have hb := (Below.refl w.heap.size w).alloc (Nat.le_refl _) (.cells #[v0, v1, v2, v3] 26)
  have hP := parts_four (Go.heap_alloc_new w (.cells #[v0, v1, v2, v3] 26)) (h0.below hb) (h1.below hb) (h2.below hb) (h3.below hb) (by simp)
  have e : [l0, l1, l2, l3].flatten = l0 ++ (l1 ++ (l2 ++ l3)) := by simp
  have hJ := join_mine _ _ _ hP (by rw [e]; exact small_append h0.small (small_append h1.small (small_append h2.small h3.small))) (by rw [e]; simp only [List.length_append]; omega)
  rw [e] at hJ
  exact hJ.mono fun e w' ⟨A, n, c, he, hM, hB⟩ => ⟨A, n, c, he, hM.lower (by simp), below_on hb hB⟩
set_option maxRecDepth 100000 in
set_option maxHeartbeats 4000000 in
theorem rbytes_good (w : World) (k a b : Nat) (s : ByteArray) (hk : k < 256) (hs : s.size ≤ 64) (ha : a < 18446744073709551616) (hb : b < 18446744073709551616) :
    Calls Tryz.prog 15 #[opV k a b s] w fun e w' => ∃ A n c, e = .returned (.slice A n c) ∧ Mine w' w.heap.size A n c (bytesO k a b (str s)) ∧ Below w.heap.size w w' := by
  have hna := num_length64 ha
  have hnb := num_length64 hb
  have hns := num_length64 (n := s.size) (by omega)
  have HEQ := Lib.hid (show [k] ++ (num a ++ (num b ++ layF 2 0 (str s))) = bytesO k a b (str s) by
    unfold layF bytesO
    rw [if_neg (by omega), if_pos (by omega), str_length]
    simp)
  unfold opV
  go_enter Tryz.func15, Tryz.ntmps15
  go_wp2_with fail
  obtain ⟨wk, hwk⟩ : ∃ wk, wk = w.alloc (.cells #[.int .u8 (k : Int), .int .u64 (a : Int), .int .u64 (b : Int), .string s] 32) := ⟨_, rfl⟩
  rw [← hwk]
  have HSK := Lib.hid (show ∀ x, Below wk.heap.size wk x → (Below wk.heap.size wk x ∧ x.cell? ⟨w.heap.size, 0, none⟩ = some (.int .u8 (k : Int)) ∧ x.cell? ⟨w.heap.size, 1, none⟩ = some (.int .u64 (a : Int)) ∧ x.cell? ⟨w.heap.size, 2, none⟩ = some (.int .u64 (b : Int)) ∧ x.cell? ⟨w.heap.size, 3, none⟩ = some (.string s)) from fun x hx => by
    obtain ⟨z0, z1, z2, z3⟩ := box4 (by rw [hwk] at hx; exact hx)
    exact ⟨hx, z0, z1, z2, z3⟩)
  have HKB := Lib.hid (show ∀ x, Below wk.heap.size wk x → Below w.heap.size w x from fun x hx => ridec hx (by rw [hwk]; exact (Below.refl _ _).alloc (Nat.le_refl _) _))
  clear hwk
  refine wp_region_noPanic ?_
  refine wp_region_held_drew (S := fun x => Below wk.heap.size wk x ∧ x.cell? ⟨w.heap.size, 0, none⟩ = some (.int .u8 (k : Int)) ∧ x.cell? ⟨w.heap.size, 1, none⟩ = some (.int .u64 (a : Int)) ∧ x.cell? ⟨w.heap.size, 2, none⟩ = some (.int .u64 (b : Int)) ∧ x.cell? ⟨w.heap.size, 3, none⟩ = some (.string s)) (by kernel_rfl) (HSK.out _ (ride_drew (Below.refl _ _))) (fun hHeld => ?_)
  refine take_at (i := 0) (v := ?_) (some 3) rfl rfl (by kernel_rfl) (by kernel_rfl) (by kernel_rfl) (fun _ _ _ h => h) (Or.inl ⟨by rfl, ?_⟩) (by assumption) ?_
  rotate_left
  · intro w hSw
    obtain ⟨hSb, z0, z1, z2, z3⟩ := hSw
    first | (go_simp; done) | (go_simp; with_reducible rfl)
  try simp only [Act.put, List.setIfInBounds_toArray, List.set_cons_zero, List.set_cons_succ]
  refine take_at (i := 1) (v := ?_) (some 4) rfl rfl (by kernel_rfl) (by kernel_rfl) (by kernel_rfl) (fun _ _ _ h => h) (Or.inl ⟨by rfl, ?_⟩) (by assumption) ?_
  rotate_left
  · intro w hSw
    obtain ⟨hSb, z0, z1, z2, z3⟩ := hSw
    first | (go_simp; done) | (go_simp; with_reducible rfl)
  try simp only [Act.put, List.setIfInBounds_toArray, List.set_cons_zero, List.set_cons_succ]
  refine take_at (i := 3) (v := ?_) (some 6) rfl rfl (by kernel_rfl) (by kernel_rfl) (by kernel_rfl) (fun _ _ _ h => h) (Or.inl ⟨by rfl, ?_⟩) (by assumption) ?_
  rotate_left
  · intro w hSw
    obtain ⟨hSb, z0, z1, z2, z3⟩ := hSw
    first | (go_simp; done) | (go_simp; with_reducible rfl)
  try simp only [Act.put, List.setIfInBounds_toArray, List.set_cons_zero, List.set_cons_succ]
  refine take_at (i := 4) (v := ?_) (some 7) rfl rfl (by kernel_rfl) (by kernel_rfl) (by kernel_rfl) (fun _ _ _ h => h) (Or.inl ⟨by rfl, ?_⟩) (by assumption) ?_
  rotate_left
  · intro w hSw
    obtain ⟨hSb, z0, z1, z2, z3⟩ := hSw
    first | (go_simp; done) | (go_simp; with_reducible rfl)
  try simp only [Act.put, List.setIfInBounds_toArray, List.set_cons_zero, List.set_cons_succ]
  refine take_at (i := 6) (v := ?_) (some 9) rfl rfl (by kernel_rfl) (by kernel_rfl) (by kernel_rfl) (fun _ _ _ h => h) (Or.inl ⟨by rfl, ?_⟩) (by assumption) ?_
  rotate_left
  · intro w hSw
    obtain ⟨hSb, z0, z1, z2, z3⟩ := hSw
    first | (go_simp; done) | (go_simp; with_reducible rfl)
  try simp only [Act.put, List.setIfInBounds_toArray, List.set_cons_zero, List.set_cons_succ]
  refine take_at (i := 7) (v := ?_) (some 10) rfl rfl (by kernel_rfl) (by kernel_rfl) (by kernel_rfl) (fun _ _ _ h => h) (Or.inl ⟨by rfl, ?_⟩) (by assumption) ?_
  rotate_left
  · intro w hSw
    obtain ⟨hSb, z0, z1, z2, z3⟩ := hSw
    first | (go_simp; done) | (go_simp; with_reducible rfl)
  try simp only [Act.put, List.setIfInBounds_toArray, List.set_cons_zero, List.set_cons_succ]
  refine take_at (i := 9) (v := ?_) (some 12) rfl rfl (by kernel_rfl) (by kernel_rfl) (by kernel_rfl) (fun _ _ _ h => h) (Or.inl ⟨by rfl, ?_⟩) (by assumption) ?_
  rotate_left
  · intro w hSw
    obtain ⟨hSb, z0, z1, z2, z3⟩ := hSw
    first | (go_simp; done) | (go_simp; with_reducible rfl)
  try simp only [Act.put, List.setIfInBounds_toArray, List.set_cons_zero, List.set_cons_succ]
  refine take_at (i := 10) (v := ?_) (some 13) rfl rfl (by kernel_rfl) (by kernel_rfl) (by kernel_rfl) (fun _ _ _ h => h) (Or.inl ⟨by rfl, ?_⟩) (by assumption) ?_
  rotate_left
  · intro w hSw
    obtain ⟨hSb, z0, z1, z2, z3⟩ := hSw
    first | (go_simp; done) | (go_simp; with_reducible rfl)
  try simp only [Act.put, List.setIfInBounds_toArray, List.set_cons_zero, List.set_cons_succ]
  refine take_at (i := 11) (v := ?_) (some 14) rfl rfl (by kernel_rfl) (by kernel_rfl) (by kernel_rfl) (fun _ _ _ h => h) (Or.inl ⟨by rfl, ?_⟩) (by assumption) ?_
  rotate_left
  · intro w hSw
    obtain ⟨hSb, z0, z1, z2, z3⟩ := hSw
    first | (go_simp; done) | (go_simp; with_reducible rfl)
  try simp only [Act.put, List.setIfInBounds_toArray, List.set_cons_zero, List.set_cons_succ]
  refine wpAnyH_ready (rs := [2, 5]) (by kernel_rfl) (by simp) ?_
  refine (AllReadyH.cons rfl (fun K hK => ?_) (AllReadyH.cons rfl (fun K hK => ?_) AllReadyH.nil))
  · go_simp
    refine hK.out _ _ ?_ (fun hHeld2 => ?_)
    · exact HSK.out _ (ride_alloc hHeld.1 _)
    clear hK K hHeld
    have hHeld := hHeld2
    clear hHeld2
    try simp only [Act.put, List.setIfInBounds_toArray, List.set_cons_zero, List.set_cons_succ]
    have f2 : Bytes ((wk.alloc (.cells #[.int .u8 (k : Int)] 5)).drew) ((wk.alloc (.cells #[.int .u8 (k : Int)] 5)).drew).heap.size (.slice (some ⟨wk.heap.size, 0, none⟩) 1 1) [k] := (mine_one wk.drew k hk).bytes
    obtain ⟨x2, hx2⟩ : ∃ x, x = ((wk.alloc (.cells #[.int .u8 (k : Int)] 5)).drew) := ⟨_, rfl⟩
    rw [← hx2]
    rw [← hx2] at f2 hHeld
    clear hx2
    refine wpAnyH_ready (rs := [5]) (by kernel_rfl) (by simp) ?_
    refine (AllReadyH.cons rfl (fun K hK => ?_) AllReadyH.nil)
    go_simp
    refine (refNum_any a x2 ha).mono ?_
    rintro e x5 ⟨A5, n5, c5, rfl, hM5, hb5⟩
    refine hK.out _ _ ?_ (fun hHeld2 => ?_)
    · exact HSK.out _ (ridec hb5 hHeld.1)
    clear hK K hHeld
    have hHeld := hHeld2
    clear hHeld2
    try simp only [Act.put, List.setIfInBounds_toArray, List.set_cons_zero, List.set_cons_succ]
    have f2 := f2.along hb5
    have f5 := hM5.bytes
    refine wpAnyH_ready (rs := [8]) (by kernel_rfl) (by simp) ?_
    refine (AllReadyH.cons rfl (fun K hK => ?_) AllReadyH.nil)
    go_simp
    refine (refNum_any b x5 hb).mono ?_
    rintro e x8 ⟨A8, n8, c8, rfl, hM8, hb8⟩
    refine hK.out _ _ ?_ (fun hHeld2 => ?_)
    · exact HSK.out _ (ridec hb8 hHeld.1)
    clear hK K hHeld
    have hHeld := hHeld2
    clear hHeld2
    try simp only [Act.put, List.setIfInBounds_toArray, List.set_cons_zero, List.set_cons_succ]
    have f2 := f2.along hb8
    have f5 := f5.along hb8
    have f8 := hM8.bytes
    refine wpAnyH_ready (rs := [12]) (by kernel_rfl) (by simp) ?_
    refine (AllReadyH.cons rfl (fun K hK => ?_) AllReadyH.nil)
    go_simp
    refine (refLay_text x8 2 0 0 s (by omega) rfl).mono ?_
    rintro e x12 ⟨A12, n12, c12, rfl, hM12, hb12⟩
    refine hK.out _ _ ?_ (fun hHeld2 => ?_)
    · exact HSK.out _ (ridec hb12 hHeld.1)
    clear hK K hHeld
    have hHeld := hHeld2
    clear hHeld2
    try simp only [Act.put, List.setIfInBounds_toArray, List.set_cons_zero, List.set_cons_succ]
    have f2 := f2.along hb12
    have f5 := f5.along hb12
    have f8 := f8.along hb12
    have f12 := hM12.bytes
    have hHeld0 := hHeld.1
    refine wpAnyH_ready (rs := [13]) (by kernel_rfl) (by simp) ?_
    refine AllReadyH.cons rfl (fun K hK => ?_) AllReadyH.nil
    go_simp
    refine hK.out _ _ ?_ (fun hHeld2 => ?_)
    · exact HSK.out _ (ride_alloc hHeld.1 _)
    clear hK K hHeld
    have hHeld := hHeld2
    clear hHeld2
    try simp only [Act.put, List.setIfInBounds_toArray, List.set_cons_zero, List.set_cons_succ]
    refine wpAnyH_ready (rs := [14]) (by kernel_rfl) (by simp) ?_
    refine AllReadyH.cons rfl (fun K hK => ?_) AllReadyH.nil
    go_simp
    refine (join_four x12 _ _ _ _ _ _ _ _ f2 f5 f8 f12 (by simp [layF, str_length]; omega)).mono ?_
    rintro e x14 ⟨A14, n14, c14, rfl, hM14, hb14⟩
    refine hK.out _ _ ?_ (fun hHeld2 => ?_)
    · exact HSK.out _ (hHeld0.trans (hb14.mono hHeld0.size))
    clear hK K hHeld
    have hHeld := hHeld2
    clear hHeld2
    try simp only [Act.put, List.setIfInBounds_toArray, List.set_cons_zero, List.set_cons_succ]
    refine take_at (i := 15) (v := ?_) (some 2) rfl rfl (by kernel_rfl) (by kernel_rfl) (by kernel_rfl) (fun _ _ _ h => h) (Or.inl ⟨by rfl, ?_⟩) (by assumption) ?_
    rotate_left
    · intro w hSw
      obtain ⟨hSb, z0, z1, z2, z3⟩ := hSw
      first | (go_simp; done) | (go_simp; with_reducible rfl)
    try simp only [Act.put, List.setIfInBounds_toArray, List.set_cons_zero, List.set_cons_succ]
    refine wpAnyH_done (by kernel_rfl) ?_ _
    refine NoPanic.normal ?_
    have hfin := HKB.out _ hHeld.1
    have hbyt := hM14
    clear hHeld
    go_wp2
    go_ret
    refine ⟨_, _, _, rfl, ?_, hfin⟩
    rw [← HEQ.out]
    exact hbyt.lower (HKB.out _ hHeld0).size
  · go_simp
    refine (refNum_any a wk.drew ha).mono ?_
    rintro e x5 ⟨A5, n5, c5, rfl, hM5, hb5⟩
    refine hK.out _ _ ?_ (fun hHeld2 => ?_)
    · exact HSK.out _ (ridec hb5 hHeld.1)
    clear hK K hHeld
    have hHeld := hHeld2
    clear hHeld2
    try simp only [Act.put, List.setIfInBounds_toArray, List.set_cons_zero, List.set_cons_succ]
    have f5 := hM5.bytes
    refine wpAnyH_ready (rs := [2, 8]) (by kernel_rfl) (by simp) ?_
    refine (AllReadyH.cons rfl (fun K hK => ?_) (AllReadyH.cons rfl (fun K hK => ?_) AllReadyH.nil))
    · go_simp
      refine hK.out _ _ ?_ (fun hHeld2 => ?_)
      · exact HSK.out _ (ride_alloc hHeld.1 _)
      clear hK K hHeld
      have hHeld := hHeld2
      clear hHeld2
      try simp only [Act.put, List.setIfInBounds_toArray, List.set_cons_zero, List.set_cons_succ]
      have f5 := f5.along (show Below x5.heap.size x5 (x5.alloc (.cells #[.int .u8 (k : Int)] 5)) from (Below.refl _ x5).alloc (Nat.le_refl _) (.cells #[.int .u8 (k : Int)] 5))
      have f2 : Bytes (x5.alloc (.cells #[.int .u8 (k : Int)] 5)) (x5.alloc (.cells #[.int .u8 (k : Int)] 5)).heap.size (.slice (some ⟨x5.heap.size, 0, none⟩) 1 1) [k] := (mine_one x5 k hk).bytes
      obtain ⟨x2, hx2⟩ : ∃ x, x = (x5.alloc (.cells #[.int .u8 (k : Int)] 5)) := ⟨_, rfl⟩
      rw [← hx2]
      rw [← hx2] at f2 hHeld f5
      clear hx2
      refine wpAnyH_ready (rs := [8]) (by kernel_rfl) (by simp) ?_
      refine (AllReadyH.cons rfl (fun K hK => ?_) AllReadyH.nil)
      go_simp
      refine (refNum_any b x2 hb).mono ?_
      rintro e x8 ⟨A8, n8, c8, rfl, hM8, hb8⟩
      refine hK.out _ _ ?_ (fun hHeld2 => ?_)
      · exact HSK.out _ (ridec hb8 hHeld.1)
      clear hK K hHeld
      have hHeld := hHeld2
      clear hHeld2
      try simp only [Act.put, List.setIfInBounds_toArray, List.set_cons_zero, List.set_cons_succ]
      have f5 := f5.along hb8
      have f2 := f2.along hb8
      have f8 := hM8.bytes
      refine wpAnyH_ready (rs := [12]) (by kernel_rfl) (by simp) ?_
      refine (AllReadyH.cons rfl (fun K hK => ?_) AllReadyH.nil)
      go_simp
      refine (refLay_text x8 2 0 0 s (by omega) rfl).mono ?_
      rintro e x12 ⟨A12, n12, c12, rfl, hM12, hb12⟩
      refine hK.out _ _ ?_ (fun hHeld2 => ?_)
      · exact HSK.out _ (ridec hb12 hHeld.1)
      clear hK K hHeld
      have hHeld := hHeld2
      clear hHeld2
      try simp only [Act.put, List.setIfInBounds_toArray, List.set_cons_zero, List.set_cons_succ]
      have f5 := f5.along hb12
      have f2 := f2.along hb12
      have f8 := f8.along hb12
      have f12 := hM12.bytes
      have hHeld0 := hHeld.1
      refine wpAnyH_ready (rs := [13]) (by kernel_rfl) (by simp) ?_
      refine AllReadyH.cons rfl (fun K hK => ?_) AllReadyH.nil
      go_simp
      refine hK.out _ _ ?_ (fun hHeld2 => ?_)
      · exact HSK.out _ (ride_alloc hHeld.1 _)
      clear hK K hHeld
      have hHeld := hHeld2
      clear hHeld2
      try simp only [Act.put, List.setIfInBounds_toArray, List.set_cons_zero, List.set_cons_succ]
      refine wpAnyH_ready (rs := [14]) (by kernel_rfl) (by simp) ?_
      refine AllReadyH.cons rfl (fun K hK => ?_) AllReadyH.nil
      go_simp
      refine (join_four x12 _ _ _ _ _ _ _ _ f2 f5 f8 f12 (by simp [layF, str_length]; omega)).mono ?_
      rintro e x14 ⟨A14, n14, c14, rfl, hM14, hb14⟩
      refine hK.out _ _ ?_ (fun hHeld2 => ?_)
      · exact HSK.out _ (hHeld0.trans (hb14.mono hHeld0.size))
      clear hK K hHeld
      have hHeld := hHeld2
      clear hHeld2
      try simp only [Act.put, List.setIfInBounds_toArray, List.set_cons_zero, List.set_cons_succ]
      refine take_at (i := 15) (v := ?_) (some 2) rfl rfl (by kernel_rfl) (by kernel_rfl) (by kernel_rfl) (fun _ _ _ h => h) (Or.inl ⟨by rfl, ?_⟩) (by assumption) ?_
      rotate_left
      · intro w hSw
        obtain ⟨hSb, z0, z1, z2, z3⟩ := hSw
        first | (go_simp; done) | (go_simp; with_reducible rfl)
      try simp only [Act.put, List.setIfInBounds_toArray, List.set_cons_zero, List.set_cons_succ]
      refine wpAnyH_done (by kernel_rfl) ?_ _
      refine NoPanic.normal ?_
      have hfin := HKB.out _ hHeld.1
      have hbyt := hM14
      clear hHeld
      go_wp2
      go_ret
      refine ⟨_, _, _, rfl, ?_, hfin⟩
      rw [← HEQ.out]
      exact hbyt.lower (HKB.out _ hHeld0).size
    · go_simp
      refine (refNum_any b x5 hb).mono ?_
      rintro e x8 ⟨A8, n8, c8, rfl, hM8, hb8⟩
      refine hK.out _ _ ?_ (fun hHeld2 => ?_)
      · exact HSK.out _ (ridec hb8 hHeld.1)
      clear hK K hHeld
      have hHeld := hHeld2
      clear hHeld2
      try simp only [Act.put, List.setIfInBounds_toArray, List.set_cons_zero, List.set_cons_succ]
      have f5 := f5.along hb8
      have f8 := hM8.bytes
      refine wpAnyH_ready (rs := [2, 12]) (by kernel_rfl) (by simp) ?_
      refine (AllReadyH.cons rfl (fun K hK => ?_) (AllReadyH.cons rfl (fun K hK => ?_) AllReadyH.nil))
      · go_simp
        refine hK.out _ _ ?_ (fun hHeld2 => ?_)
        · exact HSK.out _ (ride_alloc hHeld.1 _)
        clear hK K hHeld
        have hHeld := hHeld2
        clear hHeld2
        try simp only [Act.put, List.setIfInBounds_toArray, List.set_cons_zero, List.set_cons_succ]
        have f5 := f5.along (show Below x8.heap.size x8 (x8.alloc (.cells #[.int .u8 (k : Int)] 5)) from (Below.refl _ x8).alloc (Nat.le_refl _) (.cells #[.int .u8 (k : Int)] 5))
        have f8 := f8.along (show Below x8.heap.size x8 (x8.alloc (.cells #[.int .u8 (k : Int)] 5)) from (Below.refl _ x8).alloc (Nat.le_refl _) (.cells #[.int .u8 (k : Int)] 5))
        have f2 : Bytes (x8.alloc (.cells #[.int .u8 (k : Int)] 5)) (x8.alloc (.cells #[.int .u8 (k : Int)] 5)).heap.size (.slice (some ⟨x8.heap.size, 0, none⟩) 1 1) [k] := (mine_one x8 k hk).bytes
        obtain ⟨x2, hx2⟩ : ∃ x, x = (x8.alloc (.cells #[.int .u8 (k : Int)] 5)) := ⟨_, rfl⟩
        rw [← hx2]
        rw [← hx2] at f2 hHeld f5 f8
        clear hx2
        refine wpAnyH_ready (rs := [12]) (by kernel_rfl) (by simp) ?_
        refine (AllReadyH.cons rfl (fun K hK => ?_) AllReadyH.nil)
        go_simp
        refine (refLay_text x2 2 0 0 s (by omega) rfl).mono ?_
        rintro e x12 ⟨A12, n12, c12, rfl, hM12, hb12⟩
        refine hK.out _ _ ?_ (fun hHeld2 => ?_)
        · exact HSK.out _ (ridec hb12 hHeld.1)
        clear hK K hHeld
        have hHeld := hHeld2
        clear hHeld2
        try simp only [Act.put, List.setIfInBounds_toArray, List.set_cons_zero, List.set_cons_succ]
        have f5 := f5.along hb12
        have f8 := f8.along hb12
        have f2 := f2.along hb12
        have f12 := hM12.bytes
        have hHeld0 := hHeld.1
        refine wpAnyH_ready (rs := [13]) (by kernel_rfl) (by simp) ?_
        refine AllReadyH.cons rfl (fun K hK => ?_) AllReadyH.nil
        go_simp
        refine hK.out _ _ ?_ (fun hHeld2 => ?_)
        · exact HSK.out _ (ride_alloc hHeld.1 _)
        clear hK K hHeld
        have hHeld := hHeld2
        clear hHeld2
        try simp only [Act.put, List.setIfInBounds_toArray, List.set_cons_zero, List.set_cons_succ]
        refine wpAnyH_ready (rs := [14]) (by kernel_rfl) (by simp) ?_
        refine AllReadyH.cons rfl (fun K hK => ?_) AllReadyH.nil
        go_simp
        refine (join_four x12 _ _ _ _ _ _ _ _ f2 f5 f8 f12 (by simp [layF, str_length]; omega)).mono ?_
        rintro e x14 ⟨A14, n14, c14, rfl, hM14, hb14⟩
        refine hK.out _ _ ?_ (fun hHeld2 => ?_)
        · exact HSK.out _ (hHeld0.trans (hb14.mono hHeld0.size))
        clear hK K hHeld
        have hHeld := hHeld2
        clear hHeld2
        try simp only [Act.put, List.setIfInBounds_toArray, List.set_cons_zero, List.set_cons_succ]
        refine take_at (i := 15) (v := ?_) (some 2) rfl rfl (by kernel_rfl) (by kernel_rfl) (by kernel_rfl) (fun _ _ _ h => h) (Or.inl ⟨by rfl, ?_⟩) (by assumption) ?_
        rotate_left
        · intro w hSw
          obtain ⟨hSb, z0, z1, z2, z3⟩ := hSw
          first | (go_simp; done) | (go_simp; with_reducible rfl)
        try simp only [Act.put, List.setIfInBounds_toArray, List.set_cons_zero, List.set_cons_succ]
        refine wpAnyH_done (by kernel_rfl) ?_ _
        refine NoPanic.normal ?_
        have hfin := HKB.out _ hHeld.1
        have hbyt := hM14
        clear hHeld
        go_wp2
        go_ret
        refine ⟨_, _, _, rfl, ?_, hfin⟩
        rw [← HEQ.out]
        exact hbyt.lower (HKB.out _ hHeld0).size
      · go_simp
        refine (refLay_text x8 2 0 0 s (by omega) rfl).mono ?_
        rintro e x12 ⟨A12, n12, c12, rfl, hM12, hb12⟩
        refine hK.out _ _ ?_ (fun hHeld2 => ?_)
        · exact HSK.out _ (ridec hb12 hHeld.1)
        clear hK K hHeld
        have hHeld := hHeld2
        clear hHeld2
        try simp only [Act.put, List.setIfInBounds_toArray, List.set_cons_zero, List.set_cons_succ]
        have f5 := f5.along hb12
        have f8 := f8.along hb12
        have f12 := hM12.bytes
        refine wpAnyH_ready (rs := [2]) (by kernel_rfl) (by simp) ?_
        refine (AllReadyH.cons rfl (fun K hK => ?_) AllReadyH.nil)
        go_simp
        refine hK.out _ _ ?_ (fun hHeld2 => ?_)
        · exact HSK.out _ (ride_alloc hHeld.1 _)
        clear hK K hHeld
        have hHeld := hHeld2
        clear hHeld2
        try simp only [Act.put, List.setIfInBounds_toArray, List.set_cons_zero, List.set_cons_succ]
        have f5 := f5.along (show Below x12.heap.size x12 (x12.alloc (.cells #[.int .u8 (k : Int)] 5)) from (Below.refl _ x12).alloc (Nat.le_refl _) (.cells #[.int .u8 (k : Int)] 5))
        have f8 := f8.along (show Below x12.heap.size x12 (x12.alloc (.cells #[.int .u8 (k : Int)] 5)) from (Below.refl _ x12).alloc (Nat.le_refl _) (.cells #[.int .u8 (k : Int)] 5))
        have f12 := f12.along (show Below x12.heap.size x12 (x12.alloc (.cells #[.int .u8 (k : Int)] 5)) from (Below.refl _ x12).alloc (Nat.le_refl _) (.cells #[.int .u8 (k : Int)] 5))
        have f2 : Bytes (x12.alloc (.cells #[.int .u8 (k : Int)] 5)) (x12.alloc (.cells #[.int .u8 (k : Int)] 5)).heap.size (.slice (some ⟨x12.heap.size, 0, none⟩) 1 1) [k] := (mine_one x12 k hk).bytes
        obtain ⟨x2, hx2⟩ : ∃ x, x = (x12.alloc (.cells #[.int .u8 (k : Int)] 5)) := ⟨_, rfl⟩
        rw [← hx2]
        rw [← hx2] at f2 hHeld f5 f8 f12
        clear hx2
        have hHeld0 := hHeld.1
        refine wpAnyH_ready (rs := [13]) (by kernel_rfl) (by simp) ?_
        refine AllReadyH.cons rfl (fun K hK => ?_) AllReadyH.nil
        go_simp
        refine hK.out _ _ ?_ (fun hHeld2 => ?_)
        · exact HSK.out _ (ride_alloc hHeld.1 _)
        clear hK K hHeld
        have hHeld := hHeld2
        clear hHeld2
        try simp only [Act.put, List.setIfInBounds_toArray, List.set_cons_zero, List.set_cons_succ]
        refine wpAnyH_ready (rs := [14]) (by kernel_rfl) (by simp) ?_
        refine AllReadyH.cons rfl (fun K hK => ?_) AllReadyH.nil
        go_simp
        refine (join_four x2 _ _ _ _ _ _ _ _ f2 f5 f8 f12 (by simp [layF, str_length]; omega)).mono ?_
        rintro e x14 ⟨A14, n14, c14, rfl, hM14, hb14⟩
        refine hK.out _ _ ?_ (fun hHeld2 => ?_)
        · exact HSK.out _ (hHeld0.trans (hb14.mono hHeld0.size))
        clear hK K hHeld
        have hHeld := hHeld2
        clear hHeld2
        try simp only [Act.put, List.setIfInBounds_toArray, List.set_cons_zero, List.set_cons_succ]
        refine take_at (i := 15) (v := ?_) (some 2) rfl rfl (by kernel_rfl) (by kernel_rfl) (by kernel_rfl) (fun _ _ _ h => h) (Or.inl ⟨by rfl, ?_⟩) (by assumption) ?_
        rotate_left
        · intro w hSw
          obtain ⟨hSb, z0, z1, z2, z3⟩ := hSw
          first | (go_simp; done) | (go_simp; with_reducible rfl)
        try simp only [Act.put, List.setIfInBounds_toArray, List.set_cons_zero, List.set_cons_succ]
        refine wpAnyH_done (by kernel_rfl) ?_ _
        refine NoPanic.normal ?_
        have hfin := HKB.out _ hHeld.1
        have hbyt := hM14
        clear hHeld
        go_wp2
        go_ret
        refine ⟨_, _, _, rfl, ?_, hfin⟩
        rw [← HEQ.out]
        exact hbyt.lower (HKB.out _ hHeld0).size
end Go.Proofs.YtfnobibjphnmdaaGreatDoor
