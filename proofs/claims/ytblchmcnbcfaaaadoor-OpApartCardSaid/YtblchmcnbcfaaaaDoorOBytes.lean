/- Contract: an operation's bytes. -/
import Derived.Test.YtblchmcnbcfaaaaDoorOText
import Derived.Test.YtblchmcnbcfaaaaDoorTpWtr
namespace Go.Proofs.YtblchmcnbcfaaaaDoor
open Go.RowKit
set_option linter.unusedVariables false
set_option linter.unusedSimpArgs false
theorem wtr_new (w : World) : Wtr (w.alloc (.cells #[.slice none 0 0] 64)) w.heap.size w.heap.size (.slice none 0 0) [] :=
  ⟨by show (w.heap.push _)[_]? = _; simp, ⟨rfl, .inl ⟨rfl, rfl⟩⟩, by simp⟩
theorem wtr_below {W x y : World} {B base g : Nat} {v : Value} {l : List Nat} (h : Wtr x base g v l) (hc : Chg x y g v.ownBlock) (ha : Below B W x) (hB : B ≤ x.heap.size) (hb : B ≤ base) (hg : B ≤ g) : Below B W y :=
  hc.below ha hB hg fun k e => Nat.le_trans hb (own_block_lt h.own e).1
theorem obytes_bad (w : World) (k a b : Nat) (s : ByteArray) (hk : k < 256) (hs : s.size ≤ 9223372036854775807) (hv : Vo w) (hr : rightO k a b (str s) = false) :
    Calls Tryd.prog 19 #[opV k a b s] w fun e w' => e = .returned (.slice none 0 0) ∧ Below w.heap.size w w' := by
  have HRT := fun (x : World) (h : Below w.heap.size w x) => hide (right_any x k a b s hk hs (hv.below h))
  rw [hr] at HRT
  unfold opV at *
  go_enter Tryd.func19, Tryd.ntmps19
  go_wp2_with (go_at_call 29; (with_reducible refine (unhide (HRT _ ((Below.refl _ _).alloc (Nat.le_refl _) _))).mono ?_); rintro e w1 ⟨rfl, hb1⟩; go_loud (
    have HB := Lib.hid (opcells hb1);
    clear hb1))
  go_ret
  exact ⟨rfl, HB.out⟩
set_option maxRecDepth 100000 in
set_option maxHeartbeats 4000000 in
theorem obytes_good (w : World) (k a b : Nat) (s : ByteArray) (hk : k < 256) (hs : s.size ≤ 9223372036854775807) (ha : a < 18446744073709551616) (hb : b < 18446744073709551616) (hv : Vo w) (hr : rightO k a b (str s) = true) :
    Calls Tryd.prog 19 #[opV k a b s] w fun e w' => ∃ v, e = .returned v ∧ Bytes w' w'.heap.size v (bytesO k a b (str s)) ∧ Below w.heap.size w w' := by
  have HRT := fun (x : World) (h : Below w.heap.size w x) => hide (right_any x k a b s hk hs (hv.below h))
  rw [hr] at HRT
  have hs64 := rightO_len hr
  rw [str_length] at hs64
  have hna := num_length64 ha
  have hnb := num_length64 hb
  have hns := num_length64 (n := s.size) (by omega)
  unfold opV at *
  have HEQ := Lib.hid (show ((([] ++ [k]) ++ num a) ++ num b) ++ (num s.size ++ str s) = bytesO k a b (str s) by unfold bytesO; rw [str_length]; rfl)
  clear hr hv
  go_enter Tryd.func19, Tryd.ntmps19
  go_wp2_with (go_at_call 29; (with_reducible refine (unhide (HRT _ ((Below.refl _ _).alloc (Nat.le_refl _) _))).mono ?_); rintro e w1 ⟨rfl, hbx⟩; have HBX := Lib.hid hbx; clear hbx)
  obtain ⟨wk, hwk⟩ : ∃ wk, wk = w1 := ⟨_, rfl⟩
  rw [← hwk]
  have HSK := Lib.hid (show ∀ x, Below wk.heap.size wk x → (Below wk.heap.size wk x ∧ x.cell? ⟨w.heap.size, 0, none⟩ = some (.int .u8 (k : Int)) ∧ x.cell? ⟨w.heap.size, 1, none⟩ = some (.int .u64 (a : Int)) ∧ x.cell? ⟨w.heap.size, 2, none⟩ = some (.int .u64 (b : Int)) ∧ x.cell? ⟨w.heap.size, 3, none⟩ = some (.string s)) from fun x hx => by
    obtain ⟨z0, z1, z2, z3⟩ := box4 (ridec (by rw [hwk] at hx; exact hx) HBX.out)
    exact ⟨hx, z0, z1, z2, z3⟩)
  have HKB := Lib.hid (show ∀ x, Below wk.heap.size wk x → Below w.heap.size w x from fun x hx => ridec hx (by rw [hwk]; exact opcells HBX.out))
  clear hwk
  have HBY := fun (x : World) (v : Value) (l : List Nat) (h : Wtr x wk.heap.size wk.heap.size v l) (h1 : l.length ≤ 1048576) (h2 : wk.heap.size ≤ x.heap.size) => hide (wbyte_any x wk.heap.size wk.heap.size k v l hk h h1 h2)
  have HNA := fun (x : World) (v : Value) (l : List Nat) (h : Wtr x wk.heap.size wk.heap.size v l) (h1 : l.length ≤ 1048576) (h2 : wk.heap.size ≤ x.heap.size) => hide (wnum_any x wk.heap.size wk.heap.size a v l ha h h1 h2)
  have HNB := fun (x : World) (v : Value) (l : List Nat) (h : Wtr x wk.heap.size wk.heap.size v l) (h1 : l.length ≤ 1048576) (h2 : wk.heap.size ≤ x.heap.size) => hide (wnum_any x wk.heap.size wk.heap.size b v l hb h h1 h2)
  have HTX := fun (x : World) (v : Value) (l : List Nat) (h : Wtr x wk.heap.size wk.heap.size v l) (h1 : l.length ≤ 1048576) (h2 : wk.heap.size ≤ x.heap.size) => hide (wtext_any x wk.heap.size wk.heap.size s v l (by omega) h h1 h2)
  have HBB := fun (x : World) (v : Value) (l : List Nat) (h : Wtr x wk.heap.size wk.heap.size v l) (h1 : l.length ≤ 1048576) => hide (wbytes_any x wk.heap.size wk.heap.size v l h h1)
  refine wp_region_noPanic ?_
  refine wp_region_held_drew (S := fun x => Below wk.heap.size wk x ∧ x.cell? ⟨w.heap.size, 0, none⟩ = some (.int .u8 (k : Int)) ∧ x.cell? ⟨w.heap.size, 1, none⟩ = some (.int .u64 (a : Int)) ∧ x.cell? ⟨w.heap.size, 2, none⟩ = some (.int .u64 (b : Int)) ∧ x.cell? ⟨w.heap.size, 3, none⟩ = some (.string s)) (by kernel_rfl) (HSK.out _ (ride_drew (Below.refl _ _))) (fun hHeld => ?_)
  refine take_at (i := 1) (v := ?_) (some 7) rfl rfl (by kernel_rfl) (by kernel_rfl) (by kernel_rfl) (fun _ _ _ h => h) (Or.inl ⟨by rfl, ?_⟩) (by assumption) ?_
  rotate_left
  · intro w hSw
    obtain ⟨hSb, z0, z1, z2, z3⟩ := hSw
    first | (go_simp; done) | (go_simp; with_reducible rfl)
  try simp only [Act.put, List.setIfInBounds_toArray, List.set_cons_zero, List.set_cons_succ]
  refine take_at (i := 2) (v := ?_) (some 8) rfl rfl (by kernel_rfl) (by kernel_rfl) (by kernel_rfl) (fun _ _ _ h => h) (Or.inl ⟨by rfl, ?_⟩) (by assumption) ?_
  rotate_left
  · intro w hSw
    obtain ⟨hSb, z0, z1, z2, z3⟩ := hSw
    first | (go_simp; done) | (go_simp; with_reducible rfl)
  try simp only [Act.put, List.setIfInBounds_toArray, List.set_cons_zero, List.set_cons_succ]
  refine take_at (i := 4) (v := ?_) (some 10) rfl rfl (by kernel_rfl) (by kernel_rfl) (by kernel_rfl) (fun _ _ _ h => h) (Or.inl ⟨by rfl, ?_⟩) (by assumption) ?_
  rotate_left
  · intro w hSw
    obtain ⟨hSb, z0, z1, z2, z3⟩ := hSw
    first | (go_simp; done) | (go_simp; with_reducible rfl)
  try simp only [Act.put, List.setIfInBounds_toArray, List.set_cons_zero, List.set_cons_succ]
  refine take_at (i := 5) (v := ?_) (some 11) rfl rfl (by kernel_rfl) (by kernel_rfl) (by kernel_rfl) (fun _ _ _ h => h) (Or.inl ⟨by rfl, ?_⟩) (by assumption) ?_
  rotate_left
  · intro w hSw
    obtain ⟨hSb, z0, z1, z2, z3⟩ := hSw
    first | (go_simp; done) | (go_simp; with_reducible rfl)
  try simp only [Act.put, List.setIfInBounds_toArray, List.set_cons_zero, List.set_cons_succ]
  refine take_at (i := 7) (v := ?_) (some 13) rfl rfl (by kernel_rfl) (by kernel_rfl) (by kernel_rfl) (fun _ _ _ h => h) (Or.inl ⟨by rfl, ?_⟩) (by assumption) ?_
  rotate_left
  · intro w hSw
    obtain ⟨hSb, z0, z1, z2, z3⟩ := hSw
    first | (go_simp; done) | (go_simp; with_reducible rfl)
  try simp only [Act.put, List.setIfInBounds_toArray, List.set_cons_zero, List.set_cons_succ]
  refine take_at (i := 8) (v := ?_) (some 14) rfl rfl (by kernel_rfl) (by kernel_rfl) (by kernel_rfl) (fun _ _ _ h => h) (Or.inl ⟨by rfl, ?_⟩) (by assumption) ?_
  rotate_left
  · intro w hSw
    obtain ⟨hSb, z0, z1, z2, z3⟩ := hSw
    first | (go_simp; done) | (go_simp; with_reducible rfl)
  try simp only [Act.put, List.setIfInBounds_toArray, List.set_cons_zero, List.set_cons_succ]
  refine take_at (i := 10) (v := ?_) (some 16) rfl rfl (by kernel_rfl) (by kernel_rfl) (by kernel_rfl) (fun _ _ _ h => h) (Or.inl ⟨by rfl, ?_⟩) (by assumption) ?_
  rotate_left
  · intro w hSw
    obtain ⟨hSb, z0, z1, z2, z3⟩ := hSw
    first | (go_simp; done) | (go_simp; with_reducible rfl)
  try simp only [Act.put, List.setIfInBounds_toArray, List.set_cons_zero, List.set_cons_succ]
  refine take_at (i := 11) (v := ?_) (some 17) rfl rfl (by kernel_rfl) (by kernel_rfl) (by kernel_rfl) (fun _ _ _ h => h) (Or.inl ⟨by rfl, ?_⟩) (by assumption) ?_
  rotate_left
  · intro w hSw
    obtain ⟨hSb, z0, z1, z2, z3⟩ := hSw
    first | (go_simp; done) | (go_simp; with_reducible rfl)
  try simp only [Act.put, List.setIfInBounds_toArray, List.set_cons_zero, List.set_cons_succ]
  refine wpAnyH_ready (rs := [0]) (by kernel_rfl) (by simp) ?_
  refine AllReadyH.cons rfl (fun K hK => ?_) AllReadyH.nil
  go_simp
  refine hK.out _ _ ?_ (fun hHeld2 => ?_)
  · exact HSK.out _ (ride_alloc hHeld.1 _)
  clear hK K hHeld
  have hHeld := hHeld2
  clear hHeld2
  try simp only [Act.put, List.setIfInBounds_toArray, List.set_cons_zero, List.set_cons_succ]
  have hW0 := wtr_new wk.drew
  refine wpAnyH_ready (rs := [3]) (by kernel_rfl) (by simp) ?_
  refine AllReadyH.cons rfl (fun K hK => ?_) AllReadyH.nil
  go_simp
  refine (unhide (HBY _ _ _ hW0 (by simp) (by simp))).mono ?_
  rintro e x1 ⟨rfl, u1, hW1, hc1, hg1⟩
  have hs1 := wtr_below hW0 hc1 hHeld.1 hHeld.1.size (Nat.le_refl _) (Nat.le_refl _)
  have hz1 := hs1.size
  refine hK.out _ _ ?_ (fun hHeld2 => ?_)
  · exact HSK.out _ hs1
  clear hK K hHeld
  have hHeld := hHeld2
  clear hHeld2
  try simp only [Act.put, List.setIfInBounds_toArray, List.set_cons_zero, List.set_cons_succ]
  refine wpAnyH_ready (rs := [6]) (by kernel_rfl) (by simp) ?_
  refine AllReadyH.cons rfl (fun K hK => ?_) AllReadyH.nil
  go_simp
  refine (unhide (HNA _ _ _ hW1 (by simp) hz1)).mono ?_
  rintro e x2 ⟨rfl, u2, hW2, hc2, hg2⟩
  have hs2 := wtr_below hW1 hc2 hHeld.1 hHeld.1.size (Nat.le_refl _) (Nat.le_refl _)
  have hz2 := hs2.size
  refine hK.out _ _ ?_ (fun hHeld2 => ?_)
  · exact HSK.out _ hs2
  clear hK K hHeld
  have hHeld := hHeld2
  clear hHeld2
  try simp only [Act.put, List.setIfInBounds_toArray, List.set_cons_zero, List.set_cons_succ]
  refine wpAnyH_ready (rs := [9]) (by kernel_rfl) (by simp) ?_
  refine AllReadyH.cons rfl (fun K hK => ?_) AllReadyH.nil
  go_simp
  refine (unhide (HNB _ _ _ hW2 (by simp; omega) hz2)).mono ?_
  rintro e x3 ⟨rfl, u3, hW3, hc3, hg3⟩
  have hs3 := wtr_below hW2 hc3 hHeld.1 hHeld.1.size (Nat.le_refl _) (Nat.le_refl _)
  have hz3 := hs3.size
  refine hK.out _ _ ?_ (fun hHeld2 => ?_)
  · exact HSK.out _ hs3
  clear hK K hHeld
  have hHeld := hHeld2
  clear hHeld2
  try simp only [Act.put, List.setIfInBounds_toArray, List.set_cons_zero, List.set_cons_succ]
  refine wpAnyH_ready (rs := [12]) (by kernel_rfl) (by simp) ?_
  refine AllReadyH.cons rfl (fun K hK => ?_) AllReadyH.nil
  go_simp
  refine (unhide (HTX _ _ _ hW3 (by simp; omega) hz3)).mono ?_
  rintro e x4 ⟨rfl, u4, hW4, hc4, hg4⟩
  have hs4 := wtr_below hW3 hc4 hHeld.1 hHeld.1.size (Nat.le_refl _) (Nat.le_refl _)
  have hz4 := hs4.size
  refine hK.out _ _ ?_ (fun hHeld2 => ?_)
  · exact HSK.out _ hs4
  clear hK K hHeld
  have hHeld := hHeld2
  clear hHeld2
  try simp only [Act.put, List.setIfInBounds_toArray, List.set_cons_zero, List.set_cons_succ]
  refine wpAnyH_ready (rs := [13]) (by kernel_rfl) (by simp) ?_
  refine AllReadyH.cons rfl (fun K hK => ?_) AllReadyH.nil
  go_simp
  refine (unhide (HBB _ _ _ hW4 (by simp [str_length]; omega))).mono ?_
  rintro e x5 ⟨A5, n5, c5, rfl, hM5, hb5⟩
  refine hK.out _ _ ?_ (fun hHeld2 => ?_)
  · exact HSK.out _ (ridec hb5 hHeld.1)
  clear hK K hHeld
  have hHeld := hHeld2
  clear hHeld2
  try simp only [Act.put, List.setIfInBounds_toArray, List.set_cons_zero, List.set_cons_succ]
  refine take_at (i := 14) (v := ?_) (some 2) rfl rfl (by kernel_rfl) (by kernel_rfl) (by kernel_rfl) (fun _ _ _ h => h) (Or.inl ⟨by rfl, ?_⟩) (by assumption) ?_
  rotate_left
  · intro w hSw
    obtain ⟨hSb, z0, z1, z2, z3⟩ := hSw
    first | (go_simp; done) | (go_simp; with_reducible rfl)
  try simp only [Act.put, List.setIfInBounds_toArray, List.set_cons_zero, List.set_cons_succ]
  refine wpAnyH_done (by kernel_rfl) ?_ _
  refine NoPanic.normal ?_
  have hfin := HKB.out _ hHeld.1
  have hbyt := hM5.bytes
  clear hHeld
  go_wp2
  go_ret
  refine ⟨_, rfl, ?_, hfin⟩
  rw [← HEQ.out]
  exact hbyt
end Go.Proofs.YtblchmcnbcfaaaaDoor
