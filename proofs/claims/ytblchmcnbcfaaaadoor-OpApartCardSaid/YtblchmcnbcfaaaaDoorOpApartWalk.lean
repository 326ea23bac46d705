/- The walk of OpApart. -/
import Derived.Test.YtblchmcnbcfaaaaDoorOwn
import Derived.Test.YtblchmcnbcfaaaaDoorOBytes
import Derived.Test.YtblchmcnbcfaaaaDoorTpSame
namespace Go.Proofs.YtblchmcnbcfaaaaDoor
open Go.RowKit
set_option linter.unusedVariables false
set_option linter.unusedSimpArgs false
theorem boxes2 {w x : World} {v0 v1 v2 v3 u0 u1 u2 u3 : Value} {t : TypeId} (h : Below ((w.alloc (.cells #[v0, v1, v2, v3] t)).alloc (.cells #[u0, u1, u2, u3] t)).heap.size ((w.alloc (.cells #[v0, v1, v2, v3] t)).alloc (.cells #[u0, u1, u2, u3] t)) x) :
    x.cell? ⟨w.heap.size, 0, none⟩ = some v0 ∧ x.cell? ⟨w.heap.size, 1, none⟩ = some v1 ∧ x.cell? ⟨w.heap.size, 2, none⟩ = some v2 ∧ x.cell? ⟨w.heap.size, 3, none⟩ = some v3 ∧ x.cell? ⟨w.heap.size + 1, 0, none⟩ = some u0 ∧ x.cell? ⟨w.heap.size + 1, 1, none⟩ = some u1 ∧ x.cell? ⟨w.heap.size + 1, 2, none⟩ = some u2 ∧ x.cell? ⟨w.heap.size + 1, 3, none⟩ = some u3 := by
  have e : (w.alloc (.cells #[v0, v1, v2, v3] t)).heap.size = w.heap.size + 1 := by simp
  obtain ⟨y0, y1, y2, y3⟩ := box4 h
  rw [e] at y0 y1 y2 y3
  obtain ⟨z0, z1, z2, z3⟩ := box4 (ridec h ((Below.refl _ _).alloc (Nat.le_refl _) _))
  exact ⟨z0, z1, z2, z3, y0, y1, y2, y3⟩
theorem joinO_byte : ∀ xs : List (List Nat), (∀ x ∈ xs, ∀ b ∈ x, b < 256) → ∀ b ∈ joinT xs, b < 256
  | [], _, b, hb => by simp [joinT] at hb
  | [x], h, b, hb => h x (by simp) b hb
  | x :: y :: r, h, b, hb => by
    have hb2 : b ∈ x ++ 32 :: joinT (y :: r) := hb
    rcases List.mem_append.1 hb2 with h1 | h1
    · exact h x (by simp) b h1
    · rcases List.mem_cons.1 h1 with rfl | h1
      · omega
      · exact joinO_byte (y :: r) (fun z hz => h z (List.mem_cons_of_mem _ hz)) b h1
theorem apart_eq (k a b : Nat) (s : ByteArray) (k2 a2 b2 : Nat) (s2 : ByteArray) (ha : a < 18446744073709551616) (hb : b < 18446744073709551616) (ha2 : a2 < 18446744073709551616) (hb2 : b2 < 18446744073709551616) (hr : rightO k a b (str s) = true) (hr2 : rightO k2 a2 b2 (str s2) = true) :
    decide (bytesO k a b (str s) = bytesO k2 a2 b2 (str s2)) = opEq k a b s k2 a2 b2 s2 ∧ ((ba (textO k a b (str s))).toList == (ba (textO k2 a2 b2 (str s2))).toList) = opEq k a b s k2 a2 b2 s2 := by
  have tb : ∀ {k a b : Nat} {s : ByteArray}, rightO k a b (str s) = true → ∀ x ∈ textO k a b (str s), x < 256 := fun {k a b s} h x hx => by
    have hk := rightO_kind h
    have hp : ∀ p ∈ partsO k a b (str s), ∀ y ∈ p, y < 256 := by
      intro p hp y hy
      unfold partsO optL at hp
      rcases List.mem_cons.1 hp with rfl | hp
      · exact word_byte k hk.2 y hy
      · rcases List.mem_append.1 hp with hp | hp
        · rcases List.mem_append.1 hp with hp | hp
          · split at hp
            · simp at hp; subst hp; exact decL_byte a y hy
            · simp at hp
          · split at hp
            · simp at hp; subst hp; exact decL_byte b y hy
            · simp at hp
        · split at hp
          · simp at hp; subst hp; exact str_small s y hy
          · simp at hp
    exact joinO_byte _ hp x hx
  rcases h : opEq k a b s k2 a2 b2 s2 with _ | _
  · have hne : ¬ (k = k2 ∧ a = a2 ∧ b = b2 ∧ s = s2) := fun e => by rw [opEq_iff.2 e] at h; cases h
    constructor
    · refine decide_eq_false fun e => hne ?_
      obtain ⟨e1, e2, e3, e4⟩ := bytesO_inj (rightO_len hr) (rightO_len hr2) ha hb ha2 hb2 e
      exact ⟨e1, e2, e3, str_inj e4⟩
    · refine toL_ne fun e => hne ?_
      have e0 : textO k a b (str s) = textO k2 a2 b2 (str s2) := by
        rw [← str_ba (tb hr), ← str_ba (tb hr2), e]
      obtain ⟨e1, e2, e3, e4⟩ := textO_inj hr hr2 ha hb ha2 hb2 e0
      exact ⟨e1, e2, e3, str_inj e4⟩
  · obtain ⟨rfl, rfl, rfl, rfl⟩ := opEq_iff.1 h
    exact ⟨decide_eq_true rfl, beq_self_eq_true _⟩
set_option maxRecDepth 100000 in
set_option maxHeartbeats 4000000 in
theorem aparts_core (w : World) (k a b : Nat) (s : ByteArray) (k2 a2 b2 : Nat) (s2 : ByteArray) (hk : k < 256) (hs : s.size ≤ 9223372036854775807) (ha : a < 18446744073709551616) (hb : b < 18446744073709551616)
    (hk2 : k2 < 256) (hs2 : s2.size ≤ 9223372036854775807) (ha2 : a2 < 18446744073709551616) (hb2 : b2 < 18446744073709551616) (hv : Vo w) :
    Calls Tryd.prog 6 #[opV k a b s, opV k2 a2 b2 s2] w fun e w' => e = .returned (.bool true) ∧ Below w.heap.size w w' := by
  have HAW := fun (x : World) (h : Below w.heap.size w x) => hide (opawake x (hv.below h))
  have HO1 := fun (x : World) => hide (own_any x k a b s)
  have HO2 := fun (x : World) => hide (own_any x k2 a2 b2 s2)
  have HR1 := fun (x : World) => hide (rright_any x k a b s hk hs)
  have HR2 := fun (x : World) => hide (rright_any x k2 a2 b2 s2 hk2 hs2)
  have HQ := fun (W : World) => eql_op W k a b s k2 a2 b2 s2
  rcases hr : rightO k a b (str s) with _ | _
  · rw [hr] at HR1
    clear hr hv
    unfold opV at *
    have HBX0 := Lib.hid (show Below w.heap.size w ((w.alloc (.cells #[.int .u8 (k : Int), .int .u64 (a : Int), .int .u64 (b : Int), .string s] 33)).alloc (.cells #[.int .u8 (k2 : Int), .int .u64 (a2 : Int), .int .u64 (b2 : Int), .string s2] 33)) from ((Below.refl _ _).alloc (Nat.le_refl _) _).alloc (by simp) _)
    go_enter Tryd.func6, Tryd.ntmps6
    go_wp2_with (first
      | (go_at_call 7; (with_reducible refine (unhide (HAW _ (ridec (Below.refl _ _) HBX0.out))).mono ?_); rintro e w1 ⟨rfl, hb1⟩; go_loud (
          have HBX := Lib.hid hb1;
          obtain ⟨z0, z1, z2, z3, y0, y1, y2, y3⟩ := boxes2 hb1;
          clear hb1))
      | (go_at_call 15; (with_reducible refine (unhide (HO1 _)).mono ?_); rintro e w2 ⟨rfl, hb2⟩; go_loud (
          have HBX := Lib.hid (HBX.out.trans (hb2.mono HBX.out.size));
          obtain ⟨z0, z1, z2, z3, y0, y1, y2, y3⟩ := boxes2 HBX.out;
          clear hb2))
      | (go_at_call 15; (with_reducible refine (unhide (HO2 _)).mono ?_); rintro e w2 ⟨rfl, hb2⟩; go_loud (
          have HBX := Lib.hid (HBX.out.trans (hb2.mono HBX.out.size));
          obtain ⟨z0, z1, z2, z3, y0, y1, y2, y3⟩ := boxes2 HBX.out;
          clear hb2))
      | (go_at_call 14; (with_reducible refine (unhide (HR1 _)).mono ?_); rintro e w3 ⟨rfl, hb3⟩; go_loud (
          have HBX := Lib.hid (HBX.out.trans (hb3.mono HBX.out.size));
          obtain ⟨z0, z1, z2, z3, y0, y1, y2, y3⟩ := boxes2 HBX.out;
          clear hb3))
      | (go_at_call 14; (with_reducible refine (unhide (HR2 _)).mono ?_); rintro e w3 ⟨rfl, hb3⟩; go_loud (
          have HBX := Lib.hid (HBX.out.trans (hb3.mono HBX.out.size));
          obtain ⟨z0, z1, z2, z3, y0, y1, y2, y3⟩ := boxes2 HBX.out;
          clear hb3)))
    all_goals (go_ret; exact ⟨rfl, ridec HBX.out HBX0.out⟩)
  · rcases hr2 : rightO k2 a2 b2 (str s2) with _ | _
    · rw [hr2] at HR2
      clear hr hr2 hv
      unfold opV at *
      have HBX0 := Lib.hid (show Below w.heap.size w ((w.alloc (.cells #[.int .u8 (k : Int), .int .u64 (a : Int), .int .u64 (b : Int), .string s] 33)).alloc (.cells #[.int .u8 (k2 : Int), .int .u64 (a2 : Int), .int .u64 (b2 : Int), .string s2] 33)) from ((Below.refl _ _).alloc (Nat.le_refl _) _).alloc (by simp) _)
      go_enter Tryd.func6, Tryd.ntmps6
      go_wp2_with (first
        | (go_at_call 7; (with_reducible refine (unhide (HAW _ (ridec (Below.refl _ _) HBX0.out))).mono ?_); rintro e w1 ⟨rfl, hb1⟩; go_loud (
            have HBX := Lib.hid hb1;
            obtain ⟨z0, z1, z2, z3, y0, y1, y2, y3⟩ := boxes2 hb1;
            clear hb1))
        | (go_at_call 15; (with_reducible refine (unhide (HO1 _)).mono ?_); rintro e w2 ⟨rfl, hb2⟩; go_loud (
            have HBX := Lib.hid (HBX.out.trans (hb2.mono HBX.out.size));
            obtain ⟨z0, z1, z2, z3, y0, y1, y2, y3⟩ := boxes2 HBX.out;
            clear hb2))
        | (go_at_call 15; (with_reducible refine (unhide (HO2 _)).mono ?_); rintro e w2 ⟨rfl, hb2⟩; go_loud (
            have HBX := Lib.hid (HBX.out.trans (hb2.mono HBX.out.size));
            obtain ⟨z0, z1, z2, z3, y0, y1, y2, y3⟩ := boxes2 HBX.out;
            clear hb2))
        | (go_at_call 14; (with_reducible refine (unhide (HR1 _)).mono ?_); rintro e w3 ⟨rfl, hb3⟩; go_loud (
            have HBX := Lib.hid (HBX.out.trans (hb3.mono HBX.out.size));
            obtain ⟨z0, z1, z2, z3, y0, y1, y2, y3⟩ := boxes2 HBX.out;
            clear hb3))
        | (go_at_call 14; (with_reducible refine (unhide (HR2 _)).mono ?_); rintro e w3 ⟨rfl, hb3⟩; go_loud (
            have HBX := Lib.hid (HBX.out.trans (hb3.mono HBX.out.size));
            obtain ⟨z0, z1, z2, z3, y0, y1, y2, y3⟩ := boxes2 HBX.out;
            clear hb3)))
      all_goals (go_ret; exact ⟨rfl, ridec HBX.out HBX0.out⟩)
    · obtain ⟨hsm, htx⟩ := apart_eq k a b s k2 a2 b2 s2 ha hb ha2 hb2 hr hr2
      obtain ⟨q, hq⟩ : ∃ q : Bool, opEq k a b s k2 a2 b2 s2 = q := ⟨_, rfl⟩
      rw [hq] at hsm htx HQ
      clear hq
      have HBO := fun (x : World) (h : Below w.heap.size w x) => hide (obytes_good x k a b s hk hs ha hb (hv.below h) hr)
      have HBP := fun (x : World) (h : Below w.heap.size w x) => hide (obytes_good x k2 a2 b2 s2 hk2 hs2 ha2 hb2 (hv.below h) hr2)
      have HTO := fun (x : World) (h : Below w.heap.size w x) => hide (text_good x k a b s hk hs ha hb (hv.below h) hr)
      have HTP := fun (x : World) (h : Below w.heap.size w x) => hide (text_good x k2 a2 b2 s2 hk2 hs2 ha2 hb2 (hv.below h) hr2)
      have HSM := fun (x : World) (v u : Value) (h1 : Bytes x x.heap.size v (bytesO k a b (str s))) (h2 : Bytes x x.heap.size u (bytesO k2 a2 b2 (str s2))) => same_any x v u _ _ h1 h2
      rw [hsm] at HSM
      rw [hr] at HR1
      rw [hr2] at HR2
      clear hr hr2 hv hsm
      unfold opV at *
      have HBX0 := Lib.hid (show Below w.heap.size w ((w.alloc (.cells #[.int .u8 (k : Int), .int .u64 (a : Int), .int .u64 (b : Int), .string s] 33)).alloc (.cells #[.int .u8 (k2 : Int), .int .u64 (a2 : Int), .int .u64 (b2 : Int), .string s2] 33)) from ((Below.refl _ _).alloc (Nat.le_refl _) _).alloc (by simp) _)
      go_enter Tryd.func6, Tryd.ntmps6
      go_wp2_with (first
        | (go_at_call 7; (with_reducible refine (unhide (HAW _ (ridec (Below.refl _ _) HBX0.out))).mono ?_); rintro e w1 ⟨rfl, hb1⟩; go_loud (
            have HBX := Lib.hid hb1;
            obtain ⟨z0, z1, z2, z3, y0, y1, y2, y3⟩ := boxes2 hb1;
            clear hb1))
        | (go_at_call 15; (with_reducible refine (unhide (HO1 _)).mono ?_); rintro e w2 ⟨rfl, hb2⟩; go_loud (
            have HBX := Lib.hid (HBX.out.trans (hb2.mono HBX.out.size));
            obtain ⟨z0, z1, z2, z3, y0, y1, y2, y3⟩ := boxes2 HBX.out;
            clear hb2))
        | (go_at_call 15; (with_reducible refine (unhide (HO2 _)).mono ?_); rintro e w2 ⟨rfl, hb2⟩; go_loud (
            have HBX := Lib.hid (HBX.out.trans (hb2.mono HBX.out.size));
            obtain ⟨z0, z1, z2, z3, y0, y1, y2, y3⟩ := boxes2 HBX.out;
            clear hb2))
        | (go_at_call 14; (with_reducible refine (unhide (HR1 _)).mono ?_); rintro e w3 ⟨rfl, hb3⟩; go_loud (
            have HBX := Lib.hid (HBX.out.trans (hb3.mono HBX.out.size));
            obtain ⟨z0, z1, z2, z3, y0, y1, y2, y3⟩ := boxes2 HBX.out;
            clear hb3))
        | (go_at_call 14; (with_reducible refine (unhide (HR2 _)).mono ?_); rintro e w3 ⟨rfl, hb3⟩; go_loud (
            have HBX := Lib.hid (HBX.out.trans (hb3.mono HBX.out.size));
            obtain ⟨z0, z1, z2, z3, y0, y1, y2, y3⟩ := boxes2 HBX.out;
            clear hb3)))
      obtain ⟨wk, hwk⟩ : ∃ wk, wk = w3 := ⟨_, rfl⟩
      rw [← hwk]
      have HSK := Lib.hid (show ∀ x, Below wk.heap.size wk x → (Below wk.heap.size wk x ∧ x.cell? ⟨w.heap.size, 0, none⟩ = some (.int .u8 (k : Int)) ∧ x.cell? ⟨w.heap.size, 1, none⟩ = some (.int .u64 (a : Int)) ∧ x.cell? ⟨w.heap.size, 2, none⟩ = some (.int .u64 (b : Int)) ∧ x.cell? ⟨w.heap.size, 3, none⟩ = some (.string s) ∧ x.cell? ⟨w.heap.size + 1, 0, none⟩ = some (.int .u8 (k2 : Int)) ∧ x.cell? ⟨w.heap.size + 1, 1, none⟩ = some (.int .u64 (a2 : Int)) ∧ x.cell? ⟨w.heap.size + 1, 2, none⟩ = some (.int .u64 (b2 : Int)) ∧ x.cell? ⟨w.heap.size + 1, 3, none⟩ = some (.string s2)) from fun x hx => by
        obtain ⟨z0, z1, z2, z3, y0, y1, y2, y3⟩ := boxes2 (HBX.out.trans (Below.mono (by rw [hwk] at hx; exact hx) HBX.out.size))
        exact ⟨hx, z0, z1, z2, z3, y0, y1, y2, y3⟩)
      have HKB := Lib.hid (show ∀ x, Below wk.heap.size wk x → Below w.heap.size w x from fun x hx => ridec hx (by rw [hwk]; exact ridec HBX.out HBX0.out))
      clear hwk z0 z1 z2 z3 y0 y1 y2 y3
      refine wp_region_noPanic ?_
      refine wp_region_held_drew (S := fun x => Below wk.heap.size wk x ∧ x.cell? ⟨w.heap.size, 0, none⟩ = some (.int .u8 (k : Int)) ∧ x.cell? ⟨w.heap.size, 1, none⟩ = some (.int .u64 (a : Int)) ∧ x.cell? ⟨w.heap.size, 2, none⟩ = some (.int .u64 (b : Int)) ∧ x.cell? ⟨w.heap.size, 3, none⟩ = some (.string s) ∧ x.cell? ⟨w.heap.size + 1, 0, none⟩ = some (.int .u8 (k2 : Int)) ∧ x.cell? ⟨w.heap.size + 1, 1, none⟩ = some (.int .u64 (a2 : Int)) ∧ x.cell? ⟨w.heap.size + 1, 2, none⟩ = some (.int .u64 (b2 : Int)) ∧ x.cell? ⟨w.heap.size + 1, 3, none⟩ = some (.string s2)) (by kernel_rfl) (HSK.out _ (ride_drew (Below.refl _ _))) (fun hHeld => ?_)
      refine take_at (i := 0) (v := ?_) (some 17) rfl rfl (by kernel_rfl) (by kernel_rfl) (by kernel_rfl) (fun _ _ _ h => h) (Or.inl ⟨by rfl, ?_⟩) (by assumption) ?_
      rotate_left
      · intro w hSw
        obtain ⟨hSb, z0, z1, z2, z3, y0, y1, y2, y3⟩ := hSw
        first | (go_simp; done) | (go_simp; with_reducible rfl)
      try simp only [Act.put, List.setIfInBounds_toArray, List.set_cons_zero, List.set_cons_succ]
      refine take_at (i := 1) (v := ?_) (some 18) rfl rfl (by kernel_rfl) (by kernel_rfl) (by kernel_rfl) (fun _ _ _ h => h) (Or.inl ⟨by rfl, ?_⟩) (by assumption) ?_
      rotate_left
      · intro w hSw
        obtain ⟨hSb, z0, z1, z2, z3, y0, y1, y2, y3⟩ := hSw
        first | (go_simp; done) | (go_simp; with_reducible rfl)
      try simp only [Act.put, List.setIfInBounds_toArray, List.set_cons_zero, List.set_cons_succ]
      refine take_at (i := 2) (v := ?_) (some 19) rfl rfl (by kernel_rfl) (by kernel_rfl) (by kernel_rfl) (fun _ _ _ h => h) (Or.inl ⟨by rfl, ?_⟩) (by assumption) ?_
      rotate_left
      · intro w hSw
        obtain ⟨hSb, z0, z1, z2, z3, y0, y1, y2, y3⟩ := hSw
        first | (go_simp; done) | (go_simp; with_reducible rfl)
      try simp only [Act.put, List.setIfInBounds_toArray, List.set_cons_zero, List.set_cons_succ]
      refine take_at (i := 3) (v := ?_) (some 20) rfl rfl (by kernel_rfl) (by kernel_rfl) (by kernel_rfl) (fun _ _ _ h => h) (Or.inl ⟨by rfl, ?_⟩) (by assumption) ?_
      rotate_left
      · intro w hSw
        obtain ⟨hSb, z0, z1, z2, z3, y0, y1, y2, y3⟩ := hSw
        first | (go_simp; done) | (go_simp; with_reducible rfl)
      try simp only [Act.put, List.setIfInBounds_toArray, List.set_cons_zero, List.set_cons_succ]
      refine take_at (i := 5) (v := ?_) (some 22) rfl rfl (by kernel_rfl) (by kernel_rfl) (by kernel_rfl) (fun _ _ _ h => h) (Or.inl ⟨by rfl, ?_⟩) (by assumption) ?_
      rotate_left
      · intro w hSw
        obtain ⟨hSb, z0, z1, z2, z3, y0, y1, y2, y3⟩ := hSw
        first | (go_simp; done) | (go_simp; with_reducible rfl)
      try simp only [Act.put, List.setIfInBounds_toArray, List.set_cons_zero, List.set_cons_succ]
      refine wpAnyH_ready (rs := [4]) (by kernel_rfl) (by simp) ?_
      refine AllReadyH.cons rfl (fun K hK => ?_) AllReadyH.nil
      go_simp
      refine (unhide (HBO _ (HKB.out _ hHeld.1))).mono ?_
      rintro e x1 ⟨v1, rfl, hB1, hb1⟩
      refine hK.out _ _ ?_ (fun hHeld2 => ?_)
      · exact HSK.out _ (ridec hb1 hHeld.1)
      clear hK K hHeld
      have hHeld := hHeld2
      clear hHeld2
      try simp only [Act.put, List.setIfInBounds_toArray, List.set_cons_zero, List.set_cons_succ]
      refine wpAnyH_ready (rs := [6]) (by kernel_rfl) (by simp) ?_
      refine AllReadyH.cons rfl (fun K hK => ?_) AllReadyH.nil
      go_simp
      refine (unhide (HBP _ (HKB.out _ hHeld.1))).mono ?_
      rintro e x2 ⟨v2, rfl, hB2, hb2⟩
      have hB12 := hB1.along hb2
      refine hK.out _ _ ?_ (fun hHeld2 => ?_)
      · exact HSK.out _ (ridec hb2 hHeld.1)
      clear hK K hHeld
      have hHeld := hHeld2
      clear hHeld2
      try simp only [Act.put, List.setIfInBounds_toArray, List.set_cons_zero, List.set_cons_succ]
      refine wpAnyH_ready (rs := [7]) (by kernel_rfl) (by simp) ?_
      refine AllReadyH.cons rfl (fun K hK => ?_) AllReadyH.nil
      go_simp
      refine (HSM _ _ _ hB12 hB2).mono ?_
      rintro e x3 ⟨rfl, nq, rfl⟩
      refine hK.out _ _ ?_ (fun hHeld2 => ?_)
      · exact HSK.out _ (below_drewN hHeld.1 nq)
      clear hK K hHeld
      have hHeld := hHeld2
      clear hHeld2
      try simp only [Act.put, List.setIfInBounds_toArray, List.set_cons_zero, List.set_cons_succ]
      refine take_at (i := 8) (v := ?_) (some 25) rfl rfl (by kernel_rfl) (by kernel_rfl) (by kernel_rfl) (fun _ _ _ h => h) (Or.inl ⟨by rfl, ?_⟩) (by assumption) ?_
      rotate_left
      · intro w hSw
        obtain ⟨hSb, z0, z1, z2, z3, y0, y1, y2, y3⟩ := hSw
        first | (go_simp; done) | (go_simp; with_reducible rfl)
      try simp only [Act.put, List.setIfInBounds_toArray, List.set_cons_zero, List.set_cons_succ]
      refine take_at (i := 9) (v := ?_) (some 26) rfl rfl (by kernel_rfl) (by kernel_rfl) (by kernel_rfl) (fun _ _ _ h => h) (Or.inl ⟨by rfl, ?_⟩) (by assumption) ?_
      rotate_left
      · intro w hSw
        obtain ⟨hSb, z0, z1, z2, z3, y0, y1, y2, y3⟩ := hSw
        first | (go_simp; done) | (go_simp; with_reducible rfl)
      try simp only [Act.put, List.setIfInBounds_toArray, List.set_cons_zero, List.set_cons_succ]
      refine take_at (i := 10) (v := ?_) (some 27) rfl rfl (by kernel_rfl) (by kernel_rfl) (by kernel_rfl) (fun _ _ _ h => h) (Or.inl ⟨by rfl, ?_⟩) (by assumption) ?_
      rotate_left
      · intro w hSw
        obtain ⟨hSb, z0, z1, z2, z3, y0, y1, y2, y3⟩ := hSw
        first | (go_simp; done) | (go_simp; with_reducible rfl)
      try simp only [Act.put, List.setIfInBounds_toArray, List.set_cons_zero, List.set_cons_succ]
      refine take_at (i := 11) (v := ?_) (some 28) rfl rfl (by kernel_rfl) (by kernel_rfl) (by kernel_rfl) (fun _ _ _ h => h) (Or.inl ⟨by rfl, ?_⟩) (by assumption) ?_
      rotate_left
      · intro w hSw
        obtain ⟨hSb, z0, z1, z2, z3, y0, y1, y2, y3⟩ := hSw
        first | (go_simp; done) | (go_simp; with_reducible rfl)
      try simp only [Act.put, List.setIfInBounds_toArray, List.set_cons_zero, List.set_cons_succ]
      refine take_at (i := 12) (v := ?_) (some 29) rfl rfl (by kernel_rfl) (by kernel_rfl) (by kernel_rfl) (fun _ _ _ h => h) (Or.inl ⟨by rfl, ?_⟩) (by assumption) ?_
      rotate_left
      · intro w hSw
        obtain ⟨hSb, z0, z1, z2, z3, y0, y1, y2, y3⟩ := hSw
        first | (go_simp; done) | (go_simp; with_reducible rfl)
      try simp only [Act.put, List.setIfInBounds_toArray, List.set_cons_zero, List.set_cons_succ]
      refine take_at (i := 13) (v := ?_) (some 30) rfl rfl (by kernel_rfl) (by kernel_rfl) (by kernel_rfl) (fun _ _ _ h => h) (Or.inl ⟨by rfl, ?_⟩) (by assumption) ?_
      rotate_left
      · intro w hSw
        obtain ⟨hSb, z0, z1, z2, z3, y0, y1, y2, y3⟩ := hSw
        first | (go_simp; done) | (go_simp; with_reducible rfl)
      try simp only [Act.put, List.setIfInBounds_toArray, List.set_cons_zero, List.set_cons_succ]
      refine take_at (i := 15) (v := ?_) (some 32) rfl rfl (by kernel_rfl) (by kernel_rfl) (by kernel_rfl) (fun _ _ _ h => h) (Or.inl ⟨by rfl, ?_⟩) (by assumption) ?_
      rotate_left
      · intro w hSw
        obtain ⟨hSb, z0, z1, z2, z3, y0, y1, y2, y3⟩ := hSw
        first | (go_simp; done) | (go_simp; with_reducible rfl)
      try simp only [Act.put, List.setIfInBounds_toArray, List.set_cons_zero, List.set_cons_succ]
      refine wpAnyH_ready (rs := [14]) (by kernel_rfl) (by simp) ?_
      refine AllReadyH.cons rfl (fun K hK => ?_) AllReadyH.nil
      go_simp
      refine (unhide (HTO _ (HKB.out _ hHeld.1))).mono ?_
      rintro e x4 ⟨rfl, hb4⟩
      refine hK.out _ _ ?_ (fun hHeld2 => ?_)
      · exact HSK.out _ (ridec hb4 hHeld.1)
      clear hK K hHeld
      have hHeld := hHeld2
      clear hHeld2
      try simp only [Act.put, List.setIfInBounds_toArray, List.set_cons_zero, List.set_cons_succ]
      refine wpAnyH_ready (rs := [16]) (by kernel_rfl) (by simp) ?_
      refine AllReadyH.cons rfl (fun K hK => ?_) AllReadyH.nil
      go_simp
      refine (unhide (HTP _ (HKB.out _ hHeld.1))).mono ?_
      rintro e x5 ⟨rfl, hb5⟩
      refine hK.out _ _ ?_ (fun hHeld2 => ?_)
      · exact HSK.out _ (ridec hb5 hHeld.1)
      clear hK K hHeld
      have hHeld := hHeld2
      clear hHeld2
      try simp only [Act.put, List.setIfInBounds_toArray, List.set_cons_zero, List.set_cons_succ]
      refine take_at (i := 17) (v := ?_) (some 34) rfl rfl (by kernel_rfl) (by kernel_rfl) (by kernel_rfl) (fun _ _ _ h => h) (Or.inl ⟨by rfl, ?_⟩) (by assumption) ?_
      rotate_left
      · intro w hSw
        obtain ⟨hSb, z0, z1, z2, z3, y0, y1, y2, y3⟩ := hSw
        first | (go_simp; done) | (go_simp; with_reducible rfl)
      try simp only [Act.put, List.setIfInBounds_toArray, List.set_cons_zero, List.set_cons_succ]
      refine take_at (i := 18) (v := ?_) (some 35) rfl rfl (by kernel_rfl) (by kernel_rfl) (by kernel_rfl) (fun _ _ _ h => h) (Or.inl ⟨by rfl, ?_⟩) (by assumption) ?_
      rotate_left
      · intro w hSw
        obtain ⟨hSb, z0, z1, z2, z3, y0, y1, y2, y3⟩ := hSw
        first | (go_simp; done) | (go_simp; with_reducible rfl)
      try simp only [Act.put, List.setIfInBounds_toArray, List.set_cons_zero, List.set_cons_succ]
      refine take_at (i := 19) (v := ?_) (some 36) rfl rfl (by kernel_rfl) (by kernel_rfl) (by kernel_rfl) (fun _ _ _ h => h) (Or.inl ⟨by rfl, ?_⟩) (by assumption) ?_
      rotate_left
      · intro w hSw
        obtain ⟨hSb, z0, z1, z2, z3, y0, y1, y2, y3⟩ := hSw
        first | (go_simp; done) | (go_simp; with_reducible rfl)
      try simp only [Act.put, List.setIfInBounds_toArray, List.set_cons_zero, List.set_cons_succ]
      refine take_at (i := 20) (v := ?_) (some 4) rfl rfl (by kernel_rfl) (by kernel_rfl) (by kernel_rfl) (fun _ _ _ h => h) (Or.inl ⟨by rfl, ?_⟩) (by assumption) ?_
      rotate_left
      · intro w hSw
        obtain ⟨hSb, z0, z1, z2, z3, y0, y1, y2, y3⟩ := hSw
        first | (go_simp; done) | (go_simp; with_reducible rfl)
      try simp only [Act.put, List.setIfInBounds_toArray, List.set_cons_zero, List.set_cons_succ]
      refine wpAnyH_done (by kernel_rfl) ?_ _
      refine NoPanic.normal ?_
      have hfin := HKB.out _ hHeld.1
      clear hHeld
      go_wp2
      go_ret
      exact ⟨rfl, hfin⟩
end Go.Proofs.YtblchmcnbcfaaaaDoor
