/- OText, OBytes: joined by program (tools/merge.py). -/
import Derived.Test.YtfnobibjphnmdaaGreatDoorORight
import Derived.Test.YtfnobibjphnmdaaGreatDoorKJoin
import Derived.Test.YtfnobibjphnmdaaGreatDoorKToks
import Derived.Test.YtfnobibjphnmdaaGreatDoorTpWtr
namespace Go.Proofs.YtfnobibjphnmdaaGreatDoor
open Go.RowKit
set_option linter.unusedVariables false
set_option linter.unusedSimpArgs false
def PRow (w : World) (base : Nat) (v : Value) (xs : List ByteArray) : Prop := w.ownsRow base 9 1 v xs.length (xs.map Value.string)
theorem PRow.below {w w' : World} {base : Nat} {v : Value} {xs : List ByteArray} (h : PRow w base v xs) (hb : Below w.heap.size w w') : PRow w' base v xs := ownsRow_below h hb
theorem PRow.alloc {w : World} {base : Nat} {v : Value} {xs : List ByteArray} (h : PRow w base v xs) (o : Obj) : PRow (w.alloc o) base v xs := World.ownsRow.alloc h o
theorem prow_one (w : World) (base : Nat) (s : ByteArray) (hb : base ≤ w.heap.size) : PRow (w.alloc (.cells #[.string s] 9)) base (.slice (some ⟨w.heap.size, 0, none⟩) 1 1) [s] :=
  ⟨rfl, .inr ⟨w.heap.size, 1, #[.string s], rfl, hb, by show (w.heap.push _)[_]? = _; simp, Nat.le_refl _, by unfold maxLen; omega, rfl, rfl⟩⟩
theorem info_str : ∃ i, Tryz.prog.info? 9 = some i ∧ i.zero = some (.string ⟨#[]⟩) ∧ i.size = 1 ∧ i.bytes = 16 := info_tok (by kernel_rfl)
theorem join_row (w : World) (base : Nat) (v : Value) (xs : List ByteArray) (h1 : 1 ≤ xs.length) (h8 : xs.length ≤ 8) (h : PRow w base v xs) (hlen : (joinT (xs.map str)).length ≤ 1000000) :
    Calls Tryz.prog 31 #[v, .string ⟨#[32]⟩] w fun e w' => e = .returned (.string (ba (joinT (xs.map str)))) ∧ Below w.heap.size w w' := by
  obtain ⟨hl, hv | ⟨g, cap, cur, rfl, hb, hg, hc, hm, hsz, ht⟩⟩ := id h
  · exfalso; have := hv.2; omega
  · have hlt := lt_of_heap hg
    have hj := lib_join xs
    have hlen2 : (Lib.join (xs.map (·.data.toList)) [32]).length ≤ 140737488355328 := by
      have h2 := congrArg ByteArray.size hj
      have h3 : (ba (joinT (xs.map str))).size = (joinT (xs.map str)).length := by
        unfold ba
        show ((joinT (xs.map str)).map UInt8.ofNat).toArray.size = _
        simp
      rw [h3] at h2
      have h4 : (⟨(Lib.join (xs.map (·.data.toList)) [32]).toArray⟩ : ByteArray).size = (Lib.join (xs.map (·.data.toList)) [32]).length := by
        show (Lib.join (xs.map (·.data.toList)) [32]).toArray.size = _
        simp
      omega
    have HJ := joins_any w g xs.length cap xs rfl (fun j x hx => by
      have hj : j < xs.length * 1 := by
        rcases Nat.lt_or_ge j (xs.length * 1) with h5 | h5
        · exact h5
        · rw [List.getElem?_eq_none (by omega)] at hx; cases hx
      rw [World.ownsRow.cellAt h j hj, List.getElem?_map, hx]
      rfl) hlt hc (by omega) hlen2
    rw [hj] at HJ
    exact HJ
theorem boxlt {w x : World} {o : Obj} (h : Below (w.alloc o).heap.size (w.alloc o) x) : w.heap.size < x.heap.size := by
  have := h.size
  simp at this
  omega
theorem box_grown {w x y : World} {o o2 : Obj} {row : Option Nat} (h : Below (w.alloc o).heap.size (w.alloc o) x) (hg : (x.alloc o2).grownBy y row) (hr : ∀ g, row = some g → w.heap.size + 1 ≤ g) : Below (w.alloc o).heap.size (w.alloc o) y :=
  (h.alloc h.size o2).grown hg (h.alloc h.size o2).size fun g e => by have := hr g e; simp; omega
theorem opcells {w x : World} {v0 v1 v2 v3 : Value} {t : TypeId} (h : Below (w.alloc (.cells #[v0, v1, v2, v3] t)).heap.size (w.alloc (.cells #[v0, v1, v2, v3] t)) x) : Below w.heap.size w x := ridec h ((Below.refl _ _).alloc (Nat.le_refl _) _)
theorem aK_no {k : Nat} (h : aK k = false) : k = 10 := by simpa [aK] using h
theorem decL_20 {u : Nat} (hu : u < 18446744073709551616) : (decL u).length ≤ 20 := by
  unfold decL
  rw [List.length_map, Lib.decDigits_length]
  rcases Nat.lt_or_ge u 1 with h | h
  · obtain rfl : u = 0 := by omega
    have := congrArg List.length (decL_small (u := 0) (by omega))
    unfold decL at this
    rw [List.length_map, Lib.decDigits_length] at this
    simp at this
    omega
  · have := Lib.numDigits_eq u h hu
    split at this <;> omega
theorem word_len : ∀ k, k ≤ 14 → (wordK k).length ≤ 13 := by decide
theorem word_byte : ∀ k, k ≤ 14 → ∀ b ∈ wordK k, b < 256 := by decide
theorem joinT_le : ∀ (ps : List (List Nat)) (n : Nat), (∀ p ∈ ps, p.length ≤ n) → (joinT ps).length ≤ ps.length * (n + 1)
  | [], n, _ => by simp [joinT]
  | [x], n, h => by
    have := h x (by simp)
    simp only [joinT, List.length_cons, List.length_nil]
    omega
  | x :: y :: r, n, h => by
    have h1 := h x (by simp)
    have h2 := joinT_le (y :: r) n fun p hp => h p (List.mem_cons_of_mem _ hp)
    simp only [joinT, List.length_append, List.length_cons] at h2 ⊢
    rw [Nat.add_mul, Nat.one_mul]
    omega
theorem textO_len {k a b : Nat} {s : List Nat} (hr : rightO k a b s = true) (ha : a < 18446744073709551616) (hb : b < 18446744073709551616) : (textO k a b s).length ≤ 260 := by
  have hk := rightO_kind hr
  have hs := rightO_len hr
  have h1 := decL_20 ha
  have h2 := decL_20 hb
  have h3 := word_len k hk.2
  have h4 := partsO_len (k := k) (a := a) (b := b) (s := s)
  refine Nat.le_trans (joinT_le _ 64 ?_) (by omega)
  intro p hp
  unfold partsO optL at hp
  rcases List.mem_cons.1 hp with rfl | hp
  · omega
  · rcases List.mem_append.1 hp with hp | hp
    · rcases List.mem_append.1 hp with hp | hp
      · split at hp
        · simp at hp; subst hp; omega
        · simp at hp
      · split at hp
        · simp at hp; subst hp; omega
        · simp at hp
    · split at hp
      · simp at hp; subst hp; exact hs
      · simp at hp
/-- What kinds there are: what each has. -/
def combo3 (a b n : Bool) : Bool := (a && !b) || (a && b) || (!a && !b && n)
theorem kinds_case : ∀ k, k ≤ 14 → combo3 (aK k) (bK k) (nK k) = true := by decide
theorem text_bad (w : World) (k a b : Nat) (s : ByteArray) (hk : k < 256) (hs : s.size ≤ 9223372036854775807) (hv : Vo w) (hr : rightO k a b (str s) = false) :
    Calls Tryz.prog 11 #[opV k a b s] w fun e w' => e = .returned (.string ⟨#[]⟩) ∧ Below w.heap.size w w' := by
  have HRT := fun (x : World) (h : Below w.heap.size w x) => hide (right_any x k a b s hk hs (hv.below h))
  rw [hr] at HRT
  unfold opV at *
  go_enter Tryz.func11, Tryz.ntmps11
  go_wp2_with (go_at_call 9; (with_reducible refine (unhide (HRT _ ((Below.refl _ _).alloc (Nat.le_refl _) _))).mono ?_); rintro e w1 ⟨rfl, hb1⟩; go_loud (
    have HB := Lib.hid (opcells hb1);
    clear hb1))
  go_ret
  exact ⟨rfl, HB.out⟩
set_option maxRecDepth 100000 in
set_option maxHeartbeats 4000000 in
theorem text_good0 (w : World) (k a b : Nat) (s : ByteArray) (hk : k < 256) (hk14 : k ≤ 14) (hs : s.size ≤ 9223372036854775807) (ha : a < 18446744073709551616) (hb : b < 18446744073709551616) (hv : Vo w) (hr : rightO k a b (str s) = true) (hA : aK k = true) (hB : bK k = false) (hN : nK k = true) :
    Calls Tryz.prog 11 #[opV k a b s] w fun e w' => e = .returned (.string (ba (textO k a b (str s)))) ∧ Below w.heap.size w w' := by
  have HRT := fun (x : World) (h : Below w.heap.size w x) => hide (right_any x k a b s hk hs (hv.below h))
  rw [hr] at HRT
  unfold opV at *
  have HW := fun (x : World) (h : Below w.heap.size w x) => hide (word_any x k hk (hv.below h))
  have HA := fun (x : World) => hide (hasA_any x k hk)
  have HB := fun (x : World) => hide (hasB_any x k hk)
  have HN := fun (x : World) => hide (hasN_any x k hk)
  have HDA := fun (x : World) (h : Below w.heap.size w x) => hide (decimal_any x a ha (hv.below h))
  have HDB := fun (x : World) (h : Below w.heap.size w x) => hide (decimal_any x b hb (hv.below h))
  rw [hA] at HA
  rw [hB] at HB
  rw [hN] at HN
  obtain ⟨i0, hi0, h00, h01, h02⟩ := info_str
  have HI := Lib.hid hi0
  have H0 := Lib.hid h00
  have H1 := Lib.hid h01
  have H2 := Lib.hid h02
  clear hi0 h00 h01 h02 hv
  have hpt : joinT (([ba (wordK k), ba (decL a), s] : List ByteArray).map str) = textO k a b (str s) := by
    unfold textO partsO optL
    rw [hA, hB, hN]
    simp only [List.map_cons, List.map_nil, str_ba (word_byte k hk14), str_ba (decL_byte a)]
    rfl
  have HLEN := Lib.hid (show (joinT (([ba (wordK k), ba (decL a), s] : List ByteArray).map str)).length ≤ 1000000 by rw [hpt]; exact Nat.le_trans (textO_len hr ha hb) (by omega))
  have HPT := Lib.hid hpt
  clear hpt
  clear hA hB hN hr hk hs ha hb hk14
  go_enter Tryz.func11, Tryz.ntmps11
  go_wp2_with (first
    | (go_at_call 9; (with_reducible refine (unhide (HRT _ ((Below.refl _ _).alloc (Nat.le_refl _) _))).mono ?_); rintro e w1 ⟨rfl, hb1⟩; go_loud (
       have HBX := hide hb1;
       obtain ⟨z0, z1, z2, z3⟩ := box4 hb1;
       have hlt := boxlt hb1;
       clear hb1))
    | (go_at_call 18; (with_reducible refine (unhide (HW _ (opcells (unhide HBX)))).mono ?_); rintro e w2 ⟨rfl, rfl⟩)
    | (go_at_call 24; (with_reducible refine (unhide (HA _)).mono ?_); rintro e w2 ⟨rfl, rfl⟩)
    | (go_at_call 25; (with_reducible refine (unhide (HB _)).mono ?_); rintro e w2 ⟨rfl, rfl⟩)
    | (go_at_call 22; (with_reducible refine (unhide (HN _)).mono ?_); rintro e w2 ⟨rfl, rfl⟩)
    | (go_at_call 30; (with_reducible refine (unhide (HDA _ (opcells ((unhide HBX).alloc (unhide HBX).size _)))).mono ?_); rintro e w3 ⟨rfl, hb3⟩; go_loud (
       have HRW := hide ((prow_one _ (w.heap.size + 1) (ba (wordK k)) (boxlt (unhide HBX))).below hb3);
       have HBX := hide (ridec hb3 ((unhide HBX).alloc (unhide HBX).size _));
       obtain ⟨z0, z1, z2, z3⟩ := box4 (unhide HBX);
       have hlt := boxlt (unhide HBX);
       clear hb3))
    | (at_builtin; refine wpList_append_own _ rfl _ _ 57 rfl (w.heap.size + 1) 9 i0 (.string ⟨#[]⟩) 1 16 Tryz.underlying57 HI.out H0.out H1.out H2.out rfl (by decide) _ _ _ rfl ((unhide HRW).alloc _) ⟨_, 0, none⟩ 1 1 [.string (ba (decL a))] rfl rfl ?c1 ?c2 ?c3 ?c4 ?c5 ?_))
  case c1 => exact cell_one_new _ _
  case c2 => simp [Value.oneCell']
  case c3 => simp [maxLen]
  case c4 => simp
  case c5 => exact Nat.le_trans (boxlt (unhide HBX)) (by simp)
  intro v4 w4 hown4 hg4 _
  have HBX := hide (box_grown (unhide HBX) hg4 (fun g hg => (World.ownsRow.lt (unhide HRW) g hg).1))
  have HRW := hide (show PRow w4 (w.heap.size + 1) v4 [ba (wordK k), ba (decL a)] from hown4)
  clear hown4 hg4
  obtain ⟨z0, z1, z2, z3⟩ := box4 (unhide HBX)
  have hlt := boxlt (unhide HBX)
  go_wp2_with (first
    | (go_at_call 9; (with_reducible refine (unhide (HRT _ ((Below.refl _ _).alloc (Nat.le_refl _) _))).mono ?_); rintro e w1 ⟨rfl, hb1⟩; go_loud (
       have HBX := hide hb1;
       obtain ⟨z0, z1, z2, z3⟩ := box4 hb1;
       have hlt := boxlt hb1;
       clear hb1))
    | (go_at_call 18; (with_reducible refine (unhide (HW _ (opcells (unhide HBX)))).mono ?_); rintro e w2 ⟨rfl, rfl⟩)
    | (go_at_call 24; (with_reducible refine (unhide (HA _)).mono ?_); rintro e w2 ⟨rfl, rfl⟩)
    | (go_at_call 25; (with_reducible refine (unhide (HB _)).mono ?_); rintro e w2 ⟨rfl, rfl⟩)
    | (go_at_call 22; (with_reducible refine (unhide (HN _)).mono ?_); rintro e w2 ⟨rfl, rfl⟩)
    | (go_at_call 30; (with_reducible refine (unhide (HDA _ (opcells ((unhide HBX).alloc (unhide HBX).size _)))).mono ?_); rintro e w3 ⟨rfl, hb3⟩; go_loud (
       have HRW := hide ((prow_one _ (w.heap.size + 1) (ba (wordK k)) (boxlt (unhide HBX))).below hb3);
       have HBX := hide (ridec hb3 ((unhide HBX).alloc (unhide HBX).size _));
       obtain ⟨z0, z1, z2, z3⟩ := box4 (unhide HBX);
       have hlt := boxlt (unhide HBX);
       clear hb3))
    | (at_builtin; refine wpList_append_own _ rfl _ _ 57 rfl (w.heap.size + 1) 9 i0 (.string ⟨#[]⟩) 1 16 Tryz.underlying57 HI.out H0.out H1.out H2.out rfl (by decide) _ _ _ rfl ((unhide HRW).alloc _) ⟨_, 0, none⟩ 1 1 [.string (s)] rfl rfl ?c1 ?c2 ?c3 ?c4 ?c5 ?_))
  case c1 => exact cell_one_new _ _
  case c2 => simp [Value.oneCell']
  case c3 => simp [maxLen]
  case c4 => simp
  case c5 => exact Nat.le_trans (boxlt (unhide HBX)) (by simp)
  intro v4 w4 hown4 hg4 _
  have HBX := hide (box_grown (unhide HBX) hg4 (fun g hg => (World.ownsRow.lt (unhide HRW) g hg).1))
  have HRW := hide (show PRow w4 (w.heap.size + 1) v4 [ba (wordK k), ba (decL a), s] from hown4)
  clear hown4 hg4
  obtain ⟨z0, z1, z2, z3⟩ := box4 (unhide HBX)
  have hlt := boxlt (unhide HBX)
  go_wp2_with (first
    | (go_at_call 9; (with_reducible refine (unhide (HRT _ ((Below.refl _ _).alloc (Nat.le_refl _) _))).mono ?_); rintro e w1 ⟨rfl, hb1⟩; go_loud (
       have HBX := hide hb1;
       obtain ⟨z0, z1, z2, z3⟩ := box4 hb1;
       have hlt := boxlt hb1;
       clear hb1))
    | (go_at_call 18; (with_reducible refine (unhide (HW _ (opcells (unhide HBX)))).mono ?_); rintro e w2 ⟨rfl, rfl⟩)
    | (go_at_call 24; (with_reducible refine (unhide (HA _)).mono ?_); rintro e w2 ⟨rfl, rfl⟩)
    | (go_at_call 25; (with_reducible refine (unhide (HB _)).mono ?_); rintro e w2 ⟨rfl, rfl⟩)
    | (go_at_call 22; (with_reducible refine (unhide (HN _)).mono ?_); rintro e w2 ⟨rfl, rfl⟩)
    | (go_at_call 30; (with_reducible refine (unhide (HDA _ (opcells ((unhide HBX).alloc (unhide HBX).size _)))).mono ?_); rintro e w3 ⟨rfl, hb3⟩; go_loud (
       have HRW := hide ((prow_one _ (w.heap.size + 1) (ba (wordK k)) (boxlt (unhide HBX))).below hb3);
       have HBX := hide (ridec hb3 ((unhide HBX).alloc (unhide HBX).size _));
       obtain ⟨z0, z1, z2, z3⟩ := box4 (unhide HBX);
       have hlt := boxlt (unhide HBX);
       clear hb3))
    | (go_at_call 31; refine (join_row _ _ _ [ba (wordK k), ba (decL a), s] (by simp) (by simp) (unhide HRW) HLEN.out).mono ?_; rintro e w9 ⟨rfl, hb9⟩; have HB9 := hide hb9; clear hb9))
  go_ret
  exact ⟨by rw [← HPT.out]; rfl, opcells (ridec (unhide HB9) (unhide HBX))⟩
set_option maxRecDepth 100000 in
set_option maxHeartbeats 4000000 in
theorem text_good1 (w : World) (k a b : Nat) (s : ByteArray) (hk : k < 256) (hk14 : k ≤ 14) (hs : s.size ≤ 9223372036854775807) (ha : a < 18446744073709551616) (hb : b < 18446744073709551616) (hv : Vo w) (hr : rightO k a b (str s) = true) (hA : aK k = true) (hB : bK k = false) (hN : nK k = false) :
    Calls Tryz.prog 11 #[opV k a b s] w fun e w' => e = .returned (.string (ba (textO k a b (str s)))) ∧ Below w.heap.size w w' := by
  have HRT := fun (x : World) (h : Below w.heap.size w x) => hide (right_any x k a b s hk hs (hv.below h))
  rw [hr] at HRT
  unfold opV at *
  have HW := fun (x : World) (h : Below w.heap.size w x) => hide (word_any x k hk (hv.below h))
  have HA := fun (x : World) => hide (hasA_any x k hk)
  have HB := fun (x : World) => hide (hasB_any x k hk)
  have HN := fun (x : World) => hide (hasN_any x k hk)
  have HDA := fun (x : World) (h : Below w.heap.size w x) => hide (decimal_any x a ha (hv.below h))
  have HDB := fun (x : World) (h : Below w.heap.size w x) => hide (decimal_any x b hb (hv.below h))
  rw [hA] at HA
  rw [hB] at HB
  rw [hN] at HN
  obtain ⟨i0, hi0, h00, h01, h02⟩ := info_str
  have HI := Lib.hid hi0
  have H0 := Lib.hid h00
  have H1 := Lib.hid h01
  have H2 := Lib.hid h02
  clear hi0 h00 h01 h02 hv
  have hpt : joinT (([ba (wordK k), ba (decL a)] : List ByteArray).map str) = textO k a b (str s) := by
    unfold textO partsO optL
    rw [hA, hB, hN]
    simp only [List.map_cons, List.map_nil, str_ba (word_byte k hk14), str_ba (decL_byte a)]
    rfl
  have HLEN := Lib.hid (show (joinT (([ba (wordK k), ba (decL a)] : List ByteArray).map str)).length ≤ 1000000 by rw [hpt]; exact Nat.le_trans (textO_len hr ha hb) (by omega))
  have HPT := Lib.hid hpt
  clear hpt
  clear hA hB hN hr hk hs ha hb hk14
  go_enter Tryz.func11, Tryz.ntmps11
  go_wp2_with (first
    | (go_at_call 9; (with_reducible refine (unhide (HRT _ ((Below.refl _ _).alloc (Nat.le_refl _) _))).mono ?_); rintro e w1 ⟨rfl, hb1⟩; go_loud (
       have HBX := hide hb1;
       obtain ⟨z0, z1, z2, z3⟩ := box4 hb1;
       have hlt := boxlt hb1;
       clear hb1))
    | (go_at_call 18; (with_reducible refine (unhide (HW _ (opcells (unhide HBX)))).mono ?_); rintro e w2 ⟨rfl, rfl⟩)
    | (go_at_call 24; (with_reducible refine (unhide (HA _)).mono ?_); rintro e w2 ⟨rfl, rfl⟩)
    | (go_at_call 25; (with_reducible refine (unhide (HB _)).mono ?_); rintro e w2 ⟨rfl, rfl⟩)
    | (go_at_call 22; (with_reducible refine (unhide (HN _)).mono ?_); rintro e w2 ⟨rfl, rfl⟩)
    | (go_at_call 30; (with_reducible refine (unhide (HDA _ (opcells ((unhide HBX).alloc (unhide HBX).size _)))).mono ?_); rintro e w3 ⟨rfl, hb3⟩; go_loud (
       have HRW := hide ((prow_one _ (w.heap.size + 1) (ba (wordK k)) (boxlt (unhide HBX))).below hb3);
       have HBX := hide (ridec hb3 ((unhide HBX).alloc (unhide HBX).size _));
       obtain ⟨z0, z1, z2, z3⟩ := box4 (unhide HBX);
       have hlt := boxlt (unhide HBX);
       clear hb3))
    | (at_builtin; refine wpList_append_own _ rfl _ _ 57 rfl (w.heap.size + 1) 9 i0 (.string ⟨#[]⟩) 1 16 Tryz.underlying57 HI.out H0.out H1.out H2.out rfl (by decide) _ _ _ rfl ((unhide HRW).alloc _) ⟨_, 0, none⟩ 1 1 [.string (ba (decL a))] rfl rfl ?c1 ?c2 ?c3 ?c4 ?c5 ?_))
  case c1 => exact cell_one_new _ _
  case c2 => simp [Value.oneCell']
  case c3 => simp [maxLen]
  case c4 => simp
  case c5 => exact Nat.le_trans (boxlt (unhide HBX)) (by simp)
  intro v4 w4 hown4 hg4 _
  have HBX := hide (box_grown (unhide HBX) hg4 (fun g hg => (World.ownsRow.lt (unhide HRW) g hg).1))
  have HRW := hide (show PRow w4 (w.heap.size + 1) v4 [ba (wordK k), ba (decL a)] from hown4)
  clear hown4 hg4
  obtain ⟨z0, z1, z2, z3⟩ := box4 (unhide HBX)
  have hlt := boxlt (unhide HBX)
  go_wp2_with (first
    | (go_at_call 9; (with_reducible refine (unhide (HRT _ ((Below.refl _ _).alloc (Nat.le_refl _) _))).mono ?_); rintro e w1 ⟨rfl, hb1⟩; go_loud (
       have HBX := hide hb1;
       obtain ⟨z0, z1, z2, z3⟩ := box4 hb1;
       have hlt := boxlt hb1;
       clear hb1))
    | (go_at_call 18; (with_reducible refine (unhide (HW _ (opcells (unhide HBX)))).mono ?_); rintro e w2 ⟨rfl, rfl⟩)
    | (go_at_call 24; (with_reducible refine (unhide (HA _)).mono ?_); rintro e w2 ⟨rfl, rfl⟩)
    | (go_at_call 25; (with_reducible refine (unhide (HB _)).mono ?_); rintro e w2 ⟨rfl, rfl⟩)
    | (go_at_call 22; (with_reducible refine (unhide (HN _)).mono ?_); rintro e w2 ⟨rfl, rfl⟩)
    | (go_at_call 30; (with_reducible refine (unhide (HDA _ (opcells ((unhide HBX).alloc (unhide HBX).size _)))).mono ?_); rintro e w3 ⟨rfl, hb3⟩; go_loud (
       have HRW := hide ((prow_one _ (w.heap.size + 1) (ba (wordK k)) (boxlt (unhide HBX))).below hb3);
       have HBX := hide (ridec hb3 ((unhide HBX).alloc (unhide HBX).size _));
       obtain ⟨z0, z1, z2, z3⟩ := box4 (unhide HBX);
       have hlt := boxlt (unhide HBX);
       clear hb3))
    | (go_at_call 31; refine (join_row _ _ _ [ba (wordK k), ba (decL a)] (by simp) (by simp) (unhide HRW) HLEN.out).mono ?_; rintro e w9 ⟨rfl, hb9⟩; have HB9 := hide hb9; clear hb9))
  go_ret
  exact ⟨by rw [← HPT.out]; rfl, opcells (ridec (unhide HB9) (unhide HBX))⟩
set_option maxRecDepth 100000 in
set_option maxHeartbeats 4000000 in
theorem text_good2 (w : World) (k a b : Nat) (s : ByteArray) (hk : k < 256) (hk14 : k ≤ 14) (hs : s.size ≤ 9223372036854775807) (ha : a < 18446744073709551616) (hb : b < 18446744073709551616) (hv : Vo w) (hr : rightO k a b (str s) = true) (hA : aK k = true) (hB : bK k = true) (hN : nK k = false) :
    Calls Tryz.prog 11 #[opV k a b s] w fun e w' => e = .returned (.string (ba (textO k a b (str s)))) ∧ Below w.heap.size w w' := by
  have HRT := fun (x : World) (h : Below w.heap.size w x) => hide (right_any x k a b s hk hs (hv.below h))
  rw [hr] at HRT
  unfold opV at *
  have HW := fun (x : World) (h : Below w.heap.size w x) => hide (word_any x k hk (hv.below h))
  have HA := fun (x : World) => hide (hasA_any x k hk)
  have HB := fun (x : World) => hide (hasB_any x k hk)
  have HN := fun (x : World) => hide (hasN_any x k hk)
  have HDA := fun (x : World) (h : Below w.heap.size w x) => hide (decimal_any x a ha (hv.below h))
  have HDB := fun (x : World) (h : Below w.heap.size w x) => hide (decimal_any x b hb (hv.below h))
  rw [hA] at HA
  rw [hB] at HB
  rw [hN] at HN
  obtain ⟨i0, hi0, h00, h01, h02⟩ := info_str
  have HI := Lib.hid hi0
  have H0 := Lib.hid h00
  have H1 := Lib.hid h01
  have H2 := Lib.hid h02
  clear hi0 h00 h01 h02 hv
  have hpt : joinT (([ba (wordK k), ba (decL a), ba (decL b)] : List ByteArray).map str) = textO k a b (str s) := by
    unfold textO partsO optL
    rw [hA, hB, hN]
    simp only [List.map_cons, List.map_nil, str_ba (word_byte k hk14), str_ba (decL_byte a), str_ba (decL_byte b)]
    rfl
  have HLEN := Lib.hid (show (joinT (([ba (wordK k), ba (decL a), ba (decL b)] : List ByteArray).map str)).length ≤ 1000000 by rw [hpt]; exact Nat.le_trans (textO_len hr ha hb) (by omega))
  have HPT := Lib.hid hpt
  clear hpt
  clear hA hB hN hr hk hs ha hb hk14
  go_enter Tryz.func11, Tryz.ntmps11
  go_wp2_with (first
    | (go_at_call 9; (with_reducible refine (unhide (HRT _ ((Below.refl _ _).alloc (Nat.le_refl _) _))).mono ?_); rintro e w1 ⟨rfl, hb1⟩; go_loud (
       have HBX := hide hb1;
       obtain ⟨z0, z1, z2, z3⟩ := box4 hb1;
       have hlt := boxlt hb1;
       clear hb1))
    | (go_at_call 18; (with_reducible refine (unhide (HW _ (opcells (unhide HBX)))).mono ?_); rintro e w2 ⟨rfl, rfl⟩)
    | (go_at_call 24; (with_reducible refine (unhide (HA _)).mono ?_); rintro e w2 ⟨rfl, rfl⟩)
    | (go_at_call 25; (with_reducible refine (unhide (HB _)).mono ?_); rintro e w2 ⟨rfl, rfl⟩)
    | (go_at_call 22; (with_reducible refine (unhide (HN _)).mono ?_); rintro e w2 ⟨rfl, rfl⟩)
    | (go_at_call 30; (with_reducible refine (unhide (HDA _ (opcells ((unhide HBX).alloc (unhide HBX).size _)))).mono ?_); rintro e w3 ⟨rfl, hb3⟩; go_loud (
       have HRW := hide ((prow_one _ (w.heap.size + 1) (ba (wordK k)) (boxlt (unhide HBX))).below hb3);
       have HBX := hide (ridec hb3 ((unhide HBX).alloc (unhide HBX).size _));
       obtain ⟨z0, z1, z2, z3⟩ := box4 (unhide HBX);
       have hlt := boxlt (unhide HBX);
       clear hb3))
    | (go_at_call 30; (with_reducible refine (unhide (HDB _ (opcells (unhide HBX)))).mono ?_); rintro e w3 ⟨rfl, hb3⟩; go_loud (
       have HRW := hide ((unhide HRW).below hb3);
       have HBX := hide (ridec hb3 (unhide HBX));
       obtain ⟨z0, z1, z2, z3⟩ := box4 (unhide HBX);
       have hlt := boxlt (unhide HBX);
       clear hb3))
    | (at_builtin; refine wpList_append_own _ rfl _ _ 57 rfl (w.heap.size + 1) 9 i0 (.string ⟨#[]⟩) 1 16 Tryz.underlying57 HI.out H0.out H1.out H2.out rfl (by decide) _ _ _ rfl ((unhide HRW).alloc _) ⟨_, 0, none⟩ 1 1 [.string (ba (decL a))] rfl rfl ?c1 ?c2 ?c3 ?c4 ?c5 ?_))
  case c1 => exact cell_one_new _ _
  case c2 => simp [Value.oneCell']
  case c3 => simp [maxLen]
  case c4 => simp
  case c5 => exact Nat.le_trans (boxlt (unhide HBX)) (by simp)
  intro v4 w4 hown4 hg4 _
  have HBX := hide (box_grown (unhide HBX) hg4 (fun g hg => (World.ownsRow.lt (unhide HRW) g hg).1))
  have HRW := hide (show PRow w4 (w.heap.size + 1) v4 [ba (wordK k), ba (decL a)] from hown4)
  clear hown4 hg4
  obtain ⟨z0, z1, z2, z3⟩ := box4 (unhide HBX)
  have hlt := boxlt (unhide HBX)
  go_wp2_with (first
    | (go_at_call 9; (with_reducible refine (unhide (HRT _ ((Below.refl _ _).alloc (Nat.le_refl _) _))).mono ?_); rintro e w1 ⟨rfl, hb1⟩; go_loud (
       have HBX := hide hb1;
       obtain ⟨z0, z1, z2, z3⟩ := box4 hb1;
       have hlt := boxlt hb1;
       clear hb1))
    | (go_at_call 18; (with_reducible refine (unhide (HW _ (opcells (unhide HBX)))).mono ?_); rintro e w2 ⟨rfl, rfl⟩)
    | (go_at_call 24; (with_reducible refine (unhide (HA _)).mono ?_); rintro e w2 ⟨rfl, rfl⟩)
    | (go_at_call 25; (with_reducible refine (unhide (HB _)).mono ?_); rintro e w2 ⟨rfl, rfl⟩)
    | (go_at_call 22; (with_reducible refine (unhide (HN _)).mono ?_); rintro e w2 ⟨rfl, rfl⟩)
    | (go_at_call 30; (with_reducible refine (unhide (HDA _ (opcells ((unhide HBX).alloc (unhide HBX).size _)))).mono ?_); rintro e w3 ⟨rfl, hb3⟩; go_loud (
       have HRW := hide ((prow_one _ (w.heap.size + 1) (ba (wordK k)) (boxlt (unhide HBX))).below hb3);
       have HBX := hide (ridec hb3 ((unhide HBX).alloc (unhide HBX).size _));
       obtain ⟨z0, z1, z2, z3⟩ := box4 (unhide HBX);
       have hlt := boxlt (unhide HBX);
       clear hb3))
    | (go_at_call 30; (with_reducible refine (unhide (HDB _ (opcells (unhide HBX)))).mono ?_); rintro e w3 ⟨rfl, hb3⟩; go_loud (
       have HRW := hide ((unhide HRW).below hb3);
       have HBX := hide (ridec hb3 (unhide HBX));
       obtain ⟨z0, z1, z2, z3⟩ := box4 (unhide HBX);
       have hlt := boxlt (unhide HBX);
       clear hb3))
    | (at_builtin; refine wpList_append_own _ rfl _ _ 57 rfl (w.heap.size + 1) 9 i0 (.string ⟨#[]⟩) 1 16 Tryz.underlying57 HI.out H0.out H1.out H2.out rfl (by decide) _ _ _ rfl ((unhide HRW).alloc _) ⟨_, 0, none⟩ 1 1 [.string (ba (decL b))] rfl rfl ?c1 ?c2 ?c3 ?c4 ?c5 ?_))
  case c1 => exact cell_one_new _ _
  case c2 => simp [Value.oneCell']
  case c3 => simp [maxLen]
  case c4 => simp
  case c5 => exact Nat.le_trans (boxlt (unhide HBX)) (by simp)
  intro v4 w4 hown4 hg4 _
  have HBX := hide (box_grown (unhide HBX) hg4 (fun g hg => (World.ownsRow.lt (unhide HRW) g hg).1))
  have HRW := hide (show PRow w4 (w.heap.size + 1) v4 [ba (wordK k), ba (decL a), ba (decL b)] from hown4)
  clear hown4 hg4
  obtain ⟨z0, z1, z2, z3⟩ := box4 (unhide HBX)
  have hlt := boxlt (unhide HBX)
  go_wp2_with (first
    | (go_at_call 9; (with_reducible refine (unhide (HRT _ ((Below.refl _ _).alloc (Nat.le_refl _) _))).mono ?_); rintro e w1 ⟨rfl, hb1⟩; go_loud (
       have HBX := hide hb1;
       obtain ⟨z0, z1, z2, z3⟩ := box4 hb1;
       have hlt := boxlt hb1;
       clear hb1))
    | (go_at_call 18; (with_reducible refine (unhide (HW _ (opcells (unhide HBX)))).mono ?_); rintro e w2 ⟨rfl, rfl⟩)
    | (go_at_call 24; (with_reducible refine (unhide (HA _)).mono ?_); rintro e w2 ⟨rfl, rfl⟩)
    | (go_at_call 25; (with_reducible refine (unhide (HB _)).mono ?_); rintro e w2 ⟨rfl, rfl⟩)
    | (go_at_call 22; (with_reducible refine (unhide (HN _)).mono ?_); rintro e w2 ⟨rfl, rfl⟩)
    | (go_at_call 30; (with_reducible refine (unhide (HDA _ (opcells ((unhide HBX).alloc (unhide HBX).size _)))).mono ?_); rintro e w3 ⟨rfl, hb3⟩; go_loud (
       have HRW := hide ((prow_one _ (w.heap.size + 1) (ba (wordK k)) (boxlt (unhide HBX))).below hb3);
       have HBX := hide (ridec hb3 ((unhide HBX).alloc (unhide HBX).size _));
       obtain ⟨z0, z1, z2, z3⟩ := box4 (unhide HBX);
       have hlt := boxlt (unhide HBX);
       clear hb3))
    | (go_at_call 30; (with_reducible refine (unhide (HDB _ (opcells (unhide HBX)))).mono ?_); rintro e w3 ⟨rfl, hb3⟩; go_loud (
       have HRW := hide ((unhide HRW).below hb3);
       have HBX := hide (ridec hb3 (unhide HBX));
       obtain ⟨z0, z1, z2, z3⟩ := box4 (unhide HBX);
       have hlt := boxlt (unhide HBX);
       clear hb3))
    | (go_at_call 31; refine (join_row _ _ _ [ba (wordK k), ba (decL a), ba (decL b)] (by simp) (by simp) (unhide HRW) HLEN.out).mono ?_; rintro e w9 ⟨rfl, hb9⟩; have HB9 := hide hb9; clear hb9))
  go_ret
  exact ⟨by rw [← HPT.out]; rfl, opcells (ridec (unhide HB9) (unhide HBX))⟩
set_option maxRecDepth 100000 in
set_option maxHeartbeats 4000000 in
theorem text_good3 (w : World) (k a b : Nat) (s : ByteArray) (hk : k < 256) (hk14 : k ≤ 14) (hs : s.size ≤ 9223372036854775807) (ha : a < 18446744073709551616) (hb : b < 18446744073709551616) (hv : Vo w) (hr : rightO k a b (str s) = true) (hA : aK k = true) (hB : bK k = true) (hN : nK k = true) :
    Calls Tryz.prog 11 #[opV k a b s] w fun e w' => e = .returned (.string (ba (textO k a b (str s)))) ∧ Below w.heap.size w w' := by
  have HRT := fun (x : World) (h : Below w.heap.size w x) => hide (right_any x k a b s hk hs (hv.below h))
  rw [hr] at HRT
  unfold opV at *
  have HW := fun (x : World) (h : Below w.heap.size w x) => hide (word_any x k hk (hv.below h))
  have HA := fun (x : World) => hide (hasA_any x k hk)
  have HB := fun (x : World) => hide (hasB_any x k hk)
  have HN := fun (x : World) => hide (hasN_any x k hk)
  have HDA := fun (x : World) (h : Below w.heap.size w x) => hide (decimal_any x a ha (hv.below h))
  have HDB := fun (x : World) (h : Below w.heap.size w x) => hide (decimal_any x b hb (hv.below h))
  rw [hA] at HA
  rw [hB] at HB
  rw [hN] at HN
  obtain ⟨i0, hi0, h00, h01, h02⟩ := info_str
  have HI := Lib.hid hi0
  have H0 := Lib.hid h00
  have H1 := Lib.hid h01
  have H2 := Lib.hid h02
  clear hi0 h00 h01 h02 hv
  have hpt : joinT (([ba (wordK k), ba (decL a), ba (decL b), s] : List ByteArray).map str) = textO k a b (str s) := by
    unfold textO partsO optL
    rw [hA, hB, hN]
    simp only [List.map_cons, List.map_nil, str_ba (word_byte k hk14), str_ba (decL_byte a), str_ba (decL_byte b)]
    rfl
  have HLEN := Lib.hid (show (joinT (([ba (wordK k), ba (decL a), ba (decL b), s] : List ByteArray).map str)).length ≤ 1000000 by rw [hpt]; exact Nat.le_trans (textO_len hr ha hb) (by omega))
  have HPT := Lib.hid hpt
  clear hpt
  clear hA hB hN hr hk hs ha hb hk14
  go_enter Tryz.func11, Tryz.ntmps11
  go_wp2_with (first
    | (go_at_call 9; (with_reducible refine (unhide (HRT _ ((Below.refl _ _).alloc (Nat.le_refl _) _))).mono ?_); rintro e w1 ⟨rfl, hb1⟩; go_loud (
       have HBX := hide hb1;
       obtain ⟨z0, z1, z2, z3⟩ := box4 hb1;
       have hlt := boxlt hb1;
       clear hb1))
    | (go_at_call 18; (with_reducible refine (unhide (HW _ (opcells (unhide HBX)))).mono ?_); rintro e w2 ⟨rfl, rfl⟩)
    | (go_at_call 24; (with_reducible refine (unhide (HA _)).mono ?_); rintro e w2 ⟨rfl, rfl⟩)
    | (go_at_call 25; (with_reducible refine (unhide (HB _)).mono ?_); rintro e w2 ⟨rfl, rfl⟩)
    | (go_at_call 22; (with_reducible refine (unhide (HN _)).mono ?_); rintro e w2 ⟨rfl, rfl⟩)
    | (go_at_call 30; (with_reducible refine (unhide (HDA _ (opcells ((unhide HBX).alloc (unhide HBX).size _)))).mono ?_); rintro e w3 ⟨rfl, hb3⟩; go_loud (
       have HRW := hide ((prow_one _ (w.heap.size + 1) (ba (wordK k)) (boxlt (unhide HBX))).below hb3);
       have HBX := hide (ridec hb3 ((unhide HBX).alloc (unhide HBX).size _));
       obtain ⟨z0, z1, z2, z3⟩ := box4 (unhide HBX);
       have hlt := boxlt (unhide HBX);
       clear hb3))
    | (go_at_call 30; (with_reducible refine (unhide (HDB _ (opcells (unhide HBX)))).mono ?_); rintro e w3 ⟨rfl, hb3⟩; go_loud (
       have HRW := hide ((unhide HRW).below hb3);
       have HBX := hide (ridec hb3 (unhide HBX));
       obtain ⟨z0, z1, z2, z3⟩ := box4 (unhide HBX);
       have hlt := boxlt (unhide HBX);
       clear hb3))
    | (at_builtin; refine wpList_append_own _ rfl _ _ 57 rfl (w.heap.size + 1) 9 i0 (.string ⟨#[]⟩) 1 16 Tryz.underlying57 HI.out H0.out H1.out H2.out rfl (by decide) _ _ _ rfl ((unhide HRW).alloc _) ⟨_, 0, none⟩ 1 1 [.string (ba (decL a))] rfl rfl ?c1 ?c2 ?c3 ?c4 ?c5 ?_))
  case c1 => exact cell_one_new _ _
  case c2 => simp [Value.oneCell']
  case c3 => simp [maxLen]
  case c4 => simp
  case c5 => exact Nat.le_trans (boxlt (unhide HBX)) (by simp)
  intro v4 w4 hown4 hg4 _
  have HBX := hide (box_grown (unhide HBX) hg4 (fun g hg => (World.ownsRow.lt (unhide HRW) g hg).1))
  have HRW := hide (show PRow w4 (w.heap.size + 1) v4 [ba (wordK k), ba (decL a)] from hown4)
  clear hown4 hg4
  obtain ⟨z0, z1, z2, z3⟩ := box4 (unhide HBX)
  have hlt := boxlt (unhide HBX)
  go_wp2_with (first
    | (go_at_call 9; (with_reducible refine (unhide (HRT _ ((Below.refl _ _).alloc (Nat.le_refl _) _))).mono ?_); rintro e w1 ⟨rfl, hb1⟩; go_loud (
       have HBX := hide hb1;
       obtain ⟨z0, z1, z2, z3⟩ := box4 hb1;
       have hlt := boxlt hb1;
       clear hb1))
    | (go_at_call 18; (with_reducible refine (unhide (HW _ (opcells (unhide HBX)))).mono ?_); rintro e w2 ⟨rfl, rfl⟩)
    | (go_at_call 24; (with_reducible refine (unhide (HA _)).mono ?_); rintro e w2 ⟨rfl, rfl⟩)
    | (go_at_call 25; (with_reducible refine (unhide (HB _)).mono ?_); rintro e w2 ⟨rfl, rfl⟩)
    | (go_at_call 22; (with_reducible refine (unhide (HN _)).mono ?_); rintro e w2 ⟨rfl, rfl⟩)
    | (go_at_call 30; (with_reducible refine (unhide (HDA _ (opcells ((unhide HBX).alloc (unhide HBX).size _)))).mono ?_); rintro e w3 ⟨rfl, hb3⟩; go_loud (
       have HRW := hide ((prow_one _ (w.heap.size + 1) (ba (wordK k)) (boxlt (unhide HBX))).below hb3);
       have HBX := hide (ridec hb3 ((unhide HBX).alloc (unhide HBX).size _));
       obtain ⟨z0, z1, z2, z3⟩ := box4 (unhide HBX);
       have hlt := boxlt (unhide HBX);
       clear hb3))
    | (go_at_call 30; (with_reducible refine (unhide (HDB _ (opcells (unhide HBX)))).mono ?_); rintro e w3 ⟨rfl, hb3⟩; go_loud (
       have HRW := hide ((unhide HRW).below hb3);
       have HBX := hide (ridec hb3 (unhide HBX));
       obtain ⟨z0, z1, z2, z3⟩ := box4 (unhide HBX);
       have hlt := boxlt (unhide HBX);
       clear hb3))
    | (at_builtin; refine wpList_append_own _ rfl _ _ 57 rfl (w.heap.size + 1) 9 i0 (.string ⟨#[]⟩) 1 16 Tryz.underlying57 HI.out H0.out H1.out H2.out rfl (by decide) _ _ _ rfl ((unhide HRW).alloc _) ⟨_, 0, none⟩ 1 1 [.string (ba (decL b))] rfl rfl ?c1 ?c2 ?c3 ?c4 ?c5 ?_))
  case c1 => exact cell_one_new _ _
  case c2 => simp [Value.oneCell']
  case c3 => simp [maxLen]
  case c4 => simp
  case c5 => exact Nat.le_trans (boxlt (unhide HBX)) (by simp)
  intro v4 w4 hown4 hg4 _
  have HBX := hide (box_grown (unhide HBX) hg4 (fun g hg => (World.ownsRow.lt (unhide HRW) g hg).1))
  have HRW := hide (show PRow w4 (w.heap.size + 1) v4 [ba (wordK k), ba (decL a), ba (decL b)] from hown4)
  clear hown4 hg4
  obtain ⟨z0, z1, z2, z3⟩ := box4 (unhide HBX)
  have hlt := boxlt (unhide HBX)
  go_wp2_with (first
    | (go_at_call 9; (with_reducible refine (unhide (HRT _ ((Below.refl _ _).alloc (Nat.le_refl _) _))).mono ?_); rintro e w1 ⟨rfl, hb1⟩; go_loud (
       have HBX := hide hb1;
       obtain ⟨z0, z1, z2, z3⟩ := box4 hb1;
       have hlt := boxlt hb1;
       clear hb1))
    | (go_at_call 18; (with_reducible refine (unhide (HW _ (opcells (unhide HBX)))).mono ?_); rintro e w2 ⟨rfl, rfl⟩)
    | (go_at_call 24; (with_reducible refine (unhide (HA _)).mono ?_); rintro e w2 ⟨rfl, rfl⟩)
    | (go_at_call 25; (with_reducible refine (unhide (HB _)).mono ?_); rintro e w2 ⟨rfl, rfl⟩)
    | (go_at_call 22; (with_reducible refine (unhide (HN _)).mono ?_); rintro e w2 ⟨rfl, rfl⟩)
    | (go_at_call 30; (with_reducible refine (unhide (HDA _ (opcells ((unhide HBX).alloc (unhide HBX).size _)))).mono ?_); rintro e w3 ⟨rfl, hb3⟩; go_loud (
       have HRW := hide ((prow_one _ (w.heap.size + 1) (ba (wordK k)) (boxlt (unhide HBX))).below hb3);
       have HBX := hide (ridec hb3 ((unhide HBX).alloc (unhide HBX).size _));
       obtain ⟨z0, z1, z2, z3⟩ := box4 (unhide HBX);
       have hlt := boxlt (unhide HBX);
       clear hb3))
    | (go_at_call 30; (with_reducible refine (unhide (HDB _ (opcells (unhide HBX)))).mono ?_); rintro e w3 ⟨rfl, hb3⟩; go_loud (
       have HRW := hide ((unhide HRW).below hb3);
       have HBX := hide (ridec hb3 (unhide HBX));
       obtain ⟨z0, z1, z2, z3⟩ := box4 (unhide HBX);
       have hlt := boxlt (unhide HBX);
       clear hb3))
    | (at_builtin; refine wpList_append_own _ rfl _ _ 57 rfl (w.heap.size + 1) 9 i0 (.string ⟨#[]⟩) 1 16 Tryz.underlying57 HI.out H0.out H1.out H2.out rfl (by decide) _ _ _ rfl ((unhide HRW).alloc _) ⟨_, 0, none⟩ 1 1 [.string (s)] rfl rfl ?c1 ?c2 ?c3 ?c4 ?c5 ?_))
  case c1 => exact cell_one_new _ _
  case c2 => simp [Value.oneCell']
  case c3 => simp [maxLen]
  case c4 => simp
  case c5 => exact Nat.le_trans (boxlt (unhide HBX)) (by simp)
  intro v4 w4 hown4 hg4 _
  have HBX := hide (box_grown (unhide HBX) hg4 (fun g hg => (World.ownsRow.lt (unhide HRW) g hg).1))
  have HRW := hide (show PRow w4 (w.heap.size + 1) v4 [ba (wordK k), ba (decL a), ba (decL b), s] from hown4)
  clear hown4 hg4
  obtain ⟨z0, z1, z2, z3⟩ := box4 (unhide HBX)
  have hlt := boxlt (unhide HBX)
  go_wp2_with (first
    | (go_at_call 9; (with_reducible refine (unhide (HRT _ ((Below.refl _ _).alloc (Nat.le_refl _) _))).mono ?_); rintro e w1 ⟨rfl, hb1⟩; go_loud (
       have HBX := hide hb1;
       obtain ⟨z0, z1, z2, z3⟩ := box4 hb1;
       have hlt := boxlt hb1;
       clear hb1))
    | (go_at_call 18; (with_reducible refine (unhide (HW _ (opcells (unhide HBX)))).mono ?_); rintro e w2 ⟨rfl, rfl⟩)
    | (go_at_call 24; (with_reducible refine (unhide (HA _)).mono ?_); rintro e w2 ⟨rfl, rfl⟩)
    | (go_at_call 25; (with_reducible refine (unhide (HB _)).mono ?_); rintro e w2 ⟨rfl, rfl⟩)
    | (go_at_call 22; (with_reducible refine (unhide (HN _)).mono ?_); rintro e w2 ⟨rfl, rfl⟩)
    | (go_at_call 30; (with_reducible refine (unhide (HDA _ (opcells ((unhide HBX).alloc (unhide HBX).size _)))).mono ?_); rintro e w3 ⟨rfl, hb3⟩; go_loud (
       have HRW := hide ((prow_one _ (w.heap.size + 1) (ba (wordK k)) (boxlt (unhide HBX))).below hb3);
       have HBX := hide (ridec hb3 ((unhide HBX).alloc (unhide HBX).size _));
       obtain ⟨z0, z1, z2, z3⟩ := box4 (unhide HBX);
       have hlt := boxlt (unhide HBX);
       clear hb3))
    | (go_at_call 30; (with_reducible refine (unhide (HDB _ (opcells (unhide HBX)))).mono ?_); rintro e w3 ⟨rfl, hb3⟩; go_loud (
       have HRW := hide ((unhide HRW).below hb3);
       have HBX := hide (ridec hb3 (unhide HBX));
       obtain ⟨z0, z1, z2, z3⟩ := box4 (unhide HBX);
       have hlt := boxlt (unhide HBX);
       clear hb3))
    | (go_at_call 31; refine (join_row _ _ _ [ba (wordK k), ba (decL a), ba (decL b), s] (by simp) (by simp) (unhide HRW) HLEN.out).mono ?_; rintro e w9 ⟨rfl, hb9⟩; have HB9 := hide hb9; clear hb9))
  go_ret
  exact ⟨by rw [← HPT.out]; rfl, opcells (ridec (unhide HB9) (unhide HBX))⟩
set_option maxRecDepth 100000 in
set_option maxHeartbeats 4000000 in
theorem text_good4 (w : World) (k a b : Nat) (s : ByteArray) (hk : k < 256) (hk14 : k ≤ 14) (hs : s.size ≤ 9223372036854775807) (ha : a < 18446744073709551616) (hb : b < 18446744073709551616) (hv : Vo w) (hr : rightO k a b (str s) = true) (hA : aK k = false) (hB : bK k = false) (hN : nK k = true) :
    Calls Tryz.prog 11 #[opV k a b s] w fun e w' => e = .returned (.string (ba (textO k a b (str s)))) ∧ Below w.heap.size w w' := by
  have HRT := fun (x : World) (h : Below w.heap.size w x) => hide (right_any x k a b s hk hs (hv.below h))
  rw [hr] at HRT
  unfold opV at *
  have HW := fun (x : World) (h : Below w.heap.size w x) => hide (word_any x k hk (hv.below h))
  have HA := fun (x : World) => hide (hasA_any x k hk)
  have HB := fun (x : World) => hide (hasB_any x k hk)
  have HN := fun (x : World) => hide (hasN_any x k hk)
  have HDA := fun (x : World) (h : Below w.heap.size w x) => hide (decimal_any x a ha (hv.below h))
  have HDB := fun (x : World) (h : Below w.heap.size w x) => hide (decimal_any x b hb (hv.below h))
  rw [hA] at HA
  rw [hB] at HB
  rw [hN] at HN
  obtain ⟨i0, hi0, h00, h01, h02⟩ := info_str
  have HI := Lib.hid hi0
  have H0 := Lib.hid h00
  have H1 := Lib.hid h01
  have H2 := Lib.hid h02
  clear hi0 h00 h01 h02 hv
  have hpt : joinT (([ba (wordK k), s] : List ByteArray).map str) = textO k a b (str s) := by
    unfold textO partsO optL
    rw [hA, hB, hN]
    simp only [List.map_cons, List.map_nil, str_ba (word_byte k hk14)]
    rfl
  have HLEN := Lib.hid (show (joinT (([ba (wordK k), s] : List ByteArray).map str)).length ≤ 1000000 by rw [hpt]; exact Nat.le_trans (textO_len hr ha hb) (by omega))
  have HPT := Lib.hid hpt
  clear hpt
  clear hA hB hN hr hk hs ha hb hk14
  go_enter Tryz.func11, Tryz.ntmps11
  go_wp2_with (first
    | (go_at_call 9; (with_reducible refine (unhide (HRT _ ((Below.refl _ _).alloc (Nat.le_refl _) _))).mono ?_); rintro e w1 ⟨rfl, hb1⟩; go_loud (
       have HBX := hide hb1;
       obtain ⟨z0, z1, z2, z3⟩ := box4 hb1;
       have hlt := boxlt hb1;
       clear hb1))
    | (go_at_call 18; (with_reducible refine (unhide (HW _ (opcells (unhide HBX)))).mono ?_); rintro e w2 ⟨rfl, rfl⟩)
    | (go_at_call 24; (with_reducible refine (unhide (HA _)).mono ?_); rintro e w2 ⟨rfl, rfl⟩)
    | (go_at_call 25; (with_reducible refine (unhide (HB _)).mono ?_); rintro e w2 ⟨rfl, rfl⟩)
    | (go_at_call 22; (with_reducible refine (unhide (HN _)).mono ?_); rintro e w2 ⟨rfl, rfl⟩)
    | (at_builtin; refine wpList_append_own _ rfl _ _ 57 rfl (w.heap.size + 1) 9 i0 (.string ⟨#[]⟩) 1 16 Tryz.underlying57 HI.out H0.out H1.out H2.out rfl (by decide) _ _ _ rfl ((prow_one _ (w.heap.size + 1) (ba (wordK k)) (boxlt (unhide HBX))).alloc _) ⟨_, 0, none⟩ 1 1 [.string (s)] rfl rfl ?c1 ?c2 ?c3 ?c4 ?c5 ?_))
  case c1 => have hc := @cell_one_new (w2.alloc (Obj.cells #[Value.string (ba (wordK k))] 9)) (.string s) 9; rw [show (w2.alloc (Obj.cells #[Value.string (ba (wordK k))] 9)).heap.size = w2.heap.size + 1 by simp] at hc; exact hc
  case c2 => simp [Value.oneCell']
  case c3 => simp [maxLen]
  case c4 => simp
  case c5 => exact Nat.le_trans (boxlt (unhide HBX)) (by simp; omega)
  intro v4 w4 hown4 hg4 _
  have HBX := hide (box_grown ((unhide HBX).alloc (unhide HBX).size _) hg4 (fun g hg => (World.ownsRow.lt (prow_one _ (w.heap.size + 1) (ba (wordK k)) (boxlt (unhide HBX))) g hg).1))
  have HRW := hide (show PRow w4 (w.heap.size + 1) v4 [ba (wordK k), s] from hown4)
  clear hown4 hg4
  obtain ⟨z0, z1, z2, z3⟩ := box4 (unhide HBX)
  have hlt := boxlt (unhide HBX)
  go_wp2_with (first
    | (go_at_call 9; (with_reducible refine (unhide (HRT _ ((Below.refl _ _).alloc (Nat.le_refl _) _))).mono ?_); rintro e w1 ⟨rfl, hb1⟩; go_loud (
       have HBX := hide hb1;
       obtain ⟨z0, z1, z2, z3⟩ := box4 hb1;
       have hlt := boxlt hb1;
       clear hb1))
    | (go_at_call 18; (with_reducible refine (unhide (HW _ (opcells (unhide HBX)))).mono ?_); rintro e w2 ⟨rfl, rfl⟩)
    | (go_at_call 24; (with_reducible refine (unhide (HA _)).mono ?_); rintro e w2 ⟨rfl, rfl⟩)
    | (go_at_call 25; (with_reducible refine (unhide (HB _)).mono ?_); rintro e w2 ⟨rfl, rfl⟩)
    | (go_at_call 22; (with_reducible refine (unhide (HN _)).mono ?_); rintro e w2 ⟨rfl, rfl⟩)
    | (go_at_call 31; refine (join_row _ _ _ [ba (wordK k), s] (by simp) (by simp) (unhide HRW) HLEN.out).mono ?_; rintro e w9 ⟨rfl, hb9⟩; have HB9 := hide hb9; clear hb9))
  go_ret
  exact ⟨by rw [← HPT.out]; rfl, opcells (ridec (unhide HB9) (unhide HBX))⟩
theorem text_good (w : World) (k a b : Nat) (s : ByteArray) (hk : k < 256) (hs : s.size ≤ 9223372036854775807) (ha : a < 18446744073709551616) (hb : b < 18446744073709551616) (hv : Vo w) (hr : rightO k a b (str s) = true) :
    Calls Tryz.prog 11 #[opV k a b s] w fun e w' => e = .returned (.string (ba (textO k a b (str s)))) ∧ Below w.heap.size w w' := by
  have hk14 := (rightO_kind hr).2
  have hcase := kinds_case k hk14
  rcases hA : aK k with _ | _ <;> rcases hB : bK k with _ | _ <;> rcases hN : nK k with _ | _ <;> rw [hA, hB, hN] at hcase
  · exact absurd hcase (by decide)
  · exact text_good4 w k a b s hk hk14 hs ha hb hv hr hA hB hN
  · exact absurd hcase (by decide)
  · exact absurd hcase (by decide)
  · exact text_good1 w k a b s hk hk14 hs ha hb hv hr hA hB hN
  · exact text_good0 w k a b s hk hk14 hs ha hb hv hr hA hB hN
  · exact text_good2 w k a b s hk hk14 hs ha hb hv hr hA hB hN
  · exact text_good3 w k a b s hk hk14 hs ha hb hv hr hA hB hN
end Go.Proofs.YtfnobibjphnmdaaGreatDoor
namespace Go.Proofs.YtfnobibjphnmdaaGreatDoor
open Go.RowKit
set_option linter.unusedVariables false
set_option linter.unusedSimpArgs false
theorem wtr_new (w : World) : Wtr (w.alloc (.cells #[.slice none 0 0] 53)) w.heap.size w.heap.size (.slice none 0 0) [] :=
  ⟨by show (w.heap.push _)[_]? = _; simp, ⟨rfl, .inl ⟨rfl, rfl⟩⟩, by simp⟩
theorem wtr_below {W x y : World} {B base g : Nat} {v : Value} {l : List Nat} (h : Wtr x base g v l) (hc : Chg x y g v.ownBlock) (ha : Below B W x) (hB : B ≤ x.heap.size) (hb : B ≤ base) (hg : B ≤ g) : Below B W y :=
  hc.below ha hB hg fun k e => Nat.le_trans hb (own_block_lt h.own e).1
theorem obytes_bad (w : World) (k a b : Nat) (s : ByteArray) (hk : k < 256) (hs : s.size ≤ 9223372036854775807) (hv : Vo w) (hr : rightO k a b (str s) = false) :
    Calls Tryz.prog 10 #[opV k a b s] w fun e w' => e = .returned (.slice none 0 0) ∧ Below w.heap.size w w' := by
  have HRT := fun (x : World) (h : Below w.heap.size w x) => hide (right_any x k a b s hk hs (hv.below h))
  rw [hr] at HRT
  unfold opV at *
  go_enter Tryz.func10, Tryz.ntmps10
  go_wp2_with (go_at_call 9; (with_reducible refine (unhide (HRT _ ((Below.refl _ _).alloc (Nat.le_refl _) _))).mono ?_); rintro e w1 ⟨rfl, hb1⟩; go_loud (
    have HB := Lib.hid (opcells hb1);
    clear hb1))
  go_ret
  exact ⟨rfl, HB.out⟩
set_option maxRecDepth 100000 in
set_option maxHeartbeats 4000000 in
theorem obytes_good (w : World) (k a b : Nat) (s : ByteArray) (hk : k < 256) (hs : s.size ≤ 9223372036854775807) (ha : a < 18446744073709551616) (hb : b < 18446744073709551616) (hv : Vo w) (hr : rightO k a b (str s) = true) :
    Calls Tryz.prog 10 #[opV k a b s] w fun e w' => ∃ v, e = .returned v ∧ Bytes w' w'.heap.size v (bytesO k a b (str s)) ∧ Below w.heap.size w w' := by
  have HRT := fun (x : World) (h : Below w.heap.size w x) => hide (right_any x k a b s hk hs (hv.below h))
  rw [hr] at HRT
  have hs64 := rightO_len hr
  rw [str_length] at hs64
  have hna := num_length64 ha
  have hnb := num_length64 hb
  have hns := num_length64 (n := s.size) (by omega)
  unfold opV at *
  have HEQ := Lib.hid (show ((([] ++ [k]) ++ num a) ++ num b) ++ (num s.size ++ str s) = bytesO k a b (str s) by unfold bytesO; rw [str_length]; rfl)
  clear hr hv
  go_enter Tryz.func10, Tryz.ntmps10
  go_wp2_with (go_at_call 9; (with_reducible refine (unhide (HRT _ ((Below.refl _ _).alloc (Nat.le_refl _) _))).mono ?_); rintro e w1 ⟨rfl, hbx⟩; have HBX := Lib.hid hbx; clear hbx)
  obtain ⟨wk, hwk⟩ : ∃ wk, wk = w1 := ⟨_, rfl⟩
  rw [← hwk]
  have HSK := Lib.hid (show ∀ x, Below wk.heap.size wk x → (Below wk.heap.size wk x ∧ x.cell? ⟨w.heap.size, 0, none⟩ = some (.int .u8 (k : Int)) ∧ x.cell? ⟨w.heap.size, 1, none⟩ = some (.int .u64 (a : Int)) ∧ x.cell? ⟨w.heap.size, 2, none⟩ = some (.int .u64 (b : Int)) ∧ x.cell? ⟨w.heap.size, 3, none⟩ = some (.string s)) from fun x hx => by
    obtain ⟨z0, z1, z2, z3⟩ := box4 (ridec (by rw [hwk] at hx; exact hx) HBX.out)
    exact ⟨hx, z0, z1, z2, z3⟩)
  have HKB := Lib.hid (show ∀ x, Below wk.heap.size wk x → Below w.heap.size w x from fun x hx => ridec hx (by rw [hwk]; exact opcells HBX.out))
  clear hwk
  have HBY := fun (x : World) (v : Value) (l : List Nat) (h : Wtr x wk.heap.size wk.heap.size v l) (h1 : l.length ≤ 1048576) (h2 : wk.heap.size ≤ x.heap.size) => hide (wbyte_any x wk.heap.size wk.heap.size k v l hk h h1 h2)
  have HNA := fun (x : World) (v : Value) (l : List Nat) (h : Wtr x wk.heap.size wk.heap.size v l) (h1 : l.length ≤ 1048576) (h2 : wk.heap.size ≤ x.heap.size) => hide (wnum_any x wk.heap.size wk.heap.size a v l ha h h1 h2)
  have HNB := fun (x : World) (v : Value) (l : List Nat) (h : Wtr x wk.heap.size wk.heap.size v l) (h1 : l.length ≤ 1048576) (h2 : wk.heap.size ≤ x.heap.size) => hide (wnum_any x wk.heap.size wk.heap.size b v l hb h h1 h2)
  have HTX := fun (x : World) (v : Value) (l : List Nat) (h : Wtr x wk.heap.size wk.heap.size v l) (h1 : l.length ≤ 1048576) (h2 : wk.heap.size ≤ x.heap.size) => hide (wtext_any x wk.heap.size wk.heap.size s v l (by omega) h h1 h2)
  have HBB := fun (x : World) (v : Value) (l : List Nat) (h : Wtr x wk.heap.size wk.heap.size v l) (h1 : l.length ≤ 1048576) => hide (wbytes_any x wk.heap.size wk.heap.size v l h h1)
  refine wp_region_noPanic ?_
  refine wp_region_held_drew (S := fun x => Below wk.heap.size wk x ∧ x.cell? ⟨w.heap.size, 0, none⟩ = some (.int .u8 (k : Int)) ∧ x.cell? ⟨w.heap.size, 1, none⟩ = some (.int .u64 (a : Int)) ∧ x.cell? ⟨w.heap.size, 2, none⟩ = some (.int .u64 (b : Int)) ∧ x.cell? ⟨w.heap.size, 3, none⟩ = some (.string s)) (by kernel_rfl) (HSK.out _ (ride_drew (Below.refl _ _))) (fun hHeld => ?_)
  refine take_at (i := 1) (v := ?_) (some 7) rfl rfl (by kernel_rfl) (by kernel_rfl) (by kernel_rfl) (fun _ _ _ h => h) (Or.inl ⟨by rfl, ?_⟩) (by assumption) ?_
  rotate_left
  · intro w hSw
    obtain ⟨hSb, z0, z1, z2, z3⟩ := hSw
    first | (go_simp; done) | (go_simp; with_reducible rfl)
  try simp only [Act.put, List.setIfInBounds_toArray, List.set_cons_zero, List.set_cons_succ]
  refine take_at (i := 2) (v := ?_) (some 8) rfl rfl (by kernel_rfl) (by kernel_rfl) (by kernel_rfl) (fun _ _ _ h => h) (Or.inl ⟨by rfl, ?_⟩) (by assumption) ?_
  rotate_left
  · intro w hSw
    obtain ⟨hSb, z0, z1, z2, z3⟩ := hSw
    first | (go_simp; done) | (go_simp; with_reducible rfl)
  try simp only [Act.put, List.setIfInBounds_toArray, List.set_cons_zero, List.set_cons_succ]
  refine take_at (i := 4) (v := ?_) (some 10) rfl rfl (by kernel_rfl) (by kernel_rfl) (by kernel_rfl) (fun _ _ _ h => h) (Or.inl ⟨by rfl, ?_⟩) (by assumption) ?_
  rotate_left
  · intro w hSw
    obtain ⟨hSb, z0, z1, z2, z3⟩ := hSw
    first | (go_simp; done) | (go_simp; with_reducible rfl)
  try simp only [Act.put, List.setIfInBounds_toArray, List.set_cons_zero, List.set_cons_succ]
  refine take_at (i := 5) (v := ?_) (some 11) rfl rfl (by kernel_rfl) (by kernel_rfl) (by kernel_rfl) (fun _ _ _ h => h) (Or.inl ⟨by rfl, ?_⟩) (by assumption) ?_
  rotate_left
  · intro w hSw
    obtain ⟨hSb, z0, z1, z2, z3⟩ := hSw
    first | (go_simp; done) | (go_simp; with_reducible rfl)
  try simp only [Act.put, List.setIfInBounds_toArray, List.set_cons_zero, List.set_cons_succ]
  refine take_at (i := 7) (v := ?_) (some 13) rfl rfl (by kernel_rfl) (by kernel_rfl) (by kernel_rfl) (fun _ _ _ h => h) (Or.inl ⟨by rfl, ?_⟩) (by assumption) ?_
  rotate_left
  · intro w hSw
    obtain ⟨hSb, z0, z1, z2, z3⟩ := hSw
    first | (go_simp; done) | (go_simp; with_reducible rfl)
  try simp only [Act.put, List.setIfInBounds_toArray, List.set_cons_zero, List.set_cons_succ]
  refine take_at (i := 8) (v := ?_) (some 14) rfl rfl (by kernel_rfl) (by kernel_rfl) (by kernel_rfl) (fun _ _ _ h => h) (Or.inl ⟨by rfl, ?_⟩) (by assumption) ?_
  rotate_left
  · intro w hSw
    obtain ⟨hSb, z0, z1, z2, z3⟩ := hSw
    first | (go_simp; done) | (go_simp; with_reducible rfl)
  try simp only [Act.put, List.setIfInBounds_toArray, List.set_cons_zero, List.set_cons_succ]
  refine take_at (i := 10) (v := ?_) (some 16) rfl rfl (by kernel_rfl) (by kernel_rfl) (by kernel_rfl) (fun _ _ _ h => h) (Or.inl ⟨by rfl, ?_⟩) (by assumption) ?_
  rotate_left
  · intro w hSw
    obtain ⟨hSb, z0, z1, z2, z3⟩ := hSw
    first | (go_simp; done) | (go_simp; with_reducible rfl)
  try simp only [Act.put, List.setIfInBounds_toArray, List.set_cons_zero, List.set_cons_succ]
  refine take_at (i := 11) (v := ?_) (some 17) rfl rfl (by kernel_rfl) (by kernel_rfl) (by kernel_rfl) (fun _ _ _ h => h) (Or.inl ⟨by rfl, ?_⟩) (by assumption) ?_
  rotate_left
  · intro w hSw
    obtain ⟨hSb, z0, z1, z2, z3⟩ := hSw
    first | (go_simp; done) | (go_simp; with_reducible rfl)
  try simp only [Act.put, List.setIfInBounds_toArray, List.set_cons_zero, List.set_cons_succ]
  refine wpAnyH_ready (rs := [0]) (by kernel_rfl) (by simp) ?_
  refine AllReadyH.cons rfl (fun K hK => ?_) AllReadyH.nil
  go_simp
  refine hK.out _ _ ?_ (fun hHeld2 => ?_)
  · exact HSK.out _ (ride_alloc hHeld.1 _)
  clear hK K hHeld
  have hHeld := hHeld2
  clear hHeld2
  try simp only [Act.put, List.setIfInBounds_toArray, List.set_cons_zero, List.set_cons_succ]
  have hW0 := wtr_new wk.drew
  refine wpAnyH_ready (rs := [3]) (by kernel_rfl) (by simp) ?_
  refine AllReadyH.cons rfl (fun K hK => ?_) AllReadyH.nil
  go_simp
  refine (unhide (HBY _ _ _ hW0 (by simp) (by simp))).mono ?_
  rintro e x1 ⟨rfl, u1, hW1, hc1, hg1⟩
  have hs1 := wtr_below hW0 hc1 hHeld.1 hHeld.1.size (Nat.le_refl _) (Nat.le_refl _)
  have hz1 := hs1.size
  refine hK.out _ _ ?_ (fun hHeld2 => ?_)
  · exact HSK.out _ hs1
  clear hK K hHeld
  have hHeld := hHeld2
  clear hHeld2
  try simp only [Act.put, List.setIfInBounds_toArray, List.set_cons_zero, List.set_cons_succ]
  refine wpAnyH_ready (rs := [6]) (by kernel_rfl) (by simp) ?_
  refine AllReadyH.cons rfl (fun K hK => ?_) AllReadyH.nil
  go_simp
  refine (unhide (HNA _ _ _ hW1 (by simp) hz1)).mono ?_
  rintro e x2 ⟨rfl, u2, hW2, hc2, hg2⟩
  have hs2 := wtr_below hW1 hc2 hHeld.1 hHeld.1.size (Nat.le_refl _) (Nat.le_refl _)
  have hz2 := hs2.size
  refine hK.out _ _ ?_ (fun hHeld2 => ?_)
  · exact HSK.out _ hs2
  clear hK K hHeld
  have hHeld := hHeld2
  clear hHeld2
  try simp only [Act.put, List.setIfInBounds_toArray, List.set_cons_zero, List.set_cons_succ]
  refine wpAnyH_ready (rs := [9]) (by kernel_rfl) (by simp) ?_
  refine AllReadyH.cons rfl (fun K hK => ?_) AllReadyH.nil
  go_simp
  refine (unhide (HNB _ _ _ hW2 (by simp; omega) hz2)).mono ?_
  rintro e x3 ⟨rfl, u3, hW3, hc3, hg3⟩
  have hs3 := wtr_below hW2 hc3 hHeld.1 hHeld.1.size (Nat.le_refl _) (Nat.le_refl _)
  have hz3 := hs3.size
  refine hK.out _ _ ?_ (fun hHeld2 => ?_)
  · exact HSK.out _ hs3
  clear hK K hHeld
  have hHeld := hHeld2
  clear hHeld2
  try simp only [Act.put, List.setIfInBounds_toArray, List.set_cons_zero, List.set_cons_succ]
  refine wpAnyH_ready (rs := [12]) (by kernel_rfl) (by simp) ?_
  refine AllReadyH.cons rfl (fun K hK => ?_) AllReadyH.nil
  go_simp
  refine (unhide (HTX _ _ _ hW3 (by simp; omega) hz3)).mono ?_
  rintro e x4 ⟨rfl, u4, hW4, hc4, hg4⟩
  have hs4 := wtr_below hW3 hc4 hHeld.1 hHeld.1.size (Nat.le_refl _) (Nat.le_refl _)
  have hz4 := hs4.size
  refine hK.out _ _ ?_ (fun hHeld2 => ?_)
  · exact HSK.out _ hs4
  clear hK K hHeld
  have hHeld := hHeld2
  clear hHeld2
  try simp only [Act.put, List.setIfInBounds_toArray, List.set_cons_zero, List.set_cons_succ]
  refine wpAnyH_ready (rs := [13]) (by kernel_rfl) (by simp) ?_
  refine AllReadyH.cons rfl (fun K hK => ?_) AllReadyH.nil
  go_simp
  refine (unhide (HBB _ _ _ hW4 (by simp [str_length]; omega))).mono ?_
  rintro e x5 ⟨A5, n5, c5, rfl, hM5, hb5⟩
  refine hK.out _ _ ?_ (fun hHeld2 => ?_)
  · exact HSK.out _ (ridec hb5 hHeld.1)
  clear hK K hHeld
  have hHeld := hHeld2
  clear hHeld2
  try simp only [Act.put, List.setIfInBounds_toArray, List.set_cons_zero, List.set_cons_succ]
  refine take_at (i := 14) (v := ?_) (some 2) rfl rfl (by kernel_rfl) (by kernel_rfl) (by kernel_rfl) (fun _ _ _ h => h) (Or.inl ⟨by rfl, ?_⟩) (by assumption) ?_
  rotate_left
  · intro w hSw
    obtain ⟨hSb, z0, z1, z2, z3⟩ := hSw
    first | (go_simp; done) | (go_simp; with_reducible rfl)
  try simp only [Act.put, List.setIfInBounds_toArray, List.set_cons_zero, List.set_cons_succ]
  refine wpAnyH_done (by kernel_rfl) ?_ _
  refine NoPanic.normal ?_
  have hfin := HKB.out _ hHeld.1
  have hbyt := hM5.bytes
  clear hHeld
  go_wp2
  go_ret
  refine ⟨_, rfl, ?_, hfin⟩
  rw [← HEQ.out]
  exact hbyt
end Go.Proofs.YtfnobibjphnmdaaGreatDoor
