/- Contract: the operation that bytes say. -/
import Derived.Test.YtfnobibjphnmdaaGreatDoorR2
import Derived.Test.YtfnobibjphnmdaaGreatDoorTpText
namespace Go.Proofs.YtfnobibjphnmdaaGreatDoor
open Go.RowKit
set_option linter.unusedVariables false
set_option linter.unusedSimpArgs false
/-- What is told of bytes whose parts have been taken. -/
theorem done_parts (l : List Nat) : doneIs ((((false || !(takeByte l).2.2) || !(takeNum (pl1 l) 18446744073709551615).2.2) || !(takeNum (pl2 l) 18446744073709551615).2.2) || !(takeText (pl3 l) 64).2.2) (pl4 l) = if pOk l = true then 0 else 2 := by
  unfold doneIs pOk
  rcases (takeByte l).2.2 with _ | _ <;> rcases (takeNum (pl1 l) 18446744073709551615).2.2 with _ | _ <;> rcases (takeNum (pl2 l) 18446744073709551615).2.2 with _ | _ <;> rcases (takeText (pl3 l) 64).2.2 with _ | _ <;> simp
theorem pK_lt {l : List Nat} (h : ∀ b ∈ l, b < 256) : pK l < 256 := by
  unfold pK
  rcases l with _ | ⟨b, r⟩
  · show (0 : Nat) < 256; omega
  · exact h b (by simp)
theorem take_small {l : List Nat} {m : Nat} (h : ∀ b ∈ l, b < 256) : ∀ b ∈ (takeNum l m).2.1, b < 256 := by
  unfold takeNum
  split
  · simp
  · exact fun b hb => h b (List.mem_of_mem_drop hb)
theorem pl1_small {l : List Nat} (h : ∀ b ∈ l, b < 256) : ∀ b ∈ pl1 l, b < 256 := by
  unfold pl1
  rcases l with _ | ⟨b, r⟩
  · intro b hb; exact absurd hb (by simp [takeByte])
  · exact fun c hc => h c (List.mem_cons_of_mem _ hc)
theorem pN_small {l : List Nat} (h : ∀ b ∈ l, b < 256) : ∀ b ∈ pN l, b < 256 := by
  unfold pN takeText
  split
  · simp
  · exact fun b hb => take_small (take_small (take_small (pl1_small h))) b (List.mem_of_mem_take hb)
theorem obp_alloc {w : World} {g k a b : Nat} {s : ByteArray} (h : OB w g k a b s) (o : Obj) : (w.alloc o).heap[g]? = some (.cells #[.int .u8 (k : Int), .int .u64 (a : Int), .int .u64 (b : Int), .string s] 25 (0, 0)) := (Below.heap_alloc _ _ _ (lt_of_heap h)).trans h
/-- What Parse answers: the operation that the bytes say, or that there is none. -/
def ParseF (w : World) (l : List Nat) (e : Ending) (w' : World) : Prop :=
  Below w.heap.size w w' ∧ ((∃ (k a b : Nat) (s : ByteArray), k < 256 ∧ a < 18446744073709551616 ∧ b < 18446744073709551616 ∧ s.size ≤ 64 ∧ rightO k a b (str s) = true ∧ bytesO k a b (str s) = l ∧ e = .returned (.tuple #[opV k a b s, .int .i64 0])) ∨
    (e = .returned (.tuple #[opV 0 0 0 ⟨#[]⟩, .int .i64 2]) ∧ ∀ (k a b : Nat) (s : ByteArray), a < 18446744073709551616 → b < 18446744073709551616 → rightO k a b (str s) = true → bytesO k a b (str s) ≠ l))
set_option maxRecDepth 100000 in
set_option maxHeartbeats 4000000 in
theorem oparse_x (w : World) (v : Value) (l : List Nat) (hp : Bytes w w.heap.size v l) (hl : l.length ≤ 1000000) (hv : Vo w) (hok : pOk l = false) :
    Calls Tryz.prog 12 #[v] w fun e w' => Below w.heap.size w w' ∧ e = .returned (.tuple #[opV 0 0 0 ⟨#[]⟩, .int .i64 2]) := by
  have hsm := hp.small
  have hdone := done_parts l
  rw [hok] at hdone
  simp only [if_true, Bool.false_eq_true, if_false] at hdone
  have hW0b : Below w.heap.size w (w.alloc (.cells #[.int .u8 0, .int .u64 0, .int .u64 0, .string ⟨#[]⟩] 25)) := (Below.refl _ _).alloc (Nat.le_refl _) _
  have hR0 : OB (w.alloc (.cells #[.int .u8 0, .int .u64 0, .int .u64 0, .string ⟨#[]⟩] 25)) w.heap.size 0 0 0 ⟨#[]⟩ := by
    unfold OB
    show (w.heap.push _)[_]? = _
    simp
  have HP := Lib.hid (hp.along hW0b)
  have HR0 := Lib.hid hR0
  have HBL := Lib.hid hW0b
  have HSM := Lib.hid hsm
  have hkl := pK_lt hsm
  have hnl : (txt (pN l)).size ≤ 9223372036854775807 := by
    rw [txt_size]
    unfold pN takeText
    split
    · simp
    · have h1 : (takeNum (pl3 l) 64).1 ≤ 64 := by
        unfold takeNum
        split
        · simp
        · rename_i h; simp only [not_or, Nat.not_lt] at h; exact h.2
      simp only [List.length_take]
      omega
  have HRD := fun (x : World) (u : Value) (h : Bytes x x.heap.size u l) => hide (read_any x u l h (by omega))
  obtain ⟨PK, hPK⟩ : ∃ x, (takeByte l).1 = x := ⟨_, rfl⟩
  obtain ⟨PA, hPA⟩ : ∃ x, (takeNum (pl1 l) 18446744073709551615).1 = x := ⟨_, rfl⟩
  obtain ⟨PB, hPB⟩ : ∃ x, (takeNum (pl2 l) 18446744073709551615).1 = x := ⟨_, rfl⟩
  obtain ⟨PN, hPN⟩ : ∃ x, txt (takeText (pl3 l) 64).1 = x := ⟨_, rfl⟩
  have HPK := Lib.hid hPK
  have HPA := Lib.hid hPA
  have HPB := Lib.hid hPB
  have HPN := Lib.hid hPN
  have HDN := Lib.hid hdone
  unfold opV at *
  clear hp hsm hR0 hW0b hok hv hkl hnl hdone hPK hPA hPB hPN
  go_enter Tryz.func12, Tryz.ntmps12
  go_wp2_with (first
    | (go_at_call 32; (with_reducible refine (unhide (HRD _ _ HP.out)).mono ?_); rintro e w1 ⟨g, u1, rfl, hR1, hg1, hb1⟩; go_loud (
        have hlt : w.heap.size < g := by (have := hg1; simp at this; omega);
        have HR0 := Lib.hid (show OB w1 w.heap.size 0 0 0 ⟨#[]⟩ from (hb1.block _ (lt_of_heap HR0.out)).trans HR0.out);
        have HBL := Lib.hid (ridec hb1 HBL.out);
        have HY := hide (rbyte_any w1 g g u1 false l hR1);
        have HGL := Lib.hid hlt;
        clear hb1 hR1 hg1 hlt))
    | (go_at_call 33; refine (unhide HY).mono ?_; rintro e w2 ⟨he2, u2, hR2, hC2⟩; rw [HPK.out] at he2; subst he2; go_loud (
        have HR0 := Lib.hid (show OB w2 w.heap.size 0 0 0 ⟨#[]⟩ from (hC2.block _ (lt_of_heap HR0.out) (by (have := HGL.out; omega)) (by simp)).trans HR0.out);
        have HBL := Lib.hid (hC2.below HBL.out HBL.out.size (Nat.le_of_lt HGL.out) (fun k e => by cases e));
        have HN1 := hide (rnum_any w2 g g 18446744073709551615 u2 _ (pl1 l) hR2 (by omega));
        clear hR2 hC2))
    | (go_at_call 34; refine (unhide HN1).mono ?_; rintro e w3 ⟨he3, u3, hR3, hC3⟩; rw [HPA.out] at he3; subst he3; go_loud (
        have HR0 := Lib.hid (show OB w3 w.heap.size 0 0 0 ⟨#[]⟩ from (hC3.block _ (lt_of_heap HR0.out) (by (have := HGL.out; omega)) (by simp)).trans HR0.out);
        have HBL := Lib.hid (hC3.below HBL.out HBL.out.size (Nat.le_of_lt HGL.out) (fun k e => by cases e));
        have HN2 := hide (rnum_any w3 g g 18446744073709551615 u3 _ (pl2 l) hR3 (by omega));
        clear hR3 hC3 HN1))
    | (go_at_call 34; refine (unhide HN2).mono ?_; rintro e w4 ⟨he4, u4, hR4, hC4⟩; rw [HPB.out] at he4; subst he4; go_loud (
        have HR0 := Lib.hid (show OB w4 w.heap.size 0 0 0 ⟨#[]⟩ from (hC4.block _ (lt_of_heap HR0.out) (by (have := HGL.out; omega)) (by simp)).trans HR0.out);
        have HBL := Lib.hid (hC4.below HBL.out HBL.out.size (Nat.le_of_lt HGL.out) (fun k e => by cases e));
        have HT4 := hide (rtext_any w4 g g 64 u4 _ (pl3 l) hR4 (by omega));
        clear hR4 hC4 HN2))
    | (go_at_call 35; refine (unhide HT4).mono ?_; rintro e w5 ⟨he5, u5, hR5, hC5⟩; rw [HPN.out] at he5; subst he5; go_loud (
        have HR0 := Lib.hid (show OB w5 w.heap.size 0 0 0 ⟨#[]⟩ from (hC5.block _ (lt_of_heap HR0.out) (by (have := HGL.out; omega)) (by simp)).trans HR0.out);
        have HBL := Lib.hid (hC5.below HBL.out HBL.out.size (Nat.le_of_lt HGL.out) (fun k e => by cases e));
        have HD5 := fun (o : Obj) => hide (rdone_any (w5.alloc o) g g u5 _ (pl4 l) (hR5.below ((Below.refl _ _).alloc (Nat.le_refl _) o)));
        obtain ⟨y0, y1, y2, y3, x0, x1, x2, x3⟩ := HR0.out.cells;
        have hlt5 := lt_of_heap HR0.out;
        clear hR5 hC5))
    | (go_at_call 36; refine (unhide (HD5 _)).mono ?_; rintro e w6 ⟨he6, hw6⟩; rw [HDN.out] at he6; subst he6; go_loud (
        have HR0 := Lib.hid (show OB w6 w.heap.size 0 0 0 ⟨#[]⟩ by (rw [← hw6]; exact obp_alloc HR0.out _));
        have HBL := Lib.hid (show Below w.heap.size w w6 by (rw [← hw6]; exact HBL.out.alloc HBL.out.size _));
        obtain ⟨y0, y1, y2, y3, x0, x1, x2, x3⟩ := HR0.out.cells;
        clear hw6 hlt5)))
  refine op_ret2 (p := 2) (u := 3) (g := w.heap.size) (cs := #[.int .u8 0, .int .u64 0, .int .u64 0, .string ⟨#[]⟩]) rfl rfl rfl rfl (op_put HR0.out) rfl ?_
  exact ⟨below_put HBL.out (Nat.le_refl _), rfl⟩
set_option maxRecDepth 100000 in
set_option maxHeartbeats 4000000 in
theorem oparse_y (w : World) (v : Value) (l : List Nat) (hp : Bytes w w.heap.size v l) (hl : l.length ≤ 1000000) (hv : Vo w) (hok : pOk l = true) (hr : rightO (pK l) (pA l) (pB l) (str (txt (pN l))) = false) :
    Calls Tryz.prog 12 #[v] w fun e w' => Below w.heap.size w w' ∧ e = .returned (.tuple #[opV 0 0 0 ⟨#[]⟩, .int .i64 2]) := by
  have hsm := hp.small
  have hdone := done_parts l
  rw [hok] at hdone
  simp only [if_true, Bool.false_eq_true, if_false] at hdone
  have hW0b : Below w.heap.size w (w.alloc (.cells #[.int .u8 0, .int .u64 0, .int .u64 0, .string ⟨#[]⟩] 25)) := (Below.refl _ _).alloc (Nat.le_refl _) _
  have hR0 : OB (w.alloc (.cells #[.int .u8 0, .int .u64 0, .int .u64 0, .string ⟨#[]⟩] 25)) w.heap.size 0 0 0 ⟨#[]⟩ := by
    unfold OB
    show (w.heap.push _)[_]? = _
    simp
  have HP := Lib.hid (hp.along hW0b)
  have HR0 := Lib.hid hR0
  have HBL := Lib.hid hW0b
  have HSM := Lib.hid hsm
  have hkl := pK_lt hsm
  have hnl : (txt (pN l)).size ≤ 9223372036854775807 := by
    rw [txt_size]
    unfold pN takeText
    split
    · simp
    · have h1 : (takeNum (pl3 l) 64).1 ≤ 64 := by
        unfold takeNum
        split
        · simp
        · rename_i h; simp only [not_or, Nat.not_lt] at h; exact h.2
      simp only [List.length_take]
      omega
  have HRD := fun (x : World) (u : Value) (h : Bytes x x.heap.size u l) => hide (read_any x u l h (by omega))
  have HRT := fun (x : World) (h : Below w.heap.size w x) => hide (right_any x (pK l) (pA l) (pB l) (txt (pN l)) hkl hnl (hv.below h))
  rw [hr] at HRT
  unfold opV at HRT
  obtain ⟨PK, hPK⟩ : ∃ x, (takeByte l).1 = x := ⟨_, rfl⟩
  obtain ⟨PA, hPA⟩ : ∃ x, (takeNum (pl1 l) 18446744073709551615).1 = x := ⟨_, rfl⟩
  obtain ⟨PB, hPB⟩ : ∃ x, (takeNum (pl2 l) 18446744073709551615).1 = x := ⟨_, rfl⟩
  obtain ⟨PN, hPN⟩ : ∃ x, txt (takeText (pl3 l) 64).1 = x := ⟨_, rfl⟩
  rw [show pK l = PK from hPK, show pA l = PA from hPA, show pB l = PB from hPB, show txt (pN l) = PN from hPN] at HRT
  have HPK := Lib.hid hPK
  have HPA := Lib.hid hPA
  have HPB := Lib.hid hPB
  have HPN := Lib.hid hPN
  have HDN := Lib.hid hdone
  unfold opV at *
  clear hp hsm hR0 hW0b hok hv hkl hnl hdone hr hPK hPA hPB hPN
  go_enter Tryz.func12, Tryz.ntmps12
  go_wp2_with (first
    | (go_at_call 32; (with_reducible refine (unhide (HRD _ _ HP.out)).mono ?_); rintro e w1 ⟨g, u1, rfl, hR1, hg1, hb1⟩; go_loud (
        have hlt : w.heap.size < g := by (have := hg1; simp at this; omega);
        have HR0 := Lib.hid (show OB w1 w.heap.size 0 0 0 ⟨#[]⟩ from (hb1.block _ (lt_of_heap HR0.out)).trans HR0.out);
        have HBL := Lib.hid (ridec hb1 HBL.out);
        have HY := hide (rbyte_any w1 g g u1 false l hR1);
        have HGL := Lib.hid hlt;
        clear hb1 hR1 hg1 hlt))
    | (go_at_call 33; refine (unhide HY).mono ?_; rintro e w2 ⟨he2, u2, hR2, hC2⟩; rw [HPK.out] at he2; subst he2; go_loud (
        have HR0 := Lib.hid (show OB w2 w.heap.size 0 0 0 ⟨#[]⟩ from (hC2.block _ (lt_of_heap HR0.out) (by (have := HGL.out; omega)) (by simp)).trans HR0.out);
        have HBL := Lib.hid (hC2.below HBL.out HBL.out.size (Nat.le_of_lt HGL.out) (fun k e => by cases e));
        have HN1 := hide (rnum_any w2 g g 18446744073709551615 u2 _ (pl1 l) hR2 (by omega));
        clear hR2 hC2))
    | (go_at_call 34; refine (unhide HN1).mono ?_; rintro e w3 ⟨he3, u3, hR3, hC3⟩; rw [HPA.out] at he3; subst he3; go_loud (
        have HR0 := Lib.hid (show OB w3 w.heap.size 0 0 0 ⟨#[]⟩ from (hC3.block _ (lt_of_heap HR0.out) (by (have := HGL.out; omega)) (by simp)).trans HR0.out);
        have HBL := Lib.hid (hC3.below HBL.out HBL.out.size (Nat.le_of_lt HGL.out) (fun k e => by cases e));
        have HN2 := hide (rnum_any w3 g g 18446744073709551615 u3 _ (pl2 l) hR3 (by omega));
        clear hR3 hC3 HN1))
    | (go_at_call 34; refine (unhide HN2).mono ?_; rintro e w4 ⟨he4, u4, hR4, hC4⟩; rw [HPB.out] at he4; subst he4; go_loud (
        have HR0 := Lib.hid (show OB w4 w.heap.size 0 0 0 ⟨#[]⟩ from (hC4.block _ (lt_of_heap HR0.out) (by (have := HGL.out; omega)) (by simp)).trans HR0.out);
        have HBL := Lib.hid (hC4.below HBL.out HBL.out.size (Nat.le_of_lt HGL.out) (fun k e => by cases e));
        have HT4 := hide (rtext_any w4 g g 64 u4 _ (pl3 l) hR4 (by omega));
        clear hR4 hC4 HN2))
    | (go_at_call 35; refine (unhide HT4).mono ?_; rintro e w5 ⟨he5, u5, hR5, hC5⟩; rw [HPN.out] at he5; subst he5; go_loud (
        have HR0 := Lib.hid (show OB w5 w.heap.size 0 0 0 ⟨#[]⟩ from (hC5.block _ (lt_of_heap HR0.out) (by (have := HGL.out; omega)) (by simp)).trans HR0.out);
        have HBL := Lib.hid (hC5.below HBL.out HBL.out.size (Nat.le_of_lt HGL.out) (fun k e => by cases e));
        have HD5 := fun (o : Obj) => hide (rdone_any (w5.alloc o) g g u5 _ (pl4 l) (hR5.below ((Below.refl _ _).alloc (Nat.le_refl _) o)));
        obtain ⟨y0, y1, y2, y3, x0, x1, x2, x3⟩ := HR0.out.cells;
        have hlt5 := lt_of_heap HR0.out;
        clear hR5 hC5))
    | (go_at_call 36; refine (unhide (HD5 _)).mono ?_; rintro e w6 ⟨he6, hw6⟩; rw [HDN.out] at he6; subst he6; rw [← hw6]; clear hw6 w6)
    | (go_at_call 9; (with_reducible refine (unhide (HRT _ (HBL.out.alloc HBL.out.size _))).mono ?_); rintro e w7 ⟨rfl, hb7⟩; go_loud (
        have HR0 := Lib.hid (show OB w7 w.heap.size 0 0 0 ⟨#[]⟩ from (hb7.block _ (by (have := lt_of_heap HR0.out; simp; omega))).trans ((Below.heap_alloc _ _ _ (lt_of_heap HR0.out)).trans HR0.out));
        obtain ⟨y0, y1, y2, y3, x0, x1, x2, x3⟩ := HR0.out.cells;
        obtain ⟨z0, z1, z2, z3⟩ := box4 hb7;
        have HBL := Lib.hid (ridec hb7 (HBL.out.alloc HBL.out.size _));
        clear hb7)))
  refine op_ret2 (p := 2) (u := 3) (g := w.heap.size) (cs := #[.int .u8 0, .int .u64 0, .int .u64 0, .string ⟨#[]⟩]) rfl rfl rfl rfl (op_put HR0.out) rfl ?_
  exact ⟨below_put HBL.out (Nat.le_refl _), rfl⟩
set_option maxRecDepth 100000 in
set_option maxHeartbeats 4000000 in
theorem oparse_z (w : World) (v : Value) (l : List Nat) (hp : Bytes w w.heap.size v l) (hl : l.length ≤ 1000000) (hv : Vo w) (hok : pOk l = true) (hr : rightO (pK l) (pA l) (pB l) (str (txt (pN l))) = true) :
    Calls Tryz.prog 12 #[v] w fun e w' => Below w.heap.size w w' ∧ e = .returned (.tuple #[opV (pK l) (pA l) (pB l) (txt (pN l)), .int .i64 0]) := by
  have hsm := hp.small
  have hdone := done_parts l
  rw [hok] at hdone
  simp only [if_true, Bool.false_eq_true, if_false] at hdone
  have hW0b : Below w.heap.size w (w.alloc (.cells #[.int .u8 0, .int .u64 0, .int .u64 0, .string ⟨#[]⟩] 25)) := (Below.refl _ _).alloc (Nat.le_refl _) _
  have hR0 : OB (w.alloc (.cells #[.int .u8 0, .int .u64 0, .int .u64 0, .string ⟨#[]⟩] 25)) w.heap.size 0 0 0 ⟨#[]⟩ := by
    unfold OB
    show (w.heap.push _)[_]? = _
    simp
  have HP := Lib.hid (hp.along hW0b)
  have HR0 := Lib.hid hR0
  have HBL := Lib.hid hW0b
  have HSM := Lib.hid hsm
  have hkl := pK_lt hsm
  have hnl : (txt (pN l)).size ≤ 9223372036854775807 := by
    rw [txt_size]
    unfold pN takeText
    split
    · simp
    · have h1 : (takeNum (pl3 l) 64).1 ≤ 64 := by
        unfold takeNum
        split
        · simp
        · rename_i h; simp only [not_or, Nat.not_lt] at h; exact h.2
      simp only [List.length_take]
      omega
  have HRD := fun (x : World) (u : Value) (h : Bytes x x.heap.size u l) => hide (read_any x u l h (by omega))
  have HRT := fun (x : World) (h : Below w.heap.size w x) => hide (right_any x (pK l) (pA l) (pB l) (txt (pN l)) hkl hnl (hv.below h))
  rw [hr] at HRT
  unfold opV at HRT
  obtain ⟨PK, hPK⟩ : ∃ x, (takeByte l).1 = x := ⟨_, rfl⟩
  obtain ⟨PA, hPA⟩ : ∃ x, (takeNum (pl1 l) 18446744073709551615).1 = x := ⟨_, rfl⟩
  obtain ⟨PB, hPB⟩ : ∃ x, (takeNum (pl2 l) 18446744073709551615).1 = x := ⟨_, rfl⟩
  obtain ⟨PN, hPN⟩ : ∃ x, txt (takeText (pl3 l) 64).1 = x := ⟨_, rfl⟩
  rw [show pK l = PK from hPK, show pA l = PA from hPA, show pB l = PB from hPB, show txt (pN l) = PN from hPN] at HRT ⊢
  have HPK := Lib.hid hPK
  have HPA := Lib.hid hPA
  have HPB := Lib.hid hPB
  have HPN := Lib.hid hPN
  have HDN := Lib.hid hdone
  unfold opV at *
  clear hp hsm hR0 hW0b hok hv hkl hnl hdone hr hPK hPA hPB hPN
  go_enter Tryz.func12, Tryz.ntmps12
  go_wp2_with (first
    | (go_at_call 32; (with_reducible refine (unhide (HRD _ _ HP.out)).mono ?_); rintro e w1 ⟨g, u1, rfl, hR1, hg1, hb1⟩; go_loud (
        have hlt : w.heap.size < g := by (have := hg1; simp at this; omega);
        have HR0 := Lib.hid (show OB w1 w.heap.size 0 0 0 ⟨#[]⟩ from (hb1.block _ (lt_of_heap HR0.out)).trans HR0.out);
        have HBL := Lib.hid (ridec hb1 HBL.out);
        have HY := hide (rbyte_any w1 g g u1 false l hR1);
        have HGL := Lib.hid hlt;
        clear hb1 hR1 hg1 hlt))
    | (go_at_call 33; refine (unhide HY).mono ?_; rintro e w2 ⟨he2, u2, hR2, hC2⟩; rw [HPK.out] at he2; subst he2; go_loud (
        have HR0 := Lib.hid (show OB w2 w.heap.size 0 0 0 ⟨#[]⟩ from (hC2.block _ (lt_of_heap HR0.out) (by (have := HGL.out; omega)) (by simp)).trans HR0.out);
        have HBL := Lib.hid (hC2.below HBL.out HBL.out.size (Nat.le_of_lt HGL.out) (fun k e => by cases e));
        have HN1 := hide (rnum_any w2 g g 18446744073709551615 u2 _ (pl1 l) hR2 (by omega));
        clear hR2 hC2))
    | (go_at_call 34; refine (unhide HN1).mono ?_; rintro e w3 ⟨he3, u3, hR3, hC3⟩; rw [HPA.out] at he3; subst he3; go_loud (
        have HR0 := Lib.hid (show OB w3 w.heap.size 0 0 0 ⟨#[]⟩ from (hC3.block _ (lt_of_heap HR0.out) (by (have := HGL.out; omega)) (by simp)).trans HR0.out);
        have HBL := Lib.hid (hC3.below HBL.out HBL.out.size (Nat.le_of_lt HGL.out) (fun k e => by cases e));
        have HN2 := hide (rnum_any w3 g g 18446744073709551615 u3 _ (pl2 l) hR3 (by omega));
        clear hR3 hC3 HN1))
    | (go_at_call 34; refine (unhide HN2).mono ?_; rintro e w4 ⟨he4, u4, hR4, hC4⟩; rw [HPB.out] at he4; subst he4; go_loud (
        have HR0 := Lib.hid (show OB w4 w.heap.size 0 0 0 ⟨#[]⟩ from (hC4.block _ (lt_of_heap HR0.out) (by (have := HGL.out; omega)) (by simp)).trans HR0.out);
        have HBL := Lib.hid (hC4.below HBL.out HBL.out.size (Nat.le_of_lt HGL.out) (fun k e => by cases e));
        have HT4 := hide (rtext_any w4 g g 64 u4 _ (pl3 l) hR4 (by omega));
        clear hR4 hC4 HN2))
    | (go_at_call 35; refine (unhide HT4).mono ?_; rintro e w5 ⟨he5, u5, hR5, hC5⟩; rw [HPN.out] at he5; subst he5; go_loud (
        have HR0 := Lib.hid (show OB w5 w.heap.size 0 0 0 ⟨#[]⟩ from (hC5.block _ (lt_of_heap HR0.out) (by (have := HGL.out; omega)) (by simp)).trans HR0.out);
        have HBL := Lib.hid (hC5.below HBL.out HBL.out.size (Nat.le_of_lt HGL.out) (fun k e => by cases e));
        have HD5 := fun (o : Obj) => hide (rdone_any (w5.alloc o) g g u5 _ (pl4 l) (hR5.below ((Below.refl _ _).alloc (Nat.le_refl _) o)));
        obtain ⟨y0, y1, y2, y3, x0, x1, x2, x3⟩ := HR0.out.cells;
        have hlt5 := lt_of_heap HR0.out;
        clear hR5 hC5))
    | (go_at_call 36; refine (unhide (HD5 _)).mono ?_; rintro e w6 ⟨he6, hw6⟩; rw [HDN.out] at he6; subst he6; rw [← hw6]; clear hw6 w6)
    | (go_at_call 9; (with_reducible refine (unhide (HRT _ (HBL.out.alloc HBL.out.size _))).mono ?_); rintro e w7 ⟨rfl, hb7⟩; go_loud (
        have HR0 := Lib.hid (show OB w7 w.heap.size 0 0 0 ⟨#[]⟩ from (hb7.block _ (by (have := lt_of_heap HR0.out; simp; omega))).trans ((Below.heap_alloc _ _ _ (lt_of_heap HR0.out)).trans HR0.out));
        obtain ⟨y0, y1, y2, y3, x0, x1, x2, x3⟩ := HR0.out.cells;
        obtain ⟨z0, z1, z2, z3⟩ := box4 hb7;
        have HBL := Lib.hid (ridec hb7 (HBL.out.alloc HBL.out.size _));
        clear hb7)))
  refine op_ret2 (p := 2) (u := 3) (g := w.heap.size) (cs := #[.int .u8 (PK : Int), .int .u64 (PA : Int), .int .u64 (PB : Int), .string PN]) rfl rfl rfl rfl (op_put HR0.out) rfl ?_
  exact ⟨below_put HBL.out (Nat.le_refl _), rfl⟩
theorem oparse_any (w : World) (v : Value) (l : List Nat) (hp : Bytes w w.heap.size v l) (hl : l.length ≤ 1000000) (hv : Vo w) :
    Calls Tryz.prog 12 #[v] w (ParseF w l) := by
  have hsm := hp.small
  have hno : ∀ (h : pOk l = false ∨ rightO (pK l) (pA l) (pB l) (str (txt (pN l))) = false) (k a b : Nat) (s : ByteArray), a < 18446744073709551616 → b < 18446744073709551616 → rightO k a b (str s) = true → bytesO k a b (str s) ≠ l := by
    intro h k a b s ha hb hr e
    obtain ⟨e1, e2, e3, e4, e5⟩ := parse_bytes (k := k) (rightO_len hr) ha hb
    rw [e] at e1 e2 e3 e4 e5
    rcases h with h | h
    · rw [h] at e5; cases e5
    · rw [e1, e2, e3, str_txt (pN_small hsm), e4, hr] at h
      cases h
  rcases hok : pOk l with _ | _
  · exact (oparse_x w v l hp hl hv hok).mono fun e w' ⟨hb, he⟩ => ⟨hb, .inr ⟨he, hno (.inl hok)⟩⟩
  · rcases hr : rightO (pK l) (pA l) (pB l) (str (txt (pN l))) with _ | _
    · exact (oparse_y w v l hp hl hv hok hr).mono fun e w' ⟨hb, he⟩ => ⟨hb, .inr ⟨he, hno (.inr hr)⟩⟩
    · obtain ⟨h1, h2, h3⟩ := parse_only hsm hok
      refine (oparse_z w v l hp hl hv hok hr).mono fun e w' ⟨hb, he⟩ => ⟨hb, .inl ⟨pK l, pA l, pB l, txt (pN l), pK_lt hsm, h1, h2, ?_, hr, ?_, he⟩⟩
      · have := rightO_len hr
        rw [str_length] at this
        exact this
      · rw [str_txt (pN_small hsm), ← h3]
end Go.Proofs.YtfnobibjphnmdaaGreatDoor
