/- The law ArenaSame, walked. -/
import Derived.Test.YtdphpjlhkamadaaZ47
namespace Go.Proofs.Ytdphpjlhkamadaa
open Go.RowKit Go.Shelf
set_option linter.unusedSimpArgs false
set_option linter.unusedVariables false
set_option maxRecDepth 100000
attribute [local go_sem] Oper.semAt_some undef
theorem RowsIn.up {w : World} {B B' n : Nat} {A : Option Addr} {rs : List (Nat × Nd)} (h : RowsIn w B A n rs) (hB : B ≤ B') : RowsIn w B' A n rs := by
  refine ⟨h.len, h.long, fun k p hp => ?_⟩
  obtain ⟨ad, q, Ak, ck, e1, e2, hq, c0, c1, c2, c3, c4, c5, c6, hi, h7⟩ := h.row k p hp
  exact ⟨ad, q, Ak, ck, e1, e2, Nat.lt_of_lt_of_le hq hB, c0, c1, c2, c3, c4, c5, c6, hi.up hB, h7⟩
def ToB (w : World) (v : Value) (e : Ending) (w' : World) : Prop := e = .returned v ∧ Below w.heap.size w w'
theorem getz (w : World) (x : Value) : Calls Try.prog 12 #[.pointer none, x] w (fun e w' => ∃ A c, e = .returned (.tuple #[.agg #[.int .u8 0, .string ⟨#[]⟩, .int .i64 0, .int .u8 0, .int .u64 0, .slice A 0 c], .bool false]) ∧ Below w.heap.size w w') :=
  (get_nil w x).mono fun e w' ⟨A, c, he, _, _, hb⟩ => ⟨A, c, he, hb⟩
theorem putz (w : World) (x : Value) : Calls Try.prog 27 #[.pointer none, x, .agg #[.int .u8 0, .string ⟨#[]⟩, .int .i64 0, .int .u8 0, .int .u64 0, .slice none 0 0]] w (fun e w' => e = .returned (.int .i64 3) ∧ Below w.heap.size w w') := put_nil w x (.slice none 0 0) zeroNd
theorem puta (w : World) (base ga gm gp N B : Nat) (F : PF) (vs : List (Nat × Value)) (ns : List (Nat × Nd)) (h : AR w base ga gm gp F vs ns N) (hB : B ≤ w.heap.size) (hb : B ≤ base) :
    Calls Try.prog 27 #[.pointer (some ⟨ga, 0, none⟩), .int .u64 0, .agg #[.int .u8 0, .string ⟨#[]⟩, .int .i64 0, .int .u8 0, .int .u64 0, .slice none 0 0]] w (fun e w' => e = .returned (.int .i64 1) ∧ Below B w w') :=
  (put_zero w base ga gm gp N F vs ns (.slice none 0 0) zeroNd h).mono fun e w' ⟨he, F', vs', _, hT, _⟩ => ⟨he, hT.below hB fun j hj => Nat.le_trans hb (h.low hj)⟩
theorem bool_iff {a b : Bool} {p q : Prop} (ha : a = true ↔ p) (hb : b = true ↔ q) (h : p ↔ q) : b = a := by
  rw [Bool.eq_iff_iff, hb, ha, h]
set_option maxHeartbeats 4000000 in
theorem arenaSame_walk (w : World) (A A' : Option Addr) (N N' c c' id : Nat) (rs rs' : List (Nat × Nd)) (h : RowsIn w w.heap.size A N rs) (h' : RowsIn w w.heap.size A' N' rs') :
    Calls Try.prog 5 #[.slice A N c, .slice A' N' c', .int .u64 (id : Int)] w (fun e w' => e = .returned (.bool true) ∧ Below w.heap.size w w') := by
  have HAW := Lib.hid (awake_true w)
  have HH := Lib.hid h
  have HH' := Lib.hid h'
  clear h h'
  go_enter Try.func5, Try.ntmps5
  go_wp2_with (first
    | (go_at_call 8; (with_reducible refine (HAW.out).mono ?_); rintro e w0 ⟨rfl, hb0⟩; go_loud (
        have HB0 := Lib.hid hb0;
        have HL1 := Lib.hid (lay_any w0 A N c rs ((HH.out.below hb0).up hb0.size));
        clear hb0))
    | (go_at_call 9; (with_reducible refine (HL1.out).mono ?_); rintro e w1 ⟨b1, ga, gm, gp, xv, xs, F1, vs1, rfl, hb1, hx1, hn1, hA1, hf1, hw1⟩; go_loud (
        have hbb := HB0.out.trans (hw1.mono HB0.out.size);
        have HL2 := Lib.hid (lay_any w1 A' N' c' rs' ((HH'.out.below hbb).up hbb.size));
        obtain ⟨Ax, cx, rfl⟩ := row_form hx1.own;
        obtain ⟨nx, hnx⟩ : ∃ nx, nx = xs.length := ⟨_, rfl⟩;
        rw [← hnx] at hx1 ⊢;
        have HB1 := Lib.hid hbb;
        have HBA := Lib.hid (Nat.le_trans HB0.out.size hb1);
        have HX1 := Lib.hid hx1;
        have HN1 := Lib.hid hn1;
        have HA1 := Lib.hid hA1;
        have HF1 := Lib.hid hf1;
        have HNX := Lib.hid hnx;
        clear hb1 hx1 hn1 hA1 hf1 hw1 hbb hnx))
    | (go_at_call 9; (with_reducible refine (HL2.out).mono ?_); rintro e w2 ⟨b2, ga2, gm2, gp2, xv2, ys, F2, vs2, rfl, hb2, hx2, hn2, hA2, hf2, hw2⟩; go_loud (
        have hbb := HB1.out.trans (hw2.mono HB1.out.size);
        obtain ⟨Ay, cy, rfl⟩ := row_form hx2.own;
        obtain ⟨ny, hny⟩ : ∃ ny, ny = ys.length := ⟨_, rfl⟩;
        rw [← hny] at hx2 ⊢;
        have HB2 := Lib.hid hbb;
        have HW12 := Lib.hid hw2;
        have HX2 := Lib.hid hx2;
        have HN2 := Lib.hid hn2;
        have HA2 := Lib.hid hA2;
        have HNY := Lib.hid hny;
        clear hb2 hx2 hn2 hA2 hf2 hw2 hbb hny))
    | (go_at_call 12; (with_reducible refine (getz _ _).mono ?_); rintro e w3 ⟨Az, cz, rfl, hb3⟩; go_loud (
        have HW23 := Lib.hid hb3;
        clear hb3))
    | (go_at_call 25; (with_reducible refine (parent_nil _ _).mono ?_); rintro e w4 ⟨rfl, hb4⟩; go_loud (
        have h24 : Below w2.heap.size w2 w4 := (HW23.out.alloc HW23.out.size _).trans (hb4.mono (HW23.out.alloc HW23.out.size _).size);
        have h14 : Below w1.heap.size w1 w4 := HW12.out.trans (h24.mono HW12.out.size);
        have hlen : (layL rs).length ≤ 31 := HF1.out.len;
        have HS4 := Lib.hid (same_any w4 (HA1.out.below h14) (HA2.out.below h24) (Nat.le_trans hlen (by omega)));
        have HW14 := Lib.hid h14;
        have HW24 := Lib.hid h24;
        have HB4 := Lib.hid (HB2.out.trans (h24.mono HB2.out.size));
        have HLEN := Lib.hid hlen;
        clear hb4 h24 h14 hlen))
    | (go_at_call 23; (with_reducible refine (HS4.out).mono ?_); rintro e w5 ⟨⟨bs, rfl, hbs⟩, hb5⟩; go_loud (
        have h15 := HW14.out.trans (hb5.mono HW14.out.size);
        have h25 := HW24.out.trans (hb5.mono HW24.out.size);
        have hxl : nx ≤ 1000000 := by rw [HNX.out, ← xNs_length xs, HN1.out]; exact Nat.le_trans HLEN.out (by omega);
        have HEQ := Lib.hid (requal_any w5 _ _ nx ny cx cy Ax Ay xs ys (HX1.out.below h15) (HX2.out.below h25) HNX.out HNY.out hxl);
        have HBS := Lib.hid hbs;
        have HW15 := Lib.hid h15;
        have HB5 := Lib.hid (HB4.out.trans (hb5.mono HB4.out.size));
        clear hb5 hbs h15 h25 hxl))
    | (go_at_call 14; (with_reducible refine (HEQ.out).mono ?_); rintro e w6 ⟨⟨be, rfl, hbe⟩, hb6⟩; go_loud (
        obtain rfl : be = bs := bool_iff HBS.out hbe (by rw [HN1.out, HN2.out]);
        have h16 := HW15.out.trans (hb6.mono HW15.out.size);
        have hsu := HF1.out.sum;
        have HCP := Lib.hid (copy_any w6 _ ga gm gp _ F1 vs1 _ (HA1.out.below h16) (by omega) (Nat.le_trans HLEN.out (by omega)));
        have HW16 := Lib.hid h16;
        have HB6 := Lib.hid (HB5.out.trans (hb6.mono HB5.out.size));
        have hbb : (be == be) = true := by simp;
        clear hb6 hbe h16 hsu))
    | (go_at_call 10; (with_reducible refine (HCP.out).mono ?_); rintro e w7 ⟨gc, gcm, gcp, Fc, vsc, rfl, hAc, hb7⟩; go_loud (
        have h17 := HW16.out.trans (hb7.mono HW16.out.size);
        have HS7 := Lib.hid (same_any w7 (HA1.out.below h17) hAc (Nat.le_trans HLEN.out (by omega)));
        have HW17 := Lib.hid h17;
        have HB7 := Lib.hid (HB6.out.trans (hb7.mono HB6.out.size));
        clear hb7 hAc h17))
    | (go_at_call 23; (with_reducible refine (HS7.out).mono ?_); rintro e w8 ⟨⟨bt, rfl, hbt⟩, hb8⟩; go_loud (
        obtain rfl : bt = true := hbt.2 trivial;
        have HW18 := Lib.hid (HW17.out.trans (hb8.mono HW17.out.size));
        have HB8 := Lib.hid (HB7.out.trans (hb8.mono HB7.out.size));
        clear hb8 hbt))
    | (go_at_call 23; (with_reducible refine (same_nils _).mono ?_); rintro e w9 ⟨rfl, hb9⟩; go_loud (
        have HW19 := Lib.hid (HW18.out.trans (hb9.mono HW18.out.size));
        have HB9 := Lib.hid (HB8.out.trans (hb9.mono HB8.out.size));
        clear hb9))
    | (go_at_call 23; (with_reducible refine (same_one _ _).mono ?_); rintro e w10 ⟨rfl, hb10⟩; go_loud (
        have HW110 := Lib.hid (HW19.out.trans (hb10.mono HW19.out.size));
        have HB10 := Lib.hid (HB9.out.trans (hb10.mono HB9.out.size));
        clear hb10))
    | (go_at_call 26; (with_reducible refine (root_nil _).mono ?_); rintro e w11 ⟨rfl, hb11⟩; go_loud (
        have HW111 := Lib.hid (HW110.out.trans (hb11.mono HW110.out.size));
        have HB11 := Lib.hid (HB10.out.trans (hb11.mono HB10.out.size));
        clear hb11))
    | (go_at_call 27; (with_reducible refine (putz _ _).mono ?_); rintro e w12 ⟨rfl, hb12⟩; go_loud (
        have h112 := HW111.out.trans (hb12.mono HW111.out.size);
        have hb := HB11.out.trans (hb12.mono HB11.out.size);
        have HPA := Lib.hid (puta w12 _ ga gm gp _ w.heap.size F1 vs1 _ (HA1.out.below h112) hb.size HBA.out);
        have HB12 := Lib.hid hb;
        clear hb12 h112 hb))
    | (go_at_call 27; (with_reducible refine (HPA.out).mono ?_); rintro e w13 ⟨rfl, hb13⟩; go_loud (
        have HB13 := Lib.hid (HB12.out.trans hb13);
        clear hb13))
    | (go_at_call 13; (with_reducible refine (drop_nil _ _).mono ?_); rintro e w14 ⟨rfl, hb14⟩; go_loud (
        have HB14 := Lib.hid (HB13.out.trans (hb14.mono HB13.out.size));
        clear hb14))
    | (go_at_call 28; (with_reducible refine (len_nil _).mono ?_); rintro e w15 ⟨rfl, hb15⟩; go_loud (
        have HB15 := Lib.hid (HB14.out.trans (hb15.mono HB14.out.size));
        clear hb15))
    | (go_at_call 29; (with_reducible refine (ids_nil _).mono ?_); rintro e w16 ⟨rfl, hb16⟩; go_loud (
        have HB16 := Lib.hid (HB15.out.trans (hb16.mono HB15.out.size));
        clear hb16))
    | (go_at_call 19; (with_reducible refine (bytes_nil _).mono ?_); rintro e w17 ⟨rfl, hb17⟩; go_loud (
        have HB17 := Lib.hid (HB16.out.trans (hb17.mono HB16.out.size));
        clear hb17))
    | (go_at_call 30; (with_reducible refine (told_nil _ _ _).mono ?_); rintro e w18 ⟨rfl, hb18⟩; go_loud (
        have HB18 := Lib.hid (HB17.out.trans (hb18.mono HB17.out.size));
        clear hb18))
    | (go_at_call 31; (with_reducible refine (above_nil _ _ _).mono ?_); rintro e w19 ⟨rfl, hb19⟩; go_loud (
        have HB19 := Lib.hid (HB18.out.trans (hb19.mono HB18.out.size));
        clear hb19))
    | (go_at_call 10; (with_reducible refine (copy_nil _).mono ?_); rintro e w20 ⟨rfl, hb20⟩; go_loud (
        have HB20 := Lib.hid (HB19.out.trans (hb20.mono HB19.out.size));
        clear hb20))
    | (go_at_call 32; (with_reducible refine (tree_nil _).mono ?_); rintro e w21 ⟨rfl, hb21⟩; go_loud (
        have HB21 := Lib.hid (HB20.out.trans (hb21.mono HB20.out.size));
        clear hb21)))
  go_ret
  exact ⟨rfl, HB21.out⟩
end Go.Proofs.Ytdphpjlhkamadaa
