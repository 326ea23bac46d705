/- AAwake, ANil, ArenaSameWalk, OpenRows: joined by program (tools/merge.py). -/
import Derived.Test.YtogkeoainejfcaaACopy
import Derived.Test.YtogkeoainejfcaaAREq
import Derived.ProofKit
import Derived.OpenShut
import Derived.WalkKit
import Derived.Deep.Slices
namespace Go.Proofs.Ytogkeoainejfcaa
open Go.RowKit Go.Shelf
set_option linter.unusedSimpArgs false
set_option linter.unusedVariables false
set_option maxRecDepth 100000
attribute [local go_sem] Oper.semAt_some undef
def modNd : Nd := ⟨2, ⟨#[]⟩, 0, 0, 0, []⟩
theorem tree_new : treeB [(1, progNd)] = true := by rfl
theorem tree_two : treeB (putL' [(1, progNd)] 2 modNd) = false := by rfl
set_option maxHeartbeats 2000000 in
theorem awake_true (w : World) : Calls Try.prog 8 #[] w (fun e w' => e = .returned (.bool true) ∧ Below w.heap.size w w') := by
  have HN := Lib.hid (new_any w)
  go_enter Try.func8, Try.ntmps8
  go_wp2_with (first
    | (go_at_call 36; (with_reducible refine (HN.out).mono ?_); rintro e w1 ⟨ga, gm, gp, F, vs, rfl, hA, hb1⟩; go_loud (
        have HA := Lib.hid hA;
        have HB1 := Lib.hid hb1;
        have HRT := Lib.hid (root_any w1 ⟨ga, 0, none⟩);
        clear hA hb1))
    | (go_at_call 26; (with_reducible refine (HRT.out).mono ?_); rintro e w2 ⟨rfl, hb2⟩; go_loud (
        have HB2 := Lib.hid (HB1.out.trans (hb2.mono HB1.out.size));
        have HA2 := Lib.hid (HA.out.below hb2);
        have ht := tree_any w2 _ ga gm gp 0 F vs [(1, progNd)] HA2.out (by decide) (by decide);
        rw [tree_new] at ht;
        have HT := Lib.hid ht;
        clear hb2 ht))
    | (go_at_call 32; (with_reducible refine (HT2.out).mono ?_); rintro e w6 ⟨rfl, hb6⟩; go_loud (
        have HB6 := Lib.hid (HB5.out.trans (hb6.mono HB5.out.size));
        have hl := len_any w6 _ ga gm gp _ F5 vs5 _ (HA5.out.below hb6);
        have HL := Lib.hid hl;
        clear hb6 hl))
    | (go_at_call 32; (with_reducible refine (HT.out).mono ?_); rintro e w3 ⟨rfl, hb3⟩; go_loud (
        have HB3 := Lib.hid (HB2.out.trans (hb3.mono HB2.out.size));
        have HA3 := Lib.hid (HA2.out.below hb3);
        have hput : Calls Try.prog 27 #[.pointer (some ⟨ga, 0, none⟩), .int .u64 2, .agg #[.int .u8 2, .string ⟨#[]⟩, .int .i64 0, .int .u8 0, .int .u64 0, .slice none 0 0]] w3 (PutR w3 w.heap.size ga gm gp F 0 (putL' [(1, progNd)] 2 modNd) 0) := put_good w3 _ ga gm gp 2 0 F vs [(1, progNd)] modNd none 0 HA3.out (by decide) (by decide) (.inr (by decide)) ⟨⟨none, 0, rfl, IdSl.nil _ _⟩, ⟨by decide, by decide, by decide, by decide, by decide⟩⟩ (IdSl.nil _ _) (by decide) (by decide);
        have HP := Lib.hid hput;
        clear hb3 hput))
    | (go_at_call 27; (with_reducible refine (HP.out).mono ?_); rintro e w5 ⟨rfl, F5, vs5, hA5, hT5, hO5⟩; go_loud (
        have HA5 := Lib.hid hA5;
        have HB5 := Lib.hid (HB3.out.trans (hT5.below HB3.out.size fun j hj => HA3.out.low hj));
        have ht2 := tree_any w5 _ ga gm gp 0 F5 vs5 _ hA5 (by decide) (by decide);
        rw [tree_two] at ht2;
        have HT2 := Lib.hid ht2;
        clear hA5 hT5 hO5 ht2))
    | (go_at_call 28; (with_reducible refine (HL.out).mono ?_); rintro e w7 ⟨rfl, hb7⟩; go_loud (
        rw [show (((putL' [(1, progNd)] 2 modNd).length : Nat) : Int) = 2 from rfl];
        have HB7 := Lib.hid (HB6.out.trans (hb7.mono HB6.out.size));
        clear hb7)))
  go_ret
  exact ⟨rfl, HB7.out⟩
end Go.Proofs.Ytogkeoainejfcaa
namespace Go.Proofs.Ytogkeoainejfcaa
open Go.RowKit Go.Shelf
set_option linter.unusedSimpArgs false
set_option linter.unusedVariables false
set_option maxRecDepth 100000
attribute [local go_sem] Oper.semAt_some undef
theorem ids_nil (w : World) : Calls Try.prog 29 #[.pointer none] w (fun e w' => e = .returned (.slice none 0 0) ∧ Below w.heap.size w w') := by
  go_enter Try.func29, Try.ntmps29
  go_wp2_with fail
  go_ret
  exact ⟨rfl, Below.refl _ _⟩
theorem bytes_nil (w : World) : Calls Try.prog 19 #[.pointer none] w (fun e w' => e = .returned (.slice none 0 0) ∧ Below w.heap.size w w') := by
  go_enter Try.func19, Try.ntmps19
  go_wp2_with fail
  go_ret
  exact ⟨rfl, Below.refl _ _⟩
/-- What told keeps while it ranges over nothing. -/
def ToldI (w0 : World) (W : World) : Prop := Below w0.heap.size w0 W ∧ W.heap[w0.heap.size + 1]? = some (.cells #[.slice none 0 0] 30 (0, 0))
theorem toldI_own {w0 : World} {B : Nat} {α : Type} (hB : w0.heap.size ≤ B) : OwnFrom B (fun (_ : List α) W => ToldI w0 W) := fun pre W W' row hs hg hr =>
  ⟨hs.1.trans ⟨hg.os, hg.tape, hg.output, hg.size, fun j hj => hg.block j (Nat.lt_of_lt_of_le hj hs.1.size) fun e => by have := (hr j e.symm).1; omega⟩, grown_cells hg hr hs.2⟩
set_option maxHeartbeats 4000000 in
theorem told_nil (w : World) (id : Nat) (m : Int) : Calls Try.prog 30 #[.pointer none, .int .u64 (id : Int), .int .i64 m] w (fun e w' => e = .returned (.slice none 0 0) ∧ Below w.heap.size w w') := by
  obtain ⟨w1, hw1⟩ : ∃ w1, w1 = (w.alloc (.cells #[.int .i64 m] 3)).alloc (.cells #[.slice none 0 0] 30) := ⟨_, rfl⟩
  have hb1 : Below w.heap.size w w1 := by rw [hw1]; exact ((Below.refl _ _).alloc (Nat.le_refl _) _).alloc (by simp) _
  have hx1 : w1.heap[w.heap.size + 1]? = some (.cells #[.slice none 0 0] 30 (0, 0)) := by rw [hw1]; exact alloc2 _ _ _ _ _
  have HWK := Lib.hid (walk_nil w1 (.int .u64 (id : Int)) [])
  subst hw1
  have HB1 := Lib.hid hb1
  have HX1 := Lib.hid hx1
  clear hb1 hx1
  refine callsIn_wide.1 (callsIn_of_wp_marks (n := 5) Try.func30 rfl trivial ((wpIn_wide (n := 5)).2 ?_))
  simp only [Try.ntmps30, List.size_toArray, List.length_cons, List.length_nil, Nat.reduceAdd, Nat.reduceSub, Array.replicate_succ, Array.replicate_zero, List.push_toArray, List.append_toArray, List.nil_append, List.cons_append]
  go_wp2_with (go_at_call 41; (with_reducible refine (HWK.out).mono ?_); rintro e w5 ⟨B, A, c, rfl, hB1, hB2, hB3, hB4⟩; go_loud (
          have HC1 := Lib.hid hB1;
          have HC2 := Lib.hid hB2;
          have HC4 := Lib.hid hB4;
          clear hB1 hB2 hB3 hB4))
  have hrow : WRow w5 w5.heap.size B A c [] [] [] := ⟨HC2.out, lt_of_heap2 HC2.out, Nat.le_refl _, .inl rfl, fun x hx => (nomatch hx), by simp⟩
  have hb5 : Below w.heap.size w w5 := HB1.out.trans (HC4.out.mono HB1.out.size)
  have hI0 : ToldI w w5 := ⟨hb5, (HC4.out.block _ (lt_of_heap2 HX1.out)).trans HX1.out⟩
  have HRW := Lib.hid hrow
  have HB5 := Lib.hid hb5
  have HI0 := Lib.hid hI0
  clear hrow hb5 hI0
  refine (wpIn_wide (n := 5)).1 ?_
  refine range_tells (ps := #[12, 13]) (by omega) 63 _ rfl (enters_of Try.func63 (by kernel_rfl) rfl) (walk_tells (5 - 1) (by omega) B c A [] [] [] w5 HRW.out) (fun _ => rfl) KpW.trans (fun W l o' hl => KpW.putObj W l o' hl)
    (fun _ W => ToldI w W) (fun _ _ _ => False) (toldI_own HB5.out.size) (fun _ _ _ _ _ hs _ _ => hs) HI0.out
    (fun _ _ _ _ _ => True) (fun _ _ _ _ _ _ _ _ _ _ => trivial) ?assign ?body ?done (fun _ _ _ _ _ _ hs _ => hs.elim)
  case assign =>
    intro l pre x W K hI hOk hK
    rw [enc_tmps2]
    simp only [List.setIfInBounds_toArray, List.set_cons_zero, List.set_cons_succ]
    gi_wp2
    exact hK _ _ (KeepsFrom.refl _ _) (KpW.refl _ _) hI trivial
  case body =>
    intro l pre x a' W hl hI hx hlen
    exact absurd hlen (Nat.not_lt_zero _)
  case done =>
    intro D xs W hD hS hI hK
    have q1 := cell_box hI.2
    have hmk : Marked w.heap.size [D] W := (Marked.nil w.heap.size _).more (Nat.le_trans HB5.out.size hD) (fun E hE => by cases hE) hK
    have HI := Lib.hid hI
    have HMK := Lib.hid hmk
    clear hI hmk hS hK hD
    go_wp2_with fail
    refine leaves_marked (B := w.heap.size) [D] _ HMK.out fun w' hu => ⟨_, results_tmp rfl _ _ _, rfl, HI.out.1.trans hu.1⟩
end Go.Proofs.Ytogkeoainejfcaa
namespace Go.Proofs.Ytogkeoainejfcaa
open Go.RowKit Go.Shelf
set_option linter.unusedSimpArgs false
set_option linter.unusedVariables false
set_option maxRecDepth 100000
attribute [local go_sem] Oper.semAt_some undef
theorem RowsIn.up {w : World} {B B' n : Nat} {A : Option Addr} {rs : List (Nat × Nd)} (h : RowsIn w B A n rs) (hB : B ≤ B') : RowsIn w B' A n rs := by
  refine ⟨h.len, h.long, fun k p hp => ?_⟩
  obtain ⟨ad, q, Ak, ck, e1, e2, hq, c0, c1, c2, c3, c4, c5, c6, hi, h7⟩ := h.row k p hp
  exact ⟨ad, q, Ak, ck, e1, e2, Nat.lt_of_lt_of_le hq hB, c0, c1, c2, c3, c4, c5, c6, hi.up hB, h7⟩
def ToB (w : World) (v : Value) (e : Ending) (w' : World) : Prop := e = .returned v ∧ Below w.heap.size w w'
theorem getz (w : World) (x : Value) : Calls Try.prog 12 #[.pointer none, x] w (fun e w' => ∃ A c, e = .returned (.tuple #[.agg #[.int .u8 0, .string ⟨#[]⟩, .int .i64 0, .int .u8 0, .int .u64 0, .slice A 0 c], .bool false]) ∧ Below w.heap.size w w') :=
  (get_nil w x).mono fun e w' ⟨A, c, he, _, _, hb⟩ => ⟨A, c, he, hb⟩
theorem putz (w : World) (x : Value) : Calls Try.prog 27 #[.pointer none, x, .agg #[.int .u8 0, .string ⟨#[]⟩, .int .i64 0, .int .u8 0, .int .u64 0, .slice none 0 0]] w (fun e w' => e = .returned (.int .i64 3) ∧ Below w.heap.size w w') := put_nil w x (.slice none 0 0) zeroNd
theorem puta (w : World) (base ga gm gp N B : Nat) (F : PF) (vs : List (Nat × Value)) (ns : List (Nat × Nd)) (h : AR w base ga gm gp F vs ns N) (hB : B ≤ w.heap.size) (hb : B ≤ base) :
    Calls Try.prog 27 #[.pointer (some ⟨ga, 0, none⟩), .int .u64 0, .agg #[.int .u8 0, .string ⟨#[]⟩, .int .i64 0, .int .u8 0, .int .u64 0, .slice none 0 0]] w (fun e w' => e = .returned (.int .i64 1) ∧ Below B w w') :=
  (put_zero w base ga gm gp N F vs ns (.slice none 0 0) zeroNd h).mono fun e w' ⟨he, F', vs', _, hT, _⟩ => ⟨he, hT.below hB fun j hj => Nat.le_trans hb (h.low hj)⟩
theorem bool_iff {a b : Bool} {p q : Prop} (ha : a = true ↔ p) (hb : b = true ↔ q) (h : p ↔ q) : b = a := by
  rw [Bool.eq_iff_iff, hb, ha, h]
set_option maxHeartbeats 4000000 in
theorem arenaSame_walk (w : World) (A A' : Option Addr) (N N' c c' id : Nat) (rs rs' : List (Nat × Nd)) (h : RowsIn w w.heap.size A N rs) (h' : RowsIn w w.heap.size A' N' rs') :
    Calls Try.prog 5 #[.slice A N c, .slice A' N' c', .int .u64 (id : Int)] w (fun e w' => e = .returned (.bool true) ∧ Below w.heap.size w w') := by
  have HAW := Lib.hid (awake_true w)
  have HH := Lib.hid h
  have HH' := Lib.hid h'
  clear h h'
  go_enter Try.func5, Try.ntmps5
  go_wp2_with (first
    | (go_at_call 8; (with_reducible refine (HAW.out).mono ?_); rintro e w0 ⟨rfl, hb0⟩; go_loud (
        have HB0 := Lib.hid hb0;
        have HL1 := Lib.hid (lay_any w0 A N c rs ((HH.out.below hb0).up hb0.size));
        clear hb0))
    | (go_at_call 9; (with_reducible refine (HL1.out).mono ?_); rintro e w1 ⟨b1, ga, gm, gp, xv, xs, F1, vs1, rfl, hb1, hx1, hn1, hA1, hf1, hw1⟩; go_loud (
        have hbb := HB0.out.trans (hw1.mono HB0.out.size);
        have HL2 := Lib.hid (lay_any w1 A' N' c' rs' ((HH'.out.below hbb).up hbb.size));
        obtain ⟨Ax, cx, rfl⟩ := row_form hx1.own;
        obtain ⟨nx, hnx⟩ : ∃ nx, nx = xs.length := ⟨_, rfl⟩;
        rw [← hnx] at hx1 ⊢;
        have HB1 := Lib.hid hbb;
        have HBA := Lib.hid (Nat.le_trans HB0.out.size hb1);
        have HX1 := Lib.hid hx1;
        have HN1 := Lib.hid hn1;
        have HA1 := Lib.hid hA1;
        have HF1 := Lib.hid hf1;
        have HNX := Lib.hid hnx;
        clear hb1 hx1 hn1 hA1 hf1 hw1 hbb hnx))
    | (go_at_call 9; (with_reducible refine (HL2.out).mono ?_); rintro e w2 ⟨b2, ga2, gm2, gp2, xv2, ys, F2, vs2, rfl, hb2, hx2, hn2, hA2, hf2, hw2⟩; go_loud (
        have hbb := HB1.out.trans (hw2.mono HB1.out.size);
        obtain ⟨Ay, cy, rfl⟩ := row_form hx2.own;
        obtain ⟨ny, hny⟩ : ∃ ny, ny = ys.length := ⟨_, rfl⟩;
        rw [← hny] at hx2 ⊢;
        have HB2 := Lib.hid hbb;
        have HW12 := Lib.hid hw2;
        have HX2 := Lib.hid hx2;
        have HN2 := Lib.hid hn2;
        have HA2 := Lib.hid hA2;
        have HNY := Lib.hid hny;
        clear hb2 hx2 hn2 hA2 hf2 hw2 hbb hny))
    | (go_at_call 12; (with_reducible refine (getz _ _).mono ?_); rintro e w3 ⟨Az, cz, rfl, hb3⟩; go_loud (
        have HW23 := Lib.hid hb3;
        clear hb3))
    | (go_at_call 25; (with_reducible refine (parent_nil _ _).mono ?_); rintro e w4 ⟨rfl, hb4⟩; go_loud (
        have h24 : Below w2.heap.size w2 w4 := (HW23.out.alloc HW23.out.size _).trans (hb4.mono (HW23.out.alloc HW23.out.size _).size);
        have h14 : Below w1.heap.size w1 w4 := HW12.out.trans (h24.mono HW12.out.size);
        have hlen : (layL rs).length ≤ 31 := HF1.out.len;
        have HS4 := Lib.hid (same_any w4 (HA1.out.below h14) (HA2.out.below h24) (Nat.le_trans hlen (by omega)));
        have HW14 := Lib.hid h14;
        have HW24 := Lib.hid h24;
        have HB4 := Lib.hid (HB2.out.trans (h24.mono HB2.out.size));
        have HLEN := Lib.hid hlen;
        clear hb4 h24 h14 hlen))
    | (go_at_call 23; (with_reducible refine (HS4.out).mono ?_); rintro e w5 ⟨⟨bs, rfl, hbs⟩, hb5⟩; go_loud (
        have h15 := HW14.out.trans (hb5.mono HW14.out.size);
        have h25 := HW24.out.trans (hb5.mono HW24.out.size);
        have hxl : nx ≤ 1000000 := by rw [HNX.out, ← xNs_length xs, HN1.out]; exact Nat.le_trans HLEN.out (by omega);
        have HEQ := Lib.hid (requal_any w5 _ _ nx ny cx cy Ax Ay xs ys (HX1.out.below h15) (HX2.out.below h25) HNX.out HNY.out hxl);
        have HBS := Lib.hid hbs;
        have HW15 := Lib.hid h15;
        have HB5 := Lib.hid (HB4.out.trans (hb5.mono HB4.out.size));
        clear hb5 hbs h15 h25 hxl))
    | (go_at_call 14; (with_reducible refine (HEQ.out).mono ?_); rintro e w6 ⟨⟨be, rfl, hbe⟩, hb6⟩; go_loud (
        obtain rfl : be = bs := bool_iff HBS.out hbe (by rw [HN1.out, HN2.out]);
        have h16 := HW15.out.trans (hb6.mono HW15.out.size);
        have hsu := HF1.out.sum;
        have HCP := Lib.hid (copy_any w6 _ ga gm gp _ F1 vs1 _ (HA1.out.below h16) (by omega) (Nat.le_trans HLEN.out (by omega)));
        have HW16 := Lib.hid h16;
        have HB6 := Lib.hid (HB5.out.trans (hb6.mono HB5.out.size));
        have hbb : (be == be) = true := by simp;
        clear hb6 hbe h16 hsu))
    | (go_at_call 10; (with_reducible refine (HCP.out).mono ?_); rintro e w7 ⟨gc, gcm, gcp, Fc, vsc, rfl, hAc, hb7⟩; go_loud (
        have h17 := HW16.out.trans (hb7.mono HW16.out.size);
        have HS7 := Lib.hid (same_any w7 (HA1.out.below h17) hAc (Nat.le_trans HLEN.out (by omega)));
        have HW17 := Lib.hid h17;
        have HB7 := Lib.hid (HB6.out.trans (hb7.mono HB6.out.size));
        clear hb7 hAc h17))
    | (go_at_call 23; (with_reducible refine (HS7.out).mono ?_); rintro e w8 ⟨⟨bt, rfl, hbt⟩, hb8⟩; go_loud (
        obtain rfl : bt = true := hbt.2 trivial;
        have HW18 := Lib.hid (HW17.out.trans (hb8.mono HW17.out.size));
        have HB8 := Lib.hid (HB7.out.trans (hb8.mono HB7.out.size));
        clear hb8 hbt))
    | (go_at_call 23; (with_reducible refine (same_nils _).mono ?_); rintro e w9 ⟨rfl, hb9⟩; go_loud (
        have HW19 := Lib.hid (HW18.out.trans (hb9.mono HW18.out.size));
        have HB9 := Lib.hid (HB8.out.trans (hb9.mono HB8.out.size));
        clear hb9))
    | (go_at_call 23; (with_reducible refine (same_one _ _).mono ?_); rintro e w10 ⟨rfl, hb10⟩; go_loud (
        have HW110 := Lib.hid (HW19.out.trans (hb10.mono HW19.out.size));
        have HB10 := Lib.hid (HB9.out.trans (hb10.mono HB9.out.size));
        clear hb10))
    | (go_at_call 26; (with_reducible refine (root_nil _).mono ?_); rintro e w11 ⟨rfl, hb11⟩; go_loud (
        have HW111 := Lib.hid (HW110.out.trans (hb11.mono HW110.out.size));
        have HB11 := Lib.hid (HB10.out.trans (hb11.mono HB10.out.size));
        clear hb11))
    | (go_at_call 27; (with_reducible refine (putz _ _).mono ?_); rintro e w12 ⟨rfl, hb12⟩; go_loud (
        have h112 := HW111.out.trans (hb12.mono HW111.out.size);
        have hb := HB11.out.trans (hb12.mono HB11.out.size);
        have HPA := Lib.hid (puta w12 _ ga gm gp _ w.heap.size F1 vs1 _ (HA1.out.below h112) hb.size HBA.out);
        have HB12 := Lib.hid hb;
        clear hb12 h112 hb))
    | (go_at_call 27; (with_reducible refine (HPA.out).mono ?_); rintro e w13 ⟨rfl, hb13⟩; go_loud (
        have HB13 := Lib.hid (HB12.out.trans hb13);
        clear hb13))
    | (go_at_call 13; (with_reducible refine (drop_nil _ _).mono ?_); rintro e w14 ⟨rfl, hb14⟩; go_loud (
        have HB14 := Lib.hid (HB13.out.trans (hb14.mono HB13.out.size));
        clear hb14))
    | (go_at_call 28; (with_reducible refine (len_nil _).mono ?_); rintro e w15 ⟨rfl, hb15⟩; go_loud (
        have HB15 := Lib.hid (HB14.out.trans (hb15.mono HB14.out.size));
        clear hb15))
    | (go_at_call 29; (with_reducible refine (ids_nil _).mono ?_); rintro e w16 ⟨rfl, hb16⟩; go_loud (
        have HB16 := Lib.hid (HB15.out.trans (hb16.mono HB15.out.size));
        clear hb16))
    | (go_at_call 19; (with_reducible refine (bytes_nil _).mono ?_); rintro e w17 ⟨rfl, hb17⟩; go_loud (
        have HB17 := Lib.hid (HB16.out.trans (hb17.mono HB16.out.size));
        clear hb17))
    | (go_at_call 30; (with_reducible refine (told_nil _ _ _).mono ?_); rintro e w18 ⟨rfl, hb18⟩; go_loud (
        have HB18 := Lib.hid (HB17.out.trans (hb18.mono HB17.out.size));
        clear hb18))
    | (go_at_call 31; (with_reducible refine (above_nil _ _ _).mono ?_); rintro e w19 ⟨rfl, hb19⟩; go_loud (
        have HB19 := Lib.hid (HB18.out.trans (hb19.mono HB18.out.size));
        clear hb19))
    | (go_at_call 10; (with_reducible refine (copy_nil _).mono ?_); rintro e w20 ⟨rfl, hb20⟩; go_loud (
        have HB20 := Lib.hid (HB19.out.trans (hb20.mono HB19.out.size));
        clear hb20))
    | (go_at_call 32; (with_reducible refine (tree_nil _).mono ?_); rintro e w21 ⟨rfl, hb21⟩; go_loud (
        have HB21 := Lib.hid (HB20.out.trans (hb21.mono HB20.out.size));
        clear hb21)))
  go_ret
  exact ⟨rfl, HB21.out⟩
end Go.Proofs.Ytogkeoainejfcaa
namespace Go.Proofs.Ytogkeoainejfcaa
open Go.RowKit Go.ChangeShapes Go.WideShapes Go.ChangeAt
set_option linter.unusedSimpArgs false
set_option linter.unusedVariables false
set_option maxRecDepth 100000
theorem nats_of {zs : List Int} (h : ∀ n ∈ zs, (Lit.int .u64 n).wf = true) : ∃ l : List Nat, l.length = zs.length ∧ (∀ k ∈ l, k < 18446744073709551616) ∧ ∀ i, i < zs.length → ∃ k : Nat, l[i]? = some k ∧ zs.getD i 0 = (k : Int) := by
  induction zs with
  | nil => exact ⟨[], rfl, by simp, fun i hi => by cases hi⟩
  | cons z r ih =>
    obtain ⟨l, h1, h2, h3⟩ := ih fun n hn => h n (by simp [hn])
    have b := bounds_u64 (h z (by simp))
    obtain ⟨k, rfl⟩ := Int.eq_ofNat_of_zero_le b.1
    refine ⟨k :: l, by simp [h1], fun x hx => ?_, fun i hi => ?_⟩
    · rcases List.mem_cons.1 hx with rfl | hx
      · omega
      · exact h2 x hx
    · cases i with
      | zero => exact ⟨k, rfl, rfl⟩
      | succ i =>
        obtain ⟨k', e1, e2⟩ := h3 i (by simpa using hi)
        exact ⟨k', by simpa using e1, by simpa using e2⟩
/-- A row of IDs that came in. -/
theorem open_ids {H : Type} {enc : TypeId × Value → H} {W : World} {fuel : Nat} {v : Value} {x : DataW H × List MemPlace} (h : DataW.trod enc Try.prog W 0 (fun _ => true) true fuel 30 [v] = some x) : ∃ (A : Option Addr) (l : List Nat) (c : Nat), v = .slice A l.length c ∧ IdIn W W.heap.size A c l := by
  rcases open_ints Try.underlying30 Try.underlying24 (by kernel_rfl) h with ⟨e4, _⟩ | ⟨a, len, cap, zs, e4, _, hl2, hm, hz, _, hcell, hwz⟩
  · injection e4 with e4 _
    exact ⟨none, [], 0, e4, fun j u hj => by simp [ids] at hj, Nat.le_refl _, by simp, by simp⟩
  · injection e4 with e4 _
    simp at hz
    obtain ⟨l, hll, hs, hat⟩ := nats_of hwz
    have htl : (l.take len).length = len := by rw [List.length_take]; omega
    refine ⟨some a, l.take len, cap, by rw [htl]; exact e4, fun j u hj => ?_, by omega, fun k hk => hs k (List.mem_of_mem_take hk), by unfold maxLen at hm; omega⟩
    have hjl : j < len := by
      have := (List.getElem?_eq_some_iff.1 hj).1
      rw [ids_length, htl] at this
      exact this
    obtain ⟨k, e1, e2⟩ := hat j (by omega)
    rw [ids_at, List.getElem?_take_of_lt hjl, e1] at hj
    injection hj with hj
    have hc := hcell j (by omega)
    have hb := World.block_lt_of_cell? W _ hc
    rw [addr_add_block] at hb
    exact ⟨a, rfl, hb, by rw [hc, e2]; first | exact congrArg some hj | (rw [← hj])⟩
/-- A node's cells. -/
theorem open_node {H : Type} {enc : TypeId × Value → H} {W : World} {fuel : Nat} {cs : List Value} {x : DataW H × List MemPlace} (h : DataW.trod enc Try.prog W 0 (fun _ => true) true fuel 33 cs = some x) :
    ∃ (n : Nd) (A : Option Addr) (c : Nat), cs = [.int .u8 (n.kind : Int), .string n.name, .int .i64 n.num, .int .u8 (n.typ : Int), .int .u64 (n.ref : Int), .slice A n.kids.length c] ∧ IdIn W W.heap.size A c n.kids ∧ NdOk n := by
  obtain ⟨xs, n, _, _, hl, hlen, hall⟩ := DataW.trod_struct Try.underlying33 h
  have hc6 : Try.prog.cellsOf 33 = 6 := by kernel_rfl
  rw [hc6] at hl
  match cs, hl with
  | [c0, c1, c2, c3, c4, c5], _ =>
    match xs, hlen with
    | [y0, y1, y2, y3, y4, y5], _ =>
      have f0 := hall 0 _ rfl
      have f1 := hall 1 _ rfl
      have f2 := hall 2 _ rfl
      have f3 := hall 3 _ rfl
      have f4 := hall 4 _ rfl
      have f5 := hall 5 _ rfl
      have c8 : Try.prog.cellsOf 5 = 1 := by kernel_rfl
      have cst : Try.prog.cellsOf 9 = 1 := by kernel_rfl
      have ci : Try.prog.cellsOf 2 = 1 := by kernel_rfl
      have cid : Try.prog.cellsOf 24 = 1 := by kernel_rfl
      have csl : Try.prog.cellsOf 30 = 1 := by kernel_rfl
      simp only [c8, cst, ci, cid, csl, List.drop_zero, List.drop_succ_cons, List.take_succ_cons, List.take_zero, List.getElem?_cons_zero, List.getElem?_cons_succ] at f0 f1 f2 f3 f4 f5
      obtain ⟨n0, e0, _, w0⟩ := DataW.trod_int Try.underlying5 f0
      obtain ⟨s1, e1, _, w1⟩ := DataW.trod_string Try.underlying9 f1
      obtain ⟨n2, e2, _, w2⟩ := DataW.trod_int Try.underlying2 f2
      obtain ⟨n3, e3, _, w3⟩ := DataW.trod_int Try.underlying5 f3
      obtain ⟨n4, e4, _, w4⟩ := DataW.trod_int Try.underlying24 f4
      obtain ⟨A, l, c, e5, hin⟩ := open_ids f5
      have b0 := bounds_u8 w0
      have b2 := bounds_i64 w2
      have b3 := bounds_u8 w3
      have b4 := bounds_u64 w4
      obtain ⟨x0, rfl⟩ := Int.eq_ofNat_of_zero_le b0.1
      obtain ⟨x3, rfl⟩ := Int.eq_ofNat_of_zero_le b3.1
      obtain ⟨x4, rfl⟩ := Int.eq_ofNat_of_zero_le b4.1
      injection e0 with e0 _
      injection e1 with e1 _
      injection e2 with e2 _
      injection e3 with e3 _
      injection e4 with e4 _
      subst e0 e1 e2 e3 e4 e5
      exact ⟨⟨x0, s1, n2, x3, x4, l⟩, A, c, rfl, hin, ⟨by show x0 < 256; omega, by show s1.size ≤ _; unfold maxLen at w1; omega, ⟨b2.1, b2.2⟩, by show x3 < 256; omega, by show x4 < _; omega⟩⟩
/-- A node that came in. -/
theorem open_nodeV {H : Type} {enc : TypeId × Value → H} {W : World} {b0 : Nat} {r : Reach} {v : Value} {d : DataW H} {ps : List MemPlace} (hval : Value.okWide Try.prog W r b0 33 v) (h : DataW.Trod enc Try.prog W 0 (fun _ => true) true 33 v d ps) :
    ∃ (n : Nd) (A : Option Addr) (c : Nat), v = ndV n (.slice A n.kids.length c) ∧ IdIn W W.heap.size A c n.kids ∧ NdOk n := by
  obtain ⟨cs, rfl, hcs⟩ := okWide_struct Try.underlying33 hval
  obtain ⟨fuel, hf⟩ := h
  obtain ⟨n, A, c, e, hin, hok⟩ := open_node hf
  refine ⟨n, A, c, ?_, hin, hok⟩
  obtain ⟨cl⟩ := cs
  simp only [Value.cells] at e
  rw [e]
  rfl
/-- One node with its ID. -/
theorem open_row {H : Type} {enc : TypeId × Value → H} {W : World} {fuel : Nat} {cs : List Value} {x : DataW H × List MemPlace} (h : DataW.trod enc Try.prog W 0 (fun _ => true) true fuel 69 cs = some x) :
    ∃ (id : Nat) (n : Nd) (A : Option Addr) (c : Nat), cs = [.int .u64 (id : Int), .int .u8 (n.kind : Int), .string n.name, .int .i64 n.num, .int .u8 (n.typ : Int), .int .u64 (n.ref : Int), .slice A n.kids.length c] ∧ id < 18446744073709551616 ∧ IdIn W W.heap.size A c n.kids ∧ NdOk n := by
  obtain ⟨xs, n, _, _, hl, hlen, hall⟩ := DataW.trod_struct Try.underlying69 h
  have hc7 : Try.prog.cellsOf 69 = 7 := by kernel_rfl
  rw [hc7] at hl
  match cs, hl with
  | [c0, c1, c2, c3, c4, c5, c6], _ =>
    match xs, hlen with
    | [y0, y1], _ =>
      have f0 := hall 0 _ rfl
      have f1 : DataW.trod enc Try.prog W 0 (fun _ => true) true n 33 ((([c0, c1, c2, c3, c4, c5, c6] : List Value).drop 1).take (Try.prog.cellsOf 33)) = some y1 := hall 1 _ rfl
      have cid : Try.prog.cellsOf 24 = 1 := by kernel_rfl
      have cnd : Try.prog.cellsOf 33 = 6 := by kernel_rfl
      simp only [cid, cnd, List.drop_zero, List.drop_succ_cons, List.take_succ_cons, List.take_zero, List.getElem?_cons_zero, List.getElem?_cons_succ] at f0 f1
      obtain ⟨n0, e0, _, w0⟩ := DataW.trod_int Try.underlying24 f0
      obtain ⟨nd, A, c, e1, hin, hok⟩ := open_node f1
      have b0 := bounds_u64 w0
      obtain ⟨x0, rfl⟩ := Int.eq_ofNat_of_zero_le b0.1
      injection e0 with e0 _
      subst e0
      exact ⟨x0, nd, A, c, congrArg (fun l => Value.int .u64 (x0 : Int) :: l) e1, by omega, hin, hok⟩
/-- A row of nodes that came in. -/
theorem open_rows {H : Type} {enc : TypeId × Value → H} {W : World} {A : Option Addr} {n c : Nat} {d : DataW H} {ps : List MemPlace} (h : DataW.Trod enc Try.prog W 0 (fun _ => true) true 22 (.slice A n c) d ps) : ∃ rs, RowsIn W W.heap.size A n rs := by
  obtain ⟨fuel, hf⟩ := h
  have hc7 : Try.prog.cellsOf 69 = 7 := by kernel_rfl
  rcases Go.Deep.open_slice Try.underlying22 hf with ⟨hcs, _⟩ | ⟨a, len, cap, m, n', D, Pl, hcs, hb, hl, hm, hmm, _, hi⟩
  · simp [Value.cells] at hcs
    obtain ⟨rfl, rfl, rfl⟩ := hcs
    exact ⟨[], rfl, by unfold maxLen; omega, fun k p hp => by simp at hp⟩
  · simp [Value.cells] at hcs
    obtain ⟨rfl, rfl, rfl⟩ := hcs
    simp at hmm
    subst hmm
    have each : ∀ j, j < n → ∃ p : Nat × Nd, ∃ (Ak : Option Addr) (ck : Nat), (a.add (j * 7)).block < W.heap.size ∧ W.cell? (a.add (j * 7)) = some (.int .u64 (p.1 : Int)) ∧ W.cell? ⟨(a.add (j * 7)).block, (a.add (j * 7)).off + 1, none⟩ = some (.int .u8 (p.2.kind : Int)) ∧ W.cell? ⟨(a.add (j * 7)).block, (a.add (j * 7)).off + 2, none⟩ = some (.string p.2.name) ∧
        W.cell? ⟨(a.add (j * 7)).block, (a.add (j * 7)).off + 3, none⟩ = some (.int .i64 p.2.num) ∧ W.cell? ⟨(a.add (j * 7)).block, (a.add (j * 7)).off + 4, none⟩ = some (.int .u8 (p.2.typ : Int)) ∧ W.cell? ⟨(a.add (j * 7)).block, (a.add (j * 7)).off + 5, none⟩ = some (.int .u64 (p.2.ref : Int)) ∧
        W.cell? ⟨(a.add (j * 7)).block, (a.add (j * 7)).off + 6, none⟩ = some (.slice Ak p.2.kids.length ck) ∧ IdIn W W.heap.size Ak ck p.2.kids ∧ NdOk p.2 ∧ p.1 < 18446744073709551616 := fun j hj => by
      obtain ⟨cs', hc, ht⟩ := hi j (by omega)
      obtain ⟨id, nd, Ak, ck, rfl, hid, hin, hok⟩ := open_row ht
      rw [hc7] at hc
      obtain ⟨_, _, hat⟩ := World.cells?_some hc
      have a0 := hat 0 (by decide)
      have a1 := hat 1 (by decide)
      have a2 := hat 2 (by decide)
      have a3 := hat 3 (by decide)
      have a4 := hat 4 (by decide)
      have a5 := hat 5 (by decide)
      have a6 := hat 6 (by decide)
      simp only [List.getElem?_cons_zero, List.getElem?_cons_succ] at a0 a1 a2 a3 a4 a5 a6
      have e0 : (a.add (j * 7)).add 0 = a.add (j * 7) := by rw [addr_add_add]; rfl
      rw [e0] at a0
      exact ⟨(id, nd), Ak, ck, World.block_lt_of_cell? W _ a0, a0, a1, a2, a3, a4, a5, a6, hin, hok, hid⟩
    haveI : Inhabited (Nat × Nd) := ⟨(0, zeroNd)⟩
    obtain ⟨f, hf2⟩ := Go.Deep.choose_lt each
    refine ⟨(List.range n).map f, by simp, by omega, fun k p hp => ?_⟩
    have hk : k < n := by
      have := (List.getElem?_eq_some_iff.1 hp).1
      simpa using this
    rw [List.getElem?_map, List.getElem?_range hk] at hp
    simp only [Option.map_some, Option.some.injEq] at hp
    obtain ⟨Ak, ck, h1, h2, h3, h4, h5, h6, h7, h8, h9, h10, h11⟩ := hf2 k hk
    rw [hp] at h2 h3 h4 h5 h6 h7 h8 h9 h10 h11
    exact ⟨a, a.add (k * 7), Ak, ck, rfl, rfl, h1, h2, h3, h4, h5, h6, h7, h8, h9, h10, h11⟩
end Go.Proofs.Ytogkeoainejfcaa
