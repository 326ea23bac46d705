/- The law ArenaPuts, walked. -/
import Derived.Test.YtogkeoainejfcaaR4
import Derived.Test.YtogkeoainejfcaaARows
import Derived.Deep.RegionHeldLaw
namespace Go.Proofs.Ytogkeoainejfcaa
open Go.RowKit Go.Shelf
set_option linter.unusedSimpArgs false
set_option linter.unusedVariables false
set_option maxRecDepth 100000
attribute [local go_sem] Oper.semAt_some undef
theorem take_at {P : Program} {ops : Array Oper} {Q : Exit → Act → World → Prop} {md : Region.Mode} {S : World → Prop} {i : Nat} {oi : Oper} {v : Value} {fuel : Nat} {listed : Array Bool} {a : Act} {w : World} (d : Option Tmp)
    (hi : ops[i]? = some oi) (hd : oi.dst = d) (hs : Region.noSelect ops = true) (hf : Region.free md ops listed i = true) (hr : (Region.ready md ops listed).contains i = true)
    (hQ : ∀ c a w, Q (.panic c) (a.put d v) w → Q (.panic c) a w) (hy : YieldsIf P ops S oi v a) (hS : S w)
    (h : wpAnyH P md ops Q S fuel (listed.setIfInBounds i true) (a.put d v) w) : wpAnyH P md ops Q S (fuel + 1) listed a w := by
  subst hd
  exact wpAnyH_take hi hs hf hr hQ hy hS h
theorem wp_any_world {c : Code} {P : Program} {Q : Exit → Act → World → Prop} {a : Act} {w : World} (h : ∀ wy, wy = w → c.wp P Q a wy) : c.wp P Q a w := h w rfl
/-- A node's cells in its box, with what a store into them asks. -/
theorem box_all {w : World} {g : Nat} {u0 u1 u2 u3 u4 u5 : Value} (h : w.heap[g]? = some (.cells #[u0, u1, u2, u3, u4, u5] 33 (0, 0))) :
    (w.cell? ⟨g, 0, none⟩ = some u0 ∧ w.cell? ⟨g, 1, none⟩ = some u1 ∧ w.cell? ⟨g, 2, none⟩ = some u2 ∧ w.cell? ⟨g, 3, none⟩ = some u3 ∧ w.cell? ⟨g, 4, none⟩ = some u4 ∧ w.cell? ⟨g, 5, none⟩ = some u5) ∧
    w.frozen? ⟨g, 0, none⟩ = false ∧ w.frozen? ⟨g, 1, none⟩ = false ∧ w.frozen? ⟨g, 2, none⟩ = false ∧ w.frozen? ⟨g, 3, none⟩ = false ∧ w.frozen? ⟨g, 4, none⟩ = false ∧ w.frozen? ⟨g, 5, none⟩ = false := by
  refine ⟨⟨?_, ?_, ?_, ?_, ?_, ?_⟩, frozen_of_row w g _ _ _ h, frozen_of_row w g _ _ _ h, frozen_of_row w g _ _ _ h, frozen_of_row w g _ _ _ h, frozen_of_row w g _ _ _ h, frozen_of_row w g _ _ _ h⟩ <;> (unfold World.cell?; rw [h]; rfl)
theorem set6_touch {w : World} {g : Nat} {v0 v1 v2 v3 v4 v5 : Value} : Touch w ((((((w.setCell ⟨g, 0, none⟩ v0).setCell ⟨g, 1, none⟩ v1).setCell ⟨g, 2, none⟩ v2).setCell ⟨g, 3, none⟩ v3).setCell ⟨g, 4, none⟩ v4).setCell ⟨g, 5, none⟩ v5) (fun j => j = g) :=
  ((((((Touch.of_below (Below.refl _ _) (fun j => j = g)).setCell ⟨g, 0, none⟩ v0 (.inl rfl)).setCell ⟨g, 1, none⟩ v1 (.inl rfl)).setCell ⟨g, 2, none⟩ v2 (.inl rfl)).setCell ⟨g, 3, none⟩ v3 (.inl rfl)).setCell ⟨g, 4, none⟩ v4 (.inl rfl)).setCell ⟨g, 5, none⟩ v5 (.inl rfl)
theorem set6_other {w : World} {g j : Nat} {v0 v1 v2 v3 v4 v5 : Value} {cs0 cs : Array Value} {t : TypeId} {z : Nat × Nat} (hg : w.heap[g]? = some (.cells cs0 33 (0, 0))) (hj : w.heap[j]? = some (.cells cs t z)) (hne : t ≠ 33) :
    ((((((w.setCell ⟨g, 0, none⟩ v0).setCell ⟨g, 1, none⟩ v1).setCell ⟨g, 2, none⟩ v2).setCell ⟨g, 3, none⟩ v3).setCell ⟨g, 4, none⟩ v4).setCell ⟨g, 5, none⟩ v5).heap[j]? = w.heap[j]? := set6_touch.block j (lt_of_heap2 hj) fun e => by
  rw [e, hg] at hj
  injection hj with hj
  injection hj with _ h2 _
  exact hne h2.symm
theorem AR.set6 {w : World} {base ga gm gp N g : Nat} {F : PF} {vs : List (Nat × Value)} {ns : List (Nat × Nd)} {v0 v1 v2 v3 v4 v5 : Value} {cs0 : Array Value} (h : AR w base ga gm gp F vs ns N) (hg : w.heap[g]? = some (.cells cs0 33 (0, 0))) :
    AR ((((((w.setCell ⟨g, 0, none⟩ v0).setCell ⟨g, 1, none⟩ v1).setCell ⟨g, 2, none⟩ v2).setCell ⟨g, 3, none⟩ v3).setCell ⟨g, 4, none⟩ v4).setCell ⟨g, 5, none⟩ v5) base ga gm gp F vs ns N := by
  refine h.keep set6_touch fun j e => ?_
  subst e
  refine ⟨fun e => ?_, fun ho => ?_, fun cs z e => ?_⟩
  · rw [e, h.st] at hg
    injection hg with hg
    injection hg with _ h2 _
    revert h2
    decide
  · rcases h.obj ho with ⟨es, cl, h1⟩ | ⟨cs, h1⟩
    · rw [h1] at hg; cases hg
    · rw [h1] at hg
      injection hg with hg
      injection hg with _ h2 _
      revert h2
      decide
  · rw [hg] at e
    injection e with e
    injection e with _ h2 _
    revert h2
    decide
theorem XR.set6 {w : World} {base g : Nat} {v : Value} {xs : XL} {v0 v1 v2 v3 v4 v5 : Value} {cs0 : Array Value} (h : XR w base v xs) (hg : w.heap[g]? = some (.cells cs0 33 (0, 0))) :
    XR ((((((w.setCell ⟨g, 0, none⟩ v0).setCell ⟨g, 1, none⟩ v1).setCell ⟨g, 2, none⟩ v2).setCell ⟨g, 3, none⟩ v3).setCell ⟨g, 4, none⟩ v4).setCell ⟨g, 5, none⟩ v5) base v xs :=
  h.keep set6_touch.size fun k cs t z ht hk => set6_other hg hk (by rcases ht with e | e <;> rw [e] <;> decide)
theorem IdSl.set6 {w : World} {B g : Nat} {v : Value} {l : List Nat} {v0 v1 v2 v3 v4 v5 : Value} {cs0 : Array Value} (h : IdSl w B v l) (hg : w.heap[g]? = some (.cells cs0 33 (0, 0))) :
    IdSl ((((((w.setCell ⟨g, 0, none⟩ v0).setCell ⟨g, 1, none⟩ v1).setCell ⟨g, 2, none⟩ v2).setCell ⟨g, 3, none⟩ v3).setCell ⟨g, 4, none⟩ v4).setCell ⟨g, 5, none⟩ v5) B v l :=
  h.keep fun j cs z _ hj => set6_other hg hj (by decide)
theorem set6_size {w : World} {g : Nat} {v0 v1 v2 v3 v4 v5 : Value} : ((((((w.setCell ⟨g, 0, none⟩ v0).setCell ⟨g, 1, none⟩ v1).setCell ⟨g, 2, none⟩ v2).setCell ⟨g, 3, none⟩ v3).setCell ⟨g, 4, none⟩ v4).setCell ⟨g, 5, none⟩ v5).heap.size = w.heap.size := by simp [World.setCell]
/-- What is read of the box behind a store. -/
theorem set6_box {w w4 : World} {g : Nat} {v0 v1 v2 v3 v4 v5 u0 u1 u2 u3 u4 u5 : Value} (h : w.heap[g]? = some (.cells #[u0, u1, u2, u3, u4, u5] 33 (0, 0)))
    (hb : Below ((((((w.setCell ⟨g, 0, none⟩ v0).setCell ⟨g, 1, none⟩ v1).setCell ⟨g, 2, none⟩ v2).setCell ⟨g, 3, none⟩ v3).setCell ⟨g, 4, none⟩ v4).setCell ⟨g, 5, none⟩ v5).heap.size ((((((w.setCell ⟨g, 0, none⟩ v0).setCell ⟨g, 1, none⟩ v1).setCell ⟨g, 2, none⟩ v2).setCell ⟨g, 3, none⟩ v3).setCell ⟨g, 4, none⟩ v4).setCell ⟨g, 5, none⟩ v5) w4) :
    w4.heap[g]? = some (.cells #[v0, v1, v2, v3, v4, v5] 33 (0, 0)) := (hb.block g (lt_of_heap2 (set_node h))).trans (set_node h)
set_option maxHeartbeats 8000000 in
theorem arenaPuts_zero (w : World) (A Ak : Option Addr) (N c ck : Nat) (rs : List (Nat × Nd)) (n : Nd) (h : RowsIn w w.heap.size A N rs) (hi : IdIn w w.heap.size Ak ck n.kids) (hok : NdOk n) :
    Calls Try.prog 6 #[.slice A N c, .int .u64 0, ndV n (.slice Ak n.kids.length ck)] w (fun e w' => e = .returned (.bool true) ∧ Below w.heap.size w w') := by
  obtain ⟨o, ho⟩ : ∃ o, o = fewNd n := ⟨_, rfl⟩
  have hb0 : Below w.heap.size w (w.alloc (.cells #[.int .u8 (n.kind : Int), .string n.name, .int .i64 n.num, .int .u8 (n.typ : Int), .int .u64 (n.ref : Int), .slice Ak n.kids.length ck] 33)) := (Below.refl _ _).alloc (Nat.le_refl _) _
  have hx0 : (w.alloc (.cells #[.int .u8 (n.kind : Int), .string n.name, .int .i64 n.num, .int .u8 (n.typ : Int), .int .u64 (n.ref : Int), .slice Ak n.kids.length ck] 33)).heap[w.heap.size]? = some (.cells #[.int .u8 (n.kind : Int), .string n.name, .int .i64 n.num, .int .u8 (n.typ : Int), .int .u64 (n.ref : Int), .slice Ak n.kids.length ck] 33 (0, 0)) := Go.heap_alloc_new _ _
  have HAW := Lib.hid (awake_true (w.alloc (.cells #[.int .u8 (n.kind : Int), .string n.name, .int .i64 n.num, .int .u8 (n.typ : Int), .int .u64 (n.ref : Int), .slice Ak n.kids.length ck] 33)))
  have hokO : NdOk o := by rw [ho]; exact fewNd_ok hok
  have hko : o.kids.length ≤ 12 := by rw [ho]; show (n.kids.take 12).length ≤ 12; rw [List.length_take]; omega
  have HB0 := Lib.hid hb0
  have HX0 := Lib.hid hx0
  have HH := Lib.hid h
  have HI := Lib.hid hi
  have HOK := Lib.hid hok
  have HO := Lib.hid ho
  have HOKO := Lib.hid hokO
  have HKO := Lib.hid hko
  clear h hi hok ho hokO hko hb0 hx0
  unfold ndV
  go_enter Try.func6, Try.ntmps6
  go_wp2_with (first
    | (go_at_call 8; (with_reducible refine (HAW.out).mono ?_); rintro e w1 ⟨rfl, hb1⟩; go_loud (
        have hbw := HB0.out.trans (hb1.mono HB0.out.size);
        have HL := Lib.hid (lay_any w1 A N c rs ((HH.out.below hbw).up hbw.size));
        have HBW1 := Lib.hid hbw;
        have hx1 := (hb1.block _ (lt_of_heap2 HX0.out)).trans HX0.out;
        have HX1 := Lib.hid hx1;
        clear hb1 hbw hx1))
    | (go_at_call 9; (with_reducible refine (HL.out).mono ?_); rintro e w2 ⟨b0, ga, gm, gp, xv, xs, F, vs, rfl, hb0, hxs, hns, hA, hfw, hb2⟩; go_loud (
        obtain ⟨Ax, cx, rfl⟩ := row_form hxs.own;
        obtain ⟨nx, hnx⟩ : ∃ nx, nx = xs.length := ⟨_, rfl⟩;
        rw [← hnx] at hxs ⊢;
        have hx2 := (hb2.block _ (lt_of_heap2 HX1.out)).trans HX1.out;
        obtain ⟨q0, q1, q2, q3, q4, q5, _⟩ := box_cells hx2;
        have hbw := HBW1.out.trans (hb2.mono HBW1.out.size);
        have hfew := few_any w2 n Ak ck ((HI.out.below hbw).up hbw.size) HOK.out;
        unfold ndV at hfew;
        have HFEW := Lib.hid hfew;
        have HXS := Lib.hid hxs;
        have HNS := Lib.hid hns;
        have HA2 := Lib.hid hA;
        have HFW := Lib.hid hfw;
        have HNX := Lib.hid hnx;
        have HBW2 := Lib.hid hbw;
        have HX2 := Lib.hid hx2;
        have HLOW := Lib.hid (Nat.le_trans HBW1.out.size hb0);
        clear hxs hns hA hfw hnx hbw hx2 hb2 hb0 hfew))
    | (go_at_call 33; (with_reducible refine (HFEW.out).mono ?_); rintro e w3 ⟨A3, c3, rfl, hi3, hf3, hb3⟩; go_loud (
        rw [← HO.out] at hi3 ⊢;
        unfold ndV;
        have hx3 := (hb3.block _ (lt_of_heap2 HX2.out)).trans HX2.out;
        obtain ⟨⟨r0, r1, r2, r3, r4, r5⟩, f0, f1, f2, f3, f4, f5⟩ := box_all hx3;
        have hbw := HBW2.out.trans (hb3.mono HBW2.out.size);
        have hR := rows_any ((((((w3.setCell ⟨w.heap.size, 0, none⟩ (.int .u8 (o.kind : Int))).setCell ⟨w.heap.size, 1, none⟩ (.string o.name)).setCell ⟨w.heap.size, 2, none⟩ (.int .i64 o.num)).setCell ⟨w.heap.size, 3, none⟩ (.int .u8 (o.typ : Int))).setCell ⟨w.heap.size, 4, none⟩ (.int .u64 (o.ref : Int))).setCell ⟨w.heap.size, 5, none⟩ (.slice A3 o.kids.length c3)) _ ga gm gp _ F vs _ ((HA2.out.below hb3).set6 hx3) (by have := HFW.out.len; omega);
        have HR := Lib.hid hR;
        have HI3 := Lib.hid (hi3.set6 hx3 (v0 := (.int .u8 (o.kind : Int))) (v1 := (.string o.name)) (v2 := (.int .i64 o.num)) (v3 := (.int .u8 (o.typ : Int))) (v4 := (.int .u64 (o.ref : Int))) (v5 := (.slice A3 o.kids.length c3)));
        have HA3 := Lib.hid ((HA2.out.below hb3).set6 hx3 (v0 := (.int .u8 (o.kind : Int))) (v1 := (.string o.name)) (v2 := (.int .i64 o.num)) (v3 := (.int .u8 (o.typ : Int))) (v4 := (.int .u64 (o.ref : Int))) (v5 := (.slice A3 o.kids.length c3)));
        have HXS3 := Lib.hid ((HXS.out.below hb3).set6 hx3 (v0 := (.int .u8 (o.kind : Int))) (v1 := (.string o.name)) (v2 := (.int .i64 o.num)) (v3 := (.int .u8 (o.typ : Int))) (v4 := (.int .u64 (o.ref : Int))) (v5 := (.slice A3 o.kids.length c3)));
        have HBW3 := Lib.hid (below_node hbw (Nat.le_refl _) (v0 := (.int .u8 (o.kind : Int))) (v1 := (.string o.name)) (v2 := (.int .i64 o.num)) (v3 := (.int .u8 (o.typ : Int))) (v4 := (.int .u64 (o.ref : Int))) (v5 := (.slice A3 o.kids.length c3)));
        have HX3 := Lib.hid hx3;
        clear hi3 hf3 hb3 hx3 hbw hR))
    | (go_at_call 15; (with_reducible refine (HR.out).mono ?_); rintro e w4 ⟨yv, ys, rfl, hys, hyn, hb4⟩; go_loud (
        obtain ⟨Ay, cy, rfl⟩ := row_form hys.own;
        obtain ⟨ny, hny⟩ : ∃ ny, ny = ys.length := ⟨_, rfl⟩;
        rw [← hny] at hys ⊢;
        have hx4 := set6_box HX3.out hb4;
        obtain ⟨s0, s1, s2, s3, s4, s5, _⟩ := box_cells hx4;
        have hi4 := (HI3.out.below (hb4.mono (Nat.le_of_eq set6_size.symm))).up (Nat.le_trans (Nat.le_of_eq set6_size.symm) hb4.size);
        have hput := put_zero w4 _ ga gm gp _ F vs _ (.slice A3 o.kids.length c3) o (HA3.out.below hb4);
        unfold ndV at hput;
        have HPUT := Lib.hid hput;
        have HYS := Lib.hid hys;
        have HYN := Lib.hid hyn;
        have HNY := Lib.hid hny;
        have HX4 := Lib.hid hx4;
        have HI4 := Lib.hid hi4;
        have HA4 := Lib.hid (HA3.out.below hb4);
        have HXS4 := Lib.hid (HXS3.out.below hb4);
        have HBW4 := Lib.hid (HBW3.out.trans (hb4.mono HBW3.out.size));
        clear hys hyn hny hb4 hx4 hi4 hput))
    | (go_at_call 27; (with_reducible refine (HPUT.out).mono ?_); rintro e w5 ⟨rfl, F5, vs5, hA5, hT5, hO5⟩; go_loud (
        have HR5 := Lib.hid (rows_any w5 _ ga gm gp _ F5 vs5 _ hA5 (by have := HFW.out.len; omega));
        have HYS5 := Lib.hid (HYS.out.touch HA4.out hT5);
        have HBW5 := Lib.hid (HBW4.out.trans (hT5.below HBW4.out.size fun j hj => Nat.le_trans HLOW.out (HA4.out.low hj)));
        clear hA5 hT5 hO5))
    | (go_at_call 15; (with_reducible refine (HR5.out).mono ?_); rintro e w6 ⟨zv, zs, rfl, hzs, hzn, hb6⟩; go_loud (
        obtain ⟨Az, cz, rfl⟩ := row_form hzs.own;
        obtain ⟨nz, hnz⟩ : ∃ nz, nz = zs.length := ⟨_, rfl⟩;
        rw [← hnz] at hzs ⊢;
        have HEQ := Lib.hid (requal_any w6 _ _ nz ny cz cy Az Ay zs ys hzs (HYS5.out.below hb6) hnz HNY.out (by rw [hnz, ← xNs_length, hzn]; have := HFW.out.len; omega));
        have HZN := Lib.hid hzn;
        have HBW6 := Lib.hid (HBW5.out.trans (hb6.mono HBW5.out.size));
        clear hzs hzn hnz hb6))
    | (go_at_call 14; (with_reducible refine (HEQ.out).mono ?_); rintro e w7 ⟨⟨be, rfl, hbe⟩, hb7⟩; go_loud (
        obtain rfl : be = true := hbe.2 (by rw [HZN.out, HYN.out]);
        have HBW7 := Lib.hid (HBW6.out.trans (hb7.mono HBW6.out.size));
        clear hbe hb7)))
  go_ret
  exact ⟨rfl, HBW7.out⟩
set_option maxHeartbeats 8000000 in
theorem arenaPuts_good (w : World) (A Ak : Option Addr) (N c ck : Nat) (rs : List (Nat × Nd)) (n : Nd) (id : Nat) (hid : id < 18446744073709551616) (h0 : id ≠ 0) (h : RowsIn w w.heap.size A N rs) (hi : IdIn w w.heap.size Ak ck n.kids) (hok : NdOk n) :
    Calls Try.prog 6 #[.slice A N c, .int .u64 (id : Int), ndV n (.slice Ak n.kids.length ck)] w (fun e w' => e = .returned (.bool true) ∧ Below w.heap.size w w') := by
  obtain ⟨o, ho⟩ : ∃ o, o = fewNd n := ⟨_, rfl⟩
  have hb0 : Below w.heap.size w (w.alloc (.cells #[.int .u8 (n.kind : Int), .string n.name, .int .i64 n.num, .int .u8 (n.typ : Int), .int .u64 (n.ref : Int), .slice Ak n.kids.length ck] 33)) := (Below.refl _ _).alloc (Nat.le_refl _) _
  have hx0 : (w.alloc (.cells #[.int .u8 (n.kind : Int), .string n.name, .int .i64 n.num, .int .u8 (n.typ : Int), .int .u64 (n.ref : Int), .slice Ak n.kids.length ck] 33)).heap[w.heap.size]? = some (.cells #[.int .u8 (n.kind : Int), .string n.name, .int .i64 n.num, .int .u8 (n.typ : Int), .int .u64 (n.ref : Int), .slice Ak n.kids.length ck] 33 (0, 0)) := Go.heap_alloc_new _ _
  have HAW := Lib.hid (awake_true (w.alloc (.cells #[.int .u8 (n.kind : Int), .string n.name, .int .i64 n.num, .int .u8 (n.typ : Int), .int .u64 (n.ref : Int), .slice Ak n.kids.length ck] 33)))
  have hokO : NdOk o := by rw [ho]; exact fewNd_ok hok
  have hko : o.kids.length ≤ 12 := by rw [ho]; show (n.kids.take 12).length ≤ 12; rw [List.length_take]; omega
  have HB0 := Lib.hid hb0
  have HX0 := Lib.hid hx0
  have HH := Lib.hid h
  have HI := Lib.hid hi
  have HOK := Lib.hid hok
  have HO := Lib.hid ho
  have HOKO := Lib.hid hokO
  have HKO := Lib.hid hko
  have hz2 : ((id : Int) == 0) = false := by rw [beq_eq_false_iff_ne]; omega
  have hz3 : ¬ (id : Int) = 0 := by omega
  have HID := Lib.hid hid
  have HZ := Lib.hid h0
  clear h0
  clear h hi hok ho hokO hko hb0 hx0 hid
  unfold ndV
  go_enter Try.func6, Try.ntmps6
  go_wp2_with (first
    | (go_at_call 8; (with_reducible refine (HAW.out).mono ?_); rintro e w1 ⟨rfl, hb1⟩; go_loud (
        have hbw := HB0.out.trans (hb1.mono HB0.out.size);
        have HL := Lib.hid (lay_any w1 A N c rs ((HH.out.below hbw).up hbw.size));
        have HBW1 := Lib.hid hbw;
        have hx1 := (hb1.block _ (lt_of_heap2 HX0.out)).trans HX0.out;
        have HX1 := Lib.hid hx1;
        clear hb1 hbw hx1))
    | (go_at_call 9; (with_reducible refine (HL.out).mono ?_); rintro e w2 ⟨b0, ga, gm, gp, xv, xs, F, vs, rfl, hb0, hxs, hns, hA, hfw, hb2⟩; go_loud (
        obtain ⟨Ax, cx, rfl⟩ := row_form hxs.own;
        obtain ⟨nx, hnx⟩ : ∃ nx, nx = xs.length := ⟨_, rfl⟩;
        rw [← hnx] at hxs ⊢;
        have hx2 := (hb2.block _ (lt_of_heap2 HX1.out)).trans HX1.out;
        obtain ⟨q0, q1, q2, q3, q4, q5, _⟩ := box_cells hx2;
        have hbw := HBW1.out.trans (hb2.mono HBW1.out.size);
        have hfew := few_any w2 n Ak ck ((HI.out.below hbw).up hbw.size) HOK.out;
        unfold ndV at hfew;
        have HFEW := Lib.hid hfew;
        have HXS := Lib.hid hxs;
        have HNS := Lib.hid hns;
        have HA2 := Lib.hid hA;
        have HFW := Lib.hid hfw;
        have HNX := Lib.hid hnx;
        have HBW2 := Lib.hid hbw;
        have HX2 := Lib.hid hx2;
        have HLOW := Lib.hid (Nat.le_trans HBW1.out.size hb0);
        clear hxs hns hA hfw hnx hbw hx2 hb2 hb0 hfew))
    | (go_at_call 33; (with_reducible refine (HFEW.out).mono ?_); rintro e w3 ⟨A3, c3, rfl, hi3, hf3, hb3⟩; go_loud (
        rw [← HO.out] at hi3 ⊢;
        unfold ndV;
        have hx3 := (hb3.block _ (lt_of_heap2 HX2.out)).trans HX2.out;
        obtain ⟨⟨r0, r1, r2, r3, r4, r5⟩, f0, f1, f2, f3, f4, f5⟩ := box_all hx3;
        have hbw := HBW2.out.trans (hb3.mono HBW2.out.size);
        have hR := rows_any ((((((w3.setCell ⟨w.heap.size, 0, none⟩ (.int .u8 (o.kind : Int))).setCell ⟨w.heap.size, 1, none⟩ (.string o.name)).setCell ⟨w.heap.size, 2, none⟩ (.int .i64 o.num)).setCell ⟨w.heap.size, 3, none⟩ (.int .u8 (o.typ : Int))).setCell ⟨w.heap.size, 4, none⟩ (.int .u64 (o.ref : Int))).setCell ⟨w.heap.size, 5, none⟩ (.slice A3 o.kids.length c3)) _ ga gm gp _ F vs _ ((HA2.out.below hb3).set6 hx3) (by have := HFW.out.len; omega);
        have HR := Lib.hid hR;
        have HI3 := Lib.hid (hi3.set6 hx3 (v0 := (.int .u8 (o.kind : Int))) (v1 := (.string o.name)) (v2 := (.int .i64 o.num)) (v3 := (.int .u8 (o.typ : Int))) (v4 := (.int .u64 (o.ref : Int))) (v5 := (.slice A3 o.kids.length c3)));
        have HA3 := Lib.hid ((HA2.out.below hb3).set6 hx3 (v0 := (.int .u8 (o.kind : Int))) (v1 := (.string o.name)) (v2 := (.int .i64 o.num)) (v3 := (.int .u8 (o.typ : Int))) (v4 := (.int .u64 (o.ref : Int))) (v5 := (.slice A3 o.kids.length c3)));
        have HXS3 := Lib.hid ((HXS.out.below hb3).set6 hx3 (v0 := (.int .u8 (o.kind : Int))) (v1 := (.string o.name)) (v2 := (.int .i64 o.num)) (v3 := (.int .u8 (o.typ : Int))) (v4 := (.int .u64 (o.ref : Int))) (v5 := (.slice A3 o.kids.length c3)));
        have HBW3 := Lib.hid (below_node hbw (Nat.le_refl _) (v0 := (.int .u8 (o.kind : Int))) (v1 := (.string o.name)) (v2 := (.int .i64 o.num)) (v3 := (.int .u8 (o.typ : Int))) (v4 := (.int .u64 (o.ref : Int))) (v5 := (.slice A3 o.kids.length c3)));
        have HX3 := Lib.hid hx3;
        clear hi3 hf3 hb3 hx3 hbw hR))
    | (go_at_call 15; (with_reducible refine (HR.out).mono ?_); rintro e w4 ⟨yv, ys, rfl, hys, hyn, hb4⟩; go_loud (
        obtain ⟨Ay, cy, rfl⟩ := row_form hys.own;
        obtain ⟨ny, hny⟩ : ∃ ny, ny = ys.length := ⟨_, rfl⟩;
        rw [← hny] at hys ⊢;
        have hx4 := set6_box HX3.out hb4;
        obtain ⟨s0, s1, s2, s3, s4, s5, _⟩ := box_cells hx4;
        have hi4 := (HI3.out.below (hb4.mono (Nat.le_of_eq set6_size.symm))).up (Nat.le_trans (Nat.le_of_eq set6_size.symm) hb4.size);
        have hput := put_good w4 _ ga gm gp id _ F vs _ o A3 c3 (HA3.out.below hb4) HID.out HZ.out (.inr (by have := HFW.out.len; omega)) ⟨⟨A3, c3, rfl, hi4⟩, HOKO.out⟩ hi4 (by have := HFW.out.old id; have := HKO.out; omega) (by have := HFW.out.len; omega);
        unfold ndV at hput;
        have HPUT := Lib.hid hput;
        have HYS := Lib.hid hys;
        have HYN := Lib.hid hyn;
        have HNY := Lib.hid hny;
        have HX4 := Lib.hid hx4;
        have HI4 := Lib.hid hi4;
        have HA4 := Lib.hid (HA3.out.below hb4);
        have HXS4 := Lib.hid (HXS3.out.below hb4);
        have HBW4 := Lib.hid (HBW3.out.trans (hb4.mono HBW3.out.size));
        clear hys hyn hny hb4 hx4 hi4 hput))
    | (go_at_call 27; (with_reducible refine (HPUT.out).mono ?_); rintro e w5 ⟨rfl, F5, vs5, hA5, hT5, hO5⟩; go_loud (
        have hget := get_any w5 _ ga gm gp id _ F5 vs5 _ hA5 HID.out;
        have hh : hasL (putL' (layL rs) id o) id = true := by unfold hasL; rw [getL_put HFW.out.rise, if_pos rfl]; rfl;
        rw [hh, getL_put HFW.out.rise, if_pos rfl, Option.getD_some] at hget;
        unfold GetR ndV at hget;
        have HGET := Lib.hid hget;
        have HA5 := Lib.hid hA5;
        have HT5 := Lib.hid hT5;
        have HX5 := Lib.hid (HA4.out.other hT5 HX4.out (by decide));
        have HI5 := Lib.hid ((HI4.out.keep fun j cs z _ hj => (HA4.out.other hT5 hj (by decide)).trans hj.symm).up hT5.size);
        have HXS5 := Lib.hid (HXS4.out.touch HA4.out hT5);
        have HBW5 := Lib.hid (HBW4.out.trans (hT5.below HBW4.out.size fun j hj => Nat.le_trans HLOW.out (HA4.out.low hj)));
        clear hA5 hT5 hO5 hget hh))
    | (go_at_call 12; (with_reducible refine (HGET.out).mono ?_); rintro e w6 ⟨A6, c6, rfl, hn6, hf6, hb6⟩; go_loud (
        have HN6 := Lib.hid hn6;
        have HB6 := Lib.hid hb6;
        clear hn6 hf6 hb6)))
  refine wp_any_world fun wy hwy => ?_
  have hby : Below w6.heap.size w6 wy := by rw [hwy]; exact (Below.refl _ _).alloc (Nat.le_refl _) _
  have hxg1 : wy.heap[w6.heap.size]? = some (.cells #[.int .u8 (o.kind : Int), .string o.name, .int .i64 o.num, .int .u8 (o.typ : Int), .int .u64 (o.ref : Int), .slice A6 o.kids.length c6] 33 (0, 0)) := by rw [hwy]; exact Go.heap_alloc_new _ _
  have h56 := HB6.out.trans (hby.mono HB6.out.size)
  have hxg : wy.heap[w.heap.size]? = some (.cells #[.int .u8 (o.kind : Int), .string o.name, .int .i64 o.num, .int .u8 (o.typ : Int), .int .u64 (o.ref : Int), .slice A3 o.kids.length c3] 33 (0, 0)) := by exact (h56.block _ (lt_of_heap2 HX5.out)).trans HX5.out
  have hA : AR wy b0 ga gm gp F5 vs5 _ _ := HA5.out.below h56
  have hXS : XR wy _ _ xs := HXS5.out.below h56
  have hI3 := (HI5.out.below h56).up h56.size
  have hI6 : IdSl wy wy.heap.size (.slice A6 o.kids.length c6) o.kids := by
    obtain ⟨⟨A9, c9, e9, hi9⟩, _⟩ := HN6.out
    unfold ndV at e9
    injection e9 with e9
    simp at e9
    obtain ⟨rfl, rfl⟩ := e9
    exact (hi9.below hby).up hby.size
  have hbw := HBW5.out.trans (h56.mono HBW5.out.size)
  obtain ⟨ns, hns⟩ : ∃ ns, ns = putL' (layL rs) id o := ⟨_, rfl⟩
  rw [← hns] at hA
  have hnl : ns.length ≤ 32 := by rw [hns, putL_length _ _ HFW.out.rise]; have := HFW.out.len; split <;> omega
  obtain ⟨L, hL⟩ : ∃ L, L = ns.length := ⟨_, rfl⟩
  have HAY := Lib.hid hA
  have HXY := Lib.hid hXS
  have HI3Y := Lib.hid hI3
  have HI6Y := Lib.hid hI6
  have HBWY := Lib.hid hbw
  have HNSY := Lib.hid hns
  have HNL := Lib.hid hnl
  have HL10 := Lib.hid hL
  have HSK := Lib.hid (show ∀ x, Below wy.heap.size wy x → (Below wy.heap.size wy x ∧ x.cell? ⟨w.heap.size, 0, none⟩ = some (.int .u8 (o.kind : Int)) ∧ x.cell? ⟨w.heap.size, 1, none⟩ = some (.string o.name) ∧ x.cell? ⟨w.heap.size, 2, none⟩ = some (.int .i64 o.num) ∧ x.cell? ⟨w.heap.size, 3, none⟩ = some (.int .u8 (o.typ : Int)) ∧ x.cell? ⟨w.heap.size, 4, none⟩ = some (.int .u64 (o.ref : Int)) ∧ x.cell? ⟨w.heap.size, 5, none⟩ = some (.slice A3 o.kids.length c3) ∧ x.cell? ⟨w6.heap.size, 0, none⟩ = some (.int .u8 (o.kind : Int)) ∧ x.cell? ⟨w6.heap.size, 1, none⟩ = some (.string o.name) ∧ x.cell? ⟨w6.heap.size, 2, none⟩ = some (.int .i64 o.num) ∧ x.cell? ⟨w6.heap.size, 3, none⟩ = some (.int .u8 (o.typ : Int)) ∧ x.cell? ⟨w6.heap.size, 4, none⟩ = some (.int .u64 (o.ref : Int)) ∧ x.cell? ⟨w6.heap.size, 5, none⟩ = some (.slice A6 o.kids.length c6)) from fun x hx => by
    obtain ⟨z0, z1, z2, z3, z4, z5, _⟩ := box_cells ((hx.block _ (lt_of_heap2 hxg)).trans hxg)
    obtain ⟨z6, z7, z8, z9, z10, z11, _⟩ := box_cells ((hx.block _ (lt_of_heap2 hxg1)).trans hxg1)
    exact ⟨hx, z0, z1, z2, z3, z4, z5, z6, z7, z8, z9, z10, z11⟩)
  clear hwy hby hxg1 h56 hxg hA hXS hI3 hI6 hbw hns hnl hL
  refine wp_region_noPanic ?_
  refine wp_region_held_drew (S := fun x => Below wy.heap.size wy x ∧ x.cell? ⟨w.heap.size, 0, none⟩ = some (.int .u8 (o.kind : Int)) ∧ x.cell? ⟨w.heap.size, 1, none⟩ = some (.string o.name) ∧ x.cell? ⟨w.heap.size, 2, none⟩ = some (.int .i64 o.num) ∧ x.cell? ⟨w.heap.size, 3, none⟩ = some (.int .u8 (o.typ : Int)) ∧ x.cell? ⟨w.heap.size, 4, none⟩ = some (.int .u64 (o.ref : Int)) ∧ x.cell? ⟨w.heap.size, 5, none⟩ = some (.slice A3 o.kids.length c3) ∧ x.cell? ⟨w6.heap.size, 0, none⟩ = some (.int .u8 (o.kind : Int)) ∧ x.cell? ⟨w6.heap.size, 1, none⟩ = some (.string o.name) ∧ x.cell? ⟨w6.heap.size, 2, none⟩ = some (.int .i64 o.num) ∧ x.cell? ⟨w6.heap.size, 3, none⟩ = some (.int .u8 (o.typ : Int)) ∧ x.cell? ⟨w6.heap.size, 4, none⟩ = some (.int .u64 (o.ref : Int)) ∧ x.cell? ⟨w6.heap.size, 5, none⟩ = some (.slice A6 o.kids.length c6)) (by kernel_rfl) (HSK.out _ (ride_drew (Below.refl _ _))) (fun hHeld => ?_)
  refine take_at (i := 0) (v := ?_) (some 44) rfl rfl (by kernel_rfl) (by kernel_rfl) (by kernel_rfl) (fun _ _ _ h => h) (Or.inl ⟨by rfl, ?_⟩) (by assumption) ?_
  rotate_left
  · intro w hSw
    obtain ⟨hSb, z0, z1, z2, z3, z4, z5, z6, z7, z8, z9, z10, z11⟩ := hSw
    first | (go_simp; done) | (go_simp; with_reducible rfl)
  try simp only [Act.put, List.setIfInBounds_toArray, List.set_cons_zero, List.set_cons_succ]
  refine take_at (i := 1) (v := ?_) (some 45) rfl rfl (by kernel_rfl) (by kernel_rfl) (by kernel_rfl) (fun _ _ _ h => h) (Or.inl ⟨by rfl, ?_⟩) (by assumption) ?_
  rotate_left
  · intro w hSw
    obtain ⟨hSb, z0, z1, z2, z3, z4, z5, z6, z7, z8, z9, z10, z11⟩ := hSw
    first | (go_simp; done) | (go_simp; with_reducible rfl)
  try simp only [Act.put, List.setIfInBounds_toArray, List.set_cons_zero, List.set_cons_succ]
  refine take_at (i := 2) (v := ?_) (some 46) rfl rfl (by kernel_rfl) (by kernel_rfl) (by kernel_rfl) (fun _ _ _ h => h) (Or.inl ⟨by rfl, ?_⟩) (by assumption) ?_
  rotate_left
  · intro w hSw
    obtain ⟨hSb, z0, z1, z2, z3, z4, z5, z6, z7, z8, z9, z10, z11⟩ := hSw
    first | (go_simp; done) | (go_simp; with_reducible rfl)
  try simp only [Act.put, List.setIfInBounds_toArray, List.set_cons_zero, List.set_cons_succ]
  refine take_at (i := 3) (v := ?_) (some 47) rfl rfl (by kernel_rfl) (by kernel_rfl) (by kernel_rfl) (fun _ _ _ h => h) (Or.inl ⟨by rfl, ?_⟩) (by assumption) ?_
  rotate_left
  · intro w hSw
    obtain ⟨hSb, z0, z1, z2, z3, z4, z5, z6, z7, z8, z9, z10, z11⟩ := hSw
    first | (go_simp; done) | (go_simp; with_reducible rfl)
  try simp only [Act.put, List.setIfInBounds_toArray, List.set_cons_zero, List.set_cons_succ]
  refine take_at (i := 4) (v := ?_) (some 48) rfl rfl (by kernel_rfl) (by kernel_rfl) (by kernel_rfl) (fun _ _ _ h => h) (Or.inl ⟨by rfl, ?_⟩) (by assumption) ?_
  rotate_left
  · intro w hSw
    obtain ⟨hSb, z0, z1, z2, z3, z4, z5, z6, z7, z8, z9, z10, z11⟩ := hSw
    first | (go_simp; done) | (go_simp; with_reducible rfl)
  try simp only [Act.put, List.setIfInBounds_toArray, List.set_cons_zero, List.set_cons_succ]
  refine take_at (i := 5) (v := ?_) (some 49) rfl rfl (by kernel_rfl) (by kernel_rfl) (by kernel_rfl) (fun _ _ _ h => h) (Or.inl ⟨by rfl, ?_⟩) (by assumption) ?_
  rotate_left
  · intro w hSw
    obtain ⟨hSb, z0, z1, z2, z3, z4, z5, z6, z7, z8, z9, z10, z11⟩ := hSw
    first | (go_simp; done) | (go_simp; with_reducible rfl)
  try simp only [Act.put, List.setIfInBounds_toArray, List.set_cons_zero, List.set_cons_succ]
  refine take_at (i := 6) (v := ?_) (some 50) rfl rfl (by kernel_rfl) (by kernel_rfl) (by kernel_rfl) (fun _ _ _ h => h) (Or.inl ⟨by rfl, ?_⟩) (by assumption) ?_
  rotate_left
  · intro w hSw
    obtain ⟨hSb, z0, z1, z2, z3, z4, z5, z6, z7, z8, z9, z10, z11⟩ := hSw
    first | (go_simp; done) | (go_simp; with_reducible rfl)
  try simp only [Act.put, List.setIfInBounds_toArray, List.set_cons_zero, List.set_cons_succ]
  refine take_at (i := 7) (v := ?_) (some 51) rfl rfl (by kernel_rfl) (by kernel_rfl) (by kernel_rfl) (fun _ _ _ h => h) (Or.inl ⟨by rfl, ?_⟩) (by assumption) ?_
  rotate_left
  · intro w hSw
    obtain ⟨hSb, z0, z1, z2, z3, z4, z5, z6, z7, z8, z9, z10, z11⟩ := hSw
    first | (go_simp; done) | (go_simp; with_reducible rfl)
  try simp only [Act.put, List.setIfInBounds_toArray, List.set_cons_zero, List.set_cons_succ]
  refine wpAnyH_ready (rs := [8]) (by kernel_rfl) (by simp) ?_
  refine AllReadyH.cons rfl (fun K hK => ?_) AllReadyH.nil
  go_simp
  have hsm := rsame_any _ o o c6 c3 A6 A3 ((HI6Y.out.below hHeld.1).up hHeld.1.size) ((HI3Y.out.below hHeld.1).up hHeld.1.size)
  unfold ndV at hsm
  refine hsm.mono ?_
  rintro e w7 ⟨⟨b7, rfl, hb7⟩, hbw7⟩
  obtain rfl : b7 = true := hb7.2 rfl
  refine hK.out _ _ ?_ (fun hHeld2 => ?_)
  · exact HSK.out _ (ride_call hbw7 hHeld.1)
  clear hK K hHeld
  have hHeld := hHeld2
  clear hHeld2
  try simp only [Act.put, List.setIfInBounds_toArray, List.set_cons_zero, List.set_cons_succ]
  refine take_at (i := 9) (v := ?_) (some 53) rfl rfl (by kernel_rfl) (by kernel_rfl) (by kernel_rfl) (fun _ _ _ h => h) (Or.inl ⟨by rfl, ?_⟩) (by assumption) ?_
  rotate_left
  · intro w hSw
    obtain ⟨hSb, z0, z1, z2, z3, z4, z5, z6, z7, z8, z9, z10, z11⟩ := hSw
    first | (go_simp; done) | (go_simp; with_reducible rfl)
  try simp only [Act.put, List.setIfInBounds_toArray, List.set_cons_zero, List.set_cons_succ]
  refine take_at (i := 10) (v := ?_) (some 54) rfl rfl (by kernel_rfl) (by kernel_rfl) (by kernel_rfl) (fun _ _ _ h => h) (Or.inl ⟨by rfl, ?_⟩) (by assumption) ?_
  rotate_left
  · intro w hSw
    obtain ⟨hSb, z0, z1, z2, z3, z4, z5, z6, z7, z8, z9, z10, z11⟩ := hSw
    first | (go_simp; done) | (go_simp; with_reducible rfl)
  try simp only [Act.put, List.setIfInBounds_toArray, List.set_cons_zero, List.set_cons_succ]
  refine take_at (i := 11) (v := ?_) (some 55) rfl rfl (by kernel_rfl) (by kernel_rfl) (by kernel_rfl) (fun _ _ _ h => h) (Or.inl ⟨by rfl, ?_⟩) (by assumption) ?_
  rotate_left
  · intro w hSw
    obtain ⟨hSb, z0, z1, z2, z3, z4, z5, z6, z7, z8, z9, z10, z11⟩ := hSw
    first | (go_simp; done) | (go_simp; with_reducible rfl)
  try simp only [Act.put, List.setIfInBounds_toArray, List.set_cons_zero, List.set_cons_succ]
  refine take_at (i := 13) (v := ?_) (some 57) rfl rfl (by kernel_rfl) (by kernel_rfl) (by kernel_rfl) (fun _ _ _ h => h) (Or.inl ⟨by rfl, ?_⟩) (by assumption) ?_
  rotate_left
  · intro w hSw
    obtain ⟨hSb, z0, z1, z2, z3, z4, z5, z6, z7, z8, z9, z10, z11⟩ := hSw
    first | (go_simp; done) | (go_simp; with_reducible rfl)
  try simp only [Act.put, List.setIfInBounds_toArray, List.set_cons_zero, List.set_cons_succ]
  refine take_at (i := 14) (v := ?_) (some 58) rfl rfl (by kernel_rfl) (by kernel_rfl) (by kernel_rfl) (fun _ _ _ h => h) (Or.inl ⟨by rfl, ?_⟩) (by assumption) ?_
  rotate_left
  · intro w hSw
    obtain ⟨hSb, z0, z1, z2, z3, z4, z5, z6, z7, z8, z9, z10, z11⟩ := hSw
    first | (go_simp; done) | (go_simp; with_reducible rfl)
  try simp only [Act.put, List.setIfInBounds_toArray, List.set_cons_zero, List.set_cons_succ]
  refine take_at (i := 15) (v := ?_) (some 59) rfl rfl (by kernel_rfl) (by kernel_rfl) (by kernel_rfl) (fun _ _ _ h => h) (Or.inl ⟨by rfl, ?_⟩) (by assumption) ?_
  rotate_left
  · intro w hSw
    obtain ⟨hSb, z0, z1, z2, z3, z4, z5, z6, z7, z8, z9, z10, z11⟩ := hSw
    first | (go_simp; done) | (go_simp; with_reducible rfl)
  try simp only [Act.put, List.setIfInBounds_toArray, List.set_cons_zero, List.set_cons_succ]
  refine wpAnyH_ready (rs := [12]) (by kernel_rfl) (by simp) ?_
  refine AllReadyH.cons rfl (fun K hK => ?_) AllReadyH.nil
  go_simp
  refine (rows_any _ _ ga gm gp _ F5 vs5 _ (HAY.out.below hHeld.1) (by have := HNL.out; omega)).mono ?_
  rintro e w8 ⟨zv, zs, rfl, hzs, hzn, hb8⟩
  obtain ⟨Az, cz, rfl⟩ := row_form hzs.own
  obtain ⟨nz, hnz⟩ : ∃ nz, nz = zs.length := ⟨_, rfl⟩
  rw [← hnz] at hzs ⊢
  have HZS := Lib.hid hzs
  have HZNS := Lib.hid hzn
  have HNZ := Lib.hid hnz
  clear hzs hzn hnz
  refine hK.out _ _ ?_ (fun hHeld2 => ?_)
  · exact HSK.out _ (ride_call hb8 hHeld.1)
  clear hK K hHeld
  have hHeld := hHeld2
  clear hHeld2
  try simp only [Act.put, List.setIfInBounds_toArray, List.set_cons_zero, List.set_cons_succ]
  refine wpAnyH_ready (rs := [16]) (by kernel_rfl) (by simp) ?_
  refine AllReadyH.cons rfl (fun K hK => ?_) AllReadyH.nil
  go_simp
  have hrp := rput_any _ _ id nx cx c3 Ax A3 xs o (HXY.out.below hHeld.1) HNX.out (by rw [HNX.out, ← xNs_length, HNS.out]; have := HFW.out.len; omega) HID.out ((HI3Y.out.below hHeld.1).up hHeld.1.size) HOKO.out
  unfold ndV at hrp
  refine hrp.mono ?_
  rintro e w9 ⟨pv, rfl, hps, hb9⟩
  obtain ⟨Ap, cp, rfl⟩ := row_form hps.own
  rw [rputL_put (xNs_rise (by rw [HNS.out]; exact HFW.out.rise))] at hps ⊢
  obtain ⟨np, hnp⟩ : ∃ np, np = (putL' xs id (.agg #[.int .u8 (o.kind : Int), .string o.name, .int .i64 o.num, .int .u8 (o.typ : Int), .int .u64 (o.ref : Int), .slice A3 o.kids.length c3], o)).length := ⟨_, rfl⟩
  rw [← hnp] at hps ⊢
  have HPS := Lib.hid hps
  have HZS9 := Lib.hid (HZS.out.below hb9)
  have HNP := Lib.hid hnp
  clear hps hnp
  refine hK.out _ _ ?_ (fun hHeld2 => ?_)
  · exact HSK.out _ (ride_call hb9 hHeld.1)
  clear hK K hHeld
  have hHeld := hHeld2
  clear hHeld2
  try simp only [Act.put, List.setIfInBounds_toArray, List.set_cons_zero, List.set_cons_succ]
  refine wpAnyH_ready (rs := [17]) (by kernel_rfl) (by simp) ?_
  refine AllReadyH.cons rfl (fun K hK => ?_) AllReadyH.nil
  go_simp
  have heq := requal_any _ _ _ nz np cz cp Az Ap zs _ HZS9.out HPS.out HNZ.out HNP.out (by rw [HNZ.out, ← xNs_length, HZNS.out]; have := HNL.out; omega)
  refine heq.mono ?_
  rintro e w10 ⟨⟨b10, rfl, hb10⟩, hbw10⟩
  obtain rfl : b10 = true := hb10.2 (by rw [HZNS.out, xNs_put, HNS.out, HNSY.out])
  refine hK.out _ _ ?_ (fun hHeld2 => ?_)
  · exact HSK.out _ (ride_call hbw10 hHeld.1)
  clear hK K hHeld
  have hHeld := hHeld2
  clear hHeld2
  try simp only [Act.put, List.setIfInBounds_toArray, List.set_cons_zero, List.set_cons_succ]
  refine take_at (i := 18) (v := ?_) (some 62) rfl rfl (by kernel_rfl) (by kernel_rfl) (by kernel_rfl) (fun _ _ _ h => h) (Or.inl ⟨by rfl, ?_⟩) (by assumption) ?_
  rotate_left
  · intro w hSw
    obtain ⟨hSb, z0, z1, z2, z3, z4, z5, z6, z7, z8, z9, z10, z11⟩ := hSw
    first | (go_simp; done) | (go_simp; with_reducible rfl)
  try simp only [Act.put, List.setIfInBounds_toArray, List.set_cons_zero, List.set_cons_succ]
  refine take_at (i := 19) (v := ?_) (some 63) rfl rfl (by kernel_rfl) (by kernel_rfl) (by kernel_rfl) (fun _ _ _ h => h) (Or.inl ⟨by rfl, ?_⟩) (by assumption) ?_
  rotate_left
  · intro w hSw
    obtain ⟨hSb, z0, z1, z2, z3, z4, z5, z6, z7, z8, z9, z10, z11⟩ := hSw
    first | (go_simp; done) | (go_simp; with_reducible rfl)
  try simp only [Act.put, List.setIfInBounds_toArray, List.set_cons_zero, List.set_cons_succ]
  refine take_at (i := 20) (v := ?_) (some 64) rfl rfl (by kernel_rfl) (by kernel_rfl) (by kernel_rfl) (fun _ _ _ h => h) (Or.inl ⟨by rfl, ?_⟩) (by assumption) ?_
  rotate_left
  · intro w hSw
    obtain ⟨hSb, z0, z1, z2, z3, z4, z5, z6, z7, z8, z9, z10, z11⟩ := hSw
    first | (go_simp; done) | (go_simp; with_reducible rfl)
  try simp only [Act.put, List.setIfInBounds_toArray, List.set_cons_zero, List.set_cons_succ]
  refine take_at (i := 23) (v := ?_) (some 67) rfl rfl (by kernel_rfl) (by kernel_rfl) (by kernel_rfl) (fun _ _ _ h => h) (Or.inl ⟨by rfl, ?_⟩) (by assumption) ?_
  rotate_left
  · intro w hSw
    obtain ⟨hSb, z0, z1, z2, z3, z4, z5, z6, z7, z8, z9, z10, z11⟩ := hSw
    first | (go_simp; done) | (go_simp; with_reducible rfl)
  try simp only [Act.put, List.setIfInBounds_toArray, List.set_cons_zero, List.set_cons_succ]
  refine wpAnyH_ready (rs := [21]) (by kernel_rfl) (by simp) ?_
  refine AllReadyH.cons rfl (fun K hK => ?_) AllReadyH.nil
  go_simp
  refine (ids_any _ _ ga gm gp _ F5 vs5 _ (HAY.out.below hHeld.1) (by have := HNL.out; omega)).mono ?_
  rintro e w11 ⟨iv, rfl, ho11, hb11⟩
  rw [List.length_map, ← HL10.out] at ho11
  obtain ⟨Ai, ci, rfl⟩ := row_form ho11
  refine hK.out _ _ ?_ (fun hHeld2 => ?_)
  · exact HSK.out _ (ride_call hb11 hHeld.1)
  clear hK K hHeld
  have hHeld := hHeld2
  clear hHeld2
  try simp only [Act.put, List.setIfInBounds_toArray, List.set_cons_zero, List.set_cons_succ]
  refine take_at (i := 22) (v := ?_) (some 66) rfl rfl (by kernel_rfl) (by kernel_rfl) (by kernel_rfl) (fun _ _ _ h => h) (Or.inl ⟨by rfl, ?_⟩) (by assumption) ?_
  rotate_left
  · intro w hSw
    obtain ⟨hSb, z0, z1, z2, z3, z4, z5, z6, z7, z8, z9, z10, z11⟩ := hSw
    first | (go_simp; done) | (go_simp; with_reducible rfl)
  try simp only [Act.put, List.setIfInBounds_toArray, List.set_cons_zero, List.set_cons_succ]
  refine wpAnyH_ready (rs := [24]) (by kernel_rfl) (by simp) ?_
  refine AllReadyH.cons rfl (fun K hK => ?_) AllReadyH.nil
  go_simp
  refine (len_any _ _ ga gm gp _ F5 vs5 _ (HAY.out.below hHeld.1)).mono ?_
  rintro e w12 ⟨rfl, hb12⟩
  rw [← HL10.out]
  refine hK.out _ _ ?_ (fun hHeld2 => ?_)
  · exact HSK.out _ (ride_call hb12 hHeld.1)
  clear hK K hHeld
  have hHeld := hHeld2
  clear hHeld2
  try simp only [Act.put, List.setIfInBounds_toArray, List.set_cons_zero, List.set_cons_succ]
  refine take_at (i := 25) (v := ?_) (some 69) rfl rfl (by kernel_rfl) (by kernel_rfl) (by kernel_rfl) (fun _ _ _ h => h) (Or.inl ⟨by rfl, ?_⟩) (by assumption) ?_
  rotate_left
  · intro w hSw
    obtain ⟨hSb, z0, z1, z2, z3, z4, z5, z6, z7, z8, z9, z10, z11⟩ := hSw
    first | (go_simp; done) | (go_simp; with_reducible rfl)
  try simp only [Act.put, List.setIfInBounds_toArray, List.set_cons_zero, List.set_cons_succ]
  refine take_at (i := 26) (v := ?_) (some 70) rfl rfl (by kernel_rfl) (by kernel_rfl) (by kernel_rfl) (fun _ _ _ h => h) (Or.inl ⟨by rfl, ?_⟩) (by assumption) ?_
  rotate_left
  · intro w hSw
    obtain ⟨hSb, z0, z1, z2, z3, z4, z5, z6, z7, z8, z9, z10, z11⟩ := hSw
    first | (go_simp; done) | (go_simp; with_reducible rfl)
  try simp only [Act.put, List.setIfInBounds_toArray, List.set_cons_zero, List.set_cons_succ]
  refine take_at (i := 27) (v := ?_) (some 6) rfl rfl (by kernel_rfl) (by kernel_rfl) (by kernel_rfl) (fun _ _ _ h => h) (Or.inl ⟨by rfl, ?_⟩) (by assumption) ?_
  rotate_left
  · intro w hSw
    obtain ⟨hSb, z0, z1, z2, z3, z4, z5, z6, z7, z8, z9, z10, z11⟩ := hSw
    first | (go_simp; done) | (go_simp; with_reducible rfl)
  try simp only [Act.put, List.setIfInBounds_toArray, List.set_cons_zero, List.set_cons_succ]
  refine wpAnyH_done (by kernel_rfl) ?_ _
  refine NoPanic.normal ?_
  have hfin := HBWY.out.trans (hHeld.1.mono HBWY.out.size)
  clear hHeld
  go_wp2_with fail
  go_ret
  exact ⟨by first | rfl | simp, hfin⟩
theorem arenaPuts_walk (w : World) (A Ak : Option Addr) (N c ck : Nat) (rs : List (Nat × Nd)) (n : Nd) (id : Nat) (hid : id < 18446744073709551616) (h : RowsIn w w.heap.size A N rs) (hi : IdIn w w.heap.size Ak ck n.kids) (hok : NdOk n) :
    Calls Try.prog 6 #[.slice A N c, .int .u64 (id : Int), ndV n (.slice Ak n.kids.length ck)] w (fun e w' => e = .returned (.bool true) ∧ Below w.heap.size w w') := by
  by_cases h0 : id = 0
  · subst h0; exact arenaPuts_zero w A Ak N c ck rs n h hi hok
  · exact arenaPuts_good w A Ak N c ck rs n id hid h0 h hi hok
end Go.Proofs.Ytogkeoainejfcaa
