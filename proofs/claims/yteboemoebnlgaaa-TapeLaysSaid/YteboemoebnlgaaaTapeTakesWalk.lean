/- The walk of the law TapeTakes: it answers true for all bytes and all fields, and writes nothing that was there. -/
import Derived.Test.YteboemoebnlgaaaTapeOneWalk
import Derived.Laws.StructEq
namespace Go.Proofs.Yteboemoebnlgaaa
open Go.RowKit
set_option linter.unusedSimpArgs false
set_option linter.unusedVariables false

theorem Bytes.chg {w w' : World} {B g : Nat} {v : Value} {l : List Nat} (h : Bytes w B v l) (hC : Chg w w' g none) (hB : B ≤ g) (hs : B ≤ w.heap.size) : Bytes w' B v l :=
  h.of_cells fun p hp => World.cell?_of_block (hC.block _ (Nat.lt_of_lt_of_le hp hs) (by omega) (by simp))
/-- A block of a field, behind one new block, and two. -/
theorem two_on {w : World} {g : Nat} {v0 v1 v2 v3 : Value} (h : w.heap[g]? = some (.cells #[v0, v1, v2, v3] 30 (0, 0))) :
    (∀ o : Obj, (w.alloc o).cell? ⟨g, 0, none⟩ = some v0 ∧ (w.alloc o).cell? ⟨g, 1, none⟩ = some v1 ∧ (w.alloc o).cell? ⟨g, 2, none⟩ = some v2 ∧ (w.alloc o).cell? ⟨g, 3, none⟩ = some v3) ∧
    (∀ o o2 : Obj, ((w.alloc o).alloc o2).cell? ⟨g, 0, none⟩ = some v0 ∧ ((w.alloc o).alloc o2).cell? ⟨g, 1, none⟩ = some v1 ∧ ((w.alloc o).alloc o2).cell? ⟨g, 2, none⟩ = some v2 ∧ ((w.alloc o).alloc o2).cell? ⟨g, 3, none⟩ = some v3) := by
  have hl := lt_of_heap h
  have h1 : ∀ o : Obj, (w.alloc o).heap[g]? = some (.cells #[v0, v1, v2, v3] 30 (0, 0)) := fun o => (Go.heap_alloc_old w o hl).trans h
  have h2 : ∀ o o2 : Obj, ((w.alloc o).alloc o2).heap[g]? = some (.cells #[v0, v1, v2, v3] 30 (0, 0)) := fun o o2 => (Go.heap_alloc_old _ o2 (by simp; omega)).trans (h1 o)
  refine ⟨fun o => ?_, fun o o2 => ?_⟩
  · obtain ⟨a, b, c, d, -⟩ := field_facts (h1 o)
    exact ⟨a, b, c, d⟩
  · obtain ⟨a, b, c, d, -⟩ := field_facts (h2 o o2)
    exact ⟨a, b, c, d⟩
theorem one_free {w : World} {g : Nat} {v0 v1 v2 v3 : Value} (h : w.heap[g]? = some (.cells #[v0, v1, v2, v3] 30 (0, 0))) :
    ∀ o : Obj, (w.alloc o).frozen? ⟨g, 0, none⟩ = false ∧ (w.alloc o).frozen? ⟨g, 1, none⟩ = false ∧ (w.alloc o).frozen? ⟨g, 2, none⟩ = false ∧ (w.alloc o).frozen? ⟨g, 3, none⟩ = false := fun o => by
  have h1 : (w.alloc o).heap[g]? = some (.cells #[v0, v1, v2, v3] 30 (0, 0)) := (Go.heap_alloc_old w o (lt_of_heap h)).trans h
  obtain ⟨-, -, -, -, a, b, c, d⟩ := field_facts h1
  exact ⟨a, b, c, d⟩
theorem Chg.beyond {W w X : World} {B gr : Nat} (hW : Chg W w gr none) (hb : Below B w X) (hB : W.heap.size ≤ B) : Chg W X gr none :=
  ⟨hb.os.trans hW.os, hb.tape.trans hW.tape, hb.output.trans hW.output, Nat.le_trans hW.size hb.size, fun k hk h1 h2 => (hb.block k (by omega)).trans (hW.block k hk h1 h2)⟩
def TakesR (W4 : World) (B3 gr n : Nat) (p o i : Value) (wr : World) : Prop :=
  ∃ (k : Nat) (L : List Nat) (bad : Bool) (vr : Value), k ≤ n ∧ i = .int .i64 (k : Int) ∧ o = .bool (!bad) ∧ Rdr wr gr gr vr bad L ∧ Bytes wr B3 p L ∧ Chg W4 wr gr none
set_option maxRecDepth 100000 in
set_option maxHeartbeats 4000000 in
theorem takes_core (w : World) (v : Value) (A : Option Addr) (n0 c : Nat) (l : List Nat) (fs : List Fd) (hp : Bytes w w.heap.size v l) (hf : Fields w w.heap.size (.slice A n0 c) fs) :
    Calls Try.prog 4 #[v, .slice A n0 c] w fun e w' => e = .returned (.bool true) ∧ Below w.heap.size w w' := by
  have HA := hide (awake_any w)
  have HP := Lib.hid hp
  have HF := Lib.hid hf
  clear hp hf
  go_enter Try.func4, Try.ntmps4
  go_wp2_with (first
    | (go_at_call 8; (with_reducible refine (unhide HA).mono ?_); rintro e w1 ⟨rfl, hw1⟩; go_loud (
       have HC1 := hide (cut_mine w1 v l 60 60 rfl (HP.out.along hw1) (by omega));
       have HW1 := Lib.hid hw1;
       clear hw1))
    | (go_at_call 20; (with_reducible refine (unhide HC1).mono ?_); rintro e w2 ⟨Ap, np, cp, rfl, hM2, hb12⟩; go_loud (
       have hb2 := below_on HW1.out hb12;
       have HC2 := hide (few_any w2 A n0 c fs (HF.out.along hb2));
       have HM2 := Lib.hid hM2;
       have HB2 := Lib.hid hb2;
       clear hM2 hb12 hb2))
    | (go_at_call 9; (with_reducible refine (unhide HC2).mono ?_); rintro e w3 ⟨vf, rfl, hrow, hb23⟩; go_loud (
       have hb3 := below_on HB2.out hb23;
       have hR3 : Row w3 w2.heap.size vf (fewL fs) := hrow;
       obtain ⟨Af, cf, hvf⟩ := hR3.form;
       obtain ⟨n, hn⟩ : ∃ n, n = (fewL fs).length := ⟨_, rfl⟩;
       rw [← hn] at hvf;
       subst hvf;
       have hn12 : n ≤ 12 := by (rw [hn]; exact few_len fs);
       have HN := Lib.hid hn;
       clear hn;
       have hM3 := HM2.out.below hb23;
       have HC3 := hide (read_any w3 (.slice Ap np cp) (l.take 60) hM3.bytes (by rw [List.length_take]; omega));
       have HR3 := Lib.hid hR3;
       have HM3 := Lib.hid hM3.bytes;
       have HB3 := Lib.hid hb3;
       clear hb23 hb3 hR3 hM3 hrow))
    | (go_at_call 15; (with_reducible refine (unhide HC3).mono ?_); rintro e w4 ⟨gr, u4, rfl, hRd4, hg4, hb34⟩; go_loud (
       have hb4 := below_on HB3.out hb34;
       have HR4 := Lib.hid (HR3.out.below hb34);
       have HM4 := Lib.hid (HM3.out.below hb34);
       have HRd4 := Lib.hid hRd4;
       have HG4 := Lib.hid (Nat.le_trans HB3.out.size hg4);
       have HG3 := Lib.hid hg4;
       have HB4 := Lib.hid hb4;
       clear hb34 hb4 hRd4 hg4)))
  have hok := fewL_ok (l := fs) HF.out.ok
  have HOK := Lib.hid hok
  clear hok
  go_loopw [0, 6, 26] (fun p o i wr => TakesR w4 w3.heap.size gr n p o i wr) (fun _ _ i _ => n - (intOf i).toNat)
  case atStart => exact ⟨0, _, false, _, by omega, rfl, rfl, HRd4.out, HM4.out, Chg.refl _ _ _⟩
  case round =>
    obtain ⟨k, L, bad, vr, hk, rfl, rfl, hRd, hP, hC⟩ := hrel
    have hrow := HR4.out.chg hC HRd4.out.st (by decide)
    have hfld := hrow.fields (fun f hf => (HOK.out f hf).1) (by have := HN.out; unfold maxLen; omega)
    have hg3 := HG3.out
    have hglt := lt_of_heap hRd.st
    by_cases hlt : k < n
    · obtain ⟨f, hf⟩ : ∃ f, (fewL fs)[k]? = some f := ⟨_, List.getElem?_eq_getElem (by rw [← HN.out]; exact hlt)⟩
      obtain ⟨ad, hA, d0, d1, d2, d3⟩ := hfld.load hf (fun p hp => rfl)
      subst hA
      have hfo := HOK.out f (List.mem_of_getElem? hf)
      have hbox := (Below.refl wr.heap.size wr).alloc (Nat.le_refl _) (.cells #[.int .u8 (f.k : Int), .int .u64 (f.N : Int), .string f.s, .int .u64 (f.M : Int)] 30)
      have hT1 := hRd.below hbox
      have hP1 := hP.below (hbox.mono (by omega))
      have HT := hide (take_any _ gr gr f.k f.N f.M f.s vr bad L hT1 hfo.1.2.2.1 hfo.2.2)
      have hbad := @takeF_bad f.k f.M L
      have HTK := fun (x : World) (hs : w3.heap.size ≤ x.heap.size) (hx : Bytes x w3.heap.size u0 L) => hide (refTake_any x w3.heap.size f.k f.N f.M f.s u0 L hs hx hfo.1.2.2.1)
      obtain ⟨⟨N2, S2, R2, ok2⟩, hX⟩ : ∃ X, X = takeF f.k f.M L := ⟨_, rfl⟩
      rw [← hX] at HT HTK hbad
      simp only at HT HTK hbad
      have hC1 := hC.alloc (.cells #[.int .u8 (f.k : Int), .int .u64 (f.N : Int), .string f.s, .int .u64 (f.M : Int)] 30)
      have HP1 := Lib.hid hP1
      have HC1 := Lib.hid hC1
      have HM := Lib.hid hfo.1.2.2.1
      have hgbox : ∀ x : World, Chg (wr.alloc (.cells #[.int .u8 (f.k : Int), .int .u64 (f.N : Int), .string f.s, .int .u64 (f.M : Int)] 30)) x gr none → x.heap[wr.heap.size]? = some (.cells #[.int .u8 (f.k : Int), .int .u64 (f.N : Int), .string f.s, .int .u64 (f.M : Int)] 30 (0, 0)) := fun x hx => hx.heap (Go.heap_alloc_new wr _) (by omega) (by simp)
      have HGB := Lib.hid hgbox
      have HX3 := Lib.hid hRd.dead
      clear hfo hrow hfld hf hRd hP hC hbox hT1 hP1 hC1 hgbox
      have hbad0 := hX
      clear hX
      cases bad
      · rw [Bool.false_or] at HT
        clear hbad0
        cases ok2
        · have hb := hbad rfl
          injection hb with hb1 hb
          injection hb with hb2 hb
          injection hb with hb3 hb
          subst hb1 hb2 hb3
          simp only [show txt [] = (⟨#[]⟩ : ByteArray) from rfl] at HT HTK
          clear hbad hb
          go_wp2_with (first
            | (go_at_call 16; (with_reducible refine (unhide HT).mono ?_); rintro e w5 ⟨rfl, v5, hR5, hC5⟩; go_loud (
               have hg5 := HGB.out w5 hC5;
               obtain ⟨hq1, hq2⟩ := two_on hg5;
               have q10 := fun o => (hq1 o).1; have q11 := fun o => (hq1 o).2.1; have q12 := fun o => (hq1 o).2.2.1; have q13 := fun o => (hq1 o).2.2.2;
               have q20 := fun o o2 => (hq2 o o2).1; have q21 := fun o o2 => (hq2 o o2).2.1; have q22 := fun o o2 => (hq2 o o2).2.2.1; have q23 := fun o o2 => (hq2 o o2).2.2.2;
               have hs5 : w3.heap.size ≤ w5.heap.size := Nat.le_trans (by simp; omega) hC5.size;
               have hP5 := HP1.out.chg hC5 hg3 (by simp; omega);
               have HTK5 := fun (o o2 : Obj) => HTK ((w5.alloc o).alloc o2) (by simp; omega) (hP5.below ((((Below.refl w5.heap.size w5).alloc (Nat.le_refl _) o).alloc (by simp) o2).mono hs5));
               have HR5 := Lib.hid hR5;
               have HC5 := Lib.hid (HC1.out.trans (Goes.refl _ _) hC5);
               have HG5 := Lib.hid hg5;
               clear hq1 hq2 hR5 hC5 hg5 hP5))
            | (go_at_call 17; (with_reducible refine (unhide (HTK5 _ _)).mono ?_); rintro e w7 ⟨r7, rfl, hr7, hb7⟩; go_loud (
               have g7x := (hb7.block w5.heap.size (by simp; omega)).trans ((Go.heap_alloc_old _ _ (by simp)).trans (Go.heap_alloc_new w5 _));
               have g7y := (hb7.block (w5.heap.size + 1) (by simp)).trans (Go.heap_alloc2_new w5 _ _);
               obtain ⟨hx1, -⟩ := two_on g7x;
               obtain ⟨hy1, -⟩ := two_on g7y;
               have hz1 := one_free g7y;
               have x10 := fun o => (hx1 o).1; have x11 := fun o => (hx1 o).2.1; have x12 := fun o => (hx1 o).2.2.1; have x13 := fun o => (hx1 o).2.2.2;
               have y10 := fun o => (hy1 o).1; have y11 := fun o => (hy1 o).2.1; have y12 := fun o => (hy1 o).2.2.1; have y13 := fun o => (hy1 o).2.2.2;
               have z10 := fun o => (hz1 o).1; have z11 := fun o => (hz1 o).2.1; have z12 := fun o => (hz1 o).2.2.1; have z13 := fun o => (hz1 o).2.2.2;
               have hb57 := (((Below.refl w5.heap.size w5).alloc (Nat.le_refl _) _).alloc (by simp) _).trans (hb7.mono (by simp; omega));
               have HR7 := Lib.hid (HR5.out.below hb57);
               have HS7 := Lib.hid (Nat.le_trans hs5 hb57.size);
               obtain ⟨A7, c7, hv7, -, -⟩ := hr7.form;
               subst hv7;
               have HLF := fun (X : World) (h : Rdr X gr gr v5 (!false) []) => hide (rleft_any X gr gr v5 (!false) [] h);
               have HC7 := Lib.hid (HC5.out.trans (Goes.refl _ _) (Chg.of_below hb57 gr none));
               have HL7 := Lib.hid (lt_of_heap g7y);
               have HG57 := Lib.hid (lt_of_heap HR5.out.st);
               have HS45 := Lib.hid HC5.out.size;
               have HP7 := Lib.hid (hr7.below (hb7.mono (by simp; omega)));
               clear hx1 hy1 hz1 q10 q11 q12 q13 q20 q21 q22 q23 g7x g7y hb7 hb57 hr7))
            | (go_at_call 18; (with_reducible refine (unhide (HLF _ ?_)).mono ?_); rotate_left 1; rintro e w8 ⟨rfl, rfl⟩))
          · go_roundw
            case rel =>
              exact ⟨k + 1, [], true, v5, by omega, by go_num, rfl, HR7.out.below ((Below.refl _ _).alloc (Nat.le_refl _) _), Bytes.none_ _ _, HC7.out.alloc _⟩
            case measure => simp [intOf]; omega
          · exact HR7.out.below ((Below.refl _ _).alloc (Nat.le_refl _) _)
        · clear hbad
          go_wp2_with (first
            | (go_at_call 16; (with_reducible refine (unhide HT).mono ?_); rintro e w5 ⟨rfl, v5, hR5, hC5⟩; go_loud (
               have hg5 := HGB.out w5 hC5;
               obtain ⟨hq1, hq2⟩ := two_on hg5;
               have q10 := fun o => (hq1 o).1; have q11 := fun o => (hq1 o).2.1; have q12 := fun o => (hq1 o).2.2.1; have q13 := fun o => (hq1 o).2.2.2;
               have q20 := fun o o2 => (hq2 o o2).1; have q21 := fun o o2 => (hq2 o o2).2.1; have q22 := fun o o2 => (hq2 o o2).2.2.1; have q23 := fun o o2 => (hq2 o o2).2.2.2;
               have hs5 : w3.heap.size ≤ w5.heap.size := Nat.le_trans (by simp; omega) hC5.size;
               have hP5 := HP1.out.chg hC5 hg3 (by simp; omega);
               have HTK5 := fun (o o2 : Obj) => HTK ((w5.alloc o).alloc o2) (by simp; omega) (hP5.below ((((Below.refl w5.heap.size w5).alloc (Nat.le_refl _) o).alloc (by simp) o2).mono hs5));
               have HR5 := Lib.hid hR5;
               have HC5 := Lib.hid (HC1.out.trans (Goes.refl _ _) hC5);
               have HG5 := Lib.hid hg5;
               clear hq1 hq2 hR5 hC5 hg5 hP5))
            | (go_at_call 17; (with_reducible refine (unhide (HTK5 _ _)).mono ?_); rintro e w7 ⟨r7, rfl, hr7, hb7⟩; go_loud (
               have g7x := (hb7.block w5.heap.size (by simp; omega)).trans ((Go.heap_alloc_old _ _ (by simp)).trans (Go.heap_alloc_new w5 _));
               have g7y := (hb7.block (w5.heap.size + 1) (by simp)).trans (Go.heap_alloc2_new w5 _ _);
               obtain ⟨hx1, -⟩ := two_on g7x;
               obtain ⟨hy1, -⟩ := two_on g7y;
               have hz1 := one_free g7y;
               have x10 := fun o => (hx1 o).1; have x11 := fun o => (hx1 o).2.1; have x12 := fun o => (hx1 o).2.2.1; have x13 := fun o => (hx1 o).2.2.2;
               have y10 := fun o => (hy1 o).1; have y11 := fun o => (hy1 o).2.1; have y12 := fun o => (hy1 o).2.2.1; have y13 := fun o => (hy1 o).2.2.2;
               have z10 := fun o => (hz1 o).1; have z11 := fun o => (hz1 o).2.1; have z12 := fun o => (hz1 o).2.2.1; have z13 := fun o => (hz1 o).2.2.2;
               have hb57 := (((Below.refl w5.heap.size w5).alloc (Nat.le_refl _) _).alloc (by simp) _).trans (hb7.mono (by simp; omega));
               have HR7 := Lib.hid (HR5.out.below hb57);
               have HS7 := Lib.hid (Nat.le_trans hs5 hb57.size);
               obtain ⟨A7, c7, hv7, -, -⟩ := hr7.form;
               subst hv7;
               have HLF := fun (X : World) (h : Rdr X gr gr v5 (!true) R2) => hide (rleft_any X gr gr v5 (!true) R2 h);
               have HC7 := Lib.hid (HC5.out.trans (Goes.refl _ _) (Chg.of_below hb57 gr none));
               have HL7 := Lib.hid (lt_of_heap g7y);
               have HG57 := Lib.hid (lt_of_heap HR5.out.st);
               have HS45 := Lib.hid HC5.out.size;
               have HP7 := Lib.hid (hr7.below (hb7.mono (by simp; omega)));
               clear hx1 hy1 hz1 q10 q11 q12 q13 q20 q21 q22 q23 g7x g7y hb7 hb57 hr7))
            | (go_at_call 18; (with_reducible refine (unhide (HLF _ ?_)).mono ?_); rotate_left 1; rintro e w8 ⟨rfl, rfl⟩))
          · go_roundw
            case rel =>
              have hbx := row_below (B := w5.heap.size + 1) (p := w5.heap.size + 1) ((Below.refl (w5.heap.size + 1) w7).alloc (by have := HL7.out; omega) (.cells #[.int .u8 (f.k : Int), .int .u64 (N2 : Int), .string (txt S2), .int .u64 (f.M : Int)] 30)) (Nat.le_refl _) (.int .u8 (f.k : Int)) (.int .u64 (N2 : Int)) (.string (txt S2)) (.int .u64 (f.M : Int))
              exact ⟨k + 1, R2, false, v5, by omega, by go_num, rfl, HR7.out.keep (fun j hj => hbx.block j (by have := HG57.out; omega)), HP7.out.below (hbx.mono (B' := w3.heap.size) (by omega)), HC7.out.beyond hbx (by have := HS45.out; omega)⟩
            case measure => simp [intOf]; omega
          · exact HR7.out.keep (fun j hj => (row_below (B := w5.heap.size + 1) (p := w5.heap.size + 1) ((Below.refl (w5.heap.size + 1) w7).alloc (by have := HL7.out; omega) _) (Nat.le_refl _) _ _ _ _).block j (by have := HG57.out; omega))
      · have hL0 := HX3.out rfl
        subst hL0
        have hb := hbad0
        rw [takeF_nil] at hb
        injection hb with hb1 hb
        injection hb with hb2 hb
        injection hb with hb3 hb4
        subst hb1 hb2 hb3 hb4
        simp only [show txt [] = (⟨#[]⟩ : ByteArray) from rfl] at HT
        rw [Bool.true_or] at HT
        clear hbad HTK
        go_wp2_with (first
            | (go_at_call 16; (with_reducible refine (unhide HT).mono ?_); rintro e w5 ⟨rfl, v5, hR5, hC5⟩; go_loud (
               have hg5 := HGB.out w5 hC5;
               obtain ⟨hq1, hq2⟩ := two_on hg5;
               have q10 := fun o => (hq1 o).1; have q11 := fun o => (hq1 o).2.1; have q12 := fun o => (hq1 o).2.2.1; have q13 := fun o => (hq1 o).2.2.2;
               have q20 := fun o o2 => (hq2 o o2).1; have q21 := fun o o2 => (hq2 o o2).2.1; have q22 := fun o o2 => (hq2 o o2).2.2.1; have q23 := fun o o2 => (hq2 o o2).2.2.2;
               have hP5 := HP1.out.chg hC5 hg3 (by simp; omega);
               have hs5 : w3.heap.size ≤ w5.heap.size := Nat.le_trans (by simp; omega) hC5.size;
               have HR5 := Lib.hid hR5;
               have HC5 := Lib.hid (HC1.out.trans (Goes.refl _ _) hC5);
               have HP5 := Lib.hid hP5;
               have HLF := fun (X : World) (h : Rdr X gr gr v5 true []) => hide (rleft_any X gr gr v5 true [] h);
               clear hq1 hq2 hR5 hC5 hg5 hP5))
            | (go_at_call 18; (with_reducible refine (unhide (HLF _ ?_)).mono ?_); rotate_left 1; rintro e w8 ⟨rfl, rfl⟩))
        · go_roundw
          case rel => exact ⟨k + 1, [], true, v5, by omega, by go_num, rfl, HR5.out.below (((Below.refl w5.heap.size w5).alloc (Nat.le_refl _) _).alloc (by simp) _), HP5.out.below ((((Below.refl w5.heap.size w5).alloc (Nat.le_refl _) _).alloc (by simp) _).mono hs5), (HC5.out.alloc _).alloc _⟩
          case measure => simp [intOf]; omega
        · exact HR5.out.below (((Below.refl w5.heap.size w5).alloc (Nat.le_refl _) _).alloc (by simp) _)
    · have HD := hide (rdone_any wr gr gr vr bad L hRd)
      have hbw := hC.below HB4.out HB4.out.size HG4.out (fun k hk => by cases hk)
      have HBW := Lib.hid hbw
      obtain ⟨Aq, cq, hq, -, -⟩ := hP.form
      subst hq
      have hdead := hRd.dead
      clear hrow hfld hRd hP hC hbw
      cases bad
      · obtain ⟨m, hm⟩ : ∃ m, m = L.length := ⟨_, rfl⟩
        rw [← hm]
        by_cases hm0 : m = 0
        · have hL0 : L = [] := List.eq_nil_of_length_eq_zero (by omega)
          rw [hL0, done_ok] at HD
          have hm1 : ((m : Int) == 0) = true := by rw [beq_iff_eq]; omega
          clear hm hL0 hm0 hdead
          go_wp2_with (go_at_call 19; (with_reducible refine (unhide HD).mono ?_); rintro e w5 ⟨rfl, rfl⟩)
          go_ret
          exact ⟨rfl, HBW.out⟩
        · have hL0 : L ≠ [] := fun e => hm0 (by rw [hm, e]; rfl)
          rw [done_bad (.inr hL0)] at HD
          have hm1 : ((m : Int) == 0) = false := by rw [beq_eq_false_iff_ne]; omega
          clear hm hL0 hm0 hdead
          go_wp2_with (go_at_call 19; (with_reducible refine (unhide HD).mono ?_); rintro e w5 ⟨rfl, rfl⟩)
          go_ret
          exact ⟨rfl, HBW.out⟩
      · rw [done_bad (.inl rfl)] at HD
        clear hdead
        go_wp2_with (go_at_call 19; (with_reducible refine (unhide HD).mono ?_); rintro e w5 ⟨rfl, rfl⟩)
        go_ret
        exact ⟨rfl, HBW.out⟩
end Go.Proofs.Yteboemoebnlgaaa
