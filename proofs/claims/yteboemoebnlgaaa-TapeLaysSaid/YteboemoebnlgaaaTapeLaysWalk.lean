/- The walk of the law TapeLays: it answers true for all fields, and writes nothing that was there. -/
import Derived.Test.YteboemoebnlgaaaTapeTakesWalk
namespace Go.Proofs.Yteboemoebnlgaaa
open Go.RowKit
set_option linter.unusedSimpArgs false
set_option linter.unusedVariables false

/-- All fields' bytes. -/
def layL (l : List Fd) : List Nat := (l.map fun f => layF f.k f.N (str f.s)).flatten
theorem layL_snoc {l : List Fd} {k : Nat} {f : Fd} (hf : l[k]? = some f) : layL (l.take (k + 1)) = layL (l.take k) ++ layF f.k f.N (str f.s) := by
  unfold layL
  rw [List.take_add_one, hf, List.map_append, List.flatten_append]
  simp
theorem layL_cons {l : List Fd} {k : Nat} {f : Fd} (hf : l[k]? = some f) : layL (l.drop k) = layF f.k f.N (str f.s) ++ layL (l.drop (k + 1)) := by
  obtain ⟨hk, hb⟩ := List.getElem?_eq_some_iff.1 hf
  rw [List.drop_eq_getElem_cons hk, hb]
  rfl
theorem layL_len {l : List Fd} (h : ∀ f ∈ l, f.N < 18446744073709551616 ∧ f.s.size ≤ 40) : (layL l).length ≤ l.length * 50 := by
  induction l with
  | nil => simp [layL]
  | cons f l ih =>
    have h1 := h f (by simp)
    have h2 := ih (fun g hg => h g (by simp [hg]))
    have h3 := layF_length (k := f.k) (s := str f.s) h1.1 (by rw [str_length]; omega)
    rw [str_length] at h3
    show (layF f.k f.N (str f.s) ++ layL l).length ≤ _
    rw [List.length_append, List.length_cons]
    omega
def LaysA (W3 : World) (B n : Nat) (fl : List Fd) (u i : Value) (wr : World) : Prop :=
  ∃ (k : Nat) (vw : Value) (A : Option Addr) (m c : Nat), k ≤ n ∧ i = .int .i64 (k : Int) ∧ u = .slice A m c ∧ Wtr wr B B vw (layL (fl.take k)) ∧ Mine wr B A m c (layL (fl.take k)) ∧ (∀ j, (Value.slice A m c).ownBlock = some j → vw.ownBlock ≠ some j) ∧ Below B W3 wr ∧ W3.heap.size = B
def LaysB (W6 : World) (B5 gr n : Nat) (fl : List Fd) (u i : Value) (wr : World) : Prop :=
  ∃ (k : Nat) (vr : Value), k ≤ n ∧ i = .int .i64 (k : Int) ∧ Rdr wr gr gr vr false (layL (fl.drop k)) ∧ Bytes wr B5 u (layL (fl.drop k)) ∧ Chg W6 wr gr none
set_option maxRecDepth 100000 in
set_option maxHeartbeats 4000000 in
theorem lays_core (w : World) (A : Option Addr) (n0 c : Nat) (fs : List Fd) (hf : Fields w w.heap.size (.slice A n0 c) fs) :
    Calls Try.prog 3 #[.slice A n0 c] w fun e w' => e = .returned (.bool true) ∧ Below w.heap.size w w' := by
  have HA := hide (awake_any w)
  have HF := Lib.hid hf
  clear hf
  go_enter Try.func3, Try.ntmps3
  go_wp2_with (first
    | (go_at_call 8; (with_reducible refine (unhide HA).mono ?_); rintro e w1 ⟨rfl, hw1⟩; go_loud (
       have HC2 := hide (few_any w1 A n0 c fs (HF.out.along hw1));
       have HW1 := Lib.hid hw1;
       clear hw1))
    | (go_at_call 9; (with_reducible refine (unhide HC2).mono ?_); rintro e w3 ⟨vf, rfl, hrow, hb13⟩; go_loud (
       have hb3 := below_on HW1.out hb13;
       have hR3 : Row w3 w1.heap.size vf (fewL fs) := hrow;
       obtain ⟨Af, cf, hvf⟩ := hR3.form;
       obtain ⟨n, hn⟩ : ∃ n, n = (fewL fs).length := ⟨_, rfl⟩;
       rw [← hn] at hvf;
       subst hvf;
       have hn12 : n ≤ 12 := by (rw [hn]; exact few_len fs);
       have HN := Lib.hid hn;
       have HR3 := Lib.hid hR3;
       have HB3 := Lib.hid hb3;
       clear hn hb13 hb3 hR3 hrow)))
  have hok := fewL_ok (l := fs) HF.out.ok
  obtain ⟨fl, hfl⟩ : ∃ fl, fl = fewL fs := ⟨_, rfl⟩
  rw [← hfl] at hok HN HR3
  have HOK := Lib.hid hok
  have hlen : ∀ l : List Fd, (∀ f ∈ l, f ∈ fl) → (layL l).length ≤ l.length * 50 := fun l hl => layL_len fun f hf => ⟨(hok f (hl f hf)).1.2.1, (hok f (hl f hf)).2.1⟩
  have HLEN := Lib.hid hlen
  clear hok hfl hlen
  go_loopw [4, 21] (fun u i wr => LaysA w3 w3.heap.size n fl u i wr) (fun _ i _ => n - (intOf i).toNat)
  case atStart => exact ⟨0, .slice none 0 0, none, 0, 0, by omega, rfl, rfl, wtr_new w3 _, ⟨World.ownsRow_nil _ _ _ _, rfl, by simp [layL]⟩, fun j hj => (by cases hj), (Below.refl _ _).alloc (Nat.le_refl _) _, rfl⟩
  case round =>
    obtain ⟨k, vw, Au, mu, cu, hk, rfl, rfl, hW, hU, hap, hB, -⟩ := hrel
    have hs3 := hB.size
    have hrow := HR3.out.below hB
    have hfld := hrow.fields (fun f hf => (HOK.out f hf).1) (by have := HN.out; unfold maxLen; omega)
    have hDl : (layL (fl.take k)).length ≤ 600 := by
      have h1 := HLEN.out (fl.take k) (fun f hf => List.mem_of_mem_take hf)
      have h2 : (fl.take k).length ≤ 12 := by rw [List.length_take, ← HN.out]; omega
      omega
    by_cases hlt : k < n
    · obtain ⟨f, hf⟩ : ∃ f, fl[k]? = some f := ⟨_, List.getElem?_eq_getElem (by rw [← HN.out]; exact hlt)⟩
      obtain ⟨ad, hA, d0, d1, d2, d3⟩ := hfld.load hf (fun p hp => rfl)
      subst hA
      have hfo := HOK.out f (List.mem_of_getElem? hf)
      have hbox := (Below.refl wr.heap.size wr).alloc (Nat.le_refl _) (.cells #[.int .u8 (f.k : Int), .int .u64 (f.N : Int), .string f.s, .int .u64 (f.M : Int)] 30)
      have hW1 := hW.below hbox
      have hU1 := hU.below hbox
      have HL := hide (lay_any _ w3.heap.size w3.heap.size f.k f.N f.M f.s vw (layL (fl.take k)) hfo.1.1 hfo.1.2.1 (by have := hfo.2.1; omega) hW1 (by omega) (by simp; omega))
      have HRL := fun x => hide (refLay_any x f.k f.N f.M f.s hfo.1.1 hfo.1.2.1 (by have := hfo.2.1; omega))
      have hsn := layL_snoc hf
      have hll := layF_length (k := f.k) (s := str f.s) hfo.1.2.1 (by rw [str_length]; have := hfo.2.1; omega)
      have hl40 : (layF f.k f.N (str f.s)).length ≤ 50 := by rw [str_length] at hll; have := hfo.2.1; omega
      rw [← hsn] at HL
      have HSN := Lib.hid hsn
      have HW1 := Lib.hid hW1
      have HU1 := Lib.hid hU1
      have HAP := Lib.hid hap
      have hlt3 := lt_of_heap hW.st
      have HB1 := Lib.hid (hB.trans (hbox.mono hs3))
      have HGB := Lib.hid (fun (x : World) (hx : Chg (wr.alloc (.cells #[.int .u8 (f.k : Int), .int .u64 (f.N : Int), .string f.s, .int .u64 (f.M : Int)] 30)) x w3.heap.size vw.ownBlock) => hx.heap (Go.heap_alloc_new wr _) (by omega) (fun e => by have := own_block_lt hW.own e.symm; omega))
      clear hfo hrow hfld hf hW hU hap hB hbox hW1 hU1 hsn hll
      go_wp2_with (first
        | (go_at_call 10; (with_reducible refine (unhide HL).mono ?_); rintro e w5 ⟨rfl, v5, hW5, hC5, hG5⟩; go_loud (
           have g5 := HGB.out w5 hC5;
           obtain ⟨e0, e1, e2, e3, -⟩ := field_facts g5;
           have hU5 := HU1.out.keep (fun j hj => hC5.block j (own_block_lt HU1.out.own hj).2 (fun e => own_ne HU1.out.own HW1.out.st (by decide) (by rw [hj, e])) (fun e => HAP.out j hj e.symm));
           have hap5 : ∀ j, (Value.slice Au mu cu).ownBlock = some j → v5.ownBlock ≠ some j := fun j hj e => (by
             have h1 := (own_block_lt HU1.out.own hj).2
             rcases hG5 with h2 | ⟨q, h2, h3⟩
             · rw [h2] at e; exact HAP.out j hj e
             · rw [h2] at e; injection e with e; omega);
           have hb5 := HW1.out.chg_below hC5 HB1.out (Nat.le_refl _) (Nat.le_refl _);
           have HW5 := Lib.hid hW5;
           have HU5 := Lib.hid hU5;
           have HB5 := Lib.hid hb5;
           clear hW5 hC5 hG5 g5 hU5 hap5 hb5))
        | (go_at_call 12; (with_reducible refine (unhide (HRL _)).mono ?_); rintro e w6 ⟨A6, m6, c6, rfl, hM6, hb56⟩; go_loud (
           have HJ := hide (join_two w6 _ _ _ _ (HU5.out.bytes.along hb56) hM6.bytes (by omega));
           rw [← HSN.out] at HJ;
           have HW6 := Lib.hid (HW5.out.below hb56);
           have HB6 := Lib.hid (HB5.out.trans (hb56.mono HB5.out.size));
           clear hM6 hb56))
        | (go_at_call 11; (with_reducible refine (unhide HJ).mono ?_); rintro e w7 ⟨A7, m7, c7, rfl, hM7, hb67⟩))
      have hW7 := HW6.out.below hb67
      have hs6 := HB6.out.size
      have hb7 := HB6.out.trans (hb67.mono hs6)
      have hap7 : ∀ j, (Value.slice A7 m7 c7).ownBlock = some j → v5.ownBlock ≠ some j := fun j hj e => by
        have h1 := (own_block_lt hM7.own hj).1
        have h2 := (own_block_lt HW6.out.own e).2
        omega
      have HM7 := Lib.hid (hM7.lower hs6)
      go_roundw
      case rel => exact ⟨k + 1, v5, A7, m7, c7, by omega, by go_num, rfl, hW7, HM7.out, hap7, hb7, rfl⟩
      case measure => simp [intOf]; omega
    · obtain rfl : n = k := by omega
      have hall : fl.take n = fl := by rw [HN.out, List.take_length]
      rw [hall] at hW hU hDl
      have HY := hide (wbytes_any wr _ _ vw _ hW (by omega))
      have HU := Lib.hid hU
      have HBR := Lib.hid hB
      have HROW := Lib.hid hrow
      have HB0 := Lib.hid (HB3.out.trans (hB.mono HB3.out.size))
      clear hrow hfld hW hU hap hB hall
      go_wp2_with (first
        | (go_at_call 13; (with_reducible refine (unhide HY).mono ?_); rintro e w4 ⟨Ap, np, cp, rfl, hM4, hb4⟩; go_loud (
           have HS := hide (same_any w4 _ _ _ _ hM4.bytes (HU.out.bytes.along hb4));
           rw [decide_eq_true (rfl : layL fl = layL fl)] at HS;
           have HM4 := Lib.hid hM4.bytes;
           have HU4 := Lib.hid (HU.out.bytes.along hb4);
           have HR4 := Lib.hid (HROW.out.below hb4);
           have HB4 := Lib.hid (below_on HB0.out hb4);
           clear hM4 hb4))
        | (go_at_call 14; (with_reducible refine (unhide HS).mono ?_); rintro e w5 ⟨rfl, nq, rfl⟩; go_loud (
           have hbq := below_drewN (Below.refl w4.heap.size w4) nq;
           have HC3 := hide (read_any (w4.drewN nq) _ _ (HM4.out.along hbq) (by omega));
           have HU5 := Lib.hid (HU4.out.along hbq);
           have HR5 := Lib.hid (HR4.out.below hbq);
           have HB5 := Lib.hid (below_on HB4.out hbq);
           clear hbq))
        | (go_at_call 15; (with_reducible refine (unhide HC3).mono ?_); rintro e w6 ⟨gr, u6, rfl, hRd6, hg6, hb56⟩; go_loud (
           have HU6 := Lib.hid (HU5.out.below hb56);
           have HR6 := Lib.hid (HR5.out.below hb56);
           have HRd6 := Lib.hid hRd6;
           have HG6 := Lib.hid hg6;
           have HGW := Lib.hid (Nat.le_trans HB5.out.size hg6);
           have HB6 := Lib.hid (below_on HB5.out hb56);
           clear hRd6 hg6 hb56)))
      obtain ⟨B5, hB5⟩ : ∃ B5, B5 = (w4.drewN nq).heap.size := ⟨_, rfl⟩
      rw [← hB5] at HU6 HG6
      have HUU := Lib.hid (show Bytes w6 B5 (.slice Au mu cu) (layL fl) from HU6.out)
      clear hB5
      go_loopw [4, 42] (fun u i wr => LaysB w6 B5 gr n fl u i wr) (fun _ i _ => n - (intOf i).toNat)
      case atStart => exact ⟨0, _, by omega, rfl, HRd6.out, HUU.out, Chg.refl _ _ _⟩
      case round =>
        obtain ⟨k, vr, hk, rfl, hRd, hP, hC⟩ := hrel
        have hrow := HR6.out.chg hC HRd6.out.st (by decide)
        have hfld := hrow.fields (fun f hf => (HOK.out f hf).1) (by have := HN.out; unfold maxLen; omega)
        have hg5r := HG6.out
        have hglt := lt_of_heap hRd.st
        by_cases hlt : k < n
        · obtain ⟨f, hf⟩ : ∃ f, fl[k]? = some f := ⟨_, List.getElem?_eq_getElem (by rw [← HN.out]; exact hlt)⟩
          obtain ⟨ad, hA, d0, d1, d2, d3⟩ := hfld.load hf (fun p hp => rfl)
          subst hA
          have hfo := HOK.out f (List.mem_of_getElem? hf)
          have hcn := layL_cons hf
          by_cases hk2 : f.k % 5 = 2
          · have hk5 : ((f.k : Int) % 5 == 2) = true := by rw [beq_iff_eq]; omega
            have hbox := (Below.refl wr.heap.size wr).alloc (Nat.le_refl _) (.cells #[.int .u8 (f.k : Int), .int .u64 (f.N : Int), .string f.s, .int .u64 40] 30)
            have hT1 := hRd.below hbox
            have hP1 := hP.below (hbox.mono (by omega))
            have HT := hide (take_any _ gr gr f.k f.N 40 f.s vr false (layL (fl.drop k)) hT1 (by decide) (by intro _; decide))
            have HTK := fun (x : World) (hs : B5 ≤ x.heap.size) (hx : Bytes x B5 u4 (layL (fl.drop k))) => hide (refTake_any x B5 f.k f.N 40 f.s u4 (layL (fl.drop k)) hs hx (by decide))
            have hag := lay_take (k := f.k) (N := f.N) (M := 40) (s := str f.s) (r := layL (fl.drop (k + 1))) hfo.1.2.1 (by rw [if_pos hk2, str_length]; exact hfo.2.1) (by decide)
            rw [← hcn] at hag
            unfold Again at hag
            obtain ⟨⟨N2, S2, R2, ok2⟩, hX⟩ : ∃ X, X = takeF f.k 40 (layL (fl.drop k)) := ⟨_, rfl⟩
            rw [← hX] at HT HTK hag
            simp only [Bool.false_or] at HT HTK hag
            obtain ⟨ho, hr⟩ := hag
            subst ho hr
            simp only [show ((40 : Nat) : Int) = 40 from rfl] at HT HTK
            have HP1 := Lib.hid hP1
            have HC1 := Lib.hid (hC.alloc (.cells #[.int .u8 (f.k : Int), .int .u64 (f.N : Int), .string f.s, .int .u64 40] 30))
            have HGB := Lib.hid (fun (x : World) (hx : Chg (wr.alloc (.cells #[.int .u8 (f.k : Int), .int .u64 (f.N : Int), .string f.s, .int .u64 40] 30)) x gr none) => hx.heap (Go.heap_alloc_new wr _) (by omega) (by simp))
            have HFO := Lib.hid hfo.1
            clear hX hfo hrow hfld hf hRd hP hC hbox hT1 hP1 hcn
            go_wp2_with (first
              | (go_at_call 16; (with_reducible refine (unhide HT).mono ?_); rintro e w9 ⟨rfl, v9, hR9, hC9⟩; go_loud (
                 have hg9 := HGB.out w9 hC9;
                 obtain ⟨hq1, -⟩ := two_on hg9;
                 have q10 := fun o => (hq1 o).1; have q11 := fun o => (hq1 o).2.1; have q12 := fun o => (hq1 o).2.2.1; have q13 := fun o => (hq1 o).2.2.2;
                 have hs9 : B5 ≤ w9.heap.size := Nat.le_trans (by simp; omega) hC9.size;
                 have hP9 := HP1.out.chg hC9 hg5r (by simp; omega);
                 have HTK9 := fun (o : Obj) => HTK (w9.alloc o) (by simp; omega) (hP9.below (((Below.refl w9.heap.size w9).alloc (Nat.le_refl _) o).mono hs9));
                 have HR9 := Lib.hid hR9;
                 have HC9 := Lib.hid (HC1.out.trans (Goes.refl _ _) hC9);
                 clear hq1 hR9 hC9 hg9 hP9))
              | (go_at_call 17; (with_reducible refine (unhide (HTK9 _)).mono ?_); rintro e w7 ⟨r7, rfl, hr7, hb7⟩; go_loud (
                 have g7x := (hb7.block w9.heap.size (by simp)).trans (Go.heap_alloc_new w9 _);
                 obtain ⟨hx1, -⟩ := two_on g7x;
                 have x10 := fun o => (hx1 o).1; have x11 := fun o => (hx1 o).2.1; have x12 := fun o => (hx1 o).2.2.1; have x13 := fun o => (hx1 o).2.2.2;
                 have hb97 := ((Below.refl w9.heap.size w9).alloc (Nat.le_refl _) _).trans (hb7.mono (by simp));
                 have HR7 := Lib.hid (HR9.out.below hb97);
                 have HC7 := Lib.hid (HC9.out.trans (Goes.refl _ _) (Chg.of_below hb97 gr none));
                 have HP7 := Lib.hid (hr7.below (hb7.mono (by simp; omega)));
                 have HS7 := Lib.hid (Nat.le_trans hs9 hb97.size);
                 obtain ⟨A7, c7, hv7, -, -⟩ := hr7.form;
                 subst hv7;
                 have HLF := fun (X : World) (h : Rdr X gr gr v9 (!true) (layL (fl.drop (k + 1)))) => hide (rleft_any X gr gr v9 (!true) (layL (fl.drop (k + 1))) h);
                 clear hx1 q10 q11 q12 q13 g7x hb7 hb97 hr7))
              | (go_at_call 18; (with_reducible refine (unhide (HLF _ ?_)).mono ?_); rotate_left 1; rintro e w8 ⟨rfl, rfl⟩))
            · go_roundw
              case rel => exact ⟨k + 1, v9, by omega, by go_num, HR7.out.below ((Below.refl _ _).alloc (Nat.le_refl _) _), HP7.out.below (((Below.refl _ _).alloc (Nat.le_refl _) _).mono HS7.out), HC7.out.alloc _⟩
              case measure => simp [intOf]; omega
            · exact HR7.out.below ((Below.refl _ _).alloc (Nat.le_refl _) _)
          · have hk5 : ((f.k : Int) % 5 == 2) = false := by rw [beq_eq_false_iff_ne]; omega
            have hbox := (Below.refl wr.heap.size wr).alloc (Nat.le_refl _) (.cells #[.int .u8 (f.k : Int), .int .u64 (f.N : Int), .string f.s, .int .u64 18446744073709551615] 30)
            have hT1 := hRd.below hbox
            have hP1 := hP.below (hbox.mono (by omega))
            have HT := hide (take_any _ gr gr f.k f.N 18446744073709551615 f.s vr false (layL (fl.drop k)) hT1 (by decide) (by intro h; exact absurd h hk2))
            have HTK := fun (x : World) (hs : B5 ≤ x.heap.size) (hx : Bytes x B5 u4 (layL (fl.drop k))) => hide (refTake_any x B5 f.k f.N 18446744073709551615 f.s u4 (layL (fl.drop k)) hs hx (by decide))
            have hag := lay_take (k := f.k) (N := f.N) (M := 18446744073709551615) (s := str f.s) (r := layL (fl.drop (k + 1))) hfo.1.2.1 (by rw [if_neg hk2]; have := hfo.1.2.1; omega) (by decide)
            rw [← hcn] at hag
            unfold Again at hag
            obtain ⟨⟨N2, S2, R2, ok2⟩, hX⟩ : ∃ X, X = takeF f.k 18446744073709551615 (layL (fl.drop k)) := ⟨_, rfl⟩
            rw [← hX] at HT HTK hag
            simp only [Bool.false_or] at HT HTK hag
            obtain ⟨ho, hr⟩ := hag
            subst ho hr
            simp only [show ((18446744073709551615 : Nat) : Int) = 18446744073709551615 from rfl] at HT HTK
            have HP1 := Lib.hid hP1
            have HC1 := Lib.hid (hC.alloc (.cells #[.int .u8 (f.k : Int), .int .u64 (f.N : Int), .string f.s, .int .u64 18446744073709551615] 30))
            have HGB := Lib.hid (fun (x : World) (hx : Chg (wr.alloc (.cells #[.int .u8 (f.k : Int), .int .u64 (f.N : Int), .string f.s, .int .u64 18446744073709551615] 30)) x gr none) => hx.heap (Go.heap_alloc_new wr _) (by omega) (by simp))
            have HFO := Lib.hid hfo.1
            clear hX hfo hrow hfld hf hRd hP hC hbox hT1 hP1 hcn
            go_wp2_with (first
              | (go_at_call 16; (with_reducible refine (unhide HT).mono ?_); rintro e w9 ⟨rfl, v9, hR9, hC9⟩; go_loud (
                 have hg9 := HGB.out w9 hC9;
                 obtain ⟨hq1, -⟩ := two_on hg9;
                 have q10 := fun o => (hq1 o).1; have q11 := fun o => (hq1 o).2.1; have q12 := fun o => (hq1 o).2.2.1; have q13 := fun o => (hq1 o).2.2.2;
                 have hs9 : B5 ≤ w9.heap.size := Nat.le_trans (by simp; omega) hC9.size;
                 have hP9 := HP1.out.chg hC9 hg5r (by simp; omega);
                 have HTK9 := fun (o : Obj) => HTK (w9.alloc o) (by simp; omega) (hP9.below (((Below.refl w9.heap.size w9).alloc (Nat.le_refl _) o).mono hs9));
                 have HR9 := Lib.hid hR9;
                 have HC9 := Lib.hid (HC1.out.trans (Goes.refl _ _) hC9);
                 clear hq1 hR9 hC9 hg9 hP9))
              | (go_at_call 17; (with_reducible refine (unhide (HTK9 _)).mono ?_); rintro e w7 ⟨r7, rfl, hr7, hb7⟩; go_loud (
                 have g7x := (hb7.block w9.heap.size (by simp)).trans (Go.heap_alloc_new w9 _);
                 obtain ⟨hx1, -⟩ := two_on g7x;
                 have x10 := fun o => (hx1 o).1; have x11 := fun o => (hx1 o).2.1; have x12 := fun o => (hx1 o).2.2.1; have x13 := fun o => (hx1 o).2.2.2;
                 have hb97 := ((Below.refl w9.heap.size w9).alloc (Nat.le_refl _) _).trans (hb7.mono (by simp));
                 have HR7 := Lib.hid (HR9.out.below hb97);
                 have HC7 := Lib.hid (HC9.out.trans (Goes.refl _ _) (Chg.of_below hb97 gr none));
                 have HP7 := Lib.hid (hr7.below (hb7.mono (by simp; omega)));
                 have HS7 := Lib.hid (Nat.le_trans hs9 hb97.size);
                 obtain ⟨A7, c7, hv7, -, -⟩ := hr7.form;
                 subst hv7;
                 have HLF := fun (X : World) (h : Rdr X gr gr v9 (!true) (layL (fl.drop (k + 1)))) => hide (rleft_any X gr gr v9 (!true) (layL (fl.drop (k + 1))) h);
                 clear hx1 q10 q11 q12 q13 g7x hb7 hb97 hr7))
              | (go_at_call 18; (with_reducible refine (unhide (HLF _ ?_)).mono ?_); rotate_left 1; rintro e w8 ⟨rfl, rfl⟩))
            · go_roundw
              case rel => exact ⟨k + 1, v9, by omega, by go_num, HR7.out.below ((Below.refl _ _).alloc (Nat.le_refl _) _), HP7.out.below (((Below.refl _ _).alloc (Nat.le_refl _) _).mono HS7.out), HC7.out.alloc _⟩
              case measure => simp [intOf]; omega
            · exact HR7.out.below ((Below.refl _ _).alloc (Nat.le_refl _) _)
        · have hk : k = n := by omega
          have hL0 : layL (fl.drop k) = [] := by rw [List.drop_of_length_le (by rw [← HN.out]; omega)]; rfl
          rw [hL0] at hRd
          have HD := hide (rdone_any wr gr gr vr false [] hRd)
          rw [done_ok] at HD
          have hbw := hC.below HB6.out HB6.out.size HGW.out (fun k hk => by cases hk)
          have HBW := Lib.hid hbw
          clear hrow hfld hRd hP hC hbw hL0
          go_wp2_with (go_at_call 19; (with_reducible refine (unhide HD).mono ?_); rintro e w5 ⟨rfl, rfl⟩)
          go_ret
          exact ⟨rfl, HBW.out⟩
end Go.Proofs.Yteboemoebnlgaaa
