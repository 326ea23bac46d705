/- The walk of the law TapeOne: it answers true for all bytes and all fields, and writes nothing that was there. -/
import Derived.Test.YteboemoebnlgaaaFields
namespace Go.Proofs.Yteboemoebnlgaaa
open Go.RowKit
set_option linter.unusedSimpArgs false
set_option linter.unusedVariables false

theorem Fields.along {w w' : World} {v : Value} {l : List Fd} (h : Fields w w.heap.size v l) (hb : Below w.heap.size w w') : Fields w' w'.heap.size v l := by
  obtain ⟨A, c, hv, hl, hc⟩ := h.form
  exact ⟨⟨A, c, hv, (hl.below hb).up hb.size, hc⟩, h.ok, h.long⟩
def OneR (W4 : World) (B4 gr n : Nat) (P : List Nat) (i : Value) (wr : World) : Prop :=
  ∃ (k : Nat) (L W : List Nat) (bad : Bool) (vr vw : Value), k ≤ n ∧ i = .int .i64 (k : Int) ∧ Rdr wr gr gr vr bad L ∧ Wtr wr B4 B4 vw W ∧ Chg W4 wr gr none ∧ (bad = false → W ++ L = P) ∧ W.length ≤ 100 * k ∧ L.length ≤ 60
theorem one_next {k N M : Nat} {L W P : List Nat} {bad : Bool} (hs : ∀ b ∈ L, b < 256) (h : bad = false → W ++ L = P) : (bad || !(takeF k M L).2.2.2) = false → (W ++ layF k (takeF k M L).1 (takeF k M L).2.1) ++ (takeF k M L).2.2.1 = P := fun e => by
  have hb : bad = false := by cases bad <;> simp_all
  have ho : (takeF k M L).2.2.2 = true := by cases h1 : (takeF k M L).2.2.2 <;> simp_all
  rw [List.append_assoc, take_lay hs ho]
  exact h hb
set_option maxRecDepth 100000 in
set_option maxHeartbeats 4000000 in
theorem one_core (w : World) (v : Value) (A : Option Addr) (n0 c : Nat) (l : List Nat) (fs : List Fd) (hp : Bytes w w.heap.size v l) (hf : Fields w w.heap.size (.slice A n0 c) fs) :
    Calls Try.prog 5 #[v, .slice A n0 c] w fun e w' => e = .returned (.bool true) ∧ Below w.heap.size w w' := by
  have HA := hide (awake_any w)
  have HP := Lib.hid hp
  have HF := Lib.hid hf
  clear hp hf
  go_enter Try.func5, Try.ntmps5
  go_wp2_with (first
    | (go_at_call 8; (with_reducible refine (unhide HA).mono ?_); rintro e w1 ⟨rfl, hw1⟩; go_loud (
       have HC1 := hide (cut_mine w1 v l 60 60 rfl (HP.out.along hw1) (by omega));
       have HW1 := Lib.hid hw1;
       clear hw1))
    | (go_at_call 20; (with_reducible refine (unhide HC1).mono ?_); rintro e w2 ⟨Ap, np, cp, rfl, hM2, hb12⟩; go_loud (
       have hb2 := below_on HW1.out hb12;
       have HC2 := hide (few_any w2 A n0 c fs (HF.out.along hb2));
       have HM2 := Lib.hid hM2;
       have HB2 := Lib.hid hb2;
       clear hM2 hb12 hb2))
    | (go_at_call 9; (with_reducible refine (unhide HC2).mono ?_); rintro e w3 ⟨vf, rfl, hrow, hb23⟩; go_loud (
       have hb3 := below_on HB2.out hb23;
       have hR3 : Row w3 w2.heap.size vf (fewL fs) := hrow;
       obtain ⟨Af, cf, hvf⟩ := hR3.form;
       obtain ⟨n, hn⟩ : ∃ n, n = (fewL fs).length := ⟨_, rfl⟩;
       rw [← hn] at hvf;
       subst hvf;
       have hn12 : n ≤ 12 := by (rw [hn]; exact few_len fs);
       have HN := Lib.hid hn;
       clear hn;
       have hM3 := HM2.out.below hb23;
       have HC3 := hide (read_any w3 (.slice Ap np cp) (l.take 60) hM3.bytes (by rw [List.length_take]; omega));
       have HR3 := Lib.hid hR3;
       have HM3 := Lib.hid hM3;
       have HB3 := Lib.hid hb3;
       clear hb23 hb3 hR3 hM3 hrow))
    | (go_at_call 15; (with_reducible refine (unhide HC3).mono ?_); rintro e w4 ⟨gr, u4, rfl, hRd4, hg4, hb34⟩; go_loud (
       have hb4 := below_on HB3.out hb34;
       have HR4 := Lib.hid (HR3.out.below hb34);
       have HM4 := Lib.hid (HM3.out.below hb34);
       have HRd4 := Lib.hid hRd4;
       have HG4 := Lib.hid (Nat.le_trans HB3.out.size hg4);
       have HB4 := Lib.hid hb4;
       clear hb34 hb4 hRd4 hg4)))
  have hok := fewL_ok (l := fs) HF.out.ok
  have HOK := Lib.hid hok
  clear hok
  go_loopw [19] (fun i wr => OneR w4 w4.heap.size gr n (l.take 60) i wr) (fun i _ => n - (intOf i).toNat)
  case atStart =>
    refine ⟨0, _, [], false, _, .slice none 0 0, by omega, rfl, HRd4.out.below ((Below.refl _ _).alloc (Nat.le_refl _) _), wtr_new w4 _, (Chg.refl _ _ _).alloc _, fun _ => rfl, by simp, by rw [List.length_take]; omega⟩
  case round =>
    obtain ⟨k, L, W, bad, vr, vw, hk, rfl, hRd, hW, hC, hI, hWl, hLl⟩ := hrel
    have hrow := HR4.out.chg hC HRd4.out.st (by decide)
    have hfld := hrow.fields (fun f hf => (HOK.out f hf).1) (by have := HN.out; unfold maxLen; omega)
    by_cases hlt : k < n
    · obtain ⟨f, hf⟩ : ∃ f, (fewL fs)[k]? = some f := ⟨_, List.getElem?_eq_getElem (by rw [← HN.out]; exact hlt)⟩
      obtain ⟨ad, hA, d0, d1, d2, d3⟩ := hfld.load hf (fun p hp => rfl)
      subst hA
      have hfo := HOK.out f (List.mem_of_getElem? hf)
      have hbox := (Below.refl wr.heap.size wr).alloc (Nat.le_refl _) (.cells #[.int .u8 (f.k : Int), .int .u64 (f.N : Int), .string f.s, .int .u64 (f.M : Int)] 30)
      have hT1 := hRd.below hbox
      have hW1 := hW.below hbox
      have HT := hide (take_any _ gr gr f.k f.N f.M f.s vr bad L hT1 hfo.1.2.2.1 hfo.2.2)
      obtain ⟨t1, t2, t3, t4, t5⟩ := takeF_bd (k := f.k) (M := f.M) hRd.by_.small
      have hI2 := one_next (k := f.k) (N := f.N) (M := f.M) hRd.by_.small hI
      have hC1 := hC.alloc (.cells #[.int .u8 (f.k : Int), .int .u64 (f.N : Int), .string f.s, .int .u64 (f.M : Int)] 30)
      have hll := layF_length (k := f.k) (s := (takeF f.k f.M L).2.1) t1 (by omega)
      obtain ⟨X, hX⟩ : ∃ X, X = takeF f.k f.M L := ⟨_, rfl⟩
      rw [← hX] at HT t1 t2 t3 t4 t5 hI2 hll
      have HW1 := Lib.hid hW1
      have HC1 := Lib.hid hC1
      have HS1 := Lib.hid hT1.st
      have HI2 := Lib.hid hI2
      have HFK := Lib.hid hfo.1.1
      have HT4 := Lib.hid t4
      clear hfo hrow hfld hf hRd hW hC hI hbox hT1 hW1 hI2 hC1 hX t4
      go_wp2_with (first
        | (go_at_call 16; (with_reducible refine (unhide HT).mono ?_); rintro e w5 ⟨rfl, v5, hR5, hC5⟩; go_loud (
           have hW5 := HW1.out.chgR hC5 HS1.out;
           have hCC5 := HC1.out.trans (Goes.refl _ _) hC5;
           have HL := hide (lay_any w5 w4.heap.size w4.heap.size f.k X.1 f.M (txt X.2.1) vw W HFK.out t1 (by rw [txt_size]; omega) hW5 (by omega) hCC5.size);
           rw [str_txt HT4.out] at HL;
           have HR5 := Lib.hid hR5;
           have HW5 := Lib.hid hW5;
           have HCC5 := Lib.hid hCC5;
           clear hR5 hC5 hW5 hCC5))
        | (go_at_call 10; (with_reducible refine (unhide HL).mono ?_); rintro e w6 ⟨rfl, v6, hW6, hC6, hG6⟩))
      have hgl := lt_of_heap HRd4.out.st
      have hown : ∀ k, vw.ownBlock = some k → w4.heap.size ≤ k := fun k hk => (own_block_lt HW5.out.own hk).1
      have hrd := HR5.out.writ hC6 hgl (fun k hk => Nat.lt_of_lt_of_le hgl (hown k hk))
      have hcc := HCC5.out.far hC6 (Nat.le_refl _) (Nat.le_refl _) hown
      go_roundw
      case rel => exact ⟨k + 1, X.2.2.1, _, _, v5, v6, by omega, by go_num, hrd, hW6, hcc, HI2.out, by rw [List.length_append]; omega, by omega⟩
      case measure => simp [intOf]; omega
    · have hbw := hC.below HB4.out HB4.out.size HG4.out (fun k hk => by cases hk)
      have HD := hide (rdone_any wr gr gr vr bad L hRd)
      have HBW := Lib.hid hbw
      by_cases hbad : bad = true ∨ L ≠ []
      · rw [done_bad hbad] at HD
        clear hrow hfld hRd hW hC hI hbw hbad
        go_wp2_with (go_at_call 19; (with_reducible refine (unhide HD).mono ?_); rintro e w5 ⟨rfl, rfl⟩)
        go_ret
        exact ⟨rfl, HBW.out⟩
      · have hb0 : bad = false := by cases bad <;> simp_all
        have hL0 : L = [] := by cases L <;> simp_all
        have hWP := hI hb0
        rw [hL0, List.append_nil] at hWP
        subst hb0 hL0
        rw [done_ok] at HD
        have hMp := HM4.out.chgR hC HRd4.out.st
        have HY := hide (wbytes_any wr _ _ vw W hW (by omega))
        have HMp := Lib.hid hMp.bytes
        rw [hWP] at HY
        clear hrow hfld hRd hW hC hI hbw hbad hMp hWP
        go_wp2_with (first
          | (go_at_call 19; (with_reducible refine (unhide HD).mono ?_); rintro e w5 ⟨rfl, rfl⟩)
          | (go_at_call 13; (with_reducible refine (unhide HY).mono ?_); rintro e w5 ⟨A5, m5, c5, rfl, hM5, hb5⟩; go_loud (
             have HS := hide (same_any w5 _ _ _ _ hM5.bytes (HMp.out.along hb5));
             rw [decide_eq_true (rfl : l.take 60 = l.take 60)] at HS;
             have HB5 := Lib.hid (below_on HBW.out hb5);
             clear hM5 hb5))
          | (go_at_call 14; (with_reducible refine (unhide HS).mono ?_); rintro e w6 ⟨rfl, nq, rfl⟩))
        go_ret
        exact ⟨rfl, below_drewN HB5.out nq⟩
end Go.Proofs.Yteboemoebnlgaaa
