/- The walk of the law TapeNil: it answers true for every number and every text, and writes nothing that was there. -/
import Derived.Test.YteboemoebnlgaaaRefLay
namespace Go.Proofs.Yteboemoebnlgaaa
open Go.RowKit
set_option linter.unusedSimpArgs false
set_option linter.unusedVariables false

set_option maxHeartbeats 1000000 in
theorem text_any (w : World) (s : ByteArray) (k : Nat) (hs : s.size ≤ maxLen) (hk : k ≤ 1000) :
    Calls Try.prog 21 #[.string s, .int .i64 (k : Int)] w fun e w' => ∃ t : ByteArray, e = .returned (.string t) ∧ t.size ≤ k ∧ t.size ≤ s.size ∧ w = w' := by
  unfold maxLen at hs
  by_cases h : s.size ≤ k
  · go_enter Try.func21, Try.ntmps21
    go_wp2
    go_ret
    exact ⟨s, rfl, h, Nat.le_refl _, rfl⟩
  · go_enter Try.func21, Try.ntmps21
    go_wp2
    go_ret
    exact ⟨_, rfl, by rw [ByteArray.size_extract]; omega, by rw [ByteArray.size_extract]; omega, rfl⟩
/-- What the loop keeps: the Writer; the slice that was told, whatever it holds now. -/
def NilR (W : World) (base B g : Nat) (v : Value) (l : List Nat) (A : Option Addr) (n c : Nat) (i : Value) (wr : World) : Prop :=
  ∃ (k : Nat) (q : List Nat), k ≤ n ∧ i = .int .i64 (k : Int) ∧ Wtr wr base g v l ∧ Mine wr B A n c q ∧ Below base W wr ∧ W.heap.size ≤ wr.heap.size
theorem nil_step {W wr : World} {base B g n c k b gp : Nat} {v : Value} {l q : List Nat} (hw : Wtr wr base g v l) (hM : Mine wr B (some ⟨gp, 0, none⟩) n c q) (hb : Below base W wr) (hs : W.heap.size ≤ wr.heap.size) (hv : ∀ j, v.ownBlock = some j → j < B) (hg : g < B) (hB : base ≤ B) (hbb : b < 256) :
    Wtr (wr.setCell ⟨gp, k, none⟩ (.int .u8 (b : Int))) base g v l ∧ Mine (wr.setCell ⟨gp, k, none⟩ (.int .u8 (b : Int))) B (some ⟨gp, 0, none⟩) n c (q.set k b) ∧ Below base W (wr.setCell ⟨gp, k, none⟩ (.int .u8 (b : Int))) ∧ W.heap.size ≤ (wr.setCell ⟨gp, k, none⟩ (.int .u8 (b : Int))).heap.size := by
  have hgp := (own_block_lt hM.own (k := gp) rfl).1
  obtain ⟨h1, h2⟩ := hM.own.stored k (.int .u8 (b : Int))
  refine ⟨hw.keep fun j hj => Below.heap_setCell _ _ _ _ ?_, ⟨?_, ?_, ?_⟩, hb.setCell (Nat.le_trans hB hgp) _, by simp [World.setCell]; exact hs⟩
  · rcases hj with rfl | e
    · show j ≠ gp
      omega
    · have := hv j e
      show j ≠ gp
      omega
  · have e : byt (q.set k b) = (byt q).set k (.int .u8 (b : Int)) := by unfold byt; rw [List.map_set]
    rw [e]
    exact h1
  · rw [List.length_set]
    exact hM.len
  · intro x hx
    rcases List.mem_or_eq_of_mem_set hx with h | h
    · exact hM.small x h
    · omega
set_option maxRecDepth 100000 in
set_option maxHeartbeats 4000000 in
theorem nil_core (w : World) (n : Nat) (s : ByteArray) (hn : n < 18446744073709551616) (hs : s.size ≤ maxLen) :
    Calls Try.prog 6 #[.int .u64 (n : Int), .string s] w fun e w' => e = .returned (.bool true) ∧ Below w.heap.size w w' := by
  have HA := hide (awake_any w)
  have HT := fun x => hide (text_any x s 20 hs (by decide))
  simp only [show ((20 : Nat) : Int) = 20 from rfl] at HT
  clear hs
  go_enter Try.func6, Try.ntmps6
  go_wp2_with (first
    | (go_at_call 8; (with_reducible refine (unhide HA).mono ?_); rintro e w1 ⟨rfl, hw1⟩; have HW1 := Lib.hid hw1; clear hw1)
    | (go_at_call 21; (with_reducible refine (unhide (HT _)).mono ?_); rintro e w2 ⟨t, rfl, ht20, -, rfl⟩)
    | (go_at_call 22; (with_reducible refine (wnum_nil _ _).mono ?_); rintro e w3 ⟨rfl, rfl⟩)
    | (go_at_call 23; (with_reducible refine (wint_nil _ _).mono ?_); rintro e w3 ⟨rfl, rfl⟩)
    | (go_at_call 24; (with_reducible refine (wtext_nil _ _).mono ?_); rintro e w3 ⟨rfl, rfl⟩)
    | (go_at_call 25; (with_reducible refine (wbyte_nil _ _).mono ?_); rintro e w3 ⟨rfl, rfl⟩)
    | (go_at_call 26; (with_reducible refine (wbool_nil _ _).mono ?_); rintro e w3 ⟨rfl, rfl⟩)
    | (go_at_call 13; (with_reducible refine (wbytes_nil _).mono ?_); rintro e w3 ⟨rfl, rfl⟩)
    | (go_at_call 27; (with_reducible refine (rnum_nil _ _).mono ?_); rintro e w3 ⟨rfl, rfl⟩)
    | (go_at_call 28; (with_reducible refine (rint_nil _).mono ?_); rintro e w3 ⟨rfl, rfl⟩)
    | (go_at_call 29; (with_reducible refine (rtext_nil _ _).mono ?_); rintro e w3 ⟨rfl, rfl⟩)
    | (go_at_call 30; (with_reducible refine (rbyte_nil _).mono ?_); rintro e w3 ⟨rfl, rfl⟩)
    | (go_at_call 31; (with_reducible refine (rbool_nil _).mono ?_); rintro e w3 ⟨rfl, rfl⟩)
    | (go_at_call 18; (with_reducible refine (rleft_nil _).mono ?_); rintro e w3 ⟨rfl, rfl⟩)
    | (go_at_call 19; (with_reducible refine (rdone_nil _).mono ?_); rintro e w3 ⟨rfl, rfl⟩))
  have hW0 := wtr_new w1 w1.heap.size
  have hb0 := (Below.refl w1.heap.size w1).alloc (Nat.le_refl _) (.cells #[.slice none 0 0] 27)
  have HC1 := hide (wtext_any _ w1.heap.size w1.heap.size t _ [] (by omega) hW0 (by simp) (by simp))
  rw [List.nil_append] at HC1
  have HLN := Lib.hid (num_length64 (n := t.size) (by omega))
  have HB0 := Lib.hid hb0
  have HW0 := Lib.hid hW0
  clear hb0 hW0
  go_wp2_with (first
    | (go_at_call 24; (with_reducible refine (unhide HC1).mono ?_); rintro e w2 ⟨rfl, v2, hV2, hC2, hG2⟩; go_loud (
       have hb2 := HW0.out.chg_below hC2 HB0.out (Nat.le_refl _) (Nat.le_refl _);
       have HY1 := hide (wbytes_any w2 _ _ v2 _ hV2 (by have := HLN.out; rw [List.length_append, str_length]; omega));
       have HB2 := Lib.hid hb2;
       have HV2 := Lib.hid hV2;
       clear hb2 hV2 hC2 hG2))
    | (go_at_call 13; (with_reducible refine (unhide HY1).mono ?_); rintro e w3 ⟨A, m, c, rfl, hM3, hb23⟩; go_loud (
       have hb3 := HB2.out.trans (hb23.mono HB2.out.size);
       have hV3 := HV2.out.below hb23;
       have hlt := fun j hj => (own_block_lt HV2.out.own (k := j) hj).2;
       have HM3 := Lib.hid hM3;
       have HB3 := Lib.hid hb3;
       have HV3 := Lib.hid hV3;
       have HLT := Lib.hid hlt;
       have HGL := Lib.hid (lt_of_heap HV2.out.st);
       clear hM3 hb23 hb3 hV3 hlt)))
  have HB2s := Lib.hid HB2.out.size
  have hm20 : m ≤ 1000 := by have := HM3.out.len; have := HLN.out; rw [List.length_append, str_length] at *; omega
  go_loopw [71] (fun i wr => NilR w3 w1.heap.size w2.heap.size w1.heap.size v2 (num t.size ++ str t) A m c i wr) (fun i _ => m - (intOf i).toNat)
  case atStart => exact ⟨0, _, by omega, rfl, HV3.out, HM3.out, Below.refl _ _, Nat.le_refl _⟩
  case round =>
    obtain ⟨k, q, hk, rfl, hV, hM, hB, hS⟩ := hrel
    by_cases hlt : k < m
    · obtain ⟨b, hb1⟩ : ∃ b, q[k]? = some b := ⟨_, List.getElem?_eq_getElem (by have := hM.len; omega)⟩
      have hb2 : b < 256 := hM.small b (List.mem_of_getElem? hb1)
      obtain ⟨gp, hA⟩ : ∃ gp, A = some ⟨gp, 0, none⟩ := by
        rcases hM.own.2 with ⟨h, _⟩ | ⟨gp, cap, cur, h, _⟩
        · injection h with _ h2 _; omega
        · injection h with h1 _ _; exact ⟨gp, h1⟩
      subst hA
      have hc := hM.own.cellAt k (by omega)
      rw [byt_at, hb1] at hc
      have hf := hM.own.frozenAt k
      have hst := nil_step (k := k) (b := (b + 1) % 256) hV hM hB hS (fun j hj => HLT.out j hj) HGL.out HB2s.out (Nat.mod_lt _ (by decide))
      have HST := Lib.hid hst
      have hcc : wr.cell? ⟨gp, k, none⟩ = some (.int .u8 (b : Int)) := hc
      have he : ((b : Int) + 1) % 256 = (((b + 1) % 256 : Nat) : Int) := by omega
      have HE := Lib.hid he
      clear hc hst hV hM hB hS he hb1
      go_wp2
      go_roundw
      case rel => 
        have h := HST.out
        rw [← HE.out] at h
        exact ⟨k + 1, _, by omega, by go_num, h.1, h.2.1, h.2.2.1, h.2.2.2⟩
      case measure => simp [intOf]; omega
    · have HC4 := hide (wbytes_any wr _ _ v2 _ hV (by have := HLN.out; rw [List.length_append, str_length]; omega))
      have hBw := HB3.out.trans hB
      have HBW := Lib.hid (HW1.out.trans (hBw.mono HW1.out.size))
      clear hV hM hB hS hBw
      go_wp2_with (first
        | (go_at_call 13; (with_reducible refine (unhide HC4).mono ?_); rintro e w4 ⟨A4, m4, c4, rfl, hM4, hb4⟩; go_loud (
           have HL5 := hide (refLay_any w4 2 0 0 t (by decide) (by decide) (by omega));
           rw [show layF 2 0 (str t) = num t.size ++ str t by (unfold layF; rw [if_neg (by decide), if_pos (by decide), str_length]), show ((2 : Nat) : Int) = 2 from rfl, show ((0 : Nat) : Int) = 0 from rfl] at HL5;
           have HM4 := Lib.hid hM4.bytes;
           have HB4 := Lib.hid (HBW.out.trans (hb4.mono HBW.out.size));
           clear hM4 hb4))
        | (go_at_call 12; (with_reducible refine (unhide HL5).mono ?_); rintro e w5 ⟨A5, m5, c5, rfl, hM5, hb5⟩; go_loud (
           have HS := hide (same_any w5 _ _ _ _ (HM4.out.along hb5) hM5.bytes);
           rw [decide_eq_true (rfl : num t.size ++ str t = num t.size ++ str t)] at HS;
           have HB5 := Lib.hid (HB4.out.trans (hb5.mono HB4.out.size));
           clear hM5 hb5))
        | (go_at_call 14; (with_reducible refine (unhide HS).mono ?_); rintro e w6 ⟨rfl, nq, rfl⟩))
      go_ret
      exact ⟨rfl, below_drewN HB5.out nq⟩
theorem tapeNil_walk (a0 : Int) (a1 : ByteArray) (w0 : (Lit.int .u64 a0).wf = true) (w1 : a1.size ≤ maxLen) (w : World) :
    Calls Try.prog 6 #[.int .u64 a0, .string a1] w fun e w' => e = .returned (.bool true) ∧ Below w.heap.size w w' := by
  have b0 := bounds_u64 w0
  obtain ⟨n, rfl⟩ := Int.eq_ofNat_of_zero_le b0.1
  exact nil_core w n a1 (by omega) w1
end Go.Proofs.Yteboemoebnlgaaa
