/- The walk of the law SumShows: it answers true for every text, place and mask, and writes nothing that was there. -/
import Derived.Test.YtmjmldnehgefiaaBurst
import Derived.RegionTactic
import Derived.ChangeAlike
namespace Go.Proofs.Ytmjmldnehgefiaa
open Go.RowKit

theorem bit_set {mask k : Nat} (h : mask / 2 ^ k % 2 = 1) : (((mask : Int) / 2 ^ k).tmod 2 == 1) = true := by
  have e : (mask : Int) / 2 ^ k = ((mask / 2 ^ k : Nat) : Int) := by simp
  rw [e]
  generalize mask / 2 ^ k = t at h
  rw [Int.tmod_eq_emod_of_nonneg (by omega)]
  simp
  omega
theorem bit_unset {mask k : Nat} (h : ¬ mask / 2 ^ k % 2 = 1) : (((mask : Int) / 2 ^ k).tmod 2 == 1) = false := by
  have e : (mask : Int) / 2 ^ k = ((mask / 2 ^ k : Nat) : Int) := by simp
  rw [e]
  generalize mask / 2 ^ k = t at h
  rw [Int.tmod_eq_emod_of_nonneg (by omega)]
  simp
  omega

def ShowR (W : World) (A : Option Addr) (n c : Nat) (x : List Nat) (a mask : Nat) (i : Value) (wr : World) : Prop :=
  ∃ (k : Nat) (f : List Nat), k ≤ 32 ∧ i = .int .i64 (k : Int) ∧ Mine wr W.heap.size A n c f ∧ val f = val x ^^^ turn a (8 * n) mask k ∧ Below W.heap.size W wr

theorem show_turn {W wr : World} {gq n c a mask k i j b : Nat} {x f : List Nat} (hk : k < 32) (hM : Mine wr W.heap.size (some ⟨gq, 0, none⟩) n c f) (hg : W.heap.size ≤ gq) (hv : val f = val x ^^^ turn a (8 * n) mask k)
    (hb : Below W.heap.size W wr) (hin : a + k < 8 * n) (hbit : mask / 2 ^ k % 2 = 1) (hij : a + k = 8 * i + j) (hj : j < 8) (hf : f[i]? = some b) (hb2 : b < 256) :
    ShowR W (some ⟨gq, 0, none⟩) n c x a mask (.int .i64 ((k : Int) + 1)) (wr.setCell ⟨gq, i, none⟩ (.int .u8 (bits .xor .u8 (b : Int) (2 ^ j % 256)))).drew := by
  have hpow : 2 ^ j < 256 := by
    have := Nat.pow_lt_pow_right (a := 2) (by omega) hj
    omega
  have hx8 : bits .xor .u8 (b : Int) (2 ^ j % 256) = ((b ^^^ 2 ^ j : Nat) : Int) := by
    have h := u8_xor_nat b (2 ^ j) hb2 hpow
    rw [← h]
    congr 1
    have : (2 : Int) ^ j = ((2 ^ j : Nat) : Int) := by simp
    rw [this]
    generalize 2 ^ j = p at hpow ⊢
    omega
  have hlt : b ^^^ 2 ^ j < 256 := Nat.xor_lt_two_pow (n := 8) (by omega) (by omega)
  refine ⟨k + 1, f.set i (b ^^^ 2 ^ j), by omega, by go_num, ⟨?_, by rw [List.length_set]; exact hM.len, ?_⟩, ?_, ?_⟩
  · have h := (hM.own.stored i (.int .u8 ((b ^^^ 2 ^ j : Nat) : Int))).1
    have e : byt (f.set i (b ^^^ 2 ^ j)) = (byt f).set i (.int .u8 ((b ^^^ 2 ^ j : Nat) : Int)) := by unfold byt; rw [List.map_set]
    rw [hx8, e]
    exact h
  · intro d hd
    rcases List.mem_or_eq_of_mem_set hd with h | h
    · exact hM.small d h
    · rw [h]; exact hlt
  · rw [val_set f i j b hf hb2 hj hM.small, hv, ← hij, turn, if_pos ⟨hin, hbit⟩, Nat.xor_assoc]
  · exact (hb.setCell hg _).drew

set_option maxRecDepth 100000 in
set_option maxHeartbeats 4000000 in
theorem sumShows_walk (a0 : Option Addr) (len0 cap0 : Nat) (z0 : List Int) (a1 : Int) (a2 : Int) (w : World)
    (w0 : (a0 = none ∧ len0 = 0 ∧ cap0 = 0 ∧ z0 = []) ∨ ∃ x, a0 = some x ∧ len0 ≤ cap0 ∧ cap0 ≤ maxLen ∧ z0.length = cap0 ∧ (∀ i, i < z0.length → w.cell? (x.add i) = some (.int .u8 (z0.getD i 0))) ∧ ∀ n ∈ z0, (Lit.int .u8 n).wf = true)
    (w1 : (Lit.int .u16 a1).wf = true) (w2 : (Lit.int .u32 a2).wf = true) :
    Calls Try.prog 5 #[.slice a0 len0 cap0, .int .u16 a1, .int .u32 a2] w fun e w' => e = .returned (.bool true) ∧ Below w.heap.size w w' := by
  obtain ⟨l0, hp0, -⟩ := bytes_of_row w0
  have hb16 := bounds_u16 w1
  have hb32 := bounds_u32 w2
  obtain ⟨att, rfl⟩ := Int.eq_ofNat_of_zero_le hb16.1
  obtain ⟨mask, rfl⟩ := Int.eq_ofNat_of_zero_le hb32.1
  clear w0 w1 w2
  have HP := Lib.hid hp0
  clear hp0
  have zv := zero_tab
  go_enter Try.func5, Try.ntmps5
  go_wp2_with (first
    | (go_at_call 7; (with_reducible refine (awake_any _).mono ?_); rintro e w1 ⟨rfl, hb1⟩)
    | (go_at_call 8; (with_reducible refine (cut_mine w1 _ l0 300 300 rfl ((HP.out.below hb1).up hb1.size) (by omega)).mono ?_); rintro e w2 ⟨A, m, c, rfl, hown, hb2⟩)
    | (go_at_call 9; (with_reducible refine (make_list _).mono ?_); rintro e w3 ⟨C, hC, rfl, hb3⟩)
    | (refine wpList_store_new rfl 28 _ _ rfl (tabTo 0) C rfl rfl 28 hC.info (by rw [tabTo_size, hC.length]) hC.one ?_)
    | (refine wpList_load_mid rfl 28 _ rfl w3.heap.size 0 rfl C _ (range_new w3 C 28) tabL_under rfl hC.info ?_)
    | (go_at_call 13; fail))
  clear zv
  have hbW : Below w.heap.size w (w3.alloc (.cells C.toArray 28)) := ((hb1.trans (hb2.mono hb1.size)).trans (hb3.mono (Nat.le_trans hb1.size hb2.size))).alloc (Nat.le_trans hb1.size (Nat.le_trans hb2.size hb3.size)) _
  have hM := (hown.below hb3).below ((Below.refl _ _).alloc (Nat.le_refl _) (.cells C.toArray 28))
  have hR := range_new w3 C 28
  have hgl : w3.heap.size < (w3.alloc (.cells C.toArray 28)).heap.size := by simp
  obtain ⟨q, hq⟩ : ∃ q, q = l0.take 300 := ⟨_, rfl⟩
  rw [← hq] at hM
  have hq3 : q.length ≤ 300 := by rw [hq, List.length_take]; omega
  clear hq hown hb1 hb2 hb3 HP
  obtain ⟨g, hg⟩ : ∃ g, g = w3.heap.size := ⟨_, rfl⟩
  rw [← hg] at hR hgl ⊢
  clear hg
  obtain ⟨W, hW⟩ : ∃ W, W = w3.alloc (.cells C.toArray 28) := ⟨_, rfl⟩
  rw [← hW] at hbW hM hR hgl ⊢
  clear hW
  refine (seal_any hC W A m c q hM.bytes (by omega)).mono ?_
  rintro e w4 ⟨A2, n2, c2, rfl, hM4, hb4⟩
  obtain ⟨x, hx⟩ : ∃ x, x = q ++ le4 (crc q) := ⟨_, rfl⟩
  rw [← hx] at hM4
  have hn2 : n2 = q.length + 4 := by rw [hM4.len, hx, List.length_append]; rfl
  have hn304 : n2 ≤ 304 := by omega
  have hn4 : 4 ≤ n2 := by omega
  have HX := Lib.hid hx
  have HN2 := Lib.hid hn2
  have HQM := Lib.hid hM.bytes
  have HbW := Lib.hid hbW
  have HR := Lib.hid hR
  clear hx hn2 hM hbW hR
  -- where the bits begin
  obtain ⟨a, ha⟩ : ∃ a, a = att % (8 * n2) := ⟨_, rfl⟩
  have hal : a < 8 * n2 := by rw [ha]; exact Nat.mod_lt _ (by omega)
  have hmod : (att : Int) % (8 * (n2 : Int)) = (a : Int) := by rw [ha, Int.natCast_emod]; simp
  clear ha
  go_wp2
  go_loopw [25] (fun i wr => ShowR W A2 n2 c2 x a mask i wr) (fun i _ => 32 - (intOf i).toNat)
  case atStart => exact ⟨0, x, by omega, rfl, hM4, by simp [turn], hb4⟩
  case round =>
    obtain ⟨k, f, hk, rfl, hMr, hval, hbr⟩ := hrel
    have HV := Lib.hid hval
    have HMr := Lib.hid hMr
    have Hbr := Lib.hid hbr
    clear hval
    by_cases hlt : k < 32
    · by_cases hin : a + k < 8 * n2
      · have hint : ((a : Int) + (k : Int) < 8 * (n2 : Int)) := by omega
        by_cases hbit : mask / 2 ^ k % 2 = 1
        · have hb1 := bit_set hbit
          obtain ⟨i, hi⟩ : ∃ i, i = (a + k) / 8 := ⟨_, rfl⟩
          obtain ⟨j, hj⟩ : ∃ j, j = (a + k) % 8 := ⟨_, rfl⟩
          have hi2 : ((a : Int) + (k : Int)) / 8 = (i : Int) := by omega
          have hj2 : ((a : Int) + (k : Int)) % 8 = (j : Int) := by omega
          have hin2 : i < n2 := by omega
          have hin3 : (i : Int) < (n2 : Int) := by omega
          have hi0 : (0 : Int) ≤ (i : Int) := by omega
          have hj0 : (0 : Int) ≤ (j : Int) := by omega
          have hj8 : j < 8 := by omega
          have hij : a + k = 8 * i + j := by omega
          have HIJ := Lib.hid hij
          clear hi hj hij
          obtain ⟨gq, b, rfl, hgq, hfb, hb256, hcell, hfroz⟩ := hMr.at_ hin2
          have hpow : 2 ^ j < 256 := by
            have := Nat.pow_lt_pow_right (a := 2) (by omega) hj8
            omega
          have hx8 : bits .xor .u8 (b : Int) (2 ^ j) = ((b ^^^ 2 ^ j : Nat) : Int) := by
            have h := u8_xor_nat b (2 ^ j) hb256 hpow
            simpa using h
          have Hfb := Lib.hid hfb
          clear hfb hMr hbr
          go_wp2
          go_region
          go_wp2
          go_roundw
          case rel => exact show_turn hlt HMr.out hgq HV.out Hbr.out hin hbit HIJ.out hj8 Hfb.out hb256
          case measure => simp [intOf]; omega
        · have hb0 := bit_unset hbit
          clear hMr hbr
          go_wp2
          go_roundw
          case rel => exact ⟨k + 1, f, by omega, by go_num, HMr.out, by rw [HV.out, turn, if_neg (fun h => hbit h.2)], Hbr.out⟩
          case measure => simp [intOf]; omega
      · have hout : decide ((a : Int) + (k : Int) < 8 * (n2 : Int)) = false := by simp; omega
        clear hMr hbr
        go_wp2
        go_roundw
        case rel => exact ⟨k + 1, f, by omega, by go_num, HMr.out, by rw [HV.out, turn, if_neg (fun h => hin h.1)], Hbr.out⟩
        case measure => simp [intOf]; omega
    · have hR5 : wr.rangeAt g 0 C := range_below HR.out Hbr.out hgl
      have HP5 : Bytes wr W.heap.size (.slice A m c) q := HQM.out.below Hbr.out
      have HV32 : val f = val x ^^^ turn a (8 * n2) mask 32 := by
        have h : k = 32 := by omega
        rw [← h]
        exact HV.out
      have hBF := HMr.out.bytes
      have hC2 := hC
      have hund := Lib.hid tabL_under
      have H5 := Lib.hid HP5
      clear HP5 hMr hbr
      have hgw : g < wr.heap.size := Nat.lt_of_lt_of_le hgl Hbr.out.size
      have hWw : W.heap.size ≤ wr.heap.size := Hbr.out.size
      have hq9 : q.length ≤ 1048576 := by omega
      have hbw : Below w.heap.size w wr := HbW.out.trans (Hbr.out.mono HbW.out.size)
      have Hbw := Lib.hid hbw
      clear hbw hmod hal
      by_cases hfx : f = x
      · subst hfx
        rw [HX.out] at hBF
        have HBF := Lib.hid hBF
        clear hBF HV32
        go_wp2_with (first
          | refine wpList_load_mid rfl 28 _ rfl g 0 rfl C _ hR5 hund.out rfl hC2.info ?_
          | refine wpList_load_mid rfl 28 _ rfl g 0 rfl C _ (range_below hR5 hb6 hgw) hund.out rfl hC2.info ?_
          | (go_at_call 14; (with_reducible refine (open_good hC2 wr A2 n2 c2 q HBF.out (by omega)).mono ?_); rintro e w6 ⟨A6, n6, c6, rfl, -, hb6⟩)
          | (go_at_call 13; (with_reducible refine (seal_any hC2 w6 A m c q ((H5.out.below (hb6.mono hWw)).up (Nat.le_trans hWw hb6.size)) hq9).mono ?_); rintro e w7 ⟨A7, n7, c7, rfl, hM7, hb7⟩)
          | (go_at_call 16; (with_reducible refine (same_any w7 _ _ f (q ++ le4 (crc q)) (((HMr.out.below hb6).below hb7).bytes) hM7.bytes).mono ?_); rintro e w8 ⟨rfl, nq, rfl⟩))
        all_goals
          go_ret
          refine ⟨rfl, ?_⟩
          exact below_drewN ((Hbw.out.trans (hb6.mono Hbw.out.size)).trans (hb7.mono (Nat.le_trans Hbw.out.size hb6.size))) nq
      · have hbad : decide (val (f.drop q.length) = crc (f.take q.length)) = false := by
          apply decide_eq_false
          have hx9 : ∀ b ∈ x, b < 256 := by
            rw [HX.out]
            intro b hb
            rcases List.mem_append.1 hb with h | h
            · exact H5.out.small b h
            · exact le4_small _ b h
          have hl9 : x.length = q.length + 4 := by rw [HX.out, List.length_append]; rfl
          refine shown x f q.length a mask hx9 HMr.out.small hl9 (by rw [← HMr.out.len]; exact HN2.out) ?_ (by rw [← HN2.out]; exact HV32) hfx
          rw [HX.out, List.take_left, List.drop_left]
          exact val_le4 _ (crc_lt q)
        have HBF := Lib.hid hBF
        have HBAD := Lib.hid hbad
        have hne : ¬ f = q ++ le4 (crc q) := fun h => hfx (h.trans HX.out.symm)
        have hdec : decide (f = q ++ le4 (crc q)) = false := decide_eq_false hne
        clear hBF HV32 hbad hne
        go_wp2_with (first
          | refine wpList_load_mid rfl 28 _ rfl g 0 rfl C _ hR5 hund.out rfl hC2.info ?_
          | refine wpList_load_mid rfl 28 _ rfl g 0 rfl C _ (range_below hR5 hb6 hgw) hund.out rfl hC2.info ?_
          | (go_at_call 14; (with_reducible refine (open_core hC2 wr A2 n2 q.length c2 f HBF.out HN2.out (by omega) false HBAD.out).mono ?_); rintro e w6 ⟨hb6, rfl⟩)
          | (go_at_call 13; (with_reducible refine (seal_any hC2 w6 A m c q ((H5.out.below (hb6.mono hWw)).up (Nat.le_trans hWw hb6.size)) hq9).mono ?_); rintro e w7 ⟨A7, n7, c7, rfl, hM7, hb7⟩)
          | (go_at_call 16; (with_reducible refine (same_any w7 _ _ f (q ++ le4 (crc q)) (((HMr.out.below hb6).below hb7).bytes) hM7.bytes).mono ?_); rintro e w8 ⟨rfl, nq, rfl⟩))
        all_goals
          go_ret
          refine ⟨rfl, ?_⟩
          exact below_drewN ((Hbw.out.trans (hb6.mono Hbw.out.size)).trans (hb7.mono (Nat.le_trans Hbw.out.size hb6.size))) nq
end Go.Proofs.Ytmjmldnehgefiaa
