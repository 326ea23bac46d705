/- The walk of TokenNames. -/
import Derived.Test.YtiimkodgfhkbpaaDoorKSpace
import Derived.Laws.MakeOwn
import Derived.Deep.Cut
import Derived.Deep.DeepCutAuto
import Derived.Laws.IdiomStrings
namespace Go.Proofs.YtiimkodgfhkbpaaDoor
open Go.RowKit
set_option linter.unusedSimpArgs false
set_option linter.unusedVariables false
theorem infoU8 : (Tryd.prog.info? 5).map (fun i => (i.zero, i.size, i.bytes)) = some (some (.int .u8 0), 1, 1) := by kernel_rfl
theorem mk_zero (w : World) (k : Nat) (hk : k < 210000) : (Instr.makeSlice 42 (.int .i64 (k : Int)) (.int .i64 (k : Int))).run Tryd.prog w = .ok (.slice (some ⟨w.heap.size, 0, none⟩) k k) (w.alloc (.cells (List.replicate k (Value.int .u8 0)).toArray 5)) := by
  obtain ⟨i0, hi0, hz0, hz1, hz2⟩ := info_tok infoU8
  have h := run_make (P := Tryd.prog) w 42 5 i0 (.int .u8 0) Tryd.underlying42 hi0 hz0 .i64 .i64 (k : Int) (k : Int) (by omega) (by omega) (by rw [hz2]; omega) (by omega)
  rw [hz1] at h
  have e : madeCells (Value.cells (.int .u8 0)) ((k : Int).toNat * 1) = (List.replicate k (Value.int .u8 0)).toArray := by
    have e2 := toList_madeCells_one (.int .u8 0) k
    have e3 : (List.replicate k (Value.int .u8 0)).toArray = (madeCells #[Value.int .u8 0] k).toList.toArray := by rw [e2]
    rw [e3]
    simp [Value.cells]
  rw [e] at h
  simpa using h
theorem cv_zero (w : World) (k : Nat) : (convert 42 9 (.slice (some ⟨w.heap.size, 0, none⟩) k k)).run Tryd.prog (w.alloc (.cells (List.replicate k (Value.int .u8 0)).toArray 5)) = .ok (.string (ba (List.replicate k 0))) (w.alloc (.cells (List.replicate k (Value.int .u8 0)).toArray 5)) := by
  have h := run_convert_bytes_back (P := Tryd.prog) (w.alloc (.cells (List.replicate k (Value.int .u8 0)).toArray 5)) 42 9 5 ⟨w.heap.size, 0, none⟩ k (List.replicate k (UInt8.ofNat 0)) Tryd.underlying42 Tryd.underlying5 Tryd.underlying9 (by
    intro j hj
    rw [List.length_replicate] at hj
    rw [show (⟨w.heap.size, 0, none⟩ : Addr).add j = ⟨w.heap.size, j, none⟩ by unfold Addr.add; split; subst_vars; rfl; simp, World.cell?_alloc_at _ _ _ _ rfl, List.getElem?_toArray, List.getElem?_replicate, if_pos hj, List.getElem_replicate]
    rfl)
  rw [List.length_replicate] at h
  rw [h]
  unfold ba
  rw [List.map_replicate]
theorem cv_zero' (w : World) (k : Nat) : (convert 42 9 (.slice (some ⟨w.heap.size, 0, none⟩) k k)).run Tryd.prog (w.alloc (.cells (Array.replicate k (Value.int .u8 0)) 5)) = .ok (.string (ba (List.replicate k 0))) (w.alloc (.cells (Array.replicate k (Value.int .u8 0)) 5)) := by
  have h := cv_zero w k
  rw [List.toArray_replicate] at h
  exact h
theorem zeros_bad (k : Nat) : scan (List.replicate (k + 2) 0) 0 = none := by
  rw [show List.replicate (k + 2) 0 = 0 :: 0 :: List.replicate k 0 from rfl]
  refine scan_bad ?_ ?_
  · show 0 < _
    simp
  · show (firstL (0 :: 0 :: List.replicate k 0)).1 = 0
    rw [first_none (l := 0 :: 0 :: List.replicate k 0) rfl (.inl (show inL [0, 0] signsL = false by decide)) (show inL [0] signsL = false by decide)]
theorem equal_any (w : World) (b1 b2 n : Nat) (zs : List ByteArray) (hn : zs.length = n) (hs : n ≤ 100) (h1 : ∀ j x, zs[j]? = some x → w.cell? ⟨b1, j, none⟩ = some (.string x)) (h2 : ∀ j x, zs[j]? = some x → w.cell? ⟨b2, j, none⟩ = some (.string x)) :
    Calls Tryd.prog 20 #[.slice (some ⟨b1, 0, none⟩) n n, .slice (some ⟨b2, 0, none⟩) n n] w fun e w' => e = .returned (.bool true) ∧ Below w.heap.size w w' := by
  have hc : ∀ b, (∀ j x, zs[j]? = some x → w.cell? ⟨b, j, none⟩ = some (.string x)) → ∀ j, j < zs.length → w.cell? ⟨b, 0 + j, none⟩ = some (.string (zs.getD j ByteArray.empty)) := fun b h j hj => by
    rw [Nat.zero_add]
    exact h j _ (by rw [List.getD_eq_getElem?_getD, List.getElem?_eq_getElem hj]; rfl)
  exact (Tryd.slices_Equal_string b1 0 n n b2 0 n n zs zs w (by omega) (by omega) (by omega) (by omega) (hc b1 h1) (hc b2 h2)).mono fun e w' ⟨he, q, hw⟩ => ⟨by rw [he, decide_eq_true rfl], by rw [hw]; exact Joins.below_draws _ w q⟩
/-- A row of these strings, with its length spelt out. -/
theorem lie_of {fn : Nat} {zs : List ByteArray} {n : Nat} (hn : zs.length = n) (h : ∀ w, Calls Tryd.prog fn #[] w fun e w' => ∃ v, e = .returned v ∧ SRow w w' v zs) (w : World) :
    Calls Tryd.prog fn #[] w fun e w' => ∃ b, e = .returned (.slice (some ⟨b, 0, none⟩) n n) ∧ (∀ x, Below w'.heap.size w' x → ∀ j y, zs[j]? = some y → x.cell? ⟨b, j, none⟩ = some (.string y)) ∧ Below w.heap.size w w' := by
  subst hn
  exact (h w).mono fun e w' ⟨v, he, b, hv, _, hlt, hc, hb⟩ => ⟨b, by rw [he, hv], fun x hx j y h => (hx.cell (p := ⟨b, j, none⟩) hlt).trans (hc j y h), hb⟩
set_option maxRecDepth 100000 in
set_option maxHeartbeats 4000000 in
theorem names_core (w : World) (s0 : ByteArray) (m : Nat) (hs : s0.size ≤ 9223372036854775807) (hm : m < 256) (hv : Vr w) :
    Calls Tryd.prog 5 #[.string s0, .int .u8 (m : Int)] w fun e w' => e = .returned (.bool true) ∧ Below w.heap.size w w' := by
  have HV := hide hv
  have HAW := hide (awake_true w hv)
  have HT := fun (x : World) => hide (text_some x s0 80 hs)
  simp only [show ((80 : Nat) : Int) = 80 from rfl] at HT
  have HRW := fun (x : World) => hide (lie_of (n := 14) rfl rwords_any x)
  have HTW := fun (x : World) => hide (lie_of (n := 14) rfl words_any x)
  have HRS := fun (x : World) => hide (lie_of (n := 22) rfl rsigns_any x)
  have HTS := fun (x : World) => hide (lie_of (n := 22) rfl signs_any x)
  have HMK := hide (fun (x : World) (k : Nat) (hk : k < 210000) => mk_zero x k hk)
  have HCV := hide (fun (x : World) (k : Nat) => cv_zero' x k)
  clear hv
  go_enter Tryd.func5, Tryd.ntmps5
  go_upto_region 4 with (first
    | (go_at_call 8; (with_reducible refine (unhide HAW).mono ?_); rintro e w1 ⟨rfl, hb⟩; have HB1 := hide hb; clear hb)
    | (go_at_call 9; (with_reducible refine (unhide (HT _)).mono ?_); rintro e w2 ⟨⟨s, rfl, hsz⟩, rfl⟩))
  have HIW := fun (x : World) => hide (isword_any x s)
  have HIN := fun (x : World) => hide (isname_any x s (by omega))
  have HNM := fun (x : World) => hide (rname_any x s (by omega))
  have HCT := fun (x : World) (b : Nat) (hc : ∀ j y, wordsB[j]? = some y → x.cell? ⟨b, j, none⟩ = some (.string y)) => hide ((contains_any x b 14 14 wordsB s rfl (by decide) hc).mono fun e w' h => (show e = .returned (.bool (inL (str s) wordsL)) ∧ x = w' from ⟨by rw [h.1, contains_str, wordsB_str], h.2⟩))
  obtain ⟨k, hk⟩ : ∃ k : Nat, 199998 + (m : Int) % 5 = (k : Int) := ⟨199998 + m % 5, by omega⟩
  have hmk := fun (x : World) => unhide HMK x k (by omega)
  have hcv := fun (x : World) => unhide HCV x k
  rcases hw : inL (str s) wordsL with _ | _
  · rcases hnm : nameL (str s) with _ | _
    · rw [hnm] at HNM
      rw [hnm, hw] at HIN
      rw [hw] at HIW HCT
      clear hw hnm
      by_cases h3 : m % 5 ≤ 2
      · have hg : decide (2 < (m : Int) % 5) = false := decide_eq_false (by omega)
        have hgn : decide (2 < m % 5) = false := decide_eq_false (by omega)
        have hkk : k = (k - 2) + 2 := by omega
        have hsz2 : (ba (List.replicate k 0)).size = k := by rw [← str_length, str_ba (by intro b hb; rw [List.eq_of_mem_replicate hb]; decide), List.length_replicate]
        have HAL := fun (x : World) (hx : Vr x) => hide (all_bad x (ba (List.replicate k 0)) (by rw [hsz2]; omega) hx (by rw [str_ba (by intro b hb; rw [List.eq_of_mem_replicate hb]; decide), hkk]; exact zeros_bad _))
        clear hsz2 hkk h3
        go_upto_region 9 with (first
          | (go_at_call 16; (with_reducible refine (unhide (HRW _)).mono ?_); rintro e w3 ⟨b3, rfl, hc3, hb3⟩; go_loud (
              have HB3 := hide (below_on (unhide HB1) hb3);
              have HCT3 := HCT w3 b3 (hc3 w3 (Below.refl _ _));
              clear hb3 hc3))
          | (go_at_call 15; (with_reducible refine (unhide HCT3).mono ?_); rintro e w4 ⟨rfl, rfl⟩)
          | (go_at_call 10; (with_reducible refine (unhide (HAL _ ((unhide HV).below (below_on (unhide HB3) (ride_alloc (Below.refl _ _) _))))).mono ?_); rintro e w5 ⟨rfl, hb5⟩; go_loud (
              have HB5 := hide (below_on (unhide HB3) (ride_call hb5 (ride_alloc (Below.refl _ _) _)));
              clear hb5)))
        go_wp2_with (first
          | (go_at_call 17; (with_reducible refine (unhide (HIW _)).mono ?_); rintro e w6 ⟨rfl, hb⟩; go_loud (
              have HB6 := hide (below_on (unhide HB5) hb);
              clear hb))
          | (go_at_call 18; (with_reducible refine (unhide (HIN _)).mono ?_); rintro e w7 ⟨rfl, hb⟩; go_loud (
              have HB7 := hide (below_on (unhide HB6) hb);
              clear hb))
          | (go_at_call 19; (with_reducible refine (unhide (HNM _)).mono ?_); rintro e w8 ⟨rfl, rfl⟩)
          | (go_at_call 21; (with_reducible refine (unhide (HTW _)).mono ?_); rintro e w9 ⟨b9, rfl, hc9, hb9⟩; go_loud (
              have HB9 := hide (below_on (unhide HB7) hb9);
              clear hb9))
          | (go_at_call 16; (with_reducible refine (unhide (HRW _)).mono ?_); rintro e w10 ⟨b10, rfl, hc10, hb10⟩; go_loud (
              have HB10 := hide (below_on (unhide HB9) hb10);
              have HE1 := hide (equal_any w10 b9 b10 14 wordsB rfl (by decide) (hc9 w10 hb10) (hc10 w10 (Below.refl _ _)));
              clear hb10))
          | (go_at_call 20; (with_reducible refine (unhide HE1).mono ?_); rintro e w11 ⟨rfl, hb11⟩; go_loud (
              have HB11 := hide (below_on (unhide HB10) hb11);
              clear hb11))
          | (go_at_call 22; (with_reducible refine (unhide (HTS _)).mono ?_); rintro e w12 ⟨b12, rfl, hc12, hb12⟩; go_loud (
              have HB12 := hide (below_on (unhide HB11) hb12);
              clear hb12))
          | (go_at_call 23; (with_reducible refine (unhide (HRS _)).mono ?_); rintro e w13 ⟨b13, rfl, hc13, hb13⟩; go_loud (
              have HB13 := hide (below_on (unhide HB12) hb13);
              have HE2 := hide (equal_any w13 b12 b13 22 signsB rfl (by decide) (hc12 w13 hb13) (hc13 w13 (Below.refl _ _)));
              clear hb13))
          | (go_at_call 20; (with_reducible refine (unhide HE2).mono ?_); rintro e w14 ⟨rfl, hb14⟩; go_loud (
              have HB14 := hide (below_on (unhide HB13) hb14);
              clear hb14)))
        go_ret
        exact ⟨rfl, unhide HB14⟩
      · have hg : decide (2 < (m : Int) % 5) = true := decide_eq_true (by omega)
        have hgn : decide (2 < m % 5) = true := decide_eq_true (by omega)
        have hsz2 : (ba (List.replicate k 0)).size = k := by rw [← str_length, str_ba (by intro b hb; rw [List.eq_of_mem_replicate hb]; decide), List.length_replicate]
        have HAL := fun (x : World) => hide ((all_long x (ba (List.replicate k 0)) (by rw [hsz2]; omega)).mono fun e w' h => (show e = .returned (.tuple #[.slice none 0 0, .int .i64 4]) ∧ Below x.heap.size x w' from ⟨h.1, h.2 ▸ Below.refl _ _⟩))
        clear hsz2 h3
        go_upto_region 9 with (first
          | (go_at_call 16; (with_reducible refine (unhide (HRW _)).mono ?_); rintro e w3 ⟨b3, rfl, hc3, hb3⟩; go_loud (
              have HB3 := hide (below_on (unhide HB1) hb3);
              have HCT3 := HCT w3 b3 (hc3 w3 (Below.refl _ _));
              clear hb3 hc3))
          | (go_at_call 15; (with_reducible refine (unhide HCT3).mono ?_); rintro e w4 ⟨rfl, rfl⟩)
          | (go_at_call 10; (with_reducible refine (unhide (HAL _)).mono ?_); rintro e w5 ⟨rfl, hb5⟩; go_loud (
              have HB5 := hide (below_on (unhide HB3) (ride_call hb5 (ride_alloc (Below.refl _ _) _)));
              clear hb5)))
        go_wp2_with (first
          | (go_at_call 17; (with_reducible refine (unhide (HIW _)).mono ?_); rintro e w6 ⟨rfl, hb⟩; go_loud (
              have HB6 := hide (below_on (unhide HB5) hb);
              clear hb))
          | (go_at_call 18; (with_reducible refine (unhide (HIN _)).mono ?_); rintro e w7 ⟨rfl, hb⟩; go_loud (
              have HB7 := hide (below_on (unhide HB6) hb);
              clear hb))
          | (go_at_call 19; (with_reducible refine (unhide (HNM _)).mono ?_); rintro e w8 ⟨rfl, rfl⟩)
          | (go_at_call 21; (with_reducible refine (unhide (HTW _)).mono ?_); rintro e w9 ⟨b9, rfl, hc9, hb9⟩; go_loud (
              have HB9 := hide (below_on (unhide HB7) hb9);
              clear hb9))
          | (go_at_call 16; (with_reducible refine (unhide (HRW _)).mono ?_); rintro e w10 ⟨b10, rfl, hc10, hb10⟩; go_loud (
              have HB10 := hide (below_on (unhide HB9) hb10);
              have HE1 := hide (equal_any w10 b9 b10 14 wordsB rfl (by decide) (hc9 w10 hb10) (hc10 w10 (Below.refl _ _)));
              clear hb10))
          | (go_at_call 20; (with_reducible refine (unhide HE1).mono ?_); rintro e w11 ⟨rfl, hb11⟩; go_loud (
              have HB11 := hide (below_on (unhide HB10) hb11);
              clear hb11))
          | (go_at_call 22; (with_reducible refine (unhide (HTS _)).mono ?_); rintro e w12 ⟨b12, rfl, hc12, hb12⟩; go_loud (
              have HB12 := hide (below_on (unhide HB11) hb12);
              clear hb12))
          | (go_at_call 23; (with_reducible refine (unhide (HRS _)).mono ?_); rintro e w13 ⟨b13, rfl, hc13, hb13⟩; go_loud (
              have HB13 := hide (below_on (unhide HB12) hb13);
              have HE2 := hide (equal_any w13 b12 b13 22 signsB rfl (by decide) (hc12 w13 hb13) (hc13 w13 (Below.refl _ _)));
              clear hb13))
          | (go_at_call 20; (with_reducible refine (unhide HE2).mono ?_); rintro e w14 ⟨rfl, hb14⟩; go_loud (
              have HB14 := hide (below_on (unhide HB13) hb14);
              clear hb14)))
        go_ret
        exact ⟨rfl, unhide HB14⟩
    · rw [hnm] at HNM
      rw [hnm, hw] at HIN
      rw [hw] at HIW HCT
      clear hw hnm
      by_cases h3 : m % 5 ≤ 2
      · have hg : decide (2 < (m : Int) % 5) = false := decide_eq_false (by omega)
        have hgn : decide (2 < m % 5) = false := decide_eq_false (by omega)
        have hkk : k = (k - 2) + 2 := by omega
        have hsz2 : (ba (List.replicate k 0)).size = k := by rw [← str_length, str_ba (by intro b hb; rw [List.eq_of_mem_replicate hb]; decide), List.length_replicate]
        have HAL := fun (x : World) (hx : Vr x) => hide (all_bad x (ba (List.replicate k 0)) (by rw [hsz2]; omega) hx (by rw [str_ba (by intro b hb; rw [List.eq_of_mem_replicate hb]; decide), hkk]; exact zeros_bad _))
        clear hsz2 hkk h3
        go_upto_region 9 with (first
          | (go_at_call 16; (with_reducible refine (unhide (HRW _)).mono ?_); rintro e w3 ⟨b3, rfl, hc3, hb3⟩; go_loud (
              have HB3 := hide (below_on (unhide HB1) hb3);
              have HCT3 := HCT w3 b3 (hc3 w3 (Below.refl _ _));
              clear hb3 hc3))
          | (go_at_call 15; (with_reducible refine (unhide HCT3).mono ?_); rintro e w4 ⟨rfl, rfl⟩)
          | (go_at_call 10; (with_reducible refine (unhide (HAL _ ((unhide HV).below (below_on (unhide HB3) (ride_alloc (Below.refl _ _) _))))).mono ?_); rintro e w5 ⟨rfl, hb5⟩; go_loud (
              have HB5 := hide (below_on (unhide HB3) (ride_call hb5 (ride_alloc (Below.refl _ _) _)));
              clear hb5)))
        go_wp2_with (first
          | (go_at_call 17; (with_reducible refine (unhide (HIW _)).mono ?_); rintro e w6 ⟨rfl, hb⟩; go_loud (
              have HB6 := hide (below_on (unhide HB5) hb);
              clear hb))
          | (go_at_call 18; (with_reducible refine (unhide (HIN _)).mono ?_); rintro e w7 ⟨rfl, hb⟩; go_loud (
              have HB7 := hide (below_on (unhide HB6) hb);
              clear hb))
          | (go_at_call 19; (with_reducible refine (unhide (HNM _)).mono ?_); rintro e w8 ⟨rfl, rfl⟩)
          | (go_at_call 21; (with_reducible refine (unhide (HTW _)).mono ?_); rintro e w9 ⟨b9, rfl, hc9, hb9⟩; go_loud (
              have HB9 := hide (below_on (unhide HB7) hb9);
              clear hb9))
          | (go_at_call 16; (with_reducible refine (unhide (HRW _)).mono ?_); rintro e w10 ⟨b10, rfl, hc10, hb10⟩; go_loud (
              have HB10 := hide (below_on (unhide HB9) hb10);
              have HE1 := hide (equal_any w10 b9 b10 14 wordsB rfl (by decide) (hc9 w10 hb10) (hc10 w10 (Below.refl _ _)));
              clear hb10))
          | (go_at_call 20; (with_reducible refine (unhide HE1).mono ?_); rintro e w11 ⟨rfl, hb11⟩; go_loud (
              have HB11 := hide (below_on (unhide HB10) hb11);
              clear hb11))
          | (go_at_call 22; (with_reducible refine (unhide (HTS _)).mono ?_); rintro e w12 ⟨b12, rfl, hc12, hb12⟩; go_loud (
              have HB12 := hide (below_on (unhide HB11) hb12);
              clear hb12))
          | (go_at_call 23; (with_reducible refine (unhide (HRS _)).mono ?_); rintro e w13 ⟨b13, rfl, hc13, hb13⟩; go_loud (
              have HB13 := hide (below_on (unhide HB12) hb13);
              have HE2 := hide (equal_any w13 b12 b13 22 signsB rfl (by decide) (hc12 w13 hb13) (hc13 w13 (Below.refl _ _)));
              clear hb13))
          | (go_at_call 20; (with_reducible refine (unhide HE2).mono ?_); rintro e w14 ⟨rfl, hb14⟩; go_loud (
              have HB14 := hide (below_on (unhide HB13) hb14);
              clear hb14)))
        go_ret
        exact ⟨rfl, unhide HB14⟩
      · have hg : decide (2 < (m : Int) % 5) = true := decide_eq_true (by omega)
        have hgn : decide (2 < m % 5) = true := decide_eq_true (by omega)
        have hsz2 : (ba (List.replicate k 0)).size = k := by rw [← str_length, str_ba (by intro b hb; rw [List.eq_of_mem_replicate hb]; decide), List.length_replicate]
        have HAL := fun (x : World) => hide ((all_long x (ba (List.replicate k 0)) (by rw [hsz2]; omega)).mono fun e w' h => (show e = .returned (.tuple #[.slice none 0 0, .int .i64 4]) ∧ Below x.heap.size x w' from ⟨h.1, h.2 ▸ Below.refl _ _⟩))
        clear hsz2 h3
        go_upto_region 9 with (first
          | (go_at_call 16; (with_reducible refine (unhide (HRW _)).mono ?_); rintro e w3 ⟨b3, rfl, hc3, hb3⟩; go_loud (
              have HB3 := hide (below_on (unhide HB1) hb3);
              have HCT3 := HCT w3 b3 (hc3 w3 (Below.refl _ _));
              clear hb3 hc3))
          | (go_at_call 15; (with_reducible refine (unhide HCT3).mono ?_); rintro e w4 ⟨rfl, rfl⟩)
          | (go_at_call 10; (with_reducible refine (unhide (HAL _)).mono ?_); rintro e w5 ⟨rfl, hb5⟩; go_loud (
              have HB5 := hide (below_on (unhide HB3) (ride_call hb5 (ride_alloc (Below.refl _ _) _)));
              clear hb5)))
        go_wp2_with (first
          | (go_at_call 17; (with_reducible refine (unhide (HIW _)).mono ?_); rintro e w6 ⟨rfl, hb⟩; go_loud (
              have HB6 := hide (below_on (unhide HB5) hb);
              clear hb))
          | (go_at_call 18; (with_reducible refine (unhide (HIN _)).mono ?_); rintro e w7 ⟨rfl, hb⟩; go_loud (
              have HB7 := hide (below_on (unhide HB6) hb);
              clear hb))
          | (go_at_call 19; (with_reducible refine (unhide (HNM _)).mono ?_); rintro e w8 ⟨rfl, rfl⟩)
          | (go_at_call 21; (with_reducible refine (unhide (HTW _)).mono ?_); rintro e w9 ⟨b9, rfl, hc9, hb9⟩; go_loud (
              have HB9 := hide (below_on (unhide HB7) hb9);
              clear hb9))
          | (go_at_call 16; (with_reducible refine (unhide (HRW _)).mono ?_); rintro e w10 ⟨b10, rfl, hc10, hb10⟩; go_loud (
              have HB10 := hide (below_on (unhide HB9) hb10);
              have HE1 := hide (equal_any w10 b9 b10 14 wordsB rfl (by decide) (hc9 w10 hb10) (hc10 w10 (Below.refl _ _)));
              clear hb10))
          | (go_at_call 20; (with_reducible refine (unhide HE1).mono ?_); rintro e w11 ⟨rfl, hb11⟩; go_loud (
              have HB11 := hide (below_on (unhide HB10) hb11);
              clear hb11))
          | (go_at_call 22; (with_reducible refine (unhide (HTS _)).mono ?_); rintro e w12 ⟨b12, rfl, hc12, hb12⟩; go_loud (
              have HB12 := hide (below_on (unhide HB11) hb12);
              clear hb12))
          | (go_at_call 23; (with_reducible refine (unhide (HRS _)).mono ?_); rintro e w13 ⟨b13, rfl, hc13, hb13⟩; go_loud (
              have HB13 := hide (below_on (unhide HB12) hb13);
              have HE2 := hide (equal_any w13 b12 b13 22 signsB rfl (by decide) (hc12 w13 hb13) (hc13 w13 (Below.refl _ _)));
              clear hb13))
          | (go_at_call 20; (with_reducible refine (unhide HE2).mono ?_); rintro e w14 ⟨rfl, hb14⟩; go_loud (
              have HB14 := hide (below_on (unhide HB13) hb14);
              clear hb14)))
        go_ret
        exact ⟨rfl, unhide HB14⟩
  · rcases hnm : nameL (str s) with _ | _
    · rw [hnm] at HNM
      rw [hnm, hw] at HIN
      rw [hw] at HIW HCT
      clear hw hnm
      by_cases h3 : m % 5 ≤ 2
      · have hg : decide (2 < (m : Int) % 5) = false := decide_eq_false (by omega)
        have hgn : decide (2 < m % 5) = false := decide_eq_false (by omega)
        have hkk : k = (k - 2) + 2 := by omega
        have hsz2 : (ba (List.replicate k 0)).size = k := by rw [← str_length, str_ba (by intro b hb; rw [List.eq_of_mem_replicate hb]; decide), List.length_replicate]
        have HAL := fun (x : World) (hx : Vr x) => hide (all_bad x (ba (List.replicate k 0)) (by rw [hsz2]; omega) hx (by rw [str_ba (by intro b hb; rw [List.eq_of_mem_replicate hb]; decide), hkk]; exact zeros_bad _))
        clear hsz2 hkk h3
        go_upto_region 9 with (first
          | (go_at_call 16; (with_reducible refine (unhide (HRW _)).mono ?_); rintro e w3 ⟨b3, rfl, hc3, hb3⟩; go_loud (
              have HB3 := hide (below_on (unhide HB1) hb3);
              have HCT3 := HCT w3 b3 (hc3 w3 (Below.refl _ _));
              clear hb3 hc3))
          | (go_at_call 15; (with_reducible refine (unhide HCT3).mono ?_); rintro e w4 ⟨rfl, rfl⟩)
          | (go_at_call 10; (with_reducible refine (unhide (HAL _ ((unhide HV).below (below_on (unhide HB3) (ride_alloc (Below.refl _ _) _))))).mono ?_); rintro e w5 ⟨rfl, hb5⟩; go_loud (
              have HB5 := hide (below_on (unhide HB3) (ride_call hb5 (ride_alloc (Below.refl _ _) _)));
              clear hb5)))
        go_wp2_with (first
          | (go_at_call 17; (with_reducible refine (unhide (HIW _)).mono ?_); rintro e w6 ⟨rfl, hb⟩; go_loud (
              have HB6 := hide (below_on (unhide HB5) hb);
              clear hb))
          | (go_at_call 18; (with_reducible refine (unhide (HIN _)).mono ?_); rintro e w7 ⟨rfl, hb⟩; go_loud (
              have HB7 := hide (below_on (unhide HB6) hb);
              clear hb))
          | (go_at_call 19; (with_reducible refine (unhide (HNM _)).mono ?_); rintro e w8 ⟨rfl, rfl⟩)
          | (go_at_call 21; (with_reducible refine (unhide (HTW _)).mono ?_); rintro e w9 ⟨b9, rfl, hc9, hb9⟩; go_loud (
              have HB9 := hide (below_on (unhide HB7) hb9);
              clear hb9))
          | (go_at_call 16; (with_reducible refine (unhide (HRW _)).mono ?_); rintro e w10 ⟨b10, rfl, hc10, hb10⟩; go_loud (
              have HB10 := hide (below_on (unhide HB9) hb10);
              have HE1 := hide (equal_any w10 b9 b10 14 wordsB rfl (by decide) (hc9 w10 hb10) (hc10 w10 (Below.refl _ _)));
              clear hb10))
          | (go_at_call 20; (with_reducible refine (unhide HE1).mono ?_); rintro e w11 ⟨rfl, hb11⟩; go_loud (
              have HB11 := hide (below_on (unhide HB10) hb11);
              clear hb11))
          | (go_at_call 22; (with_reducible refine (unhide (HTS _)).mono ?_); rintro e w12 ⟨b12, rfl, hc12, hb12⟩; go_loud (
              have HB12 := hide (below_on (unhide HB11) hb12);
              clear hb12))
          | (go_at_call 23; (with_reducible refine (unhide (HRS _)).mono ?_); rintro e w13 ⟨b13, rfl, hc13, hb13⟩; go_loud (
              have HB13 := hide (below_on (unhide HB12) hb13);
              have HE2 := hide (equal_any w13 b12 b13 22 signsB rfl (by decide) (hc12 w13 hb13) (hc13 w13 (Below.refl _ _)));
              clear hb13))
          | (go_at_call 20; (with_reducible refine (unhide HE2).mono ?_); rintro e w14 ⟨rfl, hb14⟩; go_loud (
              have HB14 := hide (below_on (unhide HB13) hb14);
              clear hb14)))
        go_ret
        exact ⟨rfl, unhide HB14⟩
      · have hg : decide (2 < (m : Int) % 5) = true := decide_eq_true (by omega)
        have hgn : decide (2 < m % 5) = true := decide_eq_true (by omega)
        have hsz2 : (ba (List.replicate k 0)).size = k := by rw [← str_length, str_ba (by intro b hb; rw [List.eq_of_mem_replicate hb]; decide), List.length_replicate]
        have HAL := fun (x : World) => hide ((all_long x (ba (List.replicate k 0)) (by rw [hsz2]; omega)).mono fun e w' h => (show e = .returned (.tuple #[.slice none 0 0, .int .i64 4]) ∧ Below x.heap.size x w' from ⟨h.1, h.2 ▸ Below.refl _ _⟩))
        clear hsz2 h3
        go_upto_region 9 with (first
          | (go_at_call 16; (with_reducible refine (unhide (HRW _)).mono ?_); rintro e w3 ⟨b3, rfl, hc3, hb3⟩; go_loud (
              have HB3 := hide (below_on (unhide HB1) hb3);
              have HCT3 := HCT w3 b3 (hc3 w3 (Below.refl _ _));
              clear hb3 hc3))
          | (go_at_call 15; (with_reducible refine (unhide HCT3).mono ?_); rintro e w4 ⟨rfl, rfl⟩)
          | (go_at_call 10; (with_reducible refine (unhide (HAL _)).mono ?_); rintro e w5 ⟨rfl, hb5⟩; go_loud (
              have HB5 := hide (below_on (unhide HB3) (ride_call hb5 (ride_alloc (Below.refl _ _) _)));
              clear hb5)))
        go_wp2_with (first
          | (go_at_call 17; (with_reducible refine (unhide (HIW _)).mono ?_); rintro e w6 ⟨rfl, hb⟩; go_loud (
              have HB6 := hide (below_on (unhide HB5) hb);
              clear hb))
          | (go_at_call 18; (with_reducible refine (unhide (HIN _)).mono ?_); rintro e w7 ⟨rfl, hb⟩; go_loud (
              have HB7 := hide (below_on (unhide HB6) hb);
              clear hb))
          | (go_at_call 19; (with_reducible refine (unhide (HNM _)).mono ?_); rintro e w8 ⟨rfl, rfl⟩)
          | (go_at_call 21; (with_reducible refine (unhide (HTW _)).mono ?_); rintro e w9 ⟨b9, rfl, hc9, hb9⟩; go_loud (
              have HB9 := hide (below_on (unhide HB7) hb9);
              clear hb9))
          | (go_at_call 16; (with_reducible refine (unhide (HRW _)).mono ?_); rintro e w10 ⟨b10, rfl, hc10, hb10⟩; go_loud (
              have HB10 := hide (below_on (unhide HB9) hb10);
              have HE1 := hide (equal_any w10 b9 b10 14 wordsB rfl (by decide) (hc9 w10 hb10) (hc10 w10 (Below.refl _ _)));
              clear hb10))
          | (go_at_call 20; (with_reducible refine (unhide HE1).mono ?_); rintro e w11 ⟨rfl, hb11⟩; go_loud (
              have HB11 := hide (below_on (unhide HB10) hb11);
              clear hb11))
          | (go_at_call 22; (with_reducible refine (unhide (HTS _)).mono ?_); rintro e w12 ⟨b12, rfl, hc12, hb12⟩; go_loud (
              have HB12 := hide (below_on (unhide HB11) hb12);
              clear hb12))
          | (go_at_call 23; (with_reducible refine (unhide (HRS _)).mono ?_); rintro e w13 ⟨b13, rfl, hc13, hb13⟩; go_loud (
              have HB13 := hide (below_on (unhide HB12) hb13);
              have HE2 := hide (equal_any w13 b12 b13 22 signsB rfl (by decide) (hc12 w13 hb13) (hc13 w13 (Below.refl _ _)));
              clear hb13))
          | (go_at_call 20; (with_reducible refine (unhide HE2).mono ?_); rintro e w14 ⟨rfl, hb14⟩; go_loud (
              have HB14 := hide (below_on (unhide HB13) hb14);
              clear hb14)))
        go_ret
        exact ⟨rfl, unhide HB14⟩
    · rw [hnm] at HNM
      rw [hnm, hw] at HIN
      rw [hw] at HIW HCT
      clear hw hnm
      by_cases h3 : m % 5 ≤ 2
      · have hg : decide (2 < (m : Int) % 5) = false := decide_eq_false (by omega)
        have hgn : decide (2 < m % 5) = false := decide_eq_false (by omega)
        have hkk : k = (k - 2) + 2 := by omega
        have hsz2 : (ba (List.replicate k 0)).size = k := by rw [← str_length, str_ba (by intro b hb; rw [List.eq_of_mem_replicate hb]; decide), List.length_replicate]
        have HAL := fun (x : World) (hx : Vr x) => hide (all_bad x (ba (List.replicate k 0)) (by rw [hsz2]; omega) hx (by rw [str_ba (by intro b hb; rw [List.eq_of_mem_replicate hb]; decide), hkk]; exact zeros_bad _))
        clear hsz2 hkk h3
        go_upto_region 9 with (first
          | (go_at_call 16; (with_reducible refine (unhide (HRW _)).mono ?_); rintro e w3 ⟨b3, rfl, hc3, hb3⟩; go_loud (
              have HB3 := hide (below_on (unhide HB1) hb3);
              have HCT3 := HCT w3 b3 (hc3 w3 (Below.refl _ _));
              clear hb3 hc3))
          | (go_at_call 15; (with_reducible refine (unhide HCT3).mono ?_); rintro e w4 ⟨rfl, rfl⟩)
          | (go_at_call 10; (with_reducible refine (unhide (HAL _ ((unhide HV).below (below_on (unhide HB3) (ride_alloc (Below.refl _ _) _))))).mono ?_); rintro e w5 ⟨rfl, hb5⟩; go_loud (
              have HB5 := hide (below_on (unhide HB3) (ride_call hb5 (ride_alloc (Below.refl _ _) _)));
              clear hb5)))
        go_wp2_with (first
          | (go_at_call 17; (with_reducible refine (unhide (HIW _)).mono ?_); rintro e w6 ⟨rfl, hb⟩; go_loud (
              have HB6 := hide (below_on (unhide HB5) hb);
              clear hb))
          | (go_at_call 18; (with_reducible refine (unhide (HIN _)).mono ?_); rintro e w7 ⟨rfl, hb⟩; go_loud (
              have HB7 := hide (below_on (unhide HB6) hb);
              clear hb))
          | (go_at_call 19; (with_reducible refine (unhide (HNM _)).mono ?_); rintro e w8 ⟨rfl, rfl⟩)
          | (go_at_call 21; (with_reducible refine (unhide (HTW _)).mono ?_); rintro e w9 ⟨b9, rfl, hc9, hb9⟩; go_loud (
              have HB9 := hide (below_on (unhide HB7) hb9);
              clear hb9))
          | (go_at_call 16; (with_reducible refine (unhide (HRW _)).mono ?_); rintro e w10 ⟨b10, rfl, hc10, hb10⟩; go_loud (
              have HB10 := hide (below_on (unhide HB9) hb10);
              have HE1 := hide (equal_any w10 b9 b10 14 wordsB rfl (by decide) (hc9 w10 hb10) (hc10 w10 (Below.refl _ _)));
              clear hb10))
          | (go_at_call 20; (with_reducible refine (unhide HE1).mono ?_); rintro e w11 ⟨rfl, hb11⟩; go_loud (
              have HB11 := hide (below_on (unhide HB10) hb11);
              clear hb11))
          | (go_at_call 22; (with_reducible refine (unhide (HTS _)).mono ?_); rintro e w12 ⟨b12, rfl, hc12, hb12⟩; go_loud (
              have HB12 := hide (below_on (unhide HB11) hb12);
              clear hb12))
          | (go_at_call 23; (with_reducible refine (unhide (HRS _)).mono ?_); rintro e w13 ⟨b13, rfl, hc13, hb13⟩; go_loud (
              have HB13 := hide (below_on (unhide HB12) hb13);
              have HE2 := hide (equal_any w13 b12 b13 22 signsB rfl (by decide) (hc12 w13 hb13) (hc13 w13 (Below.refl _ _)));
              clear hb13))
          | (go_at_call 20; (with_reducible refine (unhide HE2).mono ?_); rintro e w14 ⟨rfl, hb14⟩; go_loud (
              have HB14 := hide (below_on (unhide HB13) hb14);
              clear hb14)))
        go_ret
        exact ⟨rfl, unhide HB14⟩
      · have hg : decide (2 < (m : Int) % 5) = true := decide_eq_true (by omega)
        have hgn : decide (2 < m % 5) = true := decide_eq_true (by omega)
        have hsz2 : (ba (List.replicate k 0)).size = k := by rw [← str_length, str_ba (by intro b hb; rw [List.eq_of_mem_replicate hb]; decide), List.length_replicate]
        have HAL := fun (x : World) => hide ((all_long x (ba (List.replicate k 0)) (by rw [hsz2]; omega)).mono fun e w' h => (show e = .returned (.tuple #[.slice none 0 0, .int .i64 4]) ∧ Below x.heap.size x w' from ⟨h.1, h.2 ▸ Below.refl _ _⟩))
        clear hsz2 h3
        go_upto_region 9 with (first
          | (go_at_call 16; (with_reducible refine (unhide (HRW _)).mono ?_); rintro e w3 ⟨b3, rfl, hc3, hb3⟩; go_loud (
              have HB3 := hide (below_on (unhide HB1) hb3);
              have HCT3 := HCT w3 b3 (hc3 w3 (Below.refl _ _));
              clear hb3 hc3))
          | (go_at_call 15; (with_reducible refine (unhide HCT3).mono ?_); rintro e w4 ⟨rfl, rfl⟩)
          | (go_at_call 10; (with_reducible refine (unhide (HAL _)).mono ?_); rintro e w5 ⟨rfl, hb5⟩; go_loud (
              have HB5 := hide (below_on (unhide HB3) (ride_call hb5 (ride_alloc (Below.refl _ _) _)));
              clear hb5)))
        go_wp2_with (first
          | (go_at_call 17; (with_reducible refine (unhide (HIW _)).mono ?_); rintro e w6 ⟨rfl, hb⟩; go_loud (
              have HB6 := hide (below_on (unhide HB5) hb);
              clear hb))
          | (go_at_call 18; (with_reducible refine (unhide (HIN _)).mono ?_); rintro e w7 ⟨rfl, hb⟩; go_loud (
              have HB7 := hide (below_on (unhide HB6) hb);
              clear hb))
          | (go_at_call 19; (with_reducible refine (unhide (HNM _)).mono ?_); rintro e w8 ⟨rfl, rfl⟩)
          | (go_at_call 21; (with_reducible refine (unhide (HTW _)).mono ?_); rintro e w9 ⟨b9, rfl, hc9, hb9⟩; go_loud (
              have HB9 := hide (below_on (unhide HB7) hb9);
              clear hb9))
          | (go_at_call 16; (with_reducible refine (unhide (HRW _)).mono ?_); rintro e w10 ⟨b10, rfl, hc10, hb10⟩; go_loud (
              have HB10 := hide (below_on (unhide HB9) hb10);
              have HE1 := hide (equal_any w10 b9 b10 14 wordsB rfl (by decide) (hc9 w10 hb10) (hc10 w10 (Below.refl _ _)));
              clear hb10))
          | (go_at_call 20; (with_reducible refine (unhide HE1).mono ?_); rintro e w11 ⟨rfl, hb11⟩; go_loud (
              have HB11 := hide (below_on (unhide HB10) hb11);
              clear hb11))
          | (go_at_call 22; (with_reducible refine (unhide (HTS _)).mono ?_); rintro e w12 ⟨b12, rfl, hc12, hb12⟩; go_loud (
              have HB12 := hide (below_on (unhide HB11) hb12);
              clear hb12))
          | (go_at_call 23; (with_reducible refine (unhide (HRS _)).mono ?_); rintro e w13 ⟨b13, rfl, hc13, hb13⟩; go_loud (
              have HB13 := hide (below_on (unhide HB12) hb13);
              have HE2 := hide (equal_any w13 b12 b13 22 signsB rfl (by decide) (hc12 w13 hb13) (hc13 w13 (Below.refl _ _)));
              clear hb13))
          | (go_at_call 20; (with_reducible refine (unhide HE2).mono ?_); rintro e w14 ⟨rfl, hb14⟩; go_loud (
              have HB14 := hide (below_on (unhide HB13) hb14);
              clear hb14)))
        go_ret
        exact ⟨rfl, unhide HB14⟩
end Go.Proofs.YtiimkodgfhkbpaaDoor
