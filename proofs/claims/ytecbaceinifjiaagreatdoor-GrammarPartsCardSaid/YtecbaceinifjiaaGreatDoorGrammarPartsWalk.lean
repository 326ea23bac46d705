/- GrammarParts, walked. -/
import Derived.Test.YtecbaceinifjiaaGreatDoorZ30
import Derived.Test.YtecbaceinifjiaaGreatDoorY1
import Derived.Test.YtecbaceinifjiaaGreatDoorPLaid
import Derived.Lib.IndexMore
import Derived.Lib.IndexLaws
namespace Go.Proofs.YtecbaceinifjiaaGreatDoor
open Go.RowKit
set_option linter.unusedSimpArgs false
set_option linter.unusedVariables false
set_option maxRecDepth 100000
attribute [local go_sem] Oper.semAt_some undef
theorem GB.up {a b : Nat} (h : GB a) (hab : a ≤ b) : GB b := ⟨Nat.lt_of_lt_of_le h.b1 hab, Nat.lt_of_lt_of_le h.b2 hab, Nat.lt_of_lt_of_le h.b3 hab, Nat.lt_of_lt_of_le h.b4 hab⟩
theorem gtext_any (w : World) (s : ByteArray) (n : Nat) (hs : s.size ≤ 9223372036854775807) :
    Calls Tryz.prog 13 #[.string s, .int .i64 (n : Int)] w fun e w' => e = .returned (.string (s.extract 0 (min s.size n))) ∧ w = w' := by
  rcases Nat.le_total s.size n with h | h
  · have hself : s.extract 0 s.size = s := str_inj (by rw [str_rest, List.drop_zero])
    have hm : min (s.size : Int) (n : Int) = (s.size : Int) := by omega
    rw [Nat.min_eq_left h, hself]
    clear hself
    go_enter Tryz.func13, Tryz.ntmps13
    go_wp2
    go_ret
    exact ⟨rfl, rfl⟩
  · have hm : min (s.size : Int) (n : Int) = (n : Int) := by omega
    rw [Nat.min_eq_right h]
    go_enter Tryz.func13, Tryz.ntmps13
    go_wp2
    go_ret
    exact ⟨rfl, rfl⟩
theorem count_str (l : List UInt8) (c : UInt8) : (l.map UInt8.toNat).count c.toNat = l.count c := by
  induction l with
  | nil => rfl
  | cons b r ih =>
    rw [List.map_cons, List.count_cons, List.count_cons, ih]
    by_cases h : b = c
    · subst h; simp
    · have h2 : b.toNat ≠ c.toNat := fun e => h (UInt8.toNat_inj.1 e)
      simp [h, h2]
/-- Where a comment's sign isn't. -/
theorem no_hash {s : ByteArray} (h : decide (0 ≤ Lib.indexByte s.data.toList 35) = false) : 35 ∉ str s := fun e => by
  have h1 : ¬ 0 ≤ Lib.indexByte s.data.toList 35 := of_decide_eq_false h
  have h2 := Lib.indexByte_ge s.data.toList 35
  have h3 := Lib.indexByte_none (l := s.data.toList) (c := 35) (by omega)
  unfold str at e
  obtain ⟨b, hb, e2⟩ := List.mem_map.1 e
  obtain ⟨k, hk⟩ := List.getElem?_of_mem hb
  have h4 : b = 35 := UInt8.toNat_inj.1 e2
  exact h3 k (by rw [hk, h4])
def lastB : ByteArray := ⟨#[108, 97, 115, 116, 95, 111, 102, 95, 97, 108, 108]⟩
/-- Where the name isn't. -/
theorem no_last {s : ByteArray} (h : Lib.contains s.data.toList lastB.data.toList = false) (i n : Nat) : ((str s).drop i).take n ≠ c_last := fun e => by
  unfold Lib.contains at h
  have h1 : ¬ 0 ≤ Lib.index s.data.toList lastB.data.toList := of_decide_eq_false h
  rcases Lib.index_spec s.data.toList lastB.data.toList with ⟨_, h2⟩ | ⟨k, h2, _⟩
  · have hi : i ≤ s.data.toList.length := by
      rcases Nat.lt_or_ge s.data.toList.length i with h3 | h3
      · unfold str at e
        rw [List.drop_eq_nil_of_le (by rw [List.length_map]; omega)] at e
        simp [c_last] at e
      · exact h3
    have h3 := h2 i hi
    unfold Lib.occAt at h3
    have h4 : lastB.data.toList <+: s.data.toList.drop i := by
      refine ⟨(s.data.toList.drop i).drop n, ?_⟩
      have h5 : (s.data.toList.drop i).take n = lastB.data.toList := by
        have h6 : ((s.data.toList.drop i).take n).map UInt8.toNat = lastB.data.toList.map UInt8.toNat := by
          rw [List.map_take, List.map_drop]
          exact e
        exact List.map_inj_right (fun a b h => UInt8.toNat_inj.1 h) |>.1 h6
      rw [← h5, List.take_append_drop]
    rw [List.isPrefixOf_iff_prefix.2 h4] at h3
    cases h3
  · omega
theorem str_take (s : ByteArray) (k : Nat) (hk : k ≤ s.size) : str (s.extract 0 k) = (str s).take k := by
  unfold str
  rw [ByteArray.data_extract, Array.toList_extract, List.extract_eq_take_drop, List.drop_zero, Nat.sub_zero, List.map_take]
def sufB : ByteArray := ⟨#[10, 109, 111, 100, 117, 108, 101, 32, 108, 97, 115, 116, 95, 111, 102, 95, 97, 108, 108, 32, 123, 32, 102, 117, 110, 99, 32, 102, 40, 41, 32, 105, 110, 116, 32, 123, 32, 114, 101, 116, 117, 114, 110, 32, 49, 59, 32, 125, 32, 125]⟩
theorem gparse_len (l : List Nat) : (parseG l).2.length ≤ 20000 := by
  unfold parseG
  by_cases hl : 200000 < l.length
  · rw [if_pos hl]; exact Nat.zero_le _
  rw [if_neg hl]
  cases h0 : scan l 0 with
  | none => exact Nat.zero_le _
  | some ts =>
    dsimp only
    cases hw : (progS (startS ts)).wrong with
    | true => rw [if_pos rfl]; exact Nat.zero_le _
    | false =>
      rw [if_neg (by decide)]
      by_cases hn : 20000 < (progS (startS ts)).nodes.length
      · rw [if_pos hn]; exact Nat.zero_le _
      rw [if_neg hn]
      by_cases hf : (linkL (progS (startS ts)).calls (progS (startS ts))).fault = 0
      · rw [if_neg (fun e => e hf)]
        show (idsFrom 1 _).length ≤ _
        rw [idsFrom_length, linkL_nodes]
        omega
      · rw [if_pos hf]; exact Nat.zero_le _
theorem str_suf (s : ByteArray) : str (s ++ sufB) = str s ++ sufL := by
  unfold str
  rw [ByteArray.data_append, Array.toList_append, List.map_append]
  rfl
set_option maxHeartbeats 16000000 in
theorem parts_bad (w : World) (s : ByteArray) (cut : Nat) (mx : Int) (T : ByteArray) (hT : T = s.extract 0 (min s.size 800)) (hs : s.size ≤ 9223372036854775807) (hc : cut < 65536) (hv : Vs w) (gb : GB w.heap.size) (hmx : w.cell? ⟨1, 0, none⟩ = some (.int .i64 mx)) (hml : 1 < w.heap.size) (hr : (parseG (str T)).1 ≠ 0) :
    Calls Tryz.prog 5 #[.string s, .int .u16 (cut : Int)] w fun e w' => e = .returned (.bool true) ∧ Below w.heap.size w w' := by
  have HAW := Lib.hid (gawake w hv gb)
  have htx := fun W => gtext_any W s 800 hs
  rw [← hT, show ((800 : Nat) : Int) = 800 from rfl] at htx
  have HTX := Lib.hid htx
  have hTs : T.size ≤ 800 := by rw [hT, ByteArray.size_extract]; omega
  have HV := Lib.hid hv
  have HGB := Lib.hid gb
  have HMX := Lib.hid hmx
  have HML := Lib.hid hml
  have HTS := Lib.hid hTs
  have HPT := Lib.hid (fun W (hW : Vs W) (gW : GB W.heap.size) => gparse_any W T (by omega) hW gW)
  obtain ⟨g, hg⟩ : ∃ g, g = parseG (str T) := ⟨_, rfl⟩
  rw [← hg] at HPT hr
  obtain ⟨k, hk⟩ : ∃ k, k = g.1 := ⟨_, rfl⟩
  have HR := Lib.hid hr
  have hkI : ¬ ((g.1 : Nat) : Int) = 0 := by omega
  have hkb : (((g.1 : Nat) : Int) != 0) = true := by simpa using hkI
  clear hT hs hc hv gb hmx hml hr hTs hg htx hk k
  go_enter Tryz.func5, Tryz.ntmps5
  go_wp2_with (first
    | (go_at_call 6; (with_reducible refine (HAW.out).mono ?_); rintro e w1 ⟨rfl, hb1⟩; go_loud (have HB1 := Lib.hid hb1; clear hb1))
    | (go_at_call 13; (with_reducible refine (HTX.out _).mono ?_); rintro e w2 ⟨rfl, rfl⟩)
    | (go_at_call 7; (with_reducible refine (HPT.out _ (HV.out.on HB1.out HGB.out) (HGB.out.up HB1.out.size)).mono ?_); rintro e w3 ⟨h1, h2, hb3⟩; go_loud (
        obtain rfl := h2 HR.out;
        have HB3 := Lib.hid (HB1.out.trans (hb3.mono HB1.out.size));
        clear h1 h2 hb3)))
  go_ret
  exact ⟨rfl, HB3.out⟩
set_option maxHeartbeats 16000000 in
theorem parts_last (w : World) (s : ByteArray) (cut : Nat) (mx : Int) (T : ByteArray) (hT : T = s.extract 0 (min s.size 800)) (hs : s.size ≤ 9223372036854775807) (hc : cut < 65536) (hv : Vs w) (gb : GB w.heap.size) (hmx : w.cell? ⟨1, 0, none⟩ = some (.int .i64 mx)) (hml : 1 < w.heap.size) (hr : (parseG (str T)).1 = 0) (hc1 : Lib.contains T.data.toList lastB.data.toList = true) :
    Calls Tryz.prog 5 #[.string s, .int .u16 (cut : Int)] w fun e w' => e = .returned (.bool true) ∧ Below w.heap.size w w' := by
  have HAW := Lib.hid (gawake w hv gb)
  have htx := fun W => gtext_any W s 800 hs
  rw [← hT, show ((800 : Nat) : Int) = 800 from rfl] at htx
  have HTX := Lib.hid htx
  have hTs : T.size ≤ 800 := by rw [hT, ByteArray.size_extract]; omega
  have HV := Lib.hid hv
  have HGB := Lib.hid gb
  have HMX := Lib.hid hmx
  have HML := Lib.hid hml
  have HTS := Lib.hid hTs
  have HPT := Lib.hid (fun W (hW : Vs W) (gW : GB W.heap.size) => gparse_any W T (by omega) hW gW)
  unfold lastB at hc1
  have HR := Lib.hid hr
  have HC1 := Lib.hid hc1
  clear hT hs hc hv gb hmx hml hr hTs htx hc1
  go_enter Tryz.func5, Tryz.ntmps5
  go_wp2_with (first
    | (go_at_call 6; (with_reducible refine (HAW.out).mono ?_); rintro e w1 ⟨rfl, hb1⟩; go_loud (have HB1 := Lib.hid hb1; clear hb1))
    | (go_at_call 13; (with_reducible refine (HTX.out _).mono ?_); rintro e w2 ⟨rfl, rfl⟩)
    | (go_at_call 7; (with_reducible refine (HPT.out _ (HV.out.on HB1.out HGB.out) (HGB.out.up HB1.out.size)).mono ?_); rintro e w3 ⟨h1, h2, hb3⟩; go_loud (
        obtain ⟨b0, ga, gm, gp, F, vs, N, _, rfl, hA, _⟩ := h1 HR.out;
        have HA := Lib.hid hA;
        have hbb := HB1.out.trans (hb3.mono HB1.out.size);
        have hct := Go.Proofs.Tryz.strings_Contains T ⟨#[108, 97, 115, 116, 95, 111, 102, 95, 97, 108, 108]⟩ mx w3 (by have := HTS.out; omega) ((hbb.cell (p := ⟨1, 0, none⟩) HML.out).trans HMX.out);
        rw [HC1.out] at hct;
        have HCT := Lib.hid hct;
        have HB3 := Lib.hid hbb;
        clear h1 h2 hb3 hA hbb hct))
    | (go_at_call 14; (with_reducible refine (HCT.out).mono ?_); rintro e w4 ⟨rfl, hw4⟩; go_loud (obtain rfl : w3 = w4 := hw4.symm; clear hw4)))
  go_ret
  exact ⟨rfl, HB3.out⟩
set_option maxHeartbeats 16000000 in
theorem parts_hash (w : World) (s : ByteArray) (cut : Nat) (mx : Int) (T : ByteArray) (hT : T = s.extract 0 (min s.size 800)) (hs : s.size ≤ 9223372036854775807) (hc : cut < 65536) (hv : Vs w) (gb : GB w.heap.size) (hmx : w.cell? ⟨1, 0, none⟩ = some (.int .i64 mx)) (hml : 1 < w.heap.size) (hr : (parseG (str T)).1 = 0) (hc1 : Lib.contains T.data.toList lastB.data.toList = false) (hc2 : decide (0 ≤ Lib.indexByte T.data.toList 35) = true) :
    Calls Tryz.prog 5 #[.string s, .int .u16 (cut : Int)] w fun e w' => e = .returned (.bool true) ∧ Below w.heap.size w w' := by
  have HAW := Lib.hid (gawake w hv gb)
  have htx := fun W => gtext_any W s 800 hs
  rw [← hT, show ((800 : Nat) : Int) = 800 from rfl] at htx
  have HTX := Lib.hid htx
  have hTs : T.size ≤ 800 := by rw [hT, ByteArray.size_extract]; omega
  have HV := Lib.hid hv
  have HGB := Lib.hid gb
  have HMX := Lib.hid hmx
  have HML := Lib.hid hml
  have HTS := Lib.hid hTs
  have HPT := Lib.hid (fun W (hW : Vs W) (gW : GB W.heap.size) => gparse_any W T (by omega) hW gW)
  unfold lastB at hc1
  have HR := Lib.hid hr
  have HC1 := Lib.hid hc1
  have hch := fun W => Go.Proofs.Tryz.strings_Contains_one T 35 W
  rw [hc2] at hch
  have HCH := Lib.hid hch
  clear hT hs hc hv gb hmx hml hr hTs htx hc1 hc2 hch
  go_enter Tryz.func5, Tryz.ntmps5
  go_wp2_with (first
    | (go_at_call 6; (with_reducible refine (HAW.out).mono ?_); rintro e w1 ⟨rfl, hb1⟩; go_loud (have HB1 := Lib.hid hb1; clear hb1))
    | (go_at_call 13; (with_reducible refine (HTX.out _).mono ?_); rintro e w2 ⟨rfl, rfl⟩)
    | (go_at_call 7; (with_reducible refine (HPT.out _ (HV.out.on HB1.out HGB.out) (HGB.out.up HB1.out.size)).mono ?_); rintro e w3 ⟨h1, h2, hb3⟩; go_loud (
        obtain ⟨b0, ga, gm, gp, F, vs, N, _, rfl, hA, _⟩ := h1 HR.out;
        have HA := Lib.hid hA;
        have hbb := HB1.out.trans (hb3.mono HB1.out.size);
        have hct := Go.Proofs.Tryz.strings_Contains T ⟨#[108, 97, 115, 116, 95, 111, 102, 95, 97, 108, 108]⟩ mx w3 (by have := HTS.out; omega) ((hbb.cell (p := ⟨1, 0, none⟩) HML.out).trans HMX.out);
        rw [HC1.out] at hct;
        have HCT := Lib.hid hct;
        have HB3 := Lib.hid hbb;
        clear h1 h2 hb3 hA hbb hct))
    | (go_at_call 14; (with_reducible refine (HCT.out).mono ?_); rintro e w4 ⟨rfl, hw4⟩; go_loud (obtain rfl : w3 = w4 := hw4.symm; clear hw4))
    | (go_at_call 14; (with_reducible refine (HCH.out _).mono ?_); rintro e w5 ⟨rfl, hw5⟩; go_loud (obtain rfl : w3 = w5 := hw5.symm; clear hw5)))
  go_ret
  exact ⟨rfl, HB3.out⟩
set_option maxHeartbeats 16000000 in
theorem parts_good (w : World) (s : ByteArray) (cut : Nat) (mx : Int) (T : ByteArray) (hT : T = s.extract 0 (min s.size 800)) (hs : s.size ≤ 9223372036854775807) (hc : cut < 65536) (hv : Vs w) (gb : GB w.heap.size) (hmx : w.cell? ⟨1, 0, none⟩ = some (.int .i64 mx)) (hml : 1 < w.heap.size) (hr : (parseG (str T)).1 = 0) (hc1 : Lib.contains T.data.toList lastB.data.toList = false) (hc2 : decide (0 ≤ Lib.indexByte T.data.toList 35) = false) :
    Calls Tryz.prog 5 #[.string s, .int .u16 (cut : Int)] w fun e w' => e = .returned (.bool true) ∧ Below w.heap.size w w' := by
  have HAW := Lib.hid (gawake w hv gb)
  have htx := fun W => gtext_any W s 800 hs
  rw [← hT, show ((800 : Nat) : Int) = 800 from rfl] at htx
  have HTX := Lib.hid htx
  have hTs : T.size ≤ 800 := by rw [hT, ByteArray.size_extract]; omega
  have HV := Lib.hid hv
  have HGB := Lib.hid gb
  have HMX := Lib.hid hmx
  have HML := Lib.hid hml
  have HTS := Lib.hid hTs
  have HPT := Lib.hid (fun W (hW : Vs W) (gW : GB W.heap.size) => gparse_any W T (by omega) hW gW)
  have h35 := no_hash hc2
  have hno := no_last hc1
  have hll : (str T).length ≤ 800 := by rw [str_length]; exact hTs
  obtain ⟨hm1, hm2⟩ := gparse_more (str_small T) hll h35 hno hr
  rw [← str_suf] at hm1 hm2
  unfold lastB at hc1
  have HR := Lib.hid hr
  have HC1 := Lib.hid hc1
  have hch := fun W => Go.Proofs.Tryz.strings_Contains_one T 35 W
  rw [hc2] at hch
  have HCH := Lib.hid hch
  obtain ⟨U, hU⟩ : ∃ U, T ++ sufB = U := ⟨_, rfl⟩
  have hUs : U.size = T.size + 50 := by rw [← hU, ByteArray.size_append]; rfl
  have HPU := Lib.hid (fun W (hW : Vs W) (gW : GB W.heap.size) => gparse_any W U (by omega) hW gW)
  rw [hU] at hm1 hm2
  unfold sufB at hU
  have HM1 := Lib.hid hm1
  obtain ⟨L1, hL1⟩ : ∃ L1, L1 = (parseG (str T)).2.length := ⟨_, rfl⟩
  rw [← hL1] at hm2
  have hLb : L1 ≤ 20000 := by rw [hL1]; exact gparse_len _
  have HM2 := Lib.hid hm2
  have HL1 := Lib.hid hL1
  obtain ⟨n, hn⟩ : ∃ n, n = T.size := ⟨_, rfl⟩
  have hn8 : n ≤ 800 := by omega
  obtain ⟨k, hk⟩ : ∃ k, k = cut % (n + 1) := ⟨_, rfl⟩
  have hkn : k ≤ n := by have := Nat.mod_lt cut (show 0 < n + 1 by omega); omega
  have hkI : (k : Int) ≤ (n : Int) := by omega
  have hk1 : (cut : Int) % ((n : Int) + 1) = (k : Int) := by
    rw [hk, show (n : Int) + 1 = ((n + 1 : Nat) : Int) from rfl]
    first | exact (Int.natCast_mod _ _).symm | exact (Int.natCast_emod _ _).symm | rfl
  have hk2 : (cut : Int).tmod ((n : Int) + 1) = (k : Int) := by rw [Int.tmod_eq_emod_of_nonneg (by omega)]; exact hk1
  have hk0 : ¬ (n : Int) + 1 = 0 := by omega
  have hk0b : (((n : Int) + 1) == 0) = false := by rw [beq_eq_false_iff_ne]; exact hk0
  obtain ⟨X, hX⟩ : ∃ X, T.extract 0 k = X := ⟨_, rfl⟩
  have hXs : X.size ≤ 800 := by rw [← hX, ByteArray.size_extract]; omega
  have h35X : 35 ∉ str X := by rw [← hX, str_take T k (by omega)]; exact fun e => h35 (List.mem_of_mem_take e)
  have HPX := Lib.hid (fun W (hW : Vs W) (gW : GB W.heap.size) => gparse_any W X (by omega) hW gW)
  have hq1 := fun W => Go.Proofs.Tryz.strings_Count_one X 123 W
  have hq2 := fun W => Go.Proofs.Tryz.strings_Count_one X 125 W
  obtain ⟨c1, hcc1⟩ : ∃ c1 : Nat, c1 = Lib.countByte X.data.toList 123 := ⟨_, rfl⟩
  obtain ⟨c2, hcc2⟩ : ∃ c2 : Nat, c2 = Lib.countByte X.data.toList 125 := ⟨_, rfl⟩
  have e1 : (str X).count 123 = c1 := by rw [hcc1]; exact count_str _ 123
  have e2 : (str X).count 125 = c2 := by rw [hcc2]; exact count_str _ 125
  rw [← hcc1] at hq1
  rw [← hcc2] at hq2
  have HQ1 := Lib.hid hq1
  have HQ2 := Lib.hid hq2
  have HUB : Hid (c1 ≠ c2 → (parseG (str X)).1 = 20) := Lib.hid (fun hne => parse_unbal h35X (by rw [str_length]; omega) (by rw [e1, e2]; exact hne))
  have z1 : ¬ 9223372036854775807 < T.size + 50 := by omega
  have hcb : cut < 65536 := hc
  have HU := Lib.hid hUs
  subst hn
  clear hT hs hc hv gb hmx hml hr hTs htx hc1 hc2 hch h35 hno hll hm1 hm2 hUs hL1 hk hXs h35X hq1 hq2 hcc1 hcc2 e1 e2
  by_cases hcc : c1 = c2
  · have hd : ((c1 : Int) == (c2 : Int)) = true := by rw [beq_iff_eq]; omega
    have hd2 : (c1 == c2) = true := by rw [beq_iff_eq]; exact hcc
    clear hcc HUB
    go_enter Tryz.func5, Tryz.ntmps5
    go_wp2_with (first
      | (go_at_call 6; (with_reducible refine (HAW.out).mono ?_); rintro e w1 ⟨rfl, hb1⟩; go_loud (have HB1 := Lib.hid hb1; clear hb1))
        | (go_at_call 13; (with_reducible refine (HTX.out _).mono ?_); rintro e w2 ⟨rfl, rfl⟩)
      | (go_at_call 7; (with_reducible refine (HPT.out _ (HV.out.on HB1.out HGB.out) (HGB.out.up HB1.out.size)).mono ?_); rintro e w3 ⟨h1, h2, hb3⟩; go_loud (
            obtain ⟨b0, ga, gm, gp, F, vs, N, _, rfl, hA, _⟩ := h1 HR.out;
            have HA := Lib.hid hA;
            have hbb := HB1.out.trans (hb3.mono HB1.out.size);
            have hct := Go.Proofs.Tryz.strings_Contains T ⟨#[108, 97, 115, 116, 95, 111, 102, 95, 97, 108, 108]⟩ mx w3 (by have := HTS.out; omega) ((hbb.cell (p := ⟨1, 0, none⟩) HML.out).trans HMX.out);
            rw [HC1.out] at hct;
            have HCT := Lib.hid hct;
            have HB3 := Lib.hid hbb;
            clear h1 h2 hb3 hA hbb hct))
      | (go_at_call 14; (with_reducible refine (HCT.out).mono ?_); rintro e w4 ⟨rfl, hw4⟩; go_loud (obtain rfl : w3 = w4 := hw4.symm; clear hw4))
      | (go_at_call 14; (with_reducible refine (HCH.out _).mono ?_); rintro e w5 ⟨rfl, hw5⟩; go_loud (obtain rfl : w3 = w5 := hw5.symm; clear hw5))
      | (go_at_call 7; (with_reducible refine (HPU.out _ (HV.out.on HB3.out HGB.out) (HGB.out.up HB3.out.size)).mono ?_); rintro e w6 ⟨h1, h2, hb6⟩; go_loud (
            obtain ⟨b0', ga', gm', gp', F', vs', N', _, rfl, hA', _⟩ := h1 HM1.out;
            have HLB := Lib.hid (fun W (hW : Below w6.heap.size w6 W) => len_any W b0' ga' gm' gp' N' F' vs' _ (hA'.below hW));
            have HLA := Lib.hid (fun W (hW : Below w6.heap.size w6 W) => len_any W b0 ga gm gp N F vs _ ((HA.out.below hb6).below hW));
            rw [HM2.out, show ((L1 + 5 : Nat) : Int) = (L1 : Int) + 5 by omega] at HLB;
            rw [← HL1.out] at HLA;
            have HB6 := Lib.hid (HB3.out.trans (hb6.mono HB3.out.size));
            clear h1 h2 hb6 hA'))
      | (go_at_call 15; (with_reducible refine (HLB.out _ (Below.refl _ _)).mono ?_); rintro e w7 ⟨rfl, hb7⟩; go_loud (have HB7 := Lib.hid hb7; clear hb7))
      | (go_at_call 15; (with_reducible refine (HLA.out _ HB7.out).mono ?_); rintro e w8 ⟨rfl, hb8⟩; go_loud (have HB8 := Lib.hid (HB6.out.trans ((HB7.out.trans (hb8.mono HB7.out.size)).mono HB6.out.size)); clear hb8))
      | (go_at_call 7; (with_reducible refine (HPX.out _ (HV.out.on HB8.out HGB.out) (HGB.out.up HB8.out.size)).mono ?_); rintro e w9 ⟨h1, h2, hb9⟩; go_loud (
            have HB9 := Lib.hid (HB8.out.trans (hb9.mono HB8.out.size));
            have HE : ∃ q1 q2 : Value, e = .returned (.tuple #[q1, q2]) := (by by_cases h0 : (parseG (str X)).1 = 0; (obtain ⟨_, ga9, _, _, _, _, _, _, e9, _⟩ := h1 h0; exact ⟨_, _, e9⟩); exact ⟨_, _, h2 h0⟩); obtain ⟨q1, q2, rfl⟩ := HE;
            clear h1 h2 hb9))
      | (go_at_call 16; (with_reducible refine (HQ1.out _).mono ?_); rintro e w10 ⟨rfl, hw10⟩; go_loud (obtain rfl : w9 = w10 := hw10.symm; clear hw10))
      | (go_at_call 16; (with_reducible refine (HQ2.out _).mono ?_); rintro e w11 ⟨rfl, hw11⟩; go_loud (obtain rfl : w9 = w11 := hw11.symm; clear hw11)))
    go_ret
    exact ⟨rfl, HB9.out⟩
  · have hd : ((c1 : Int) == (c2 : Int)) = false := by rw [beq_eq_false_iff_ne]; omega
    have hd2 : (c1 == c2) = false := by rw [beq_eq_false_iff_ne]; exact hcc
    have HX20 := Lib.hid (HUB.out hcc)
    clear hcc HUB
    go_enter Tryz.func5, Tryz.ntmps5
    go_wp2_with (first
      | (go_at_call 6; (with_reducible refine (HAW.out).mono ?_); rintro e w1 ⟨rfl, hb1⟩; go_loud (have HB1 := Lib.hid hb1; clear hb1))
        | (go_at_call 13; (with_reducible refine (HTX.out _).mono ?_); rintro e w2 ⟨rfl, rfl⟩)
      | (go_at_call 7; (with_reducible refine (HPT.out _ (HV.out.on HB1.out HGB.out) (HGB.out.up HB1.out.size)).mono ?_); rintro e w3 ⟨h1, h2, hb3⟩; go_loud (
            obtain ⟨b0, ga, gm, gp, F, vs, N, _, rfl, hA, _⟩ := h1 HR.out;
            have HA := Lib.hid hA;
            have hbb := HB1.out.trans (hb3.mono HB1.out.size);
            have hct := Go.Proofs.Tryz.strings_Contains T ⟨#[108, 97, 115, 116, 95, 111, 102, 95, 97, 108, 108]⟩ mx w3 (by have := HTS.out; omega) ((hbb.cell (p := ⟨1, 0, none⟩) HML.out).trans HMX.out);
            rw [HC1.out] at hct;
            have HCT := Lib.hid hct;
            have HB3 := Lib.hid hbb;
            clear h1 h2 hb3 hA hbb hct))
      | (go_at_call 14; (with_reducible refine (HCT.out).mono ?_); rintro e w4 ⟨rfl, hw4⟩; go_loud (obtain rfl : w3 = w4 := hw4.symm; clear hw4))
      | (go_at_call 14; (with_reducible refine (HCH.out _).mono ?_); rintro e w5 ⟨rfl, hw5⟩; go_loud (obtain rfl : w3 = w5 := hw5.symm; clear hw5))
      | (go_at_call 7; (with_reducible refine (HPU.out _ (HV.out.on HB3.out HGB.out) (HGB.out.up HB3.out.size)).mono ?_); rintro e w6 ⟨h1, h2, hb6⟩; go_loud (
            obtain ⟨b0', ga', gm', gp', F', vs', N', _, rfl, hA', _⟩ := h1 HM1.out;
            have HLB := Lib.hid (fun W (hW : Below w6.heap.size w6 W) => len_any W b0' ga' gm' gp' N' F' vs' _ (hA'.below hW));
            have HLA := Lib.hid (fun W (hW : Below w6.heap.size w6 W) => len_any W b0 ga gm gp N F vs _ ((HA.out.below hb6).below hW));
            rw [HM2.out, show ((L1 + 5 : Nat) : Int) = (L1 : Int) + 5 by omega] at HLB;
            rw [← HL1.out] at HLA;
            have HB6 := Lib.hid (HB3.out.trans (hb6.mono HB3.out.size));
            clear h1 h2 hb6 hA'))
      | (go_at_call 15; (with_reducible refine (HLB.out _ (Below.refl _ _)).mono ?_); rintro e w7 ⟨rfl, hb7⟩; go_loud (have HB7 := Lib.hid hb7; clear hb7))
      | (go_at_call 15; (with_reducible refine (HLA.out _ HB7.out).mono ?_); rintro e w8 ⟨rfl, hb8⟩; go_loud (have HB8 := Lib.hid (HB6.out.trans ((HB7.out.trans (hb8.mono HB7.out.size)).mono HB6.out.size)); clear hb8))
      | (go_at_call 7; (with_reducible refine (HPX.out _ (HV.out.on HB8.out HGB.out) (HGB.out.up HB8.out.size)).mono ?_); rintro e w9 ⟨h1, h2, hb9⟩; go_loud (
            have HB9 := Lib.hid (HB8.out.trans (hb9.mono HB8.out.size));
            obtain rfl := h2 (by rw [HX20.out]; decide); rw [HX20.out, show ((20 : Nat) : Int) = 20 from rfl];
            clear h1 h2 hb9))
      | (go_at_call 16; (with_reducible refine (HQ1.out _).mono ?_); rintro e w10 ⟨rfl, hw10⟩; go_loud (obtain rfl : w9 = w10 := hw10.symm; clear hw10))
      | (go_at_call 16; (with_reducible refine (HQ2.out _).mono ?_); rintro e w11 ⟨rfl, hw11⟩; go_loud (obtain rfl : w9 = w11 := hw11.symm; clear hw11)))
    go_ret
    exact ⟨rfl, HB9.out⟩
theorem grammarParts_walk (w : World) (s : ByteArray) (cut : Nat) (mx : Int) (hs : s.size ≤ 9223372036854775807) (hc : cut < 65536) (hv : Vs w) (gb : GB w.heap.size) (hmx : w.cell? ⟨1, 0, none⟩ = some (.int .i64 mx)) (hml : 1 < w.heap.size) :
    Calls Tryz.prog 5 #[.string s, .int .u16 (cut : Int)] w fun e w' => e = .returned (.bool true) ∧ Below w.heap.size w w' := by
  by_cases hr : (parseG (str (s.extract 0 (min s.size 800)))).1 = 0
  · cases hc1 : Lib.contains (s.extract 0 (min s.size 800)).data.toList lastB.data.toList with
    | true => exact parts_last w s cut mx _ rfl hs hc hv gb hmx hml hr hc1
    | false =>
      cases hc2 : decide (0 ≤ Lib.indexByte (s.extract 0 (min s.size 800)).data.toList 35) with
      | true => exact parts_hash w s cut mx _ rfl hs hc hv gb hmx hml hr hc1 hc2
      | false => exact parts_good w s cut mx _ rfl hs hc hv gb hmx hml hr hc1 hc2
  · exact parts_bad w s cut mx _ rfl hs hc hv gb hmx hml hr
end Go.Proofs.YtecbaceinifjiaaGreatDoor
