/- ORef, ORefB: joined by program (tools/merge.py). -/
import Derived.Test.YtfnobibjphnmdaaGreatDoorOAwake
import Derived.Test.YtfnobibjphnmdaaGreatDoorKRows
import Derived.Test.YtfnobibjphnmdaaGreatDoorKName
namespace Go.Proofs.YtfnobibjphnmdaaGreatDoor
open Go.RowKit
set_option linter.unusedVariables false
set_option linter.unusedSimpArgs false
def kindsB : List ByteArray := [⟨#[114, 101, 110, 97, 109, 101, 45, 109, 111, 100, 117, 108, 101, 32, 65, 78]⟩, ⟨#[114, 101, 110, 97, 109, 101, 45, 102, 117, 110, 99, 32, 65, 78]⟩, ⟨#[114, 101, 110, 97, 109, 101, 45, 112, 97, 114, 97, 109, 32, 65, 78]⟩, ⟨#[114, 101, 110, 97, 109, 101, 45, 108, 101, 116, 32, 65, 78]⟩, ⟨#[109, 111, 118, 101, 45, 102, 117, 110, 99, 32, 65, 66]⟩, ⟨#[101, 120, 116, 114, 97, 99, 116, 45, 108, 101, 116, 32, 65, 78]⟩, ⟨#[105, 110, 108, 105, 110, 101, 45, 108, 101, 116, 32, 65]⟩, ⟨#[101, 120, 116, 114, 97, 99, 116, 45, 102, 117, 110, 99, 32, 65, 66, 78]⟩, ⟨#[105, 110, 108, 105, 110, 101, 45, 99, 97, 108, 108, 32, 65]⟩, ⟨#[97, 100, 100, 45, 109, 111, 100, 117, 108, 101, 32, 78]⟩, ⟨#[100, 114, 111, 112, 45, 109, 111, 100, 117, 108, 101, 32, 65]⟩, ⟨#[100, 114, 111, 112, 45, 102, 117, 110, 99, 32, 65]⟩, ⟨#[102, 108, 105, 112, 45, 105, 102, 32, 65]⟩, ⟨#[115, 119, 97, 112, 45, 112, 97, 114, 116, 115, 32, 65]⟩]
def flagsK (k : Nat) : List Nat := if 1 ≤ k ∧ k ≤ 14 then (if aK k then [65] else []) ++ (if bK k then [66] else []) ++ (if nK k then [78] else []) else []
def lineK (k : Nat) : List Nat := wordK k ++ 32 :: flagsK k
theorem kindsB_str : ∀ j, j < 14 → (kindsB[j]?).map str = some (lineK (j + 1)) := by decide
theorem lineK_len : ∀ j, j < 14 → (lineK (j + 1)).length ≤ 20 := by decide
theorem lineK_byte : ∀ j, j < 14 → ∀ b ∈ lineK (j + 1), b < 256 := by decide
set_option maxRecDepth 100000 in
set_option maxHeartbeats 1000000 in
theorem kinds_any (w : World) : Calls Tryz.prog 45 #[] w fun e w' => ∃ v, e = .returned v ∧ SRow w w' v kindsB := by
  go_enter Tryz.func45, Tryz.ntmps45
  go_wp2
  go_ret
  exact ⟨_, rfl, srow_new w _ kindsB⟩
theorem kinds_lie (w : World) : Calls Tryz.prog 45 #[] w fun e w' => ∃ b, e = .returned (.slice (some ⟨b, 0, none⟩) 14 14) ∧ (∀ j y, kindsB[j]? = some y → w'.cell? ⟨b, j, none⟩ = some (.string y)) ∧ Below w.heap.size w w' :=
  (kinds_any w).mono fun e w' ⟨v, he, b, hv, _, hlt, hc, hb⟩ => ⟨b, by rw [he, hv]; rfl, hc, hb⟩
def PartI (n : Nat) (i : Value) : Prop := ∃ j : Nat, i = .int .i64 (j : Int) ∧ j ≤ n
set_option maxRecDepth 100000 in
set_option maxHeartbeats 2000000 in
theorem parts_any (w : World) (k : Nat) (hk : k < 256) :
    Calls Tryz.prog 19 #[.int .u8 (k : Int)] w fun e w' => e = .returned (.tuple #[.string (ba (wordK k)), .string (ba (flagsK k))]) ∧ Below w.heap.size w w' := by
  by_cases h0 : k < 1
  · obtain rfl : k = 0 := by omega
    go_enter Tryz.func19, Tryz.ntmps19
    go_wp2
    go_ret2
    exact ⟨rfl, Below.refl _ _⟩
  · have hx : decide ((k : Int) < 1) = false := decide_eq_false (by omega)
    by_cases h14 : 14 < k
    · have hy : decide ((14 : Int) < (k : Int)) = true := decide_eq_true (by omega)
      rw [wordK_big (by omega), show flagsK k = [] from if_neg (by omega)]
      clear h0 h14
      go_enter Tryz.func19, Tryz.ntmps19
      go_wp2
      go_ret2
      exact ⟨rfl, Below.refl _ _⟩
    · have hy : decide ((14 : Int) < (k : Int)) = false := decide_eq_false (by omega)
      obtain ⟨j, rfl⟩ : ∃ j, k = j + 1 := ⟨k - 1, by omega⟩
      have hj : j < 14 := by omega
      have hs := kindsB_str j hj
      obtain ⟨s, hs1, hs2⟩ := Option.map_eq_some_iff.1 hs
      have hK := fun (x : World) => hide (kinds_lie x)
      have hlen := lineK_len j hj
      have hsz := str_length s
      rw [hs2] at hsz
      have hn : (wordK (j + 1)).length < s.size := by rw [← hsz]; unfold lineK; simp
      obtain ⟨n, hne⟩ : ∃ n, n = (wordK (j + 1)).length := ⟨_, rfl⟩
      rw [← hne] at hn
      have HNE := Lib.hid hne
      have HS2 := Lib.hid hs2
      have HJ := Lib.hid hj
      have hw : ∀ i (hi : i < s.size), i < n → ((((s[i]'hi).toNat : Nat) : Int) == 32) = false := fun i hi hin => by
        have h1 := str_get s i hi
        rw [hs2] at h1
        unfold lineK at h1
        rw [List.getElem?_append_left (by omega)] at h1
        rw [beq_eq_false_iff_ne]
        intro e
        have : (s[i]'hi).toNat = 32 := by omega
        rw [this] at h1
        exact word_no32 (j + 1) (by omega) (List.mem_of_getElem? h1)
      have hw2 : ((((s[n]'hn).toNat : Nat) : Int) == 32) = true := by
        have h1 := str_get s n hn
        rw [hs2] at h1
        unfold lineK at h1
        rw [List.getElem?_append_right (by omega), show n - (wordK (j + 1)).length = 0 by omega] at h1
        simp at h1
        rw [beq_iff_eq]
        omega
      have HW := Lib.hid hw
      have e1 : ((j + 1 : Nat) : Int) - 1 = (j : Int) := by omega
      clear h0 h14 hs hw hne hs2
      go_enter Tryz.func19, Tryz.ntmps19
      go_wp2_with (go_at_call 45; (with_reducible refine (unhide (hK _)).mono ?_); rintro e w1 ⟨b, rfl, hc, hb1⟩; go_loud (
        have hcj := hc j s hs1;
        have HB1 := Lib.hid hb1;
        clear hc hb1))
      clear hx hy hs1 hcj
      go_loop [5] (fun i => PartI n i) (fun i => n + 1 - (intOf i).toNat)
      case atStart => exact ⟨0, rfl, by omega⟩
      case round =>
        obtain ⟨i, rfl, hi⟩ := hrel
        by_cases hin : i < n
        · have hi2 : i < s.size := by omega
          have hq := HW.out i hi2 hin
          go_wp2
          go_round
          case rel => exact ⟨i + 1, by go_num, by omega⟩
          case measure => simp [intOf]; omega
        · obtain rfl : i = n := by omega
          have hne := HNE.out
          have hs2 := HS2.out
          have x1 : s.extract 0 i = ba (wordK (j + 1)) := by
            rw [← ba_str (s.extract 0 i), str_extract, hs2]
            unfold lineK
            rw [hne, List.drop_zero, Nat.sub_zero, List.take_left]
          have x2 : s.extract (i + 1) s.size = ba (flagsK (j + 1)) := by
            rw [← ba_str (s.extract (i + 1) s.size), str_extract, hs2, ← hsz]
            unfold lineK
            rw [hne, show wordK (j + 1) ++ 32 :: flagsK (j + 1) = (wordK (j + 1) ++ [32]) ++ flagsK (j + 1) by simp, List.drop_left' (by simp), List.take_of_length_le (by simp; omega)]
          have X1 := Lib.hid x1
          have X2 := Lib.hid x2
          clear hne hs2 x1 x2
          go_wp2_with fail
          go_region
          go_wp2
          go_ret2
          exact ⟨by rw [X1.out, X2.out]; rfl, HB1.out.drew⟩
end Go.Proofs.YtfnobibjphnmdaaGreatDoor
namespace Go.Proofs.YtfnobibjphnmdaaGreatDoor
open Go.RowKit
set_option linter.unusedVariables false
set_option linter.unusedSimpArgs false
def HasI (s : ByteArray) (c : Nat) (i : Value) : Prop := ∃ j : Nat, i = .int .i64 (j : Int) ∧ j ≤ s.size ∧ ∀ n (h : n < s.size), n < j → (s[n]'h).toNat ≠ c
set_option maxRecDepth 100000 in
set_option maxHeartbeats 1000000 in
theorem has_any (w : World) (s : ByteArray) (c : Nat) (hs : s.size ≤ 140737488355328) (hc : c < 256) :
    Calls Tryz.prog 20 #[.string s, .int .u8 (c : Int)] w fun e w' => e = .returned (.bool (decide (c ∈ str s))) ∧ w' = w := by
  obtain ⟨d, hd⟩ : ∃ d : Bool, decide (c ∈ str s) = d := ⟨_, rfl⟩
  rw [hd]
  have HD := Lib.hid hd
  clear hd
  go_enter Tryz.func20, Tryz.ntmps20
  go_wp2_with fail
  go_loop [5] (fun i => HasI s c i) (fun i => s.size - (intOf i).toNat)
  case atStart => exact ⟨0, rfl, by omega, fun n h hn => by omega⟩
  case round =>
    obtain ⟨j, rfl, hj, hrel⟩ := hrel
    have HREL := Lib.hid hrel
    clear hrel
    by_cases hlt : j < s.size
    · have HG := Lib.hid (str_get s j hlt)
      rcases hq : ((((s[j]'hlt).toNat : Nat) : Int) == (c : Int)) with _ | _
      · have HQ := Lib.hid hq
        go_wp2
        go_round
        case rel =>
          refine ⟨j + 1, by go_num, by omega, fun n h hn => ?_⟩
          rcases Nat.lt_or_ge n j with h1 | h1
          · exact HREL.out n h h1
          · obtain rfl : n = j := by omega
            have h2 := HQ.out
            rw [beq_eq_false_iff_ne] at h2
            omega
        case measure => simp [intOf]; omega
      · have HQ := Lib.hid hq
        go_wp2
        go_ret
        refine ⟨?_, rfl⟩
        have h2 := HQ.out
        rw [beq_iff_eq] at h2
        have h3 : c ∈ str s := by
          have h4 := HG.out
          rw [show (s[j]'hlt).toNat = c by omega] at h4
          exact List.mem_of_getElem? h4
        rw [← HD.out, decide_eq_true h3]
        rfl
    · go_wp2
      go_ret
      refine ⟨?_, rfl⟩
      have h3 : ¬ c ∈ str s := fun h => by
        obtain ⟨n, hn⟩ := List.getElem?_of_mem h
        have hl : n < (str s).length := by
          rcases Nat.lt_or_ge n (str s).length with h1 | h1
          · exact h1
          · rw [List.getElem?_eq_none h1] at hn; cases hn
        rw [str_length] at hl
        rw [str_get s n hl] at hn
        injection hn with hn
        exact HREL.out n hl (by omega) hn
      rw [← HD.out, decide_eq_false h3]
      rfl
def letK (k c : Nat) : Bool := if c = 65 then aK k else if c = 66 then bK k else nK k
theorem letK_all : ∀ k, k ≤ 14 → 1 ≤ k → (decide (65 ∈ flagsK k) = aK k ∧ decide (66 ∈ flagsK k) = bK k ∧ decide (78 ∈ flagsK k) = nK k) := by decide
theorem flags_byte : ∀ k, k ≤ 14 → ∀ b ∈ flagsK k, b < 256 := by decide
theorem flags_len : ∀ k, k ≤ 14 → (flagsK k).length ≤ 3 := by decide
theorem has_kind (w : World) (k c : Nat) (hc : c = 65 ∨ c = 66 ∨ c = 78) (hk : 1 ≤ k ∧ k ≤ 14) :
    Calls Tryz.prog 20 #[.string (ba (flagsK k)), .int .u8 (c : Int)] w fun e w' => e = .returned (.bool (letK k c)) ∧ w' = w := by
  have hl := flags_len k hk.2
  have hb := str_ba (flags_byte k hk.2)
  have hz : (ba (flagsK k)).size ≤ 140737488355328 := by rw [← str_length, hb]; omega
  have H := has_any w (ba (flagsK k)) c hz (by omega)
  rw [hb] at H
  have h := letK_all k hk.2 hk.1
  have e : decide (c ∈ flagsK k) = letK k c := by
    rcases hc with rfl | rfl | rfl
    · exact h.1
    · exact h.2.1
    · exact h.2.2
  rw [e] at H
  exact H
set_option maxRecDepth 100000 in
theorem rname_all (w : World) (s : ByteArray) (hs : s.size ≤ 9223372036854775807) :
    Calls Tryz.prog 47 #[.string s] w fun e w' => e = .returned (.bool (nameL (str s))) ∧ w = w' := by
  by_cases h : s.size ≤ 140737488355328
  · exact rname_any w s h
  · have hr : nameL (str s) = false := by
      unfold nameL
      rw [str_length, show decide (s.size ≤ 64) = false from decide_eq_false (by omega)]
      simp
    rw [hr]
    have hx : decide ((s.size : Int) < 1) = false := decide_eq_false (by omega)
    have hy : decide (64 < (s.size : Int)) = true := decide_eq_true (by omega)
    clear hr h
    go_enter Tryz.func47, Tryz.ntmps47
    go_wp2
    go_ret
    exact ⟨rfl, rfl⟩
def NamI (s : ByteArray) (i : Value) : Prop := ∃ j : Nat, i = .int .i64 (j : Int) ∧ j ≤ 14 ∧ ∀ n y, n < j → wordsB[n]? = some y → y ≠ s
theorem inL_yes {s : ByteArray} (h : s ∈ wordsB) : inL (str s) wordsL = true := by
  unfold inL
  rw [← wordsB_str]
  exact decide_eq_true (List.mem_map_of_mem h)
theorem inL_no {s : ByteArray} (h : ¬ s ∈ wordsB) : inL (str s) wordsL = false := by
  unfold inL
  rw [← wordsB_str]
  refine decide_eq_false fun h2 => h ?_
  obtain ⟨y, hy, he⟩ := List.mem_map.1 h2
  rw [← str_inj he]
  exact hy
theorem rwords_lie (w : World) : Calls Tryz.prog 46 #[] w fun e w' => ∃ b, e = .returned (.slice (some ⟨b, 0, none⟩) 14 14) ∧ (∀ j y, wordsB[j]? = some y → w'.cell? ⟨b, j, none⟩ = some (.string y)) ∧ Below w.heap.size w w' :=
  (rwords_any w).mono fun e w' ⟨v, he, b, hv, _, hlt, hc, hb⟩ => ⟨b, by rw [he, hv]; rfl, hc, hb⟩
theorem toL_ne {x y : ByteArray} (h : x ≠ y) : (x.toList == y.toList) = false := by
  rw [beq_eq_false_iff_ne]
  intro e
  rw [Lib.toList_data, Lib.toList_data] at e
  apply h
  cases x
  cases y
  congr 1
  exact Array.toList_inj.1 e
set_option maxRecDepth 100000 in
set_option maxHeartbeats 2000000 in
theorem rname14_any (w : World) (s : ByteArray) (hs : s.size ≤ 9223372036854775807) :
    Calls Tryz.prog 21 #[.string s] w fun e w' => e = .returned (.bool (isNm (str s))) ∧ Below w.heap.size w w' := by
  have HWD := fun (x : World) => hide (rwords_lie x)
  have HNM := fun (x : World) => hide (rname_all x s hs)
  go_enter Tryz.func21, Tryz.ntmps21
  go_wp2_with (go_at_call 46; (with_reducible refine (unhide (HWD _)).mono ?_); rintro e w1 ⟨b, rfl, hc, hb1⟩; go_loud (
    have HC := Lib.hid hc;
    have HB1 := Lib.hid hb1;
    clear hc hb1))
  go_loop [7] (fun i => NamI s i) (fun i => 14 - (intOf i).toNat)
  case atStart => exact ⟨0, rfl, by omega, fun n y h => by omega⟩
  case round =>
    obtain ⟨j, rfl, hj, hrel⟩ := hrel
    have HREL := Lib.hid hrel
    clear hrel
    by_cases hlt : j < 14
    · obtain ⟨y, hy⟩ : ∃ y, wordsB[j]? = some y := ⟨_, List.getElem?_eq_getElem (show j < wordsB.length from hlt)⟩
      have hcell := HC.out j y hy
      have HY := Lib.hid hy
      clear hy
      by_cases he : y = s
      · subst he
        have hq : (y.toList == y.toList) = true := beq_self_eq_true _
        go_wp2
        go_ret
        refine ⟨?_, HB1.out⟩
        unfold isNm
        rw [inL_yes (List.mem_of_getElem? HY.out), Bool.not_true, Bool.and_false]
        rfl
      · have hq := toL_ne he
        have HE := Lib.hid he
        clear he
        go_wp2
        go_round
        case rel =>
          refine ⟨j + 1, by go_num, by omega, fun n z hn hz => ?_⟩
          rcases Nat.lt_or_ge n j with h1 | h1
          · exact HREL.out n z h1 hz
          · obtain rfl : n = j := by omega
            rw [HY.out] at hz
            injection hz with hz
            rw [← hz]
            exact HE.out
        case measure => simp [intOf]; omega
    · go_wp2_with (go_at_call 47; (with_reducible refine (unhide (HNM _)).mono ?_); rintro e w2 ⟨rfl, rfl⟩)
      go_ret
      refine ⟨?_, HB1.out⟩
      have hno : ¬ s ∈ wordsB := fun h => by
        obtain ⟨n, hn⟩ := List.getElem?_of_mem h
        have hl : n < wordsB.length := by
          rcases Nat.lt_or_ge n wordsB.length with h1 | h1
          · exact h1
          · rw [List.getElem?_eq_none h1] at hn; cases hn
        exact HREL.out n s (by have : wordsB.length = 14 := rfl; omega) hn rfl
      unfold isNm
      rw [inL_no hno, Bool.not_false, Bool.and_true]
      rfl
theorem opInfo : (Tryz.prog.info? 32).map (fun i => (i.size)) = some 4 := by kernel_rfl
set_option maxRecDepth 100000 in
set_option maxHeartbeats 4000000 in
theorem rright_any (w : World) (k a b : Nat) (s : ByteArray) (hk : k < 256) (hs : s.size ≤ 9223372036854775807) :
    Calls Tryz.prog 7 #[opV k a b s] w fun e w' => e = .returned (.bool (rightO k a b (str s))) ∧ Below w.heap.size w w' := by
  unfold opV
  have HP := fun (x : World) => hide (parts_any x k hk)
  have HNM := fun (x : World) => hide (rname14_any x s hs)
  clear hs hk
  obtain ⟨a0, ha0⟩ : ∃ x : Bool, decide ((0 : Int) < (a : Int)) = x := ⟨_, rfl⟩
  obtain ⟨b0, hb0⟩ : ∃ x : Bool, decide ((0 : Int) < (b : Int)) = x := ⟨_, rfl⟩
  have ha1 : decide (0 < a) = a0 := by rw [← ha0]; exact decide_eq_decide.2 (by omega)
  have hb1 : decide (0 < b) = b0 := by rw [← hb0]; exact decide_eq_decide.2 (by omega)
  have HA0 := Lib.hid (show decide (a ≠ 0) = a0 by rw [← ha0]; exact decide_eq_decide.2 (by omega))
  have HB0 := Lib.hid (show decide (b ≠ 0) = b0 by rw [← hb0]; exact decide_eq_decide.2 (by omega))
  obtain ⟨ka, hka⟩ : ∃ x : Bool, aK k = x := ⟨_, rfl⟩
  obtain ⟨kb, hkb⟩ : ∃ x : Bool, bK k = x := ⟨_, rfl⟩
  obtain ⟨kn, hkn⟩ : ∃ x : Bool, nK k = x := ⟨_, rfl⟩
  go_enter Tryz.func7, Tryz.ntmps7
  go_wp2_with (go_at_call 19; (with_reducible refine (unhide (HP _)).mono ?_); rintro e w1 ⟨rfl, hbx⟩; have HBX := Lib.hid hbx; clear hbx)
  obtain ⟨wk, hwk⟩ : ∃ wk, wk = w1 := ⟨_, rfl⟩
  rw [← hwk]
  have HSK := Lib.hid (show ∀ x, Below wk.heap.size wk x → (Below wk.heap.size wk x ∧ x.cell? ⟨w.heap.size, 0, none⟩ = some (.int .u8 (k : Int)) ∧ x.cell? ⟨w.heap.size, 1, none⟩ = some (.int .u64 (a : Int)) ∧ x.cell? ⟨w.heap.size, 2, none⟩ = some (.int .u64 (b : Int)) ∧ x.cell? ⟨w.heap.size, 3, none⟩ = some (.string s)) from fun x hx => by
    obtain ⟨z0, z1, z2, z3⟩ := box4 (ridec (by rw [hwk] at hx; exact hx) HBX.out)
    exact ⟨hx, z0, z1, z2, z3⟩)
  have HKB := Lib.hid (show ∀ x, Below wk.heap.size wk x → Below w.heap.size w x from fun x hx => ridec hx (by rw [hwk]; exact opcells HBX.out))
  clear hwk
  by_cases hkk : 1 ≤ k ∧ k ≤ 14
  · have hws := word_some hkk
    have HHA := fun (x : World) => hide (has_kind x k 65 (.inl rfl) hkk)
    have HHB := fun (x : World) => hide (has_kind x k 66 (.inr (.inl rfl)) hkk)
    have HHN := fun (x : World) => hide (has_kind x k 78 (.inr (.inr rfl)) hkk)
    rw [show letK k 65 = ka from hka] at HHA
    rw [show letK k 66 = kb from hkb] at HHB
    rw [show letK k 78 = kn from hkn, show ((78 : Nat) : Int) = 78 from rfl] at HHN
    have HKK := Lib.hid hkk
    clear hkk
    have HSY := Lib.hid (show ∀ p q : Bool, (p == q) = (q == p) by decide)
    rcases hX : (ka == a0) with _ | _
    · have hR := Lib.hid (show rightO k a b (str s) = false by unfold rightO; rw [hka, hkb, HA0.out, HB0.out, HSY.out a0 ka, hX]; simp)
      refine wp_region_noPanic ?_
      refine wp_region_held_drew (S := fun x => Below wk.heap.size wk x ∧ x.cell? ⟨w.heap.size, 0, none⟩ = some (.int .u8 (k : Int)) ∧ x.cell? ⟨w.heap.size, 1, none⟩ = some (.int .u64 (a : Int)) ∧ x.cell? ⟨w.heap.size, 2, none⟩ = some (.int .u64 (b : Int)) ∧ x.cell? ⟨w.heap.size, 3, none⟩ = some (.string s)) (by kernel_rfl) (HSK.out _ (ride_drew (Below.refl _ _))) (fun hHeld => ?_)
      refine take_at (i := 0) (v := ?_) (some 11) rfl rfl (by kernel_rfl) (by kernel_rfl) (by kernel_rfl) (fun _ _ _ h => h) (Or.inl ⟨by rfl, ?_⟩) (by assumption) ?_
      rotate_left
      · intro w hSw
        obtain ⟨hSb, z0, z1, z2, z3⟩ := hSw
        first | (go_simp; done) | (go_simp; with_reducible rfl)
      try simp only [Act.put, List.setIfInBounds_toArray, List.set_cons_zero, List.set_cons_succ]
      refine take_at (i := 1) (v := ?_) (some 12) rfl rfl (by kernel_rfl) (by kernel_rfl) (by kernel_rfl) (fun _ _ _ h => h) (Or.inl ⟨by rfl, ?_⟩) (by assumption) ?_
      rotate_left
      · intro w hSw
        obtain ⟨hSb, z0, z1, z2, z3⟩ := hSw
        first | (go_simp; done) | (go_simp; with_reducible rfl)
      try simp only [Act.put, List.setIfInBounds_toArray, List.set_cons_zero, List.set_cons_succ]
      refine take_at (i := 2) (v := ?_) (some 13) rfl rfl (by kernel_rfl) (by kernel_rfl) (by kernel_rfl) (fun _ _ _ h => h) (Or.inl ⟨by rfl, ?_⟩) (by assumption) ?_
      rotate_left
      · intro w hSw
        obtain ⟨hSb, z0, z1, z2, z3⟩ := hSw
        first | (go_simp; done) | (go_simp; with_reducible rfl)
      try simp only [Act.put, List.setIfInBounds_toArray, List.set_cons_zero, List.set_cons_succ]
      refine take_at (i := 3) (v := ?_) (some 14) rfl rfl (by kernel_rfl) (by kernel_rfl) (by kernel_rfl) (fun _ _ _ h => h) (Or.inl ⟨by rfl, ?_⟩) (by assumption) ?_
      rotate_left
      · intro w hSw
        obtain ⟨hSb, z0, z1, z2, z3⟩ := hSw
        first | (go_simp; done) | (go_simp; with_reducible rfl)
      try simp only [Act.put, List.setIfInBounds_toArray, List.set_cons_zero, List.set_cons_succ]
      refine take_at (i := 5) (v := ?_) (some 16) rfl rfl (by kernel_rfl) (by kernel_rfl) (by kernel_rfl) (fun _ _ _ h => h) (Or.inl ⟨by rfl, ?_⟩) (by assumption) ?_
      rotate_left
      · intro w hSw
        obtain ⟨hSb, z0, z1, z2, z3⟩ := hSw
        first | (go_simp; done) | (go_simp; with_reducible rfl)
      try simp only [Act.put, List.setIfInBounds_toArray, List.set_cons_zero, List.set_cons_succ]
      refine take_at (i := 6) (v := ?_) (some 17) rfl rfl (by kernel_rfl) (by kernel_rfl) (by kernel_rfl) (fun _ _ _ h => h) (Or.inl ⟨by rfl, ?_⟩) (by assumption) ?_
      rotate_left
      · intro w hSw
        obtain ⟨hSb, z0, z1, z2, z3⟩ := hSw
        first | (go_simp; done) | (go_simp; with_reducible rfl)
      try simp only [Act.put, List.setIfInBounds_toArray, List.set_cons_zero, List.set_cons_succ]
      refine take_at (i := 7) (v := ?_) (some 18) rfl rfl (by kernel_rfl) (by kernel_rfl) (by kernel_rfl) (fun _ _ _ h => h) (Or.inl ⟨by rfl, ?_⟩) (by assumption) ?_
      rotate_left
      · intro w hSw
        obtain ⟨hSb, z0, z1, z2, z3⟩ := hSw
        first | (go_simp; done) | (go_simp; with_reducible rfl)
      try simp only [Act.put, List.setIfInBounds_toArray, List.set_cons_zero, List.set_cons_succ]
      refine wpAnyH_ready (rs := [4]) (by kernel_rfl) (by simp) ?_
      refine AllReadyH.cons rfl (fun K hK => ?_) AllReadyH.nil
      go_simp
      refine (unhide (HHA _)).mono ?_
      rintro e w' ⟨rfl, rfl⟩
      refine hK.out _ _ ?_ (fun hHeld2 => ?_)
      · exact hHeld
      clear hK K hHeld
      have hHeld := hHeld2
      clear hHeld2
      try simp only [Act.put, List.setIfInBounds_toArray, List.set_cons_zero, List.set_cons_succ]
      refine take_at (i := 8) (v := ?_) (some 19) rfl rfl (by kernel_rfl) (by kernel_rfl) (by kernel_rfl) (fun _ _ _ h => h) (Or.inl ⟨by rfl, ?_⟩) (by assumption) ?_
      rotate_left
      · intro w hSw
        obtain ⟨hSb, z0, z1, z2, z3⟩ := hSw
        first | (go_simp; done) | (go_simp; with_reducible rfl)
      try simp only [Act.put, List.setIfInBounds_toArray, List.set_cons_zero, List.set_cons_succ]
      refine take_at (i := 9) (v := ?_) (some 20) rfl rfl (by kernel_rfl) (by kernel_rfl) (by kernel_rfl) (fun _ _ _ h => h) (Or.inl ⟨by rfl, ?_⟩) (by assumption) ?_
      rotate_left
      · intro w hSw
        obtain ⟨hSb, z0, z1, z2, z3⟩ := hSw
        first | (go_simp; done) | (go_simp; with_reducible rfl)
      try simp only [Act.put, List.setIfInBounds_toArray, List.set_cons_zero, List.set_cons_succ]
      refine take_at (i := 10) (v := ?_) (some 21) rfl rfl (by kernel_rfl) (by kernel_rfl) (by kernel_rfl) (fun _ _ _ h => h) (Or.inl ⟨by rfl, ?_⟩) (by assumption) ?_
      rotate_left
      · intro w hSw
        obtain ⟨hSb, z0, z1, z2, z3⟩ := hSw
        first | (go_simp; done) | (go_simp; with_reducible rfl)
      try simp only [Act.put, List.setIfInBounds_toArray, List.set_cons_zero, List.set_cons_succ]
      refine take_at (i := 11) (v := undef) (some 22) rfl rfl (by kernel_rfl) (by kernel_rfl) (by kernel_rfl) (fun _ _ _ h => h) (Or.inr ⟨by rfl, rfl⟩) (by assumption) ?_
      try simp only [Act.put, List.setIfInBounds_toArray, List.set_cons_zero, List.set_cons_succ]
      refine take_at (i := 13) (v := undef) (some 24) rfl rfl (by kernel_rfl) (by kernel_rfl) (by kernel_rfl) (fun _ _ _ h => h) (Or.inr ⟨by rfl, rfl⟩) (by assumption) ?_
      try simp only [Act.put, List.setIfInBounds_toArray, List.set_cons_zero, List.set_cons_succ]
      refine take_at (i := 14) (v := undef) (some 25) rfl rfl (by kernel_rfl) (by kernel_rfl) (by kernel_rfl) (fun _ _ _ h => h) (Or.inr ⟨by rfl, rfl⟩) (by assumption) ?_
      try simp only [Act.put, List.setIfInBounds_toArray, List.set_cons_zero, List.set_cons_succ]
      refine take_at (i := 15) (v := undef) (some 26) rfl rfl (by kernel_rfl) (by kernel_rfl) (by kernel_rfl) (fun _ _ _ h => h) (Or.inr ⟨by rfl, rfl⟩) (by assumption) ?_
      try simp only [Act.put, List.setIfInBounds_toArray, List.set_cons_zero, List.set_cons_succ]
      refine take_at (i := 12) (v := undef) (some 23) rfl rfl (by kernel_rfl) (by kernel_rfl) (by kernel_rfl) (fun _ _ _ h => h) (Or.inr ⟨by rfl, rfl⟩) (by assumption) ?_
      try simp only [Act.put, List.setIfInBounds_toArray, List.set_cons_zero, List.set_cons_succ]
      refine take_at (i := 16) (v := undef) (some 27) rfl rfl (by kernel_rfl) (by kernel_rfl) (by kernel_rfl) (fun _ _ _ h => h) (Or.inr ⟨by rfl, rfl⟩) (by assumption) ?_
      try simp only [Act.put, List.setIfInBounds_toArray, List.set_cons_zero, List.set_cons_succ]
      refine take_at (i := 17) (v := ?_) (some 28) rfl rfl (by kernel_rfl) (by kernel_rfl) (by kernel_rfl) (fun _ _ _ h => h) (Or.inl ⟨by rfl, ?_⟩) (by assumption) ?_
      rotate_left
      · intro w hSw
        obtain ⟨hSb, z0, z1, z2, z3⟩ := hSw
        first | (go_simp; done) | (go_simp; with_reducible rfl)
      try simp only [Act.put, List.setIfInBounds_toArray, List.set_cons_zero, List.set_cons_succ]
      refine wpAnyH_done (by kernel_rfl) ?_ _
      refine NoPanic.normal ?_
      have hfin := HKB.out _ hHeld.1
      clear hHeld
      go_wp2
      go_ret
      exact ⟨by rw [hR.out]; rfl, hfin⟩
    · rcases hY : (kb == b0) with _ | _
      · have hR := Lib.hid (show rightO k a b (str s) = false by unfold rightO; rw [hka, hkb, HA0.out, HB0.out, HSY.out a0 ka, HSY.out b0 kb, hX, hY]; simp)
        refine wp_region_noPanic ?_
        refine wp_region_held_drew (S := fun x => Below wk.heap.size wk x ∧ x.cell? ⟨w.heap.size, 0, none⟩ = some (.int .u8 (k : Int)) ∧ x.cell? ⟨w.heap.size, 1, none⟩ = some (.int .u64 (a : Int)) ∧ x.cell? ⟨w.heap.size, 2, none⟩ = some (.int .u64 (b : Int)) ∧ x.cell? ⟨w.heap.size, 3, none⟩ = some (.string s)) (by kernel_rfl) (HSK.out _ (ride_drew (Below.refl _ _))) (fun hHeld => ?_)
        refine take_at (i := 0) (v := ?_) (some 11) rfl rfl (by kernel_rfl) (by kernel_rfl) (by kernel_rfl) (fun _ _ _ h => h) (Or.inl ⟨by rfl, ?_⟩) (by assumption) ?_
        rotate_left
        · intro w hSw
          obtain ⟨hSb, z0, z1, z2, z3⟩ := hSw
          first | (go_simp; done) | (go_simp; with_reducible rfl)
        try simp only [Act.put, List.setIfInBounds_toArray, List.set_cons_zero, List.set_cons_succ]
        refine take_at (i := 1) (v := ?_) (some 12) rfl rfl (by kernel_rfl) (by kernel_rfl) (by kernel_rfl) (fun _ _ _ h => h) (Or.inl ⟨by rfl, ?_⟩) (by assumption) ?_
        rotate_left
        · intro w hSw
          obtain ⟨hSb, z0, z1, z2, z3⟩ := hSw
          first | (go_simp; done) | (go_simp; with_reducible rfl)
        try simp only [Act.put, List.setIfInBounds_toArray, List.set_cons_zero, List.set_cons_succ]
        refine take_at (i := 2) (v := ?_) (some 13) rfl rfl (by kernel_rfl) (by kernel_rfl) (by kernel_rfl) (fun _ _ _ h => h) (Or.inl ⟨by rfl, ?_⟩) (by assumption) ?_
        rotate_left
        · intro w hSw
          obtain ⟨hSb, z0, z1, z2, z3⟩ := hSw
          first | (go_simp; done) | (go_simp; with_reducible rfl)
        try simp only [Act.put, List.setIfInBounds_toArray, List.set_cons_zero, List.set_cons_succ]
        refine take_at (i := 3) (v := ?_) (some 14) rfl rfl (by kernel_rfl) (by kernel_rfl) (by kernel_rfl) (fun _ _ _ h => h) (Or.inl ⟨by rfl, ?_⟩) (by assumption) ?_
        rotate_left
        · intro w hSw
          obtain ⟨hSb, z0, z1, z2, z3⟩ := hSw
          first | (go_simp; done) | (go_simp; with_reducible rfl)
        try simp only [Act.put, List.setIfInBounds_toArray, List.set_cons_zero, List.set_cons_succ]
        refine take_at (i := 5) (v := ?_) (some 16) rfl rfl (by kernel_rfl) (by kernel_rfl) (by kernel_rfl) (fun _ _ _ h => h) (Or.inl ⟨by rfl, ?_⟩) (by assumption) ?_
        rotate_left
        · intro w hSw
          obtain ⟨hSb, z0, z1, z2, z3⟩ := hSw
          first | (go_simp; done) | (go_simp; with_reducible rfl)
        try simp only [Act.put, List.setIfInBounds_toArray, List.set_cons_zero, List.set_cons_succ]
        refine take_at (i := 6) (v := ?_) (some 17) rfl rfl (by kernel_rfl) (by kernel_rfl) (by kernel_rfl) (fun _ _ _ h => h) (Or.inl ⟨by rfl, ?_⟩) (by assumption) ?_
        rotate_left
        · intro w hSw
          obtain ⟨hSb, z0, z1, z2, z3⟩ := hSw
          first | (go_simp; done) | (go_simp; with_reducible rfl)
        try simp only [Act.put, List.setIfInBounds_toArray, List.set_cons_zero, List.set_cons_succ]
        refine take_at (i := 7) (v := ?_) (some 18) rfl rfl (by kernel_rfl) (by kernel_rfl) (by kernel_rfl) (fun _ _ _ h => h) (Or.inl ⟨by rfl, ?_⟩) (by assumption) ?_
        rotate_left
        · intro w hSw
          obtain ⟨hSb, z0, z1, z2, z3⟩ := hSw
          first | (go_simp; done) | (go_simp; with_reducible rfl)
        try simp only [Act.put, List.setIfInBounds_toArray, List.set_cons_zero, List.set_cons_succ]
        refine wpAnyH_ready (rs := [4]) (by kernel_rfl) (by simp) ?_
        refine AllReadyH.cons rfl (fun K hK => ?_) AllReadyH.nil
        go_simp
        refine (unhide (HHA _)).mono ?_
        rintro e w' ⟨rfl, rfl⟩
        refine hK.out _ _ ?_ (fun hHeld2 => ?_)
        · exact hHeld
        clear hK K hHeld
        have hHeld := hHeld2
        clear hHeld2
        try simp only [Act.put, List.setIfInBounds_toArray, List.set_cons_zero, List.set_cons_succ]
        refine take_at (i := 8) (v := ?_) (some 19) rfl rfl (by kernel_rfl) (by kernel_rfl) (by kernel_rfl) (fun _ _ _ h => h) (Or.inl ⟨by rfl, ?_⟩) (by assumption) ?_
        rotate_left
        · intro w hSw
          obtain ⟨hSb, z0, z1, z2, z3⟩ := hSw
          first | (go_simp; done) | (go_simp; with_reducible rfl)
        try simp only [Act.put, List.setIfInBounds_toArray, List.set_cons_zero, List.set_cons_succ]
        refine take_at (i := 9) (v := ?_) (some 20) rfl rfl (by kernel_rfl) (by kernel_rfl) (by kernel_rfl) (fun _ _ _ h => h) (Or.inl ⟨by rfl, ?_⟩) (by assumption) ?_
        rotate_left
        · intro w hSw
          obtain ⟨hSb, z0, z1, z2, z3⟩ := hSw
          first | (go_simp; done) | (go_simp; with_reducible rfl)
        try simp only [Act.put, List.setIfInBounds_toArray, List.set_cons_zero, List.set_cons_succ]
        refine take_at (i := 10) (v := ?_) (some 21) rfl rfl (by kernel_rfl) (by kernel_rfl) (by kernel_rfl) (fun _ _ _ h => h) (Or.inl ⟨by rfl, ?_⟩) (by assumption) ?_
        rotate_left
        · intro w hSw
          obtain ⟨hSb, z0, z1, z2, z3⟩ := hSw
          first | (go_simp; done) | (go_simp; with_reducible rfl)
        try simp only [Act.put, List.setIfInBounds_toArray, List.set_cons_zero, List.set_cons_succ]
        refine take_at (i := 11) (v := ?_) (some 22) rfl rfl (by kernel_rfl) (by kernel_rfl) (by kernel_rfl) (fun _ _ _ h => h) (Or.inl ⟨by rfl, ?_⟩) (by assumption) ?_
        rotate_left
        · intro w hSw
          obtain ⟨hSb, z0, z1, z2, z3⟩ := hSw
          first | (go_simp; done) | (go_simp; with_reducible rfl)
        try simp only [Act.put, List.setIfInBounds_toArray, List.set_cons_zero, List.set_cons_succ]
        refine take_at (i := 13) (v := ?_) (some 24) rfl rfl (by kernel_rfl) (by kernel_rfl) (by kernel_rfl) (fun _ _ _ h => h) (Or.inl ⟨by rfl, ?_⟩) (by assumption) ?_
        rotate_left
        · intro w hSw
          obtain ⟨hSb, z0, z1, z2, z3⟩ := hSw
          first | (go_simp; done) | (go_simp; with_reducible rfl)
        try simp only [Act.put, List.setIfInBounds_toArray, List.set_cons_zero, List.set_cons_succ]
        refine take_at (i := 14) (v := ?_) (some 25) rfl rfl (by kernel_rfl) (by kernel_rfl) (by kernel_rfl) (fun _ _ _ h => h) (Or.inl ⟨by rfl, ?_⟩) (by assumption) ?_
        rotate_left
        · intro w hSw
          obtain ⟨hSb, z0, z1, z2, z3⟩ := hSw
          first | (go_simp; done) | (go_simp; with_reducible rfl)
        try simp only [Act.put, List.setIfInBounds_toArray, List.set_cons_zero, List.set_cons_succ]
        refine take_at (i := 15) (v := ?_) (some 26) rfl rfl (by kernel_rfl) (by kernel_rfl) (by kernel_rfl) (fun _ _ _ h => h) (Or.inl ⟨by rfl, ?_⟩) (by assumption) ?_
        rotate_left
        · intro w hSw
          obtain ⟨hSb, z0, z1, z2, z3⟩ := hSw
          first | (go_simp; done) | (go_simp; with_reducible rfl)
        try simp only [Act.put, List.setIfInBounds_toArray, List.set_cons_zero, List.set_cons_succ]
        refine wpAnyH_ready (rs := [12]) (by kernel_rfl) (by simp) ?_
        refine AllReadyH.cons rfl (fun K hK => ?_) AllReadyH.nil
        go_simp
        refine (unhide (HHB _)).mono ?_
        rintro e w' ⟨rfl, rfl⟩
        refine hK.out _ _ ?_ (fun hHeld2 => ?_)
        · exact hHeld
        clear hK K hHeld
        have hHeld := hHeld2
        clear hHeld2
        try simp only [Act.put, List.setIfInBounds_toArray, List.set_cons_zero, List.set_cons_succ]
        refine take_at (i := 16) (v := ?_) (some 27) rfl rfl (by kernel_rfl) (by kernel_rfl) (by kernel_rfl) (fun _ _ _ h => h) (Or.inl ⟨by rfl, ?_⟩) (by assumption) ?_
        rotate_left
        · intro w hSw
          obtain ⟨hSb, z0, z1, z2, z3⟩ := hSw
          first | (go_simp; done) | (go_simp; with_reducible rfl)
        try simp only [Act.put, List.setIfInBounds_toArray, List.set_cons_zero, List.set_cons_succ]
        refine take_at (i := 17) (v := ?_) (some 28) rfl rfl (by kernel_rfl) (by kernel_rfl) (by kernel_rfl) (fun _ _ _ h => h) (Or.inl ⟨by rfl, ?_⟩) (by assumption) ?_
        rotate_left
        · intro w hSw
          obtain ⟨hSb, z0, z1, z2, z3⟩ := hSw
          first | (go_simp; done) | (go_simp; with_reducible rfl)
        try simp only [Act.put, List.setIfInBounds_toArray, List.set_cons_zero, List.set_cons_succ]
        refine wpAnyH_done (by kernel_rfl) ?_ _
        refine NoPanic.normal ?_
        have hfin := HKB.out _ hHeld.1
        clear hHeld
        go_wp2
        go_ret
        exact ⟨by rw [hR.out]; rfl, hfin⟩
      · rcases kn with _ | _
        · have hR := Lib.hid (show rightO k a b (str s) = decide (str s = []) by unfold rightO; rw [hka, hkb, HA0.out, HB0.out, HSY.out a0 ka, HSY.out b0 kb, hX, hY, hkn, decide_eq_true HKK.out]; rfl)
          refine wp_region_noPanic ?_
          refine wp_region_held_drew (S := fun x => Below wk.heap.size wk x ∧ x.cell? ⟨w.heap.size, 0, none⟩ = some (.int .u8 (k : Int)) ∧ x.cell? ⟨w.heap.size, 1, none⟩ = some (.int .u64 (a : Int)) ∧ x.cell? ⟨w.heap.size, 2, none⟩ = some (.int .u64 (b : Int)) ∧ x.cell? ⟨w.heap.size, 3, none⟩ = some (.string s)) (by kernel_rfl) (HSK.out _ (ride_drew (Below.refl _ _))) (fun hHeld => ?_)
          refine take_at (i := 0) (v := ?_) (some 11) rfl rfl (by kernel_rfl) (by kernel_rfl) (by kernel_rfl) (fun _ _ _ h => h) (Or.inl ⟨by rfl, ?_⟩) (by assumption) ?_
          rotate_left
          · intro w hSw
            obtain ⟨hSb, z0, z1, z2, z3⟩ := hSw
            first | (go_simp; done) | (go_simp; with_reducible rfl)
          try simp only [Act.put, List.setIfInBounds_toArray, List.set_cons_zero, List.set_cons_succ]
          refine take_at (i := 1) (v := ?_) (some 12) rfl rfl (by kernel_rfl) (by kernel_rfl) (by kernel_rfl) (fun _ _ _ h => h) (Or.inl ⟨by rfl, ?_⟩) (by assumption) ?_
          rotate_left
          · intro w hSw
            obtain ⟨hSb, z0, z1, z2, z3⟩ := hSw
            first | (go_simp; done) | (go_simp; with_reducible rfl)
          try simp only [Act.put, List.setIfInBounds_toArray, List.set_cons_zero, List.set_cons_succ]
          refine take_at (i := 2) (v := ?_) (some 13) rfl rfl (by kernel_rfl) (by kernel_rfl) (by kernel_rfl) (fun _ _ _ h => h) (Or.inl ⟨by rfl, ?_⟩) (by assumption) ?_
          rotate_left
          · intro w hSw
            obtain ⟨hSb, z0, z1, z2, z3⟩ := hSw
            first | (go_simp; done) | (go_simp; with_reducible rfl)
          try simp only [Act.put, List.setIfInBounds_toArray, List.set_cons_zero, List.set_cons_succ]
          refine take_at (i := 3) (v := ?_) (some 14) rfl rfl (by kernel_rfl) (by kernel_rfl) (by kernel_rfl) (fun _ _ _ h => h) (Or.inl ⟨by rfl, ?_⟩) (by assumption) ?_
          rotate_left
          · intro w hSw
            obtain ⟨hSb, z0, z1, z2, z3⟩ := hSw
            first | (go_simp; done) | (go_simp; with_reducible rfl)
          try simp only [Act.put, List.setIfInBounds_toArray, List.set_cons_zero, List.set_cons_succ]
          refine take_at (i := 5) (v := ?_) (some 16) rfl rfl (by kernel_rfl) (by kernel_rfl) (by kernel_rfl) (fun _ _ _ h => h) (Or.inl ⟨by rfl, ?_⟩) (by assumption) ?_
          rotate_left
          · intro w hSw
            obtain ⟨hSb, z0, z1, z2, z3⟩ := hSw
            first | (go_simp; done) | (go_simp; with_reducible rfl)
          try simp only [Act.put, List.setIfInBounds_toArray, List.set_cons_zero, List.set_cons_succ]
          refine take_at (i := 6) (v := ?_) (some 17) rfl rfl (by kernel_rfl) (by kernel_rfl) (by kernel_rfl) (fun _ _ _ h => h) (Or.inl ⟨by rfl, ?_⟩) (by assumption) ?_
          rotate_left
          · intro w hSw
            obtain ⟨hSb, z0, z1, z2, z3⟩ := hSw
            first | (go_simp; done) | (go_simp; with_reducible rfl)
          try simp only [Act.put, List.setIfInBounds_toArray, List.set_cons_zero, List.set_cons_succ]
          refine take_at (i := 7) (v := ?_) (some 18) rfl rfl (by kernel_rfl) (by kernel_rfl) (by kernel_rfl) (fun _ _ _ h => h) (Or.inl ⟨by rfl, ?_⟩) (by assumption) ?_
          rotate_left
          · intro w hSw
            obtain ⟨hSb, z0, z1, z2, z3⟩ := hSw
            first | (go_simp; done) | (go_simp; with_reducible rfl)
          try simp only [Act.put, List.setIfInBounds_toArray, List.set_cons_zero, List.set_cons_succ]
          refine wpAnyH_ready (rs := [4]) (by kernel_rfl) (by simp) ?_
          refine AllReadyH.cons rfl (fun K hK => ?_) AllReadyH.nil
          go_simp
          refine (unhide (HHA _)).mono ?_
          rintro e w' ⟨rfl, rfl⟩
          refine hK.out _ _ ?_ (fun hHeld2 => ?_)
          · exact hHeld
          clear hK K hHeld
          have hHeld := hHeld2
          clear hHeld2
          try simp only [Act.put, List.setIfInBounds_toArray, List.set_cons_zero, List.set_cons_succ]
          refine take_at (i := 8) (v := ?_) (some 19) rfl rfl (by kernel_rfl) (by kernel_rfl) (by kernel_rfl) (fun _ _ _ h => h) (Or.inl ⟨by rfl, ?_⟩) (by assumption) ?_
          rotate_left
          · intro w hSw
            obtain ⟨hSb, z0, z1, z2, z3⟩ := hSw
            first | (go_simp; done) | (go_simp; with_reducible rfl)
          try simp only [Act.put, List.setIfInBounds_toArray, List.set_cons_zero, List.set_cons_succ]
          refine take_at (i := 9) (v := ?_) (some 20) rfl rfl (by kernel_rfl) (by kernel_rfl) (by kernel_rfl) (fun _ _ _ h => h) (Or.inl ⟨by rfl, ?_⟩) (by assumption) ?_
          rotate_left
          · intro w hSw
            obtain ⟨hSb, z0, z1, z2, z3⟩ := hSw
            first | (go_simp; done) | (go_simp; with_reducible rfl)
          try simp only [Act.put, List.setIfInBounds_toArray, List.set_cons_zero, List.set_cons_succ]
          refine take_at (i := 10) (v := ?_) (some 21) rfl rfl (by kernel_rfl) (by kernel_rfl) (by kernel_rfl) (fun _ _ _ h => h) (Or.inl ⟨by rfl, ?_⟩) (by assumption) ?_
          rotate_left
          · intro w hSw
            obtain ⟨hSb, z0, z1, z2, z3⟩ := hSw
            first | (go_simp; done) | (go_simp; with_reducible rfl)
          try simp only [Act.put, List.setIfInBounds_toArray, List.set_cons_zero, List.set_cons_succ]
          refine take_at (i := 11) (v := ?_) (some 22) rfl rfl (by kernel_rfl) (by kernel_rfl) (by kernel_rfl) (fun _ _ _ h => h) (Or.inl ⟨by rfl, ?_⟩) (by assumption) ?_
          rotate_left
          · intro w hSw
            obtain ⟨hSb, z0, z1, z2, z3⟩ := hSw
            first | (go_simp; done) | (go_simp; with_reducible rfl)
          try simp only [Act.put, List.setIfInBounds_toArray, List.set_cons_zero, List.set_cons_succ]
          refine take_at (i := 13) (v := ?_) (some 24) rfl rfl (by kernel_rfl) (by kernel_rfl) (by kernel_rfl) (fun _ _ _ h => h) (Or.inl ⟨by rfl, ?_⟩) (by assumption) ?_
          rotate_left
          · intro w hSw
            obtain ⟨hSb, z0, z1, z2, z3⟩ := hSw
            first | (go_simp; done) | (go_simp; with_reducible rfl)
          try simp only [Act.put, List.setIfInBounds_toArray, List.set_cons_zero, List.set_cons_succ]
          refine take_at (i := 14) (v := ?_) (some 25) rfl rfl (by kernel_rfl) (by kernel_rfl) (by kernel_rfl) (fun _ _ _ h => h) (Or.inl ⟨by rfl, ?_⟩) (by assumption) ?_
          rotate_left
          · intro w hSw
            obtain ⟨hSb, z0, z1, z2, z3⟩ := hSw
            first | (go_simp; done) | (go_simp; with_reducible rfl)
          try simp only [Act.put, List.setIfInBounds_toArray, List.set_cons_zero, List.set_cons_succ]
          refine take_at (i := 15) (v := ?_) (some 26) rfl rfl (by kernel_rfl) (by kernel_rfl) (by kernel_rfl) (fun _ _ _ h => h) (Or.inl ⟨by rfl, ?_⟩) (by assumption) ?_
          rotate_left
          · intro w hSw
            obtain ⟨hSb, z0, z1, z2, z3⟩ := hSw
            first | (go_simp; done) | (go_simp; with_reducible rfl)
          try simp only [Act.put, List.setIfInBounds_toArray, List.set_cons_zero, List.set_cons_succ]
          refine wpAnyH_ready (rs := [12]) (by kernel_rfl) (by simp) ?_
          refine AllReadyH.cons rfl (fun K hK => ?_) AllReadyH.nil
          go_simp
          refine (unhide (HHB _)).mono ?_
          rintro e w' ⟨rfl, rfl⟩
          refine hK.out _ _ ?_ (fun hHeld2 => ?_)
          · exact hHeld
          clear hK K hHeld
          have hHeld := hHeld2
          clear hHeld2
          try simp only [Act.put, List.setIfInBounds_toArray, List.set_cons_zero, List.set_cons_succ]
          refine take_at (i := 16) (v := ?_) (some 27) rfl rfl (by kernel_rfl) (by kernel_rfl) (by kernel_rfl) (fun _ _ _ h => h) (Or.inl ⟨by rfl, ?_⟩) (by assumption) ?_
          rotate_left
          · intro w hSw
            obtain ⟨hSb, z0, z1, z2, z3⟩ := hSw
            first | (go_simp; done) | (go_simp; with_reducible rfl)
          try simp only [Act.put, List.setIfInBounds_toArray, List.set_cons_zero, List.set_cons_succ]
          refine take_at (i := 17) (v := ?_) (some 28) rfl rfl (by kernel_rfl) (by kernel_rfl) (by kernel_rfl) (fun _ _ _ h => h) (Or.inl ⟨by rfl, ?_⟩) (by assumption) ?_
          rotate_left
          · intro w hSw
            obtain ⟨hSb, z0, z1, z2, z3⟩ := hSw
            first | (go_simp; done) | (go_simp; with_reducible rfl)
          try simp only [Act.put, List.setIfInBounds_toArray, List.set_cons_zero, List.set_cons_succ]
          refine wpAnyH_done (by kernel_rfl) ?_ _
          refine NoPanic.normal ?_
          have hfin := HKB.out _ hHeld.1
          obtain ⟨z0, z1, z2, z3⟩ := hHeld.2
          clear hHeld
          go_wp2_with (first
            | (go_at_call 20; (with_reducible refine (unhide (HHN _)).mono ?_); rintro e w8 ⟨rfl, rfl⟩)
            | (go_at_call 21; (with_reducible refine (unhide (HNM _)).mono ?_); rintro e w9 ⟨rfl, hb9⟩; go_loud (
                have HB9 := Lib.hid (ridec hb9 hfin);
                clear hb9)))
          go_ret
          exact ⟨by rw [hR.out, ← nil_str]; rfl, hfin⟩
        · have hR := Lib.hid (show rightO k a b (str s) = isNm (str s) by unfold rightO; rw [hka, hkb, HA0.out, HB0.out, HSY.out a0 ka, HSY.out b0 kb, hX, hY, hkn, decide_eq_true HKK.out]; rfl)
          refine wp_region_noPanic ?_
          refine wp_region_held_drew (S := fun x => Below wk.heap.size wk x ∧ x.cell? ⟨w.heap.size, 0, none⟩ = some (.int .u8 (k : Int)) ∧ x.cell? ⟨w.heap.size, 1, none⟩ = some (.int .u64 (a : Int)) ∧ x.cell? ⟨w.heap.size, 2, none⟩ = some (.int .u64 (b : Int)) ∧ x.cell? ⟨w.heap.size, 3, none⟩ = some (.string s)) (by kernel_rfl) (HSK.out _ (ride_drew (Below.refl _ _))) (fun hHeld => ?_)
          refine take_at (i := 0) (v := ?_) (some 11) rfl rfl (by kernel_rfl) (by kernel_rfl) (by kernel_rfl) (fun _ _ _ h => h) (Or.inl ⟨by rfl, ?_⟩) (by assumption) ?_
          rotate_left
          · intro w hSw
            obtain ⟨hSb, z0, z1, z2, z3⟩ := hSw
            first | (go_simp; done) | (go_simp; with_reducible rfl)
          try simp only [Act.put, List.setIfInBounds_toArray, List.set_cons_zero, List.set_cons_succ]
          refine take_at (i := 1) (v := ?_) (some 12) rfl rfl (by kernel_rfl) (by kernel_rfl) (by kernel_rfl) (fun _ _ _ h => h) (Or.inl ⟨by rfl, ?_⟩) (by assumption) ?_
          rotate_left
          · intro w hSw
            obtain ⟨hSb, z0, z1, z2, z3⟩ := hSw
            first | (go_simp; done) | (go_simp; with_reducible rfl)
          try simp only [Act.put, List.setIfInBounds_toArray, List.set_cons_zero, List.set_cons_succ]
          refine take_at (i := 2) (v := ?_) (some 13) rfl rfl (by kernel_rfl) (by kernel_rfl) (by kernel_rfl) (fun _ _ _ h => h) (Or.inl ⟨by rfl, ?_⟩) (by assumption) ?_
          rotate_left
          · intro w hSw
            obtain ⟨hSb, z0, z1, z2, z3⟩ := hSw
            first | (go_simp; done) | (go_simp; with_reducible rfl)
          try simp only [Act.put, List.setIfInBounds_toArray, List.set_cons_zero, List.set_cons_succ]
          refine take_at (i := 3) (v := ?_) (some 14) rfl rfl (by kernel_rfl) (by kernel_rfl) (by kernel_rfl) (fun _ _ _ h => h) (Or.inl ⟨by rfl, ?_⟩) (by assumption) ?_
          rotate_left
          · intro w hSw
            obtain ⟨hSb, z0, z1, z2, z3⟩ := hSw
            first | (go_simp; done) | (go_simp; with_reducible rfl)
          try simp only [Act.put, List.setIfInBounds_toArray, List.set_cons_zero, List.set_cons_succ]
          refine take_at (i := 5) (v := ?_) (some 16) rfl rfl (by kernel_rfl) (by kernel_rfl) (by kernel_rfl) (fun _ _ _ h => h) (Or.inl ⟨by rfl, ?_⟩) (by assumption) ?_
          rotate_left
          · intro w hSw
            obtain ⟨hSb, z0, z1, z2, z3⟩ := hSw
            first | (go_simp; done) | (go_simp; with_reducible rfl)
          try simp only [Act.put, List.setIfInBounds_toArray, List.set_cons_zero, List.set_cons_succ]
          refine take_at (i := 6) (v := ?_) (some 17) rfl rfl (by kernel_rfl) (by kernel_rfl) (by kernel_rfl) (fun _ _ _ h => h) (Or.inl ⟨by rfl, ?_⟩) (by assumption) ?_
          rotate_left
          · intro w hSw
            obtain ⟨hSb, z0, z1, z2, z3⟩ := hSw
            first | (go_simp; done) | (go_simp; with_reducible rfl)
          try simp only [Act.put, List.setIfInBounds_toArray, List.set_cons_zero, List.set_cons_succ]
          refine take_at (i := 7) (v := ?_) (some 18) rfl rfl (by kernel_rfl) (by kernel_rfl) (by kernel_rfl) (fun _ _ _ h => h) (Or.inl ⟨by rfl, ?_⟩) (by assumption) ?_
          rotate_left
          · intro w hSw
            obtain ⟨hSb, z0, z1, z2, z3⟩ := hSw
            first | (go_simp; done) | (go_simp; with_reducible rfl)
          try simp only [Act.put, List.setIfInBounds_toArray, List.set_cons_zero, List.set_cons_succ]
          refine wpAnyH_ready (rs := [4]) (by kernel_rfl) (by simp) ?_
          refine AllReadyH.cons rfl (fun K hK => ?_) AllReadyH.nil
          go_simp
          refine (unhide (HHA _)).mono ?_
          rintro e w' ⟨rfl, rfl⟩
          refine hK.out _ _ ?_ (fun hHeld2 => ?_)
          · exact hHeld
          clear hK K hHeld
          have hHeld := hHeld2
          clear hHeld2
          try simp only [Act.put, List.setIfInBounds_toArray, List.set_cons_zero, List.set_cons_succ]
          refine take_at (i := 8) (v := ?_) (some 19) rfl rfl (by kernel_rfl) (by kernel_rfl) (by kernel_rfl) (fun _ _ _ h => h) (Or.inl ⟨by rfl, ?_⟩) (by assumption) ?_
          rotate_left
          · intro w hSw
            obtain ⟨hSb, z0, z1, z2, z3⟩ := hSw
            first | (go_simp; done) | (go_simp; with_reducible rfl)
          try simp only [Act.put, List.setIfInBounds_toArray, List.set_cons_zero, List.set_cons_succ]
          refine take_at (i := 9) (v := ?_) (some 20) rfl rfl (by kernel_rfl) (by kernel_rfl) (by kernel_rfl) (fun _ _ _ h => h) (Or.inl ⟨by rfl, ?_⟩) (by assumption) ?_
          rotate_left
          · intro w hSw
            obtain ⟨hSb, z0, z1, z2, z3⟩ := hSw
            first | (go_simp; done) | (go_simp; with_reducible rfl)
          try simp only [Act.put, List.setIfInBounds_toArray, List.set_cons_zero, List.set_cons_succ]
          refine take_at (i := 10) (v := ?_) (some 21) rfl rfl (by kernel_rfl) (by kernel_rfl) (by kernel_rfl) (fun _ _ _ h => h) (Or.inl ⟨by rfl, ?_⟩) (by assumption) ?_
          rotate_left
          · intro w hSw
            obtain ⟨hSb, z0, z1, z2, z3⟩ := hSw
            first | (go_simp; done) | (go_simp; with_reducible rfl)
          try simp only [Act.put, List.setIfInBounds_toArray, List.set_cons_zero, List.set_cons_succ]
          refine take_at (i := 11) (v := ?_) (some 22) rfl rfl (by kernel_rfl) (by kernel_rfl) (by kernel_rfl) (fun _ _ _ h => h) (Or.inl ⟨by rfl, ?_⟩) (by assumption) ?_
          rotate_left
          · intro w hSw
            obtain ⟨hSb, z0, z1, z2, z3⟩ := hSw
            first | (go_simp; done) | (go_simp; with_reducible rfl)
          try simp only [Act.put, List.setIfInBounds_toArray, List.set_cons_zero, List.set_cons_succ]
          refine take_at (i := 13) (v := ?_) (some 24) rfl rfl (by kernel_rfl) (by kernel_rfl) (by kernel_rfl) (fun _ _ _ h => h) (Or.inl ⟨by rfl, ?_⟩) (by assumption) ?_
          rotate_left
          · intro w hSw
            obtain ⟨hSb, z0, z1, z2, z3⟩ := hSw
            first | (go_simp; done) | (go_simp; with_reducible rfl)
          try simp only [Act.put, List.setIfInBounds_toArray, List.set_cons_zero, List.set_cons_succ]
          refine take_at (i := 14) (v := ?_) (some 25) rfl rfl (by kernel_rfl) (by kernel_rfl) (by kernel_rfl) (fun _ _ _ h => h) (Or.inl ⟨by rfl, ?_⟩) (by assumption) ?_
          rotate_left
          · intro w hSw
            obtain ⟨hSb, z0, z1, z2, z3⟩ := hSw
            first | (go_simp; done) | (go_simp; with_reducible rfl)
          try simp only [Act.put, List.setIfInBounds_toArray, List.set_cons_zero, List.set_cons_succ]
          refine take_at (i := 15) (v := ?_) (some 26) rfl rfl (by kernel_rfl) (by kernel_rfl) (by kernel_rfl) (fun _ _ _ h => h) (Or.inl ⟨by rfl, ?_⟩) (by assumption) ?_
          rotate_left
          · intro w hSw
            obtain ⟨hSb, z0, z1, z2, z3⟩ := hSw
            first | (go_simp; done) | (go_simp; with_reducible rfl)
          try simp only [Act.put, List.setIfInBounds_toArray, List.set_cons_zero, List.set_cons_succ]
          refine wpAnyH_ready (rs := [12]) (by kernel_rfl) (by simp) ?_
          refine AllReadyH.cons rfl (fun K hK => ?_) AllReadyH.nil
          go_simp
          refine (unhide (HHB _)).mono ?_
          rintro e w' ⟨rfl, rfl⟩
          refine hK.out _ _ ?_ (fun hHeld2 => ?_)
          · exact hHeld
          clear hK K hHeld
          have hHeld := hHeld2
          clear hHeld2
          try simp only [Act.put, List.setIfInBounds_toArray, List.set_cons_zero, List.set_cons_succ]
          refine take_at (i := 16) (v := ?_) (some 27) rfl rfl (by kernel_rfl) (by kernel_rfl) (by kernel_rfl) (fun _ _ _ h => h) (Or.inl ⟨by rfl, ?_⟩) (by assumption) ?_
          rotate_left
          · intro w hSw
            obtain ⟨hSb, z0, z1, z2, z3⟩ := hSw
            first | (go_simp; done) | (go_simp; with_reducible rfl)
          try simp only [Act.put, List.setIfInBounds_toArray, List.set_cons_zero, List.set_cons_succ]
          refine take_at (i := 17) (v := ?_) (some 28) rfl rfl (by kernel_rfl) (by kernel_rfl) (by kernel_rfl) (fun _ _ _ h => h) (Or.inl ⟨by rfl, ?_⟩) (by assumption) ?_
          rotate_left
          · intro w hSw
            obtain ⟨hSb, z0, z1, z2, z3⟩ := hSw
            first | (go_simp; done) | (go_simp; with_reducible rfl)
          try simp only [Act.put, List.setIfInBounds_toArray, List.set_cons_zero, List.set_cons_succ]
          refine wpAnyH_done (by kernel_rfl) ?_ _
          refine NoPanic.normal ?_
          have hfin := HKB.out _ hHeld.1
          obtain ⟨z0, z1, z2, z3⟩ := hHeld.2
          clear hHeld
          go_wp2_with (first
            | (go_at_call 20; (with_reducible refine (unhide (HHN _)).mono ?_); rintro e w8 ⟨rfl, rfl⟩)
            | (go_at_call 21; (with_reducible refine (unhide (HNM _)).mono ?_); rintro e w9 ⟨rfl, hb9⟩; go_loud (
                have HB9 := Lib.hid (ridec hb9 hfin);
                clear hb9)))
          go_ret
          exact ⟨by rw [hR.out]; rfl, HB9.out⟩
  · have hw0 := word_none hkk
    have hws : ((ba (wordK k)).toList == []) = true := by rw [hw0, Lib.toList_data]; rfl
    have hR := Lib.hid (show rightO k a b (str s) = false by unfold rightO; rw [decide_eq_false hkk]; simp)
    clear hkk hw0
    refine wp_region_noPanic ?_
    refine wp_region_held_drew (S := fun x => Below wk.heap.size wk x ∧ x.cell? ⟨w.heap.size, 0, none⟩ = some (.int .u8 (k : Int)) ∧ x.cell? ⟨w.heap.size, 1, none⟩ = some (.int .u64 (a : Int)) ∧ x.cell? ⟨w.heap.size, 2, none⟩ = some (.int .u64 (b : Int)) ∧ x.cell? ⟨w.heap.size, 3, none⟩ = some (.string s)) (by kernel_rfl) (HSK.out _ (ride_drew (Below.refl _ _))) (fun hHeld => ?_)
    refine take_at (i := 0) (v := ?_) (some 11) rfl rfl (by kernel_rfl) (by kernel_rfl) (by kernel_rfl) (fun _ _ _ h => h) (Or.inl ⟨by rfl, ?_⟩) (by assumption) ?_
    rotate_left
    · intro w hSw
      obtain ⟨hSb, z0, z1, z2, z3⟩ := hSw
      first | (go_simp; done) | (go_simp; with_reducible rfl)
    try simp only [Act.put, List.setIfInBounds_toArray, List.set_cons_zero, List.set_cons_succ]
    refine take_at (i := 1) (v := ?_) (some 12) rfl rfl (by kernel_rfl) (by kernel_rfl) (by kernel_rfl) (fun _ _ _ h => h) (Or.inl ⟨by rfl, ?_⟩) (by assumption) ?_
    rotate_left
    · intro w hSw
      obtain ⟨hSb, z0, z1, z2, z3⟩ := hSw
      first | (go_simp; done) | (go_simp; with_reducible rfl)
    try simp only [Act.put, List.setIfInBounds_toArray, List.set_cons_zero, List.set_cons_succ]
    refine take_at (i := 2) (v := ?_) (some 13) rfl rfl (by kernel_rfl) (by kernel_rfl) (by kernel_rfl) (fun _ _ _ h => h) (Or.inl ⟨by rfl, ?_⟩) (by assumption) ?_
    rotate_left
    · intro w hSw
      obtain ⟨hSb, z0, z1, z2, z3⟩ := hSw
      first | (go_simp; done) | (go_simp; with_reducible rfl)
    try simp only [Act.put, List.setIfInBounds_toArray, List.set_cons_zero, List.set_cons_succ]
    refine take_at (i := 3) (v := undef) (some 14) rfl rfl (by kernel_rfl) (by kernel_rfl) (by kernel_rfl) (fun _ _ _ h => h) (Or.inr ⟨by rfl, rfl⟩) (by assumption) ?_
    try simp only [Act.put, List.setIfInBounds_toArray, List.set_cons_zero, List.set_cons_succ]
    refine take_at (i := 5) (v := undef) (some 16) rfl rfl (by kernel_rfl) (by kernel_rfl) (by kernel_rfl) (fun _ _ _ h => h) (Or.inr ⟨by rfl, rfl⟩) (by assumption) ?_
    try simp only [Act.put, List.setIfInBounds_toArray, List.set_cons_zero, List.set_cons_succ]
    refine take_at (i := 6) (v := undef) (some 17) rfl rfl (by kernel_rfl) (by kernel_rfl) (by kernel_rfl) (fun _ _ _ h => h) (Or.inr ⟨by rfl, rfl⟩) (by assumption) ?_
    try simp only [Act.put, List.setIfInBounds_toArray, List.set_cons_zero, List.set_cons_succ]
    refine take_at (i := 7) (v := undef) (some 18) rfl rfl (by kernel_rfl) (by kernel_rfl) (by kernel_rfl) (fun _ _ _ h => h) (Or.inr ⟨by rfl, rfl⟩) (by assumption) ?_
    try simp only [Act.put, List.setIfInBounds_toArray, List.set_cons_zero, List.set_cons_succ]
    refine take_at (i := 4) (v := undef) (some 15) rfl rfl (by kernel_rfl) (by kernel_rfl) (by kernel_rfl) (fun _ _ _ h => h) (Or.inr ⟨by rfl, rfl⟩) (by assumption) ?_
    try simp only [Act.put, List.setIfInBounds_toArray, List.set_cons_zero, List.set_cons_succ]
    refine take_at (i := 8) (v := undef) (some 19) rfl rfl (by kernel_rfl) (by kernel_rfl) (by kernel_rfl) (fun _ _ _ h => h) (Or.inr ⟨by rfl, rfl⟩) (by assumption) ?_
    try simp only [Act.put, List.setIfInBounds_toArray, List.set_cons_zero, List.set_cons_succ]
    refine take_at (i := 9) (v := ?_) (some 20) rfl rfl (by kernel_rfl) (by kernel_rfl) (by kernel_rfl) (fun _ _ _ h => h) (Or.inl ⟨by rfl, ?_⟩) (by assumption) ?_
    rotate_left
    · intro w hSw
      obtain ⟨hSb, z0, z1, z2, z3⟩ := hSw
      first | (go_simp; done) | (go_simp; with_reducible rfl)
    try simp only [Act.put, List.setIfInBounds_toArray, List.set_cons_zero, List.set_cons_succ]
    refine take_at (i := 10) (v := ?_) (some 21) rfl rfl (by kernel_rfl) (by kernel_rfl) (by kernel_rfl) (fun _ _ _ h => h) (Or.inl ⟨by rfl, ?_⟩) (by assumption) ?_
    rotate_left
    · intro w hSw
      obtain ⟨hSb, z0, z1, z2, z3⟩ := hSw
      first | (go_simp; done) | (go_simp; with_reducible rfl)
    try simp only [Act.put, List.setIfInBounds_toArray, List.set_cons_zero, List.set_cons_succ]
    refine take_at (i := 11) (v := undef) (some 22) rfl rfl (by kernel_rfl) (by kernel_rfl) (by kernel_rfl) (fun _ _ _ h => h) (Or.inr ⟨by rfl, rfl⟩) (by assumption) ?_
    try simp only [Act.put, List.setIfInBounds_toArray, List.set_cons_zero, List.set_cons_succ]
    refine take_at (i := 13) (v := undef) (some 24) rfl rfl (by kernel_rfl) (by kernel_rfl) (by kernel_rfl) (fun _ _ _ h => h) (Or.inr ⟨by rfl, rfl⟩) (by assumption) ?_
    try simp only [Act.put, List.setIfInBounds_toArray, List.set_cons_zero, List.set_cons_succ]
    refine take_at (i := 14) (v := undef) (some 25) rfl rfl (by kernel_rfl) (by kernel_rfl) (by kernel_rfl) (fun _ _ _ h => h) (Or.inr ⟨by rfl, rfl⟩) (by assumption) ?_
    try simp only [Act.put, List.setIfInBounds_toArray, List.set_cons_zero, List.set_cons_succ]
    refine take_at (i := 15) (v := undef) (some 26) rfl rfl (by kernel_rfl) (by kernel_rfl) (by kernel_rfl) (fun _ _ _ h => h) (Or.inr ⟨by rfl, rfl⟩) (by assumption) ?_
    try simp only [Act.put, List.setIfInBounds_toArray, List.set_cons_zero, List.set_cons_succ]
    refine take_at (i := 12) (v := undef) (some 23) rfl rfl (by kernel_rfl) (by kernel_rfl) (by kernel_rfl) (fun _ _ _ h => h) (Or.inr ⟨by rfl, rfl⟩) (by assumption) ?_
    try simp only [Act.put, List.setIfInBounds_toArray, List.set_cons_zero, List.set_cons_succ]
    refine take_at (i := 16) (v := undef) (some 27) rfl rfl (by kernel_rfl) (by kernel_rfl) (by kernel_rfl) (fun _ _ _ h => h) (Or.inr ⟨by rfl, rfl⟩) (by assumption) ?_
    try simp only [Act.put, List.setIfInBounds_toArray, List.set_cons_zero, List.set_cons_succ]
    refine take_at (i := 17) (v := ?_) (some 28) rfl rfl (by kernel_rfl) (by kernel_rfl) (by kernel_rfl) (fun _ _ _ h => h) (Or.inl ⟨by rfl, ?_⟩) (by assumption) ?_
    rotate_left
    · intro w hSw
      obtain ⟨hSb, z0, z1, z2, z3⟩ := hSw
      first | (go_simp; done) | (go_simp; with_reducible rfl)
    try simp only [Act.put, List.setIfInBounds_toArray, List.set_cons_zero, List.set_cons_succ]
    refine wpAnyH_done (by kernel_rfl) ?_ _
    refine NoPanic.normal ?_
    have hfin := HKB.out _ hHeld.1
    clear hHeld
    go_wp2
    go_ret
    exact ⟨by rw [hR.out]; rfl, hfin⟩
end Go.Proofs.YtfnobibjphnmdaaGreatDoor
