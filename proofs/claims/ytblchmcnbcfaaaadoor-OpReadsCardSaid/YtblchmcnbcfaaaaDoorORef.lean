/- Contracts: the reference's kinds, and what each has. -/
import Derived.Test.YtblchmcnbcfaaaaDoorOAwake
import Derived.Test.YtblchmcnbcfaaaaDoorKRows
namespace Go.Proofs.YtblchmcnbcfaaaaDoor
open Go.RowKit
set_option linter.unusedVariables false
set_option linter.unusedSimpArgs false
def kindsB : List ByteArray := [⟨#[114, 101, 110, 97, 109, 101, 45, 109, 111, 100, 117, 108, 101, 32, 65, 78]⟩, ⟨#[114, 101, 110, 97, 109, 101, 45, 102, 117, 110, 99, 32, 65, 78]⟩, ⟨#[114, 101, 110, 97, 109, 101, 45, 112, 97, 114, 97, 109, 32, 65, 78]⟩, ⟨#[114, 101, 110, 97, 109, 101, 45, 108, 101, 116, 32, 65, 78]⟩, ⟨#[109, 111, 118, 101, 45, 102, 117, 110, 99, 32, 65, 66]⟩, ⟨#[101, 120, 116, 114, 97, 99, 116, 45, 108, 101, 116, 32, 65, 78]⟩, ⟨#[105, 110, 108, 105, 110, 101, 45, 108, 101, 116, 32, 65]⟩, ⟨#[101, 120, 116, 114, 97, 99, 116, 45, 102, 117, 110, 99, 32, 65, 66, 78]⟩, ⟨#[105, 110, 108, 105, 110, 101, 45, 99, 97, 108, 108, 32, 65]⟩, ⟨#[97, 100, 100, 45, 109, 111, 100, 117, 108, 101, 32, 78]⟩, ⟨#[100, 114, 111, 112, 45, 109, 111, 100, 117, 108, 101, 32, 65]⟩, ⟨#[100, 114, 111, 112, 45, 102, 117, 110, 99, 32, 65]⟩, ⟨#[102, 108, 105, 112, 45, 105, 102, 32, 65]⟩, ⟨#[115, 119, 97, 112, 45, 112, 97, 114, 116, 115, 32, 65]⟩]
def flagsK (k : Nat) : List Nat := if 1 ≤ k ∧ k ≤ 14 then (if aK k then [65] else []) ++ (if bK k then [66] else []) ++ (if nK k then [78] else []) else []
def lineK (k : Nat) : List Nat := wordK k ++ 32 :: flagsK k
theorem kindsB_str : ∀ j, j < 14 → (kindsB[j]?).map str = some (lineK (j + 1)) := by decide
theorem lineK_len : ∀ j, j < 14 → (lineK (j + 1)).length ≤ 20 := by decide
theorem lineK_byte : ∀ j, j < 14 → ∀ b ∈ lineK (j + 1), b < 256 := by decide
set_option maxRecDepth 100000 in
set_option maxHeartbeats 1000000 in
theorem kinds_any (w : World) : Calls Tryd.prog 21 #[] w fun e w' => ∃ v, e = .returned v ∧ SRow w w' v kindsB := by
  go_enter Tryd.func21, Tryd.ntmps21
  go_wp2
  go_ret
  exact ⟨_, rfl, srow_new w _ kindsB⟩
theorem kinds_lie (w : World) : Calls Tryd.prog 21 #[] w fun e w' => ∃ b, e = .returned (.slice (some ⟨b, 0, none⟩) 14 14) ∧ (∀ j y, kindsB[j]? = some y → w'.cell? ⟨b, j, none⟩ = some (.string y)) ∧ Below w.heap.size w w' :=
  (kinds_any w).mono fun e w' ⟨v, he, b, hv, _, hlt, hc, hb⟩ => ⟨b, by rw [he, hv]; rfl, hc, hb⟩
def PartI (n : Nat) (i : Value) : Prop := ∃ j : Nat, i = .int .i64 (j : Int) ∧ j ≤ n
set_option maxRecDepth 100000 in
set_option maxHeartbeats 2000000 in
theorem parts_any (w : World) (k : Nat) (hk : k < 256) :
    Calls Tryd.prog 8 #[.int .u8 (k : Int)] w fun e w' => e = .returned (.tuple #[.string (ba (wordK k)), .string (ba (flagsK k))]) ∧ Below w.heap.size w w' := by
  by_cases h0 : k < 1
  · obtain rfl : k = 0 := by omega
    go_enter Tryd.func8, Tryd.ntmps8
    go_wp2
    go_ret2
    exact ⟨rfl, Below.refl _ _⟩
  · have hx : decide ((k : Int) < 1) = false := decide_eq_false (by omega)
    by_cases h14 : 14 < k
    · have hy : decide ((14 : Int) < (k : Int)) = true := decide_eq_true (by omega)
      rw [wordK_big (by omega), show flagsK k = [] from if_neg (by omega)]
      clear h0 h14
      go_enter Tryd.func8, Tryd.ntmps8
      go_wp2
      go_ret2
      exact ⟨rfl, Below.refl _ _⟩
    · have hy : decide ((14 : Int) < (k : Int)) = false := decide_eq_false (by omega)
      obtain ⟨j, rfl⟩ : ∃ j, k = j + 1 := ⟨k - 1, by omega⟩
      have hj : j < 14 := by omega
      have hs := kindsB_str j hj
      obtain ⟨s, hs1, hs2⟩ := Option.map_eq_some_iff.1 hs
      have hK := fun (x : World) => hide (kinds_lie x)
      have hlen := lineK_len j hj
      have hsz := str_length s
      rw [hs2] at hsz
      have hn : (wordK (j + 1)).length < s.size := by rw [← hsz]; unfold lineK; simp
      obtain ⟨n, hne⟩ : ∃ n, n = (wordK (j + 1)).length := ⟨_, rfl⟩
      rw [← hne] at hn
      have HNE := Lib.hid hne
      have HS2 := Lib.hid hs2
      have HJ := Lib.hid hj
      have hw : ∀ i (hi : i < s.size), i < n → ((((s[i]'hi).toNat : Nat) : Int) == 32) = false := fun i hi hin => by
        have h1 := str_get s i hi
        rw [hs2] at h1
        unfold lineK at h1
        rw [List.getElem?_append_left (by omega)] at h1
        rw [beq_eq_false_iff_ne]
        intro e
        have : (s[i]'hi).toNat = 32 := by omega
        rw [this] at h1
        exact word_no32 (j + 1) (by omega) (List.mem_of_getElem? h1)
      have hw2 : ((((s[n]'hn).toNat : Nat) : Int) == 32) = true := by
        have h1 := str_get s n hn
        rw [hs2] at h1
        unfold lineK at h1
        rw [List.getElem?_append_right (by omega), show n - (wordK (j + 1)).length = 0 by omega] at h1
        simp at h1
        rw [beq_iff_eq]
        omega
      have HW := Lib.hid hw
      have e1 : ((j + 1 : Nat) : Int) - 1 = (j : Int) := by omega
      clear h0 h14 hs hw hne hs2
      go_enter Tryd.func8, Tryd.ntmps8
      go_wp2_with (go_at_call 21; (with_reducible refine (unhide (hK _)).mono ?_); rintro e w1 ⟨b, rfl, hc, hb1⟩; go_loud (
        have hcj := hc j s hs1;
        have HB1 := Lib.hid hb1;
        clear hc hb1))
      clear hx hy hs1 hcj
      go_loop [5] (fun i => PartI n i) (fun i => n + 1 - (intOf i).toNat)
      case atStart => exact ⟨0, rfl, by omega⟩
      case round =>
        obtain ⟨i, rfl, hi⟩ := hrel
        by_cases hin : i < n
        · have hi2 : i < s.size := by omega
          have hq := HW.out i hi2 hin
          go_wp2
          go_round
          case rel => exact ⟨i + 1, by go_num, by omega⟩
          case measure => simp [intOf]; omega
        · obtain rfl : i = n := by omega
          have hne := HNE.out
          have hs2 := HS2.out
          have x1 : s.extract 0 i = ba (wordK (j + 1)) := by
            rw [← ba_str (s.extract 0 i), str_extract, hs2]
            unfold lineK
            rw [hne, List.drop_zero, Nat.sub_zero, List.take_left]
          have x2 : s.extract (i + 1) s.size = ba (flagsK (j + 1)) := by
            rw [← ba_str (s.extract (i + 1) s.size), str_extract, hs2, ← hsz]
            unfold lineK
            rw [hne, show wordK (j + 1) ++ 32 :: flagsK (j + 1) = (wordK (j + 1) ++ [32]) ++ flagsK (j + 1) by simp, List.drop_left' (by simp), List.take_of_length_le (by simp; omega)]
          have X1 := Lib.hid x1
          have X2 := Lib.hid x2
          clear hne hs2 x1 x2
          go_wp2_with fail
          go_region
          go_wp2
          go_ret2
          exact ⟨by rw [X1.out, X2.out]; rfl, HB1.out.drew⟩
end Go.Proofs.YtblchmcnbcfaaaaDoor
