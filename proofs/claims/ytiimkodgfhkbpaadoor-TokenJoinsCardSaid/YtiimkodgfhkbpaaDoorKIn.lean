/- Contracts: is it a keyword; is it in a list; the sign at the front. -/
import Derived.Test.YtiimkodgfhkbpaaDoorKRows
import Derived.Test.YtiimkodgfhkbpaaDoorKGap
namespace Go.Proofs.YtiimkodgfhkbpaaDoor
open Go.RowKit
set_option linter.unusedSimpArgs false
set_option linter.unusedVariables false
/-- Is it in the list? -/
def inL (x : List Nat) (zs : List (List Nat)) : Bool := decide (x ∈ zs)
theorem mem_str {zs : List ByteArray} {x : ByteArray} : x ∈ zs ↔ str x ∈ zs.map str := by
  rw [List.mem_map]
  exact ⟨fun h => ⟨x, h, rfl⟩, fun ⟨y, hy, e⟩ => by rw [← str_inj e]; exact hy⟩
theorem contains_str (zs : List ByteArray) (x : ByteArray) : Lib.containsS zs x = inL (str x) (zs.map str) := by
  unfold inL
  rw [Bool.eq_iff_iff, Lib.containsS_iff, decide_eq_true_eq]
  exact mem_str
set_option maxRecDepth 100000 in
set_option maxHeartbeats 1000000 in
theorem isword_any (w : World) (s : ByteArray) :
    Calls Tryd.prog 17 #[.string s] w fun e w' => e = .returned (.bool (inL (str s) wordsL)) ∧ Below w.heap.size w w' := by
  have HW := fun (x : World) => hide (words_any x)
  have HC := fun (x : World) (b : Nat) h => hide (contains_any x b wordsB.length wordsB.length wordsB s rfl (by decide) h)
  go_enter Tryd.func17, Tryd.ntmps17
  go_wp2_with (first
    | (go_at_call 21; (with_reducible refine (unhide (HW _)).mono ?_); rintro e w1 ⟨v, rfl, b, rfl, hb1, hb2, hc, hb⟩; go_loud (
        have HB := Lib.hid hb;
        have HX := HC w1 b hc;
        clear hb))
    | (go_at_call 15; (with_reducible refine (unhide HX).mono ?_); rintro e w2 ⟨rfl, rfl⟩))
  go_ret
  refine ⟨?_, HB.out⟩
  rw [contains_str, wordsB_str]
  rfl
def InR (zs : List ByteArray) (x : ByteArray) (i : Value) : Prop := ∃ k : Nat, i = .int .i64 (k : Int) ∧ k ≤ zs.length ∧ ∀ j y, j < k → zs[j]? = some y → y ≠ x
set_option maxRecDepth 100000 in
set_option maxHeartbeats 1000000 in
theorem in_any (w : World) (b n c : Nat) (zs : List ByteArray) (x : ByteArray) (hz : zs.length = n) (hn : n ≤ 100) (hc : ∀ j y, zs[j]? = some y → w.cell? ⟨b, j, none⟩ = some (.string y)) :
    Calls Tryd.prog 29 #[.slice (some ⟨b, 0, none⟩) n c, .string x] w fun e w' => e = .returned (.bool (inL (str x) (zs.map str))) ∧ w = w' := by
  have HC := hide hc
  have HZ := hide hz
  clear hc hz
  go_enter Tryd.func29, Tryd.ntmps29
  go_wp2
  go_loop [9] (fun i => InR zs x i) (fun i => n - (intOf i).toNat)
  case atStart => exact ⟨0, rfl, by omega, fun j y h => by omega⟩
  case round =>
    obtain ⟨k, rfl, hk, hr⟩ := hrel
    rw [(unhide HZ)] at hk
    have HR := hide hr
    clear hr
    by_cases hlt : k < n
    · obtain ⟨y, hy⟩ : ∃ y, zs[k]? = some y := ⟨_, List.getElem?_eq_getElem (by rw [unhide HZ]; exact hlt)⟩
      have hcell := unhide HC k y hy
      have HY := hide hy
      clear hy
      by_cases hxy : y = x
      · subst hxy
        go_wp2
        go_ret
        refine ⟨?_, rfl⟩
        unfold inL
        rw [decide_eq_true (mem_str.1 (List.mem_of_getElem? (unhide HY)))]
        rfl
      · have hb : (y.toList == x.toList) = false := (Lib.bytes_beq_false_iff y x).2 hxy
        go_wp2
        go_round
        case rel =>
          refine ⟨k + 1, by go_num, by rw [unhide HZ]; omega, fun j z hj hz => ?_⟩
          rcases Nat.lt_or_ge j k with h | h
          · exact unhide HR j z h hz
          · obtain rfl : j = k := by omega
            rw [unhide HY] at hz
            injection hz with hz
            exact hz ▸ hxy
        case measure => simp [intOf]; omega
    · go_wp2
      go_ret
      refine ⟨?_, rfl⟩
      unfold inL
      rw [decide_eq_false]
      · rfl
      · intro h
        obtain ⟨j, hj⟩ := List.mem_iff_getElem?.1 (mem_str.2 h)
        have hj2 : j < zs.length := by
          rcases Nat.lt_or_ge j zs.length with h1 | h1
          · exact h1
          · rw [List.getElem?_eq_none h1] at hj; cases hj
        rw [unhide HZ] at hj2
        exact unhide HR j x (by omega) hj rfl
/-- Is it a keyword, is it a sign, as the reference asks it. -/
theorem inw_any (w0 w : World) (v : Value) (zs : List ByteArray) (x : ByteArray) (hn : zs.length ≤ 100) (h : SRow w0 w v zs) :
    Calls Tryd.prog 29 #[v, .string x] w fun e w' => e = .returned (.bool (inL (str x) (zs.map str))) ∧ w = w' := by
  obtain ⟨b, rfl, _, _, hc, _⟩ := h
  exact in_any w b _ _ zs x rfl hn hc
end Go.Proofs.YtiimkodgfhkbpaaDoor
