/- Contracts: a Reader over bytes: what its Num, Int, Byte, Bool, Text take, what is left, whether it is done. -/
import Derived.Test.YtblchmcnbcfaaaaDoorTpRdr
import Derived.Test.YtblchmcnbcfaaaaDoorTpWtr
namespace Go.Proofs.YtblchmcnbcfaaaaDoor
open Go.RowKit
set_option linter.unusedSimpArgs false
set_option linter.unusedVariables false

section
variable {w w' : World} {B g : Nat} {v : Value} {bad : Bool} {l : List Nat}
end
/-- The number that is taken, and what is left. -/
def takeNum (l : List Nat) (most : Nat) : Nat × List Nat × Bool := if (numOf l).2 = 0 ∨ most < (numOf l).1 then (0, [], false) else ((numOf l).1, l.drop (numOf l).2, true)
theorem zag_odd {n : Nat} (hn : n < 18446744073709551616) (h : n % 2 = 1) : wrap64 (bits .xor .u64 IntKind.u64.max ((n : Int) / 2)) = zag n := by
  have e : (n : Int) / 2 = ((n / 2 : Nat) : Int) := by omega
  rw [e, not64 _ (by omega)]
  have h1 : wrap64 ((18446744073709551615 - n / 2 : Nat) : Int) = ((18446744073709551615 - n / 2 : Nat) : Int) - 18446744073709551616 := by
    unfold wrap64
    omega
  rw [h1]
  unfold zag
  rw [if_pos h]
  omega
theorem zag_even {n : Nat} (h : ¬ n % 2 = 1) : (n : Int) / 2 = zag n := by
  unfold zag
  rw [if_neg h]
  omega
/-- Bytes as a string. -/
def txt (l : List Nat) : ByteArray := ⟨(l.map UInt8.ofNat).toArray⟩
theorem txt_str (s : ByteArray) : txt (str s) = s := by
  unfold txt str
  rw [List.map_map]
  have e : (UInt8.ofNat ∘ UInt8.toNat) = id := by
    funext u
    simp
  rw [e, List.map_id]
theorem str_txt {l : List Nat} (h : ∀ b ∈ l, b < 256) : str (txt l) = l := by
  unfold txt str
  show ((l.map UInt8.ofNat).toArray.toList).map UInt8.toNat = l
  rw [List.map_map]
  conv => rhs; rw [← List.map_id l]
  apply List.map_congr_left
  intro b hb
  have := h b hb
  simp
  omega
theorem txt_size (l : List Nat) : (txt l).size = l.length := by
  show (l.map UInt8.ofNat).toArray.size = _
  simp
set_option maxRecDepth 100000 in
theorem convert_bytes {w : World} {B n c : Nat} {A : Option Addr} {l : List Nat} (h : Bytes w B (.slice A n c) l) : (convert 50 9 (.slice A n c)).run Tryd.prog w = .ok (.string (txt l)) w := by
  obtain ⟨⟨A', c', hv, hl, hc, hn⟩, hs, hm⟩ := h
  injection hv with h1 h2 h3
  subst h1 h2 h3
  rcases A with _ | ad
  · have h0 : l = [] := by
      have h1 := hl.empty
      rw [← List.length_eq_zero_iff, ← byt_length, h1]
      rfl
    subst h0
    rw [run_convert_bytes_string w _ _ 5 _ _ _ Tryd.underlying50 Tryd.underlying5 Tryd.underlying9]
    rfl
  · have h1 := run_convert_bytes_back (P := Tryd.prog) w 50 9 5 ad c (l.map UInt8.ofNat) Tryd.underlying50 Tryd.underlying5 Tryd.underlying9 (by
      intro j hj
      rw [List.length_map] at hj
      have hb := hs l[j] (List.getElem_mem hj)
      have := hl.cells j (.int .u8 (l[j] : Int)) (by rw [byt_at, List.getElem?_eq_getElem hj]; rfl)
      rw [this]
      simp
      omega)
    rw [List.length_map] at h1
    exact h1
def doneIs (bad : Bool) (l : List Nat) : Int := if bad = true ∨ l ≠ [] then 2 else 0
theorem done_ok : doneIs false [] = 0 := rfl
theorem done_bad {bad : Bool} {l : List Nat} (h : bad = true ∨ l ≠ []) : doneIs bad l = 2 := if_pos h
def takeByte : List Nat → Nat × List Nat × Bool
  | [] => (0, [], false)
  | b :: r => (b, r, true)
end Go.Proofs.YtblchmcnbcfaaaaDoor
