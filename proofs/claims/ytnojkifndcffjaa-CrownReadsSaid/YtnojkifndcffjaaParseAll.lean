/- Contract: what Parse answers of any bytes, in one form. -/
import Derived.Test.YtnojkifndcffjaaFormed
import Derived.Test.YtnojkifndcffjaaParse
namespace Go.Proofs.Ytnojkifndcffjaa
open Go.RowKit
set_option linter.unusedSimpArgs false
set_option linter.unusedVariables false
theorem mine_nil (w : World) (base : Nat) : Mine w base none 0 0 [] := ⟨own_nil w base, rfl, by simp⟩
/-- What Parse answers: the parts, and the error. -/
def Parsed (l : List Nat) (w : World) (e : Ending) (w' : World) : Prop := ∃ A2 n2 c2, e = .returned (.tuple #[.agg #[.int .u32 (genOf l : Int), .int .u32 (serOf l : Int), .int .u32 (numbOf l : Int), .int .u8 (kinOf l : Int), .slice A2 n2 c2], .int .i64 (errOf l : Int)]) ∧ Mine w' w.heap.size A2 n2 c2 (dataOf l) ∧ Below w.heap.size w w'
theorem parsed_bad {l : List Nat} {w w' : World} {e : Ending} {er : Nat} (h : errOf l = er) (h0 : er ≠ 0) (he : e = .returned (.tuple #[.agg #[.int .u32 0, .int .u32 0, .int .u32 0, .int .u8 0, .slice none 0 0], .int .i64 (er : Int)])) (hb : Below w.heap.size w w') : Parsed l w e w' := by
  obtain ⟨h1, h2, h3, h4, h5⟩ := parts_bad (l := l) (by rw [h]; exact h0)
  refine ⟨none, 0, 0, ?_, ?_, hb⟩
  · rw [h1, h2, h3, h4, h, he]; rfl
  · rw [h5]; exact mine_nil _ _
theorem parsed_good {l : List Nat} {w w' : World} {e : Ending} {F : List Nat} {A2 : Option Addr} {n2 c2 : Nat} (hF : F = l.take 508) (h : errOf l = 0) (he : e = .returned (.tuple #[.agg #[.int .u32 ((be ((F.drop 2).take 4) : Nat) : Int), .int .u32 ((be ((F.drop 6).take 4) : Nat) : Int), .int .u32 ((be ((F.drop 10).take 4) : Nat) : Int), .int .u8 ((kindOf F : Nat) : Int), .slice A2 n2 c2], .int .i64 0]))
    (hm : Mine w' w.heap.size A2 n2 c2 ((F.drop 17).take (lenOf F))) (hb : Below w.heap.size w w') : Parsed l w e w' := by
  subst hF
  refine ⟨A2, n2, c2, ?_, ?_, hb⟩
  · unfold genOf serOf numbOf kinOf
    simp only [if_pos h]
    rw [h, he]
    rfl
  · unfold dataOf
    rw [if_pos h]
    exact hm
theorem parse_all (w : World) (A : Option Addr) (n c : Nat) (l : List Nat) (hp : Bytes w w.heap.size (.slice A n c) l) :
    Calls Try.prog 45 #[.slice A n c] w (Parsed l w) := by
  have hn : n = l.length := by
    obtain ⟨⟨A1, c1, hv, _⟩, _, _⟩ := hp
    injection hv with _ h _
  by_cases h : n = 512
  · subst h
    by_cases hz : ∀ b ∈ l, b = 0
    · exact (parse_blank w A c l hp hz).mono fun e w' ⟨he, hb⟩ => parsed_bad (err_blank hn.symm hz) (by decide) he hb
    · by_cases hs : val (l.drop 508) = crc (l.take 508)
      · refine (parse_sealed w A c l hp hz hs).mono fun e w' ⟨hb, h1, h2⟩ => ?_
        by_cases hf : Formed (l.take 508)
        · obtain ⟨A2, n2, c2, he, hm⟩ := h2 hf
          exact parsed_good rfl (err_none hn.symm hz hs hf) he hm hb
        · exact parsed_bad (err_form hn.symm hz hs hf) (by decide) (h1 hf) hb
      · exact (parse_corrupt w A c l hp hz hs).mono fun e w' ⟨he, hb⟩ => parsed_bad (err_corrupt hn.symm hz hs) (by decide) he hb
  · exact (parse_short w A n c h).mono fun e w' ⟨he, hb⟩ => parsed_bad (err_short (by rw [← hn]; exact h)) (by decide) he hb
end Go.Proofs.Ytnojkifndcffjaa
