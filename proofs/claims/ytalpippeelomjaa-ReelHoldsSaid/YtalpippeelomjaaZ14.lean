/- Formed, ParseAll: joined by program (tools/merge.py). -/
import Derived.Test.YtalpippeelomjaaZ13
namespace Go.Proofs.Ytalpippeelomjaa
open Go.RowKit
set_option linter.unusedSimpArgs false
set_option linter.unusedVariables false
instance formedDec (F : List Nat) : Decidable (Formed F) := by unfold Formed; exact inferInstance
theorem be4_be {l : List Nat} (h : l.length = 4) (hs : ∀ b ∈ l, b < 256) : be4 (be l) = l := by
  match l, h with
  | [a, b, c, d], _ =>
    have ha := hs a (by simp)
    have hb := hs b (by simp)
    have hc := hs c (by simp)
    have hd := hs d (by simp)
    unfold be be4
    simp only [List.foldl_cons, List.foldl_nil]
    have e0 : (256 * (256 * (256 * (256 * 0 + a) + b) + c) + d) / 16777216 % 256 = a := by omega
    have e1 : (256 * (256 * (256 * (256 * 0 + a) + b) + c) + d) / 65536 % 256 = b := by omega
    have e2 : (256 * (256 * (256 * (256 * 0 + a) + b) + c) + d) / 256 % 256 = c := by omega
    have e3 : (256 * (256 * (256 * (256 * 0 + a) + b) + c) + d) % 256 = d := by omega
    rw [e0, e1, e2, e3]
theorem piece (F : List Nat) (a n : Nat) : F.drop a = (F.drop a).take n ++ F.drop (a + n) := by
  rw [← List.drop_drop, List.take_append_drop]
theorem piece_three {F : List Nat} {a x y z : Nat} (h0 : F[a]? = some x) (h1 : F[a + 1]? = some y) (h2 : F[a + 2]? = some z) : (F.drop a).take 3 = [x, y, z] := by
  apply List.ext_getElem?
  intro i
  rw [List.getElem?_take]
  rcases (show i = 0 ∨ i = 1 ∨ i = 2 ∨ 3 ≤ i by omega) with rfl | rfl | rfl | h
  · rw [if_pos (by omega), List.getElem?_drop]; exact h0
  · rw [if_pos (by omega), List.getElem?_drop]; exact h1
  · rw [if_pos (by omega), List.getElem?_drop]; exact h2
  · rw [if_neg (by omega), List.getElem?_eq_none (by simpa using h)]
theorem piece_two {F : List Nat} {x y : Nat} (h0 : F[0]? = some x) (h1 : F[1]? = some y) : F.take 2 = [x, y] := by
  apply List.ext_getElem?
  intro i
  rw [List.getElem?_take]
  rcases (show i = 0 ∨ i = 1 ∨ 2 ≤ i by omega) with rfl | rfl | h
  · rw [if_pos (by omega)]; exact h0
  · rw [if_pos (by omega)]; exact h1
  · rw [if_neg (by omega), List.getElem?_eq_none (by simpa using h)]
theorem formed_pg {F : List Nat} (hl : F.length = 508) (hs : ∀ b ∈ F, b < 256) (h : Formed F) : pg (be ((F.drop 2).take 4)) (be ((F.drop 6).take 4)) (be ((F.drop 10).take 4)) (kindOf F) ((F.drop 17).take (lenOf F)) = F := by
  obtain ⟨h0, h1, h14, hn, hz⟩ := h
  have g14 : F[14]? = some (kindOf F) := by unfold kindOf; rw [List.getD_eq_getElem?_getD, List.getElem?_eq_getElem (by omega)]; rfl
  obtain ⟨y, hy⟩ : ∃ y, F[15]? = some y := ⟨_, List.getElem?_eq_getElem (by omega)⟩
  obtain ⟨z, hz'⟩ : ∃ z, F[16]? = some z := ⟨_, List.getElem?_eq_getElem (by omega)⟩
  have hLn : lenOf F = y * 256 + z := by unfold lenOf; rw [List.getD_eq_getElem?_getD, List.getD_eq_getElem?_getD, hy, hz']; rfl
  have hy2 : y < 256 := hs y (List.mem_of_getElem? hy)
  have hz2 : z < 256 := hs z (List.mem_of_getElem? hz')
  have d1 : ((F.drop 17).take (lenOf F)).length = lenOf F := by rw [List.length_take, List.length_drop]; omega
  have sm : ∀ a, ∀ b ∈ (F.drop a).take 4, b < 256 := fun a b hb => hs b (List.mem_of_mem_drop (List.mem_of_mem_take hb))
  have ln : ∀ a, a ≤ 504 → ((F.drop a).take 4).length = 4 := fun a ha => by rw [List.length_take, List.length_drop]; omega
  have e : List.replicate (491 - lenOf F) 0 = F.drop (17 + lenOf F) := by
    symm
    rw [List.eq_replicate_iff]
    exact ⟨by rw [List.length_drop]; omega, hz⟩
  have k3 : [kindOf F, lenOf F / 256 % 256, lenOf F % 256] = (F.drop 14).take 3 := by
    rw [piece_three (a := 14) g14 hy hz']
    have q1 : lenOf F / 256 % 256 = y := by omega
    have q2 : lenOf F % 256 = z := by omega
    rw [q1, q2]
  unfold pg
  rw [be4_be (ln 2 (by omega)) (sm 2), be4_be (ln 6 (by omega)) (sm 6), be4_be (ln 10 (by omega)) (sm 10), d1, e, k3, ← piece_two h0 h1]
  have p0 := piece F 0 2
  have p1 := piece F 2 4
  have p2 := piece F 6 4
  have p3 := piece F 10 4
  have p4 := piece F 14 3
  have p5 := piece F 17 (lenOf F)
  rw [List.drop_zero] at p0
  simp only [List.append_assoc]
  rw [← p5, ← p4, ← p3, ← p2, ← p1]
  exact p0.symm
theorem sealed_le4 {l : List Nat} (hl : l.length = 512) (hs : ∀ b ∈ l, b < 256) (h : val (l.drop 508) = crc (l.take 508)) : l = l.take 508 ++ le4 (crc (l.take 508)) := by
  have h2 := val_four (l.drop 508) (by rw [List.length_drop]; omega) (fun b hb => hs b (List.mem_of_mem_drop hb)) _ h
  rw [h2, List.take_append_drop]
theorem page_of {l : List Nat} (hl : l.length = 512) (hs : ∀ b ∈ l, b < 256) (h : val (l.drop 508) = crc (l.take 508)) (hf : Formed (l.take 508)) :
    page (be (((l.take 508).drop 2).take 4)) (be (((l.take 508).drop 6).take 4)) (be (((l.take 508).drop 10).take 4)) (kindOf (l.take 508)) (((l.take 508).drop 17).take (lenOf (l.take 508))) = l := by
  unfold page
  rw [formed_pg (by rw [List.length_take]; omega) (fun b hb => hs b (List.mem_of_mem_take hb)) hf]
  exact (sealed_le4 hl hs h).symm
/-- What any bytes parse as: the error, and the parts. -/
def errOf (l : List Nat) : Nat := if l.length = 512 then (if ∀ b ∈ l, b = 0 then 3 else if val (l.drop 508) = crc (l.take 508) then (if Formed (l.take 508) then 0 else 2) else 7) else 1
def genOf (l : List Nat) : Nat := if errOf l = 0 then be (((l.take 508).drop 2).take 4) else 0
def serOf (l : List Nat) : Nat := if errOf l = 0 then be (((l.take 508).drop 6).take 4) else 0
def numbOf (l : List Nat) : Nat := if errOf l = 0 then be (((l.take 508).drop 10).take 4) else 0
def kinOf (l : List Nat) : Nat := if errOf l = 0 then kindOf (l.take 508) else 0
def dataOf (l : List Nat) : List Nat := if errOf l = 0 then ((l.take 508).drop 17).take (lenOf (l.take 508)) else []
theorem err_short {l : List Nat} (h : l.length ≠ 512) : errOf l = 1 := by unfold errOf; rw [if_neg h]
theorem err_blank {l : List Nat} (h : l.length = 512) (hz : ∀ b ∈ l, b = 0) : errOf l = 3 := by unfold errOf; rw [if_pos h, if_pos hz]
theorem err_corrupt {l : List Nat} (h : l.length = 512) (hz : ¬ ∀ b ∈ l, b = 0) (hs : ¬ val (l.drop 508) = crc (l.take 508)) : errOf l = 7 := by unfold errOf; rw [if_pos h, if_neg hz, if_neg hs]
theorem err_form {l : List Nat} (h : l.length = 512) (hz : ¬ ∀ b ∈ l, b = 0) (hs : val (l.drop 508) = crc (l.take 508)) (hf : ¬ Formed (l.take 508)) : errOf l = 2 := by unfold errOf; rw [if_pos h, if_neg hz, if_pos hs, if_neg hf]
theorem err_none {l : List Nat} (h : l.length = 512) (hz : ¬ ∀ b ∈ l, b = 0) (hs : val (l.drop 508) = crc (l.take 508)) (hf : Formed (l.take 508)) : errOf l = 0 := by unfold errOf; rw [if_pos h, if_neg hz, if_pos hs, if_pos hf]
theorem parts_bad {l : List Nat} (h : errOf l ≠ 0) : genOf l = 0 ∧ serOf l = 0 ∧ numbOf l = 0 ∧ kinOf l = 0 ∧ dataOf l = [] := by
  unfold genOf serOf numbOf kinOf dataOf
  simp only [if_neg h, and_self]
theorem parts_good {l : List Nat} (h : errOf l = 0) : l.length = 512 ∧ (¬ ∀ b ∈ l, b = 0) ∧ val (l.drop 508) = crc (l.take 508) ∧ Formed (l.take 508) := by
  unfold errOf at h
  split at h
  · split at h
    · cases h
    · split at h
      · split at h
        · refine ⟨by assumption, by assumption, by assumption, by assumption⟩
        · cases h
      · cases h
  · cases h
theorem parts_page {l : List Nat} (hs : ∀ b ∈ l, b < 256) (h : errOf l = 0) : page (genOf l) (serOf l) (numbOf l) (kinOf l) (dataOf l) = l ∧ 0 < kinOf l ∧ (dataOf l).length ≤ 491 ∧ genOf l < 4294967296 ∧ serOf l < 4294967296 ∧ numbOf l < 4294967296 ∧ kinOf l < 256 ∧ ∀ b ∈ dataOf l, b < 256 := by
  obtain ⟨h1, h2, h3, h4⟩ := parts_good h
  have sm : ∀ b ∈ l.take 508, b < 256 := fun b hb => hs b (List.mem_of_mem_take hb)
  have bl : ∀ a, be (((l.take 508).drop a).take 4) < 4294967296 := fun a => by
    have h := be_lt (l := ((l.take 508).drop a).take 4) (fun b hb => sm b (List.mem_of_mem_drop (List.mem_of_mem_take hb)))
    have h2 : (((l.take 508).drop a).take 4).length ≤ 4 := by rw [List.length_take]; omega
    have h3 := Nat.pow_le_pow_right (n := 256) (by omega) h2
    omega
  have g14 : (l.take 508)[14]? = some (kindOf (l.take 508)) := by unfold kindOf; rw [List.getD_eq_getElem?_getD, List.getElem?_eq_getElem (by rw [List.length_take]; omega)]; rfl
  unfold genOf serOf numbOf kinOf dataOf
  simp only [if_pos h]
  refine ⟨page_of h1 hs h3 h4, ?_, ?_, bl 2, bl 6, bl 10, sm _ (List.mem_of_getElem? g14), fun b hb => sm b (List.mem_of_mem_drop (List.mem_of_mem_take hb))⟩
  · have := h4.2.2.1
    rw [g14] at this
    rcases Nat.eq_zero_or_pos (kindOf (l.take 508)) with h | h
    · rw [h] at this; exact absurd rfl this
    · exact h
  · rw [List.length_take]; have := h4.2.2.2.1; omega
end Go.Proofs.Ytalpippeelomjaa
namespace Go.Proofs.Ytalpippeelomjaa
open Go.RowKit
set_option linter.unusedSimpArgs false
set_option linter.unusedVariables false
theorem mine_nil (w : World) (base : Nat) : Mine w base none 0 0 [] := ⟨own_nil w base, rfl, by simp⟩
/-- What Parse answers: the parts, and the error. -/
def Parsed (l : List Nat) (w : World) (e : Ending) (w' : World) : Prop := ∃ A2 n2 c2, e = .returned (.tuple #[.agg #[.int .u32 (genOf l : Int), .int .u32 (serOf l : Int), .int .u32 (numbOf l : Int), .int .u8 (kinOf l : Int), .slice A2 n2 c2], .int .i64 (errOf l : Int)]) ∧ Mine w' w.heap.size A2 n2 c2 (dataOf l) ∧ Below w.heap.size w w'
theorem parsed_bad {l : List Nat} {w w' : World} {e : Ending} {er : Nat} (h : errOf l = er) (h0 : er ≠ 0) (he : e = .returned (.tuple #[.agg #[.int .u32 0, .int .u32 0, .int .u32 0, .int .u8 0, .slice none 0 0], .int .i64 (er : Int)])) (hb : Below w.heap.size w w') : Parsed l w e w' := by
  obtain ⟨h1, h2, h3, h4, h5⟩ := parts_bad (l := l) (by rw [h]; exact h0)
  refine ⟨none, 0, 0, ?_, ?_, hb⟩
  · rw [h1, h2, h3, h4, h, he]; rfl
  · rw [h5]; exact mine_nil _ _
theorem parsed_good {l : List Nat} {w w' : World} {e : Ending} {F : List Nat} {A2 : Option Addr} {n2 c2 : Nat} (hF : F = l.take 508) (h : errOf l = 0) (he : e = .returned (.tuple #[.agg #[.int .u32 ((be ((F.drop 2).take 4) : Nat) : Int), .int .u32 ((be ((F.drop 6).take 4) : Nat) : Int), .int .u32 ((be ((F.drop 10).take 4) : Nat) : Int), .int .u8 ((kindOf F : Nat) : Int), .slice A2 n2 c2], .int .i64 0]))
    (hm : Mine w' w.heap.size A2 n2 c2 ((F.drop 17).take (lenOf F))) (hb : Below w.heap.size w w') : Parsed l w e w' := by
  subst hF
  refine ⟨A2, n2, c2, ?_, ?_, hb⟩
  · unfold genOf serOf numbOf kinOf
    simp only [if_pos h]
    rw [h, he]
    rfl
  · unfold dataOf
    rw [if_pos h]
    exact hm
theorem parse_all (w : World) (A : Option Addr) (n c : Nat) (l : List Nat) (hp : Bytes w w.heap.size (.slice A n c) l) :
    Calls Try.prog 72 #[.slice A n c] w (Parsed l w) := by
  have hn : n = l.length := by
    obtain ⟨⟨A1, c1, hv, _⟩, _, _⟩ := hp
    injection hv with _ h _
  by_cases h : n = 512
  · subst h
    by_cases hz : ∀ b ∈ l, b = 0
    · exact (parse_blank w A c l hp hz).mono fun e w' ⟨he, hb⟩ => parsed_bad (err_blank hn.symm hz) (by decide) he hb
    · by_cases hs : val (l.drop 508) = crc (l.take 508)
      · refine (parse_sealed w A c l hp hz hs).mono fun e w' ⟨hb, h1, h2⟩ => ?_
        by_cases hf : Formed (l.take 508)
        · obtain ⟨A2, n2, c2, he, hm⟩ := h2 hf
          exact parsed_good rfl (err_none hn.symm hz hs hf) he hm hb
        · exact parsed_bad (err_form hn.symm hz hs hf) (by decide) (h1 hf) hb
      · exact (parse_corrupt w A c l hp hz hs).mono fun e w' ⟨he, hb⟩ => parsed_bad (err_corrupt hn.symm hz hs) (by decide) he hb
  · exact (parse_short w A n c h).mono fun e w' ⟨he, hb⟩ => parsed_bad (err_short (by rw [← hn]; exact h)) (by decide) he hb
end Go.Proofs.Ytalpippeelomjaa
