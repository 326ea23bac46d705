/- Contracts: of a page's bytes Parse answers the page; whether two pages are alike; a page that isn't too great; pages as the document has them. -/
import Derived.Test.YtkdbplfphhfeaaaParse
namespace Go.Proofs.Ytkdbplfphhfeaaa
open Go.RowKit
set_option linter.unusedSimpArgs false
set_option linter.unusedVariables false

/-- The whole bytes of a page. -/
def page (gen ser num kind : Nat) (d : List Nat) : List Nat := pg gen ser num kind d ++ le4 (crc (pg gen ser num kind d))
theorem page_length {gen ser num kind : Nat} {d : List Nat} (h : d.length ≤ 491) : (page gen ser num kind d).length = 512 := by
  unfold page
  rw [List.length_append, pg_length h]
  rfl
theorem page_take {gen ser num kind : Nat} {d : List Nat} (h : d.length ≤ 491) : (page gen ser num kind d).take 508 = pg gen ser num kind d := by
  unfold page
  exact List.take_left' (pg_length h)
theorem page_drop {gen ser num kind : Nat} {d : List Nat} (h : d.length ≤ 491) : (page gen ser num kind d).drop 508 = le4 (crc (pg gen ser num kind d)) := by
  unfold page
  exact List.drop_left' (pg_length h)
theorem page_sealed {gen ser num kind : Nat} {d : List Nat} (h : d.length ≤ 491) : val ((page gen ser num kind d).drop 508) = crc ((page gen ser num kind d).take 508) := by
  rw [page_take h, page_drop h]
  exact val_le4 _ (crc_lt _)
theorem pg_head (gen ser num kind : Nat) (d : List Nat) : pg gen ser num kind d = 104 :: 103 :: (be4 gen ++ (be4 ser ++ (be4 num ++ (kind :: d.length / 256 % 256 :: d.length % 256 :: (d ++ List.replicate (491 - d.length) 0))))) := by
  unfold pg
  simp
theorem page_not_blank (gen ser num kind : Nat) (d : List Nat) : ¬ ∀ b ∈ page gen ser num kind d, b = 0 := by
  intro h
  have h1 := h 104 (by unfold page; rw [pg_head]; simp)
  cases h1
theorem pg_parts {gen ser num kind : Nat} {d : List Nat} (hd : d.length ≤ 491) (h0 : gen < 4294967296) (h1 : ser < 4294967296) (h2 : num < 4294967296) :
    lenOf (pg gen ser num kind d) = d.length ∧ kindOf (pg gen ser num kind d) = kind ∧ be (((pg gen ser num kind d).drop 2).take 4) = gen ∧ be (((pg gen ser num kind d).drop 6).take 4) = ser ∧
      be (((pg gen ser num kind d).drop 10).take 4) = num ∧ ((pg gen ser num kind d).drop 17).take d.length = d ∧ (pg gen ser num kind d).drop (17 + d.length) = List.replicate (491 - d.length) 0 := by
  have e : pg gen ser num kind d = [104, 103] ++ be4 gen ++ be4 ser ++ be4 num ++ [kind, d.length / 256 % 256, d.length % 256] ++ d ++ List.replicate (491 - d.length) 0 := rfl
  refine ⟨?_, ?_, ?_, ?_, ?_, ?_, ?_⟩
  · unfold lenOf
    rw [pg_head]
    simp [be4]
    omega
  · unfold kindOf
    rw [pg_head]
    simp [be4]
  · rw [pg_head]
    exact be_be4 gen h0
  · rw [pg_head]
    exact be_be4 ser h1
  · rw [pg_head]
    exact be_be4 num h2
  · rw [pg_head]
    simp [be4]
  · rw [← List.drop_drop, pg_head]
    simp [be4]
theorem pg_formed {gen ser num kind : Nat} {d : List Nat} (hd : d.length ≤ 491) (hk : 0 < kind) : Formed (pg gen ser num kind d) := by
  refine ⟨by rw [pg_head]; rfl, by rw [pg_head]; rfl, ?_, ?_, ?_⟩
  · rw [pg_head]
    simp [be4]
    omega
  · unfold lenOf
    rw [pg_head]
    simp [be4]
    omega
  · have h1 : lenOf (pg gen ser num kind d) = d.length := by
      unfold lenOf
      rw [pg_head]
      simp [be4]
      omega
    rw [h1, ← List.drop_drop, pg_head]
    simp [be4]
theorem parse_page (w : World) (A : Option Addr) (n c : Nat) (x0 x1 x2 x3 : Nat) (d : List Nat) (h0 : x0 < 4294967296) (h1 : x1 < 4294967296) (h2 : x2 < 4294967296) (h3 : 0 < x3) (hd : d.length ≤ 491) (hp : Bytes w w.heap.size (.slice A n c) (page x0 x1 x2 x3 d)) :
    Calls Try.prog 10 #[.slice A n c] w fun e w' => ∃ A2 n2 c2, e = .returned (.tuple #[.agg #[.int .u32 (x0 : Int), .int .u32 (x1 : Int), .int .u32 (x2 : Int), .int .u8 (x3 : Int), .slice A2 n2 c2], .int .i64 0]) ∧ Mine w' w.heap.size A2 n2 c2 d ∧ Below w.heap.size w w' := by
  have hn : n = 512 := by
    obtain ⟨⟨A1, c1, hv, _⟩, _, _⟩ := id hp
    injection hv with _ h _
    rw [h, page_length hd]
  subst hn
  refine (parse_sealed w A c _ hp (page_not_blank _ _ _ _ _) (page_sealed hd)).mono fun e w' ⟨hb, _, hx⟩ => ?_
  rw [page_take hd] at hx
  obtain ⟨A2, n2, c2, he, hM⟩ := hx (pg_formed hd h3)
  obtain ⟨e1, e2, e3, e4, e5, e6, _⟩ := pg_parts (kind := x3) hd h0 h1 h2
  rw [e2, e3, e4, e5] at he
  rw [e1, e6] at hM
  exact ⟨A2, n2, c2, he, hM, hb⟩
end Go.Proofs.Ytkdbplfphhfeaaa
