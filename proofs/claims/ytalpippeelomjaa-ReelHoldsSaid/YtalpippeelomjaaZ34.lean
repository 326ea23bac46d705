/- LLay, LAppA: joined by program (tools/merge.py). -/
import Derived.Test.YtalpippeelomjaaZ8
import Derived.Test.YtalpippeelomjaaZ10
import Derived.Test.YtalpippeelomjaaZ31
namespace Go.Proofs.Ytalpippeelomjaa
open Go.RowKit
set_option linter.unusedSimpArgs false
set_option linter.unusedVariables false
def LayS (W : World) (n : Nat) (ls : List (List Nat)) (i : Value) (wr : World) : Prop :=
  ∃ (k : Nat) (v : Value), k ≤ n ∧ i = .int .i64 (k : Int) ∧ Wtr wr W.heap.size W.heap.size v (layR (ls.take k)) ∧ Below W.heap.size W wr
set_option maxRecDepth 100000 in
set_option maxHeartbeats 1000000 in
theorem lay_any (w : World) (v : Value) (ls : List (List Nat)) (hp : Parts w w.heap.size v ls) (htot : (layR ls).length ≤ 1048576) :
    Calls Try.prog 40 #[v] w fun e w' => ∃ A n c, e = .returned (.slice A n c) ∧ Mine w' w.heap.size A n c (layR ls) ∧ Below w.heap.size w w' := by
  obtain ⟨⟨A, c, vs, rfl, hvl, hlies, hbytes⟩, hlong⟩ := hp
  unfold maxLen at hlong
  have HV := Lib.hid hvl
  have HL := Lib.hid hlies
  have HB := Lib.hid hbytes
  clear hvl hlies hbytes
  obtain ⟨n, hn⟩ : ∃ n, n = ls.length := ⟨_, rfl⟩
  rw [← hn] at hlong ⊢
  have HN := Lib.hid hn
  have HT := Lib.hid htot
  clear hn htot
  go_enter Try.func40, Try.ntmps40
  go_wp2
  go_loopw [8] (fun i wr => LayS w n ls i wr) (fun i _ => n - (intOf i).toNat)
  case atStart =>
    refine ⟨0, .slice none 0 0, by omega, rfl, ⟨Go.heap_alloc_new w _, ?_, by simp [layR]⟩, (Below.refl _ _).alloc (Nat.le_refl _) _⟩
    exact World.ownsRow_nil _ _ _ _
  case round =>
    obtain ⟨k, v, hk, rfl, hW, hb⟩ := hrel
    by_cases hlt : k < n
    · obtain ⟨l, hl⟩ : ∃ l, ls[k]? = some l := ⟨_, List.getElem?_eq_getElem (by rw [← HN.out]; exact hlt)⟩
      obtain ⟨u, hu⟩ : ∃ u, vs[k]? = some u := ⟨_, List.getElem?_eq_getElem (by rw [HV.out, ← HN.out]; exact hlt)⟩
      have hB0 := HB.out k u l hu hl
      obtain ⟨⟨A1, c1, rfl, _, _, _⟩, hsm, _⟩ := id hB0
      obtain ⟨ad, hA, hbb, hc0⟩ := HL.out k _ hu
      subst hA
      have hc := (hb.cell (p := ad.add k) (by rw [addr_add_block]; exact hbb)).trans hc0
      have hcv := convert_bytes (hB0.below hb)
      have hmore := layR_take_le ls (k + 1)
      rw [layR_next hl, List.length_append] at hmore
      have hll : l.length ≤ (rec1 l).length := by unfold rec1; rw [List.length_append]; omega
      have hT := HT.out
      have HC := hide (wtext_any wr w.heap.size w.heap.size (txt l) v (layR (ls.take k)) (by rw [txt_size]; omega) hW (by omega) hb.size)
      rw [txt_size, str_txt hsm] at HC
      have HX := Lib.hid (layR_next hl)
      have HWr := Lib.hid hW
      have hBb := Lib.hid hb
      clear hB0 hsm hl hu hc0 hbb hmore hll hT hW hb
      go_wp2_with (go_at_call 64; (with_reducible refine (unhide HC).mono ?_); rintro e w1 ⟨rfl, v1, hW1, hC1, hG1⟩; go_loud (
        have K1 := Lib.hid hW1;
        have K2 : Hid (Below w.heap.size w w1) := Lib.hid (hC1.below hBb.out hBb.out.size (Nat.le_refl _) (fun k hk => (own_block_lt HWr.out.own hk).1));
        clear hW1 hC1 hG1))
      go_roundw
      case rel => exact ⟨k + 1, v1, by omega, by go_num, by rw [HX.out]; exact K1.out, K2.out⟩
      case measure => simp [intOf]; omega
    · obtain rfl : k = n := by omega
      have hT := HT.out
      have he : ls.take k = ls := List.take_of_length_le (by rw [← HN.out]; omega)
      rw [he] at hW
      have HC := hide (wbytes_any wr w.heap.size w.heap.size v (layR ls) hW (by omega))
      have HB2 := Lib.hid hb
      clear hW hT he hb
      go_wp2_with (go_at_call 65; (with_reducible refine (unhide HC).mono ?_); rintro e w1 ⟨A2, n2, c2, rfl, hM, hB3⟩)
      go_ret
      exact ⟨A2, n2, c2, rfl, hM.lower HB2.out.size, HB2.out.trans (hB3.mono HB2.out.size)⟩
end Go.Proofs.Ytalpippeelomjaa
namespace Go.Proofs.Ytalpippeelomjaa
open Go.RowKit
set_option linter.unusedSimpArgs false
set_option linter.unusedVariables false
deriving instance DecidableEq for Pg
/-- What an Append writes of these pages. -/
def wrsF (first : Nat) (qs news : List Pg) : List (Nat × List Nat) := (news.filter fun (q : Pg) => decide (qs[q.num]? ≠ some q)).map fun q => (first + q.num, Go.Proofs.Ytalpippeelomjaa.page q.gen q.ser q.num q.kind q.data)
theorem wrsF_snoc_old {first : Nat} {qs news : List Pg} {q : Pg} (h : qs[q.num]? = some q) : wrsF first qs (news ++ [q]) = wrsF first qs news := by
  unfold wrsF
  rw [List.filter_append, List.filter_cons_of_neg (by simp [h]), List.filter_nil, List.append_nil]
theorem wrsF_snoc_new {first : Nat} {qs news : List Pg} {q : Pg} (h : ¬ qs[q.num]? = some q) : wrsF first qs (news ++ [q]) = wrsF first qs news ++ [(first + q.num, Go.Proofs.Ytalpippeelomjaa.page q.gen q.ser q.num q.kind q.data)] := by
  unfold wrsF
  rw [List.filter_append, List.filter_cons_of_pos (by simp [h]), List.filter_nil, List.map_append]
  rfl
/-- The pages' numbers are their places. -/
def Nums (qs : List Pg) : Prop := ∀ (i : Nat) (q : Pg), qs[i]? = some q → q.num = i
theorem mkP_num {gen ser i bf : Nat} {qs : List Pg} {part : List Nat} (h : Nums qs) : (mkP gen ser qs i bf part).num = i := by
  unfold mkP
  split
  · rename_i q hq
    split
    · exact h i q hq
    · rfl
  · rfl
theorem extF_num {gen ser : Nat} {qs : List Pg} (h : Nums qs) : ∀ (parts : List (List Nat)) (i bf j : Nat) (q : Pg), (extF gen ser qs i bf parts)[j]? = some q → q.num = i + j
  | [], _, _, j, q, e => by simp [extF] at e
  | p :: r, i, bf, 0, q, e => by
    simp [extF] at e
    rw [← e, mkP_num h]
    rfl
  | p :: r, i, bf, j + 1, q, e => by
    simp [extF] at e
    rw [extF_num h r (i + 1) _ j q e]
    omega
/-- A page of these is the old one in its place, or a new one of this Serial. -/
theorem mkP_kind {gen ser i bf : Nat} {qs : List Pg} {part : List Nat} : qs[i]? = some (mkP gen ser qs i bf part) ∨ mkP gen ser qs i bf part = ⟨gen, ser, i, 1, be4 bf ++ part⟩ := by
  unfold mkP
  split
  · rename_i q hq
    split
    · exact .inl hq
    · exact .inr rfl
  · exact .inr rfl
theorem extF_kind {gen ser : Nat} {qs : List Pg} : ∀ (parts : List (List Nat)) (i bf j : Nat) (q : Pg), (extF gen ser qs i bf parts)[j]? = some q → qs[i + j]? = some q ∨ (q.gen = gen ∧ q.ser = ser ∧ q.num = i + j ∧ q.kind = 1)
  | [], _, _, j, q, e => by simp [extF] at e
  | p :: r, i, bf, 0, q, e => by
    simp [extF] at e
    rw [← e]
    rcases mkP_kind (gen := gen) (ser := ser) (i := i) (bf := bf) (qs := qs) (part := p) with h | h
    · exact .inl h
    · exact .inr (by rw [h]; exact ⟨rfl, rfl, rfl, rfl⟩)
  | p :: r, i, bf, j + 1, q, e => by
    simp [extF] at e
    have := extF_kind r (i + 1) _ j q e
    rw [show i + 1 + j = i + (j + 1) by omega] at this
    exact this
theorem mkP_long {gen ser i bf : Nat} {qs : List Pg} {part : List Nat} (h : ∀ q ∈ qs, 4 ≤ q.data.length) : 4 ≤ (mkP gen ser qs i bf part).data.length := by
  rcases mkP_kind (gen := gen) (ser := ser) (i := i) (bf := bf) (qs := qs) (part := part) with e | e
  · exact h _ (List.mem_of_getElem? e)
  · rw [e]
    show 4 ≤ (be4 bf ++ part).length
    rw [List.length_append, be4_length]
    omega
theorem extF_long {gen ser : Nat} {qs : List Pg} (h : ∀ q ∈ qs, 4 ≤ q.data.length) : ∀ (parts : List (List Nat)) (i bf : Nat), ∀ q ∈ extF gen ser qs i bf parts, 4 ≤ q.data.length
  | [], _, _, q, e => by cases e
  | p :: r, i, bf, q, e => by
    unfold extF at e
    rcases List.mem_cons.1 e with e | e
    · rw [e]; exact mkP_long h
    · exact extF_long h r _ _ q e
/-- The new pages of an Append. -/
def newsA (gen ser : Nat) (qs : List Pg) (size : Nat) (p : List Nat) : List Pg := extF gen ser qs (size / 487) (serP qs (size / 487)) (partsL (newRow qs size (rec1 p)))
end Go.Proofs.Ytalpippeelomjaa
