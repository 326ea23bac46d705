/- ARdS, AOwnSet: joined by program (tools/merge.py). -/
import Derived.Test.YtdphpjlhkamadaaZ8
import Derived.Test.YtdphpjlhkamadaaZ40
namespace Go.Proofs.Ytdphpjlhkamadaa
open Go.RowKit
set_option linter.unusedSimpArgs false
set_option linter.unusedVariables false
abbrev RS := Bool × List Nat
def MX : Nat := 18446744073709551615
def rByte (s : RS) : Nat × RS := ((takeByte s.2).1, (s.1 || !(takeByte s.2).2.2, (takeByte s.2).2.1))
def rNum (M : Nat) (s : RS) : Nat × RS := ((takeNum s.2 M).1, (s.1 || !(takeNum s.2 M).2.2, (takeNum s.2 M).2.1))
def rText (M : Nat) (s : RS) : ByteArray × RS := (txt (takeText s.2 M).1, (s.1 || !(takeText s.2 M).2.2, (takeText s.2 M).2.1))
def kidsS : Nat → RS → RS
  | 0, s => s
  | k + 1, s => (rNum MX (kidsS k s)).2
def kidV (s : RS) (k : Nat) : Nat := (rNum MX (kidsS k s)).1
def s1R (s : RS) : RS := (rByte s).2
def s2R (s : RS) : RS := (rText 64 (s1R s)).2
def s3R (s : RS) : RS := (rNum MX (s2R s)).2
def s4R (s : RS) : RS := (rByte (s3R s)).2
def s5R (s : RS) : RS := (rNum MX (s4R s)).2
def s6R (s : RS) : RS := (rNum (s5R s).2.length (s5R s)).2
def klR (s : RS) : Nat := (rNum (s5R s).2.length (s5R s)).1
def nodeN (s : RS) : Nd := ⟨(rByte s).1, (rText 64 (s1R s)).1, zag (rNum MX (s2R s)).1, (rByte (s3R s)).1, (rNum MX (s4R s)).1, (List.range (klR s)).map (kidV (s6R s))⟩
def nodeS (s : RS) : RS := kidsS (klR s) (s6R s)
/-- Bytes alone, and not too many. -/
def Fine (s : RS) : Prop := (∀ b ∈ s.2, b < 256) ∧ s.2.length ≤ 1048576
theorem numOf_len (l : List Nat) : True := trivial
theorem takeNum_parts (l : List Nat) (M : Nat) : takeNum l M = (0, [], false) ∨ takeNum l M = ((numOf l).1, l.drop (numOf l).2, true) ∧ (numOf l).1 ≤ M := by
  unfold takeNum
  by_cases h : (numOf l).2 = 0 ∨ M < (numOf l).1
  · rw [if_pos h]; exact .inl rfl
  · rw [if_neg h]; exact .inr ⟨rfl, by omega⟩
theorem rNum_le (M : Nat) (s : RS) : (rNum M s).1 ≤ M := by
  show (takeNum s.2 M).1 ≤ M
  rcases takeNum_parts s.2 M with e | ⟨e, h⟩
  · rw [e]; exact Nat.zero_le _
  · rw [e]; exact h
theorem Fine.num {s : RS} (h : Fine s) (M : Nat) : Fine (rNum M s).2 := by
  show (∀ b ∈ (takeNum s.2 M).2.1, b < 256) ∧ (takeNum s.2 M).2.1.length ≤ 1048576
  rcases takeNum_parts s.2 M with e | ⟨e, _⟩
  · rw [e]; exact ⟨by simp, by simp⟩
  · rw [e]
    exact ⟨fun b hb => h.1 b (List.mem_of_mem_drop hb), by show (s.2.drop _).length ≤ _; rw [List.length_drop]; have := h.2; omega⟩
theorem Fine.byte {s : RS} (h : Fine s) : Fine (rByte s).2 ∧ (rByte s).1 < 256 := by
  obtain ⟨b, l⟩ := s
  cases l with
  | nil => exact ⟨⟨by simp [rByte, takeByte], by simp [rByte, takeByte]⟩, by simp [rByte, takeByte]⟩
  | cons x r => exact ⟨⟨fun y hy => h.1 y (List.mem_cons_of_mem _ hy), by have := h.2; simp at this; show r.length ≤ _; omega⟩, h.1 x (by simp)⟩
theorem Fine.text {s : RS} (h : Fine s) (M : Nat) : Fine (rText M s).2 ∧ (rText M s).1.size ≤ 1048576 := by
  have hn := h.num M
  have h1 : (∀ b ∈ (takeNum s.2 M).2.1, b < 256) ∧ (takeNum s.2 M).2.1.length ≤ 1048576 := hn
  show ((∀ b ∈ (takeText s.2 M).2.1, b < 256) ∧ (takeText s.2 M).2.1.length ≤ 1048576) ∧ (txt (takeText s.2 M).1).size ≤ 1048576
  rw [txt_size]
  unfold takeText
  split
  · exact ⟨⟨by simp, by simp⟩, by simp⟩
  · refine ⟨⟨fun b hb => h1.1 b (List.mem_of_mem_drop hb), ?_⟩, ?_⟩
    · show (List.drop _ _).length ≤ _
      rw [List.length_drop]; omega
    · show (List.take _ _).length ≤ _
      rw [List.length_take]; omega
theorem Fine.kids {s : RS} (h : Fine s) : ∀ k, Fine (kidsS k s)
  | 0 => h
  | k + 1 => (h.kids k).num MX
theorem rNum_lt {s : RS} (M : Nat) (hM : M < 18446744073709551616) : (rNum M s).1 < 18446744073709551616 := Nat.lt_of_le_of_lt (rNum_le M s) hM
/-- A Reader behind some steps. -/
theorem Took.fine {W w : World} {B g : Nat} {s : RS} (h : Took W B g s.1 s.2 w) (hl : s.2.length ≤ 1048576) : Fine s := by
  obtain ⟨v, hR, _⟩ := h
  exact ⟨hR.by_.small, hl⟩
theorem Took.and {W w w' : World} {B g : Nat} {b b' : Bool} {l l' : List Nat} (h : Took W B g b l w) (h2 : Took w B g b' l' w') : Took W B g b' l' w' := by
  obtain ⟨v, _, hC⟩ := h
  obtain ⟨v', hR', hC'⟩ := h2
  exact ⟨v', hR', hC.trans (Goes.refl _ _) hC'⟩
theorem rbyteS {W w : World} {B g : Nat} {s : RS} (h : Took W B g s.1 s.2 w) :
    Calls Try.prog 70 #[.pointer (some ⟨g, 0, none⟩)] w fun e w' => e = .returned (.int .u8 ((rByte s).1 : Int)) ∧ Took W B g (rByte s).2.1 (rByte s).2.2 w' := by
  obtain ⟨v, hR, hC⟩ := h
  exact (rbyte_any w B g v s.1 s.2 hR).mono fun e w' ⟨he, hT⟩ => ⟨he, Took.and ⟨v, hR, hC⟩ hT⟩
theorem rnumS {W w : World} {B g M : Nat} {s : RS} (h : Took W B g s.1 s.2 w) (hM : M < 18446744073709551616) :
    Calls Try.prog 48 #[.pointer (some ⟨g, 0, none⟩), .int .u64 (M : Int)] w fun e w' => e = .returned (.int .u64 ((rNum M s).1 : Int)) ∧ Took W B g (rNum M s).2.1 (rNum M s).2.2 w' ∧ Chg w w' g none := by
  obtain ⟨v, hR, hC⟩ := h
  exact (rnum_any w B g M v s.1 s.2 hR hM).mono fun e w' ⟨he, hT⟩ => ⟨he, Took.and ⟨v, hR, hC⟩ hT, by obtain ⟨_, _, hC'⟩ := hT; exact hC'⟩
theorem rintS {W w : World} {B g : Nat} {s : RS} (h : Took W B g s.1 s.2 w) :
    Calls Try.prog 72 #[.pointer (some ⟨g, 0, none⟩)] w fun e w' => e = .returned (.int .i64 (zag (rNum MX s).1)) ∧ Took W B g (rNum MX s).2.1 (rNum MX s).2.2 w' := by
  obtain ⟨v, hR, hC⟩ := h
  exact (rint_any w B g v s.1 s.2 hR).mono fun e w' ⟨he, hT⟩ => ⟨he, Took.and ⟨v, hR, hC⟩ hT⟩
theorem rtextS {W w : World} {B g M : Nat} {s : RS} (h : Took W B g s.1 s.2 w) (hM : M < 9223372036854775808) :
    Calls Try.prog 71 #[.pointer (some ⟨g, 0, none⟩), .int .i64 (M : Int)] w fun e w' => e = .returned (.string (rText M s).1) ∧ Took W B g (rText M s).2.1 (rText M s).2.2 w' := by
  obtain ⟨v, hR, hC⟩ := h
  exact (rtext_any w B g M v s.1 s.2 hR hM).mono fun e w' ⟨he, hT⟩ => ⟨he, Took.and ⟨v, hR, hC⟩ hT⟩
theorem rleftS {W w : World} {B g : Nat} {s : RS} (h : Took W B g s.1 s.2 w) :
    Calls Try.prog 73 #[.pointer (some ⟨g, 0, none⟩)] w fun e w' => e = .returned (.int .i64 (s.2.length : Int)) ∧ w = w' := by
  obtain ⟨v, hR, hC⟩ := h
  exact rleft_any w B g v s.1 s.2 hR
/-- What is not the Reader's block may be changed, behind it. -/
theorem Took.new {W w w' : World} {B g : Nat} {b : Bool} {l : List Nat} (h : Took W B g b l w) (hb : Below W.heap.size w w') (hg : g < W.heap.size) : Took W B g b l w' := by
  obtain ⟨v, hR, hC⟩ := h
  refine ⟨v, hR.keep fun k hk => hb.block k (by omega), ?_⟩
  exact ⟨hb.os.trans hC.os, hb.tape.trans hC.tape, hb.output.trans hC.output, Nat.le_trans hC.size hb.size, fun i hi h1 h2 => (hb.block i hi).trans (hC.block i hi h1 h2)⟩
theorem Took.heap {W w : World} {B g k : Nat} {b : Bool} {l : List Nat} {o : Obj} (h : Took W B g b l w) (hk : W.heap[k]? = some o) (hne : k ≠ g) : w.heap[k]? = some o := by
  obtain ⟨v, _, hC⟩ := h
  exact hC.heap hk hne (by simp)
theorem took_size {W w : World} {B g : Nat} {b : Bool} {l : List Nat} (h : Took W B g b l w) : W.heap.size ≤ w.heap.size := by
  obtain ⟨_, _, hC⟩ := h
  exact hC.size
end Go.Proofs.Ytdphpjlhkamadaa
namespace Go.Proofs.Ytdphpjlhkamadaa
open Go.RowKit
set_option linter.unusedSimpArgs false
set_option linter.unusedVariables false
set_option maxRecDepth 100000
theorem own_seti {w : World} {base n c k : Nat} {A : Option Addr} {K : List Nat} (h : w.ownsRow base 24 1 (.slice A n c) n (ids K)) (hk : k < n) (y : Nat) :
    ∃ g, A = some ⟨g, 0, none⟩ ∧ base ≤ g ∧ (∃ cs, w.heap[g]? = some (.cells cs 24 (0, 0))) ∧ (∃ z, K[k]? = some z ∧ w.cell? ⟨g, k, none⟩ = some (.int .u64 (z : Int))) ∧ w.frozen? ⟨g, k, none⟩ = false ∧ k < c ∧ (w.setCell ⟨g, k, none⟩ (.int .u64 (y : Int))).ownsRow base 24 1 (.slice A n c) n (ids (K.set k y)) := by
  rcases h.2 with ⟨e, h0⟩ | ⟨g, cap, cur, e, hb, hg, hnc, hm, hs, ht⟩
  · omega
  · injection e with e1 _ e3
    subst e1 e3
    have hlen : K.length = n := by have := h.1; rw [ids_length] at this; omega
    obtain ⟨z, hz⟩ : ∃ z, K[k]? = some z := ⟨_, List.getElem?_eq_getElem (by omega)⟩
    have hcell : cur[k]? = some (.int .u64 (z : Int)) := by
      have h2 : (ids K)[k]? = some (.int .u64 (z : Int)) := by rw [ids_at, hz]; rfl
      rw [← ht, List.getElem?_take_of_lt (by omega)] at h2
      simpa using h2
    refine ⟨g, rfl, hb, ⟨cur, hg⟩, ⟨z, hz, by unfold World.cell?; rw [hg]; exact hcell⟩, frozen_of_row w g _ _ _ hg, by omega, ⟨by rw [ids_length, List.length_set]; omega, .inr ⟨g, c, cur.setIfInBounds k (.int .u64 (y : Int)), rfl, hb, heap_setCell_same _ g k _ _ _ hg, hnc, hm, by simpa using hs, ?_⟩⟩⟩
    rw [Array.toList_setIfInBounds, List.take_set, ht]
    unfold ids
    rw [List.map_set]
theorem box_six {w : World} {g : Nat} {u0 u1 u2 u3 u4 u5 : Value} (h : w.heap[g]? = some (.cells #[u0, u1, u2, u3, u4, u5] 33 (0, 0))) :
    (w.cell? ⟨g, 0, none⟩ = some u0 ∧ w.cell? ⟨g, 1, none⟩ = some u1 ∧ w.cell? ⟨g, 2, none⟩ = some u2 ∧ w.cell? ⟨g, 3, none⟩ = some u3 ∧ w.cell? ⟨g, 4, none⟩ = some u4 ∧ w.cell? ⟨g, 5, none⟩ = some u5) ∧
    w.frozen? ⟨g, 0, none⟩ = false ∧ w.frozen? ⟨g, 1, none⟩ = false ∧ w.frozen? ⟨g, 2, none⟩ = false ∧ w.frozen? ⟨g, 3, none⟩ = false ∧ w.frozen? ⟨g, 4, none⟩ = false ∧ w.frozen? ⟨g, 5, none⟩ = false := by
  refine ⟨⟨?_, ?_, ?_, ?_, ?_, ?_⟩, frozen_of_row w g _ _ _ h, frozen_of_row w g _ _ _ h, frozen_of_row w g _ _ _ h, frozen_of_row w g _ _ _ h, frozen_of_row w g _ _ _ h, frozen_of_row w g _ _ _ h⟩ <;> (unfold World.cell?; rw [h]; rfl)
theorem own_lower2 {w : World} {base base' n size : Nat} {tp : TypeId} {v : Value} {xs : List Value} (h : w.ownsRow base tp size v n xs) (hb : base' ≤ base) : w.ownsRow base' tp size v n xs := by
  refine ⟨h.1, ?_⟩
  rcases h.2 with e | ⟨g, cap, cur, e, h1, h2, h3⟩
  · exact .inl e
  · exact .inr ⟨g, cap, cur, e, Nat.le_trans hb h1, h2, h3⟩
theorem ownsRow_keep2 {w w' : World} {B n c gk : Nat} {t : TypeId} {cs : List Value} (h : w.ownsRow B t 1 (.slice (some ⟨gk, 0, none⟩) n c) n cs) (hk : ∀ j, j = gk → w'.heap[j]? = w.heap[j]?) : w'.ownsRow B t 1 (.slice (some ⟨gk, 0, none⟩) n c) n cs := by
  refine ⟨h.1, ?_⟩
  rcases h.2 with ⟨e, h0⟩ | ⟨q, cap, cur, e, h1, h2, h3⟩
  · cases e
  · have e1 : gk = q := by injection e with e _ _; injection e with e; injection e
    exact .inr ⟨q, cap, cur, e, h1, (hk q e1.symm).trans h2, h3⟩
theorem lt_of_own {w : World} {B n c gk j : Nat} {t : TypeId} {cs : List Value} (h : w.ownsRow B t 1 (.slice (some ⟨gk, 0, none⟩) n c) n cs) (hj : j = gk) : j < w.heap.size := by
  rcases h.2 with ⟨e, h0⟩ | ⟨q, cap, cur, e, h1, h2, h3⟩
  · cases e
  · have e1 : gk = q := by injection e with e _ _; injection e with e; injection e
    rw [hj, e1]; exact (Array.getElem?_eq_some_iff.1 h2).1
theorem own_low {w : World} {B n c gk j : Nat} {t : TypeId} {cs : List Value} (h : w.ownsRow B t 1 (.slice (some ⟨gk, 0, none⟩) n c) n cs) (hj : j = gk) : B ≤ j := by
  rcases h.2 with ⟨e, h0⟩ | ⟨q, cap, cur, e, h1, h2, h3⟩
  · cases e
  · have e1 : gk = q := by injection e with e _ _; injection e with e; injection e
    rw [hj, e1]; exact h1
end Go.Proofs.Ytdphpjlhkamadaa
