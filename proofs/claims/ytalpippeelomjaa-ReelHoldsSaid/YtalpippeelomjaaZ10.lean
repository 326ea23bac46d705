/- LMath, LRows, LCut: joined by program (tools/merge.py). -/
import Derived.Test.YtalpippeelomjaaZ9
namespace Go.Proofs.Ytalpippeelomjaa
open Go.RowKit
set_option linter.unusedSimpArgs false
set_option linter.unusedVariables false
/-- A record in a row. -/
def rec1 (s : List Nat) : List Nat := num s.length ++ s
/-- Records in a row. -/
def layR (ls : List (List Nat)) : List Nat := (ls.map rec1).flatten
theorem layR_nil : layR [] = [] := rfl
theorem layR_cons (s : List Nat) (ls : List (List Nat)) : layR (s :: ls) = rec1 s ++ layR ls := by unfold layR; rw [List.map_cons, List.flatten_cons]
theorem layR_append (a b : List (List Nat)) : layR (a ++ b) = layR a ++ layR b := by unfold layR; rw [List.map_append, List.flatten_append]
theorem layR_snoc (a : List (List Nat)) (s : List Nat) : layR (a ++ [s]) = layR a ++ rec1 s := by rw [layR_append, layR_cons, layR_nil, List.append_nil]
theorem layR_next {ls : List (List Nat)} {k : Nat} {l : List Nat} (h : ls[k]? = some l) : layR (ls.take (k + 1)) = layR (ls.take k) ++ rec1 l := by
  rw [List.take_add_one, h]
  exact layR_snoc _ _
theorem layR_take_le (ls : List (List Nat)) (k : Nat) : (layR (ls.take k)).length ≤ (layR ls).length := by
  have h : layR ls = layR (ls.take k) ++ layR (ls.drop k) := by rw [← layR_append, List.take_append_drop]
  rw [h, List.length_append]
  omega
theorem rec1_pos (s : List Nat) : 1 ≤ (rec1 s).length := by unfold rec1; have := num_pos s.length; rw [List.length_append]; omega
theorem rec1_small {s : List Nat} (h : ∀ b ∈ s, b < 256) : ∀ b ∈ rec1 s, b < 256 := small_append (num_small _) h
theorem layR_small {ls : List (List Nat)} (h : ∀ s ∈ ls, ∀ b ∈ s, b < 256) : ∀ b ∈ layR ls, b < 256 := by
  intro b hb
  unfold layR at hb
  obtain ⟨l, hl, hb⟩ := List.mem_flatten.1 hb
  obtain ⟨s, hs, rfl⟩ := List.mem_map.1 hl
  exact rec1_small (h s hs) b hb
theorem layR_count : ∀ ls : List (List Nat), ls.length ≤ (layR ls).length
  | [] => by simp
  | s :: ls => by
    have h1 := layR_count ls
    have h2 := rec1_pos s
    rw [layR_cons, List.length_append, List.length_cons]
    omega
theorem takeNum_ok (m M : Nat) (r : List Nat) (h1 : m < 18446744073709551616) (h2 : m ≤ M) : takeNum (num m ++ r) M = (m, r, true) := by
  have h3 := numOf_num h1 r
  have h4 := num_pos m
  unfold takeNum
  rw [h3, if_neg (by show ¬ ((num m).length = 0 ∨ M < m); omega)]
  simp
/-- A record is taken as it was laid. -/
theorem takeText_rec {s r : List Nat} {M : Nat} (h : s.length ≤ M) (hM : M < 18446744073709551616) : takeText (rec1 s ++ r) M = (s, r, true) := by
  have e := takeNum_ok s.length M (s ++ r) (by omega) h
  unfold takeText rec1
  rw [List.append_assoc, e]
  have h2 : ¬ (s ++ r).length < s.length := by rw [List.length_append]; omega
  rw [if_neg h2]
  simp
/-- What is taken is a record. -/
theorem takeText_back {l : List Nat} {M : Nat} (hs : ∀ b ∈ l, b < 256) (h : (takeText l M).2.2 = true) : l = rec1 (takeText l M).1 ++ (takeText l M).2.1 ∧ (takeText l M).1.length ≤ M := by
  have hn : (takeNum l M).2.2 = true := by
    unfold takeText at h
    split at h
    · cases h
    · exact h
  have ht : takeText l M = ((takeNum l M).2.1.take (takeNum l M).1, (takeNum l M).2.1.drop (takeNum l M).1, (takeNum l M).2.2) ∧ ¬ (takeNum l M).2.1.length < (takeNum l M).1 := by
    unfold takeText at h ⊢
    split at h
    · cases h
    · rename_i hh
      rw [if_neg hh]
      exact ⟨rfl, hh⟩
  have hc : ¬ ((numOf l).2 = 0 ∨ M < (numOf l).1) := by
    intro hc
    unfold takeNum at hn
    rw [if_pos hc] at hn
    cases hn
  have en : takeNum l M = ((numOf l).1, l.drop (numOf l).2, true) := if_neg hc
  obtain ⟨ht, hlen⟩ := ht
  rw [en] at ht hlen
  rw [ht]
  dsimp only at hlen ⊢
  obtain ⟨h1, h2, h3⟩ := numOf_back (a := (numOf l).1) (k := (numOf l).2) hs rfl (by omega)
  have hl : ((l.drop (numOf l).2).take (numOf l).1).length = (numOf l).1 := by rw [List.length_take]; omega
  refine ⟨?_, by rw [hl]; omega⟩
  unfold rec1
  rw [hl, ← h3, List.append_assoc, List.take_append_drop, List.take_append_drop]
/-- The records with which bytes begin. -/
def cutF : Nat → List Nat → List (List Nat)
  | 0, _ => []
  | f + 1, l => if (takeText l 65536).2.2 then (takeText l 65536).1 :: cutF f (takeText l 65536).2.1 else []
def cutL (l : List Nat) : List (List Nat) := cutF (l.length + 1) l
def Fit (ls : List (List Nat)) : Prop := ∀ s ∈ ls, s.length ≤ 65536
/-- No record begins these bytes. -/
def NoRec (l : List Nat) : Prop := (takeText l 65536).2.2 = false
theorem cutF_eq : ∀ (ls : List (List Nat)) (f : Nat) (rest : List Nat), Fit ls → NoRec rest → ls.length < f → cutF f (layR ls ++ rest) = ls
  | [], f, rest, _, hr, hf => by
    obtain ⟨f, rfl⟩ : ∃ g, f = g + 1 := ⟨f - 1, by simp at hf; omega⟩
    unfold cutF
    rw [layR_nil, List.nil_append]
    rw [if_neg (by unfold NoRec at hr; rw [hr]; simp)]
  | s :: ls, f, rest, hfit, hr, hf => by
    obtain ⟨f, rfl⟩ : ∃ g, f = g + 1 := ⟨f - 1, by simp at hf; omega⟩
    have e := takeText_rec (s := s) (r := layR ls ++ rest) (M := 65536) (hfit s (by simp)) (by omega)
    unfold cutF
    rw [layR_cons, List.append_assoc, e]
    rw [if_pos rfl]
    dsimp only
    rw [cutF_eq ls f rest (fun x hx => hfit x (by simp [hx])) hr (by simp at hf; omega)]
theorem cutL_eq {ls : List (List Nat)} {rest : List Nat} (hf : Fit ls) (hr : NoRec rest) : cutL (layR ls ++ rest) = ls := by
  refine cutF_eq ls _ rest hf hr ?_
  have := layR_count ls
  rw [List.length_append]
  omega
theorem noRec_nil : NoRec [] := by
  unfold NoRec takeText takeNum numOf scan
  rfl
/-- Any bytes are records, and what begins with none. -/
theorem cut_parts : ∀ (f : Nat) (l : List Nat), l.length < f → (∀ b ∈ l, b < 256) → ∃ rest, l = layR (cutF f l) ++ rest ∧ Fit (cutF f l) ∧ NoRec rest
  | 0, l, h, _ => by omega
  | f + 1, l, h, hs => by
    by_cases ht : (takeText l 65536).2.2 = true
    · obtain ⟨h1, h2⟩ := takeText_back hs ht
      have h3 := rec1_pos (takeText l 65536).1
      have h4 := congrArg List.length h1
      rw [List.length_append] at h4
      have hsr : ∀ b ∈ (takeText l 65536).2.1, b < 256 := fun b hb => hs b (by rw [h1]; exact List.mem_append_right _ hb)
      obtain ⟨rest, e1, e2, e3⟩ := cut_parts f (takeText l 65536).2.1 (by omega) hsr
      refine ⟨rest, ?_, ?_, e3⟩
      · rw [show cutF (f + 1) l = (takeText l 65536).1 :: cutF f (takeText l 65536).2.1 from if_pos ht]
        rw [layR_cons, List.append_assoc, ← e1]
        exact h1
      · rw [show cutF (f + 1) l = (takeText l 65536).1 :: cutF f (takeText l 65536).2.1 from if_pos ht]
        intro s hs
        rcases List.mem_cons.1 hs with rfl | hs
        · exact h2
        · exact e2 s hs
    · refine ⟨l, ?_, ?_, ?_⟩
      · rw [show cutF (f + 1) l = [] from if_neg ht]; rfl
      · rw [show cutF (f + 1) l = [] from if_neg ht]; intro s hs; cases hs
      · exact Bool.eq_false_iff.2 ht
theorem cutL_parts {l : List Nat} (hs : ∀ b ∈ l, b < 256) : ∃ rest, l = layR (cutL l) ++ rest ∧ Fit (cutL l) ∧ NoRec rest := cut_parts _ _ (Nat.lt_succ_self _) hs
theorem cutL_lay {ls : List (List Nat)} (hf : Fit ls) : cutL (layR ls) = ls := by
  have h := cutL_eq hf noRec_nil
  rwa [List.append_nil] at h
end Go.Proofs.Ytalpippeelomjaa
namespace Go.Proofs.Ytalpippeelomjaa
open Go.RowKit
set_option linter.unusedSimpArgs false
set_option linter.unusedVariables false
theorem infoSlice : (Try.prog.info? 43).map (fun i => (i.zero, i.size, i.bytes)) = some (some (.slice none 0 0), 1, 24) := by kernel_rfl
/-- v is a row of the call's own of slices that hold these bytes, in blocks below B. -/
def Rows2 (w : World) (base B : Nat) (v : Value) (ls : List (List Nat)) : Prop :=
  ∃ vs : List Value, vs.length = ls.length ∧ w.ownsRow base 43 1 v ls.length vs ∧ ∀ (j : Nat) (u : Value) (l : List Nat), vs[j]? = some u → ls[j]? = some l → Bytes w B u l
theorem Rows2.nil (w : World) (base B : Nat) : Rows2 w base B (.slice none 0 0) [] := ⟨[], rfl, World.ownsRow_nil _ _ _ _, fun j u l h => by simp at h⟩
theorem Rows2.len {w : World} {base B : Nat} {v : Value} {ls : List (List Nat)} (h : Rows2 w base B v ls) : ∃ A c, v = .slice A ls.length c := by
  obtain ⟨vs, h1, h2, h3⟩ := h
  rcases h2.2 with ⟨rfl, hn⟩ | ⟨g, cap, cur, rfl, _⟩
  · exact ⟨none, 0, by rw [hn]⟩
  · exact ⟨_, _, rfl⟩
theorem lies_of_own1 {w : World} {base : Nat} {t : TypeId} {v : Value} {n : Nat} {vs : List Value} (h : w.ownsRow base t 1 v n vs) : ∃ A c, v = .slice A n c ∧ Lies w w.heap.size A vs := by
  rcases h.2 with ⟨rfl, hn⟩ | ⟨g, cap, cur, rfl, _⟩
  · have h1 := h.1
    exact ⟨none, 0, by rw [hn], fun j u hj => by
      have h2 := (List.getElem?_eq_some_iff.1 hj).1
      omega⟩
  · exact ⟨_, _, rfl, Lies.of_own h⟩
theorem Rows2.parts {w : World} {base B : Nat} {v : Value} {ls : List (List Nat)} (h : Rows2 w base B v ls) (hB : B ≤ w.heap.size) (hl : ls.length ≤ maxLen) : Parts w w.heap.size v ls := by
  obtain ⟨vs, h1, h2, h3⟩ := h
  obtain ⟨A, c, rfl, hL⟩ := lies_of_own1 h2
  exact ⟨⟨A, c, vs, rfl, h1, hL, fun j u l hj hl => (h3 j u l hj hl).up hB⟩, hl⟩
theorem Rows2.keep {w w' : World} {base B : Nat} {v : Value} {ls : List (List Nat)} (h : Rows2 w base B v ls) (hk : ∀ k, v.ownBlock = some k → w'.heap[k]? = w.heap[k]?) (hb : Below B w w') : Rows2 w' base B v ls := by
  obtain ⟨vs, h1, h2, h3⟩ := h
  exact ⟨vs, h1, ownsRow_keep h2 hk, fun j u l hj hl => (h3 j u l hj hl).below hb⟩
theorem Rows2.below {w w' : World} {base B : Nat} {v : Value} {ls : List (List Nat)} (h : Rows2 w base B v ls) (hB : B ≤ w.heap.size) (hb : Below w.heap.size w w') : Rows2 w' base B v ls :=
  h.keep (fun k hk => by
    obtain ⟨vs, h1, h2, h3⟩ := h
    exact hb.block k (own_block_lt h2 hk).2) (hb.mono hB)
theorem Rows2.up {w : World} {base B B' : Nat} {v : Value} {ls : List (List Nat)} (h : Rows2 w base B v ls) (hB : B ≤ B') : Rows2 w base B' v ls := by
  obtain ⟨vs, h1, h2, h3⟩ := h
  exact ⟨vs, h1, h2, fun j u l hj hl => (h3 j u l hj hl).up hB⟩
theorem Rows2.lower {w : World} {base base' B : Nat} {v : Value} {ls : List (List Nat)} (h : Rows2 w base B v ls) (hb : base' ≤ base) : Rows2 w base' B v ls := by
  obtain ⟨vs, h1, h2, h3⟩ := h
  exact ⟨vs, h1, own_up h2 fun k hk => Nat.le_trans hb (own_block_lt h2 hk).1, h3⟩
/-- Behind an append of one slice. -/
theorem rows2_snoc {w : World} {base B : Nat} {v' u : Value} {ls : List (List Nat)} {vs : List Value} {l : List Nat} (hl : vs.length = ls.length) (h : w.ownsRow base 43 1 v' (ls.length + 1) (vs ++ [u]))
    (hb : ∀ (j : Nat) (u : Value) (l : List Nat), vs[j]? = some u → ls[j]? = some l → Bytes w B u l) (hu : Bytes w B u l) : Rows2 w base B v' (ls ++ [l]) := by
  refine ⟨vs ++ [u], by simp [hl], by rw [List.length_append]; exact h, fun j u' l' hj hl' => ?_⟩
  by_cases hj2 : j < vs.length
  · rw [List.getElem?_append_left hj2] at hj
    rw [List.getElem?_append_left (by omega)] at hl'
    exact hb j u' l' hj hl'
  · rw [List.getElem?_append_right (by omega)] at hj
    rw [List.getElem?_append_right (by omega)] at hl'
    have h0 : j - vs.length = 0 := by
      have := (List.getElem?_eq_some_iff.1 hj).1
      simp at this
      omega
    rw [h0] at hj
    rw [show j - ls.length = 0 by omega] at hl'
    simp at hj hl'
    subst hj hl'
    exact hu
theorem takeText_bad {l : List Nat} {M : Nat} (h : (takeText l M).2.2 = false) : takeText l M = ([], [], false) := by
  unfold takeText at h ⊢
  split at h
  · rename_i hh; rw [if_pos hh]
  · rename_i hh
    rw [if_neg hh]
    have hn : takeNum l M = (0, [], false) := by
      unfold takeNum at h ⊢
      split at h
      · rename_i h2; rw [if_pos h2]
      · cases h
    rw [hn]
    rfl
end Go.Proofs.Ytalpippeelomjaa
namespace Go.Proofs.Ytalpippeelomjaa
open Go.RowKit
set_option linter.unusedSimpArgs false
set_option linter.unusedVariables false
theorem mine_cap {w : World} {base n c : Nat} {A : Option Addr} {l : List Nat} (h : Mine w base A n c l) : n ≤ c := by
  obtain ⟨⟨A', c', hv, _, hc, _⟩, _, _⟩ := h.bytes
  injection hv with h1 h2 h3
  omega
/-- The k bytes ahead of place E, and no room behind them. -/
def subS (A : Option Addr) (E k : Nat) : Value := .slice (if E = E - k then A else A.map (fun x => x.add (E - k))) (E - (E - k)) (E - (E - k))
theorem subS_bytes {w : World} {B N c E k : Nat} {A : Option Addr} {l : List Nat} (h : Bytes w B (.slice A N c) l) (hE : E ≤ N) (hk : k ≤ E) : Bytes w B (subS A E k) ((l.take E).drop (E - k)) := by
  obtain ⟨⟨A', c', hv, hl, hc, hn⟩, hs, hm⟩ := h
  injection hv with h1 h2 h3
  subst h1 h2 h3
  have e : ((l.take E).drop (E - k)).length = E - (E - k) := by rw [List.length_drop, List.length_take]; omega
  refine ⟨⟨(if E = E - k then A else A.map (fun x => x.add (E - k))), E - (E - k), ?_, ?_, by omega, ?_⟩, fun b hb => hs b (List.mem_of_mem_take (List.mem_of_mem_drop hb)), by rw [e]; unfold maxLen at hm ⊢; omega⟩
  · rw [e]; rfl
  · rw [byt_drop, byt_take]
    exact (hl.first E).rest (by rw [List.length_take, byt_length]; omega) (by omega) (Nat.le_refl _)
  · intro hA
    by_cases hz : E = E - k
    · omega
    · rw [if_neg hz] at hA
      rw [Option.map_eq_none_iff] at hA
      have := hn hA
      omega
def CutS (W : World) (g : Nat) (l : List Nat) (v e : Value) (wr : World) : Prop :=
  ∃ (ls : List (List Nat)) (rest : List Nat) (u : Value), e = .int .i64 ((layR ls).length : Int) ∧ l = layR ls ++ rest ∧ Fit ls ∧ Rdr wr g g u false rest ∧ Rows2 wr W.heap.size g v ls ∧ Below g W wr
theorem Chg.below_g {w w' a : World} {g : Nat} (h : Chg w w' g none) (ha : Below g a w) (hg : g ≤ w.heap.size) : Below g a w' := h.below ha hg (Nat.le_refl _) (fun k hk => by cases hk)
theorem cut_next {W wr w4 w6 : World} {g : Nat} {u4 u v4 v' : Value} {o : Obj} {ls : List (List Nat)} {vs : List Value} {r2 sz : List Nat} (hg : g < W.heap.size) (hB : Below g W wr) (hvl : vs.length = ls.length)
    (hown : wr.ownsRow W.heap.size 43 1 u4 ls.length vs) (hby : ∀ (j : Nat) (u : Value) (l : List Nat), vs[j]? = some u → ls[j]? = some l → Bytes wr g u l)
    (hR4 : Rdr w4 g g v4 false r2) (hC4 : Chg wr w4 g none) (hown6 : w6.ownsRow W.heap.size 43 1 v' (ls.length + 1) (vs ++ [u])) (hg6 : (w4.alloc o).grownBy w6 u4.ownBlock) (hu : Bytes w4 g u sz) :
    Rdr w6 g g v4 false r2 ∧ Rows2 w6 W.heap.size g v' (ls ++ [sz]) ∧ Below g W w6 := by
  have hs := hB.size
  have hs4 := hC4.size
  have hrow : ∀ k, u4.ownBlock = some k → W.heap.size ≤ k := fun k hk => (own_block_lt hown hk).1
  have b4 : Below g wr w4 := hC4.below_g (Below.refl g wr) (by omega)
  have b6 : Below g w4 w6 := ((Below.refl g w4).alloc (by omega) o).grown hg6 (by simp; omega) (fun k hk => by have := hrow k hk; omega)
  refine ⟨hR4.keep fun k hk => ?_, ?_, (hB.trans b4).trans b6⟩
  · have h1 : k < (w4.alloc o).heap.size := by simp; omega
    have h2 := hg6.block k h1 (fun e => by have := hrow k e.symm; omega)
    rw [h2]
    exact Go.heap_alloc_old _ _ (by omega)
  · exact rows2_snoc hvl hown6 (fun j u l hj hl => ((hby j u l hj hl).below b4).below b6) (hu.below b6)
theorem int_i64 {a b : Int} (h : a = b) : Value.int .i64 a = Value.int .i64 b := by rw [h]
theorem take_drop_rec {l a sz r2 : List Nat} {N m : Nat} (h : l = a ++ (rec1 sz ++ r2)) (hN : N = l.length) (hm : m = r2.length) : (l.take (N - m)).drop (N - m - sz.length) = sz := by
  have e1 : l = (a ++ num sz.length ++ sz) ++ r2 := by rw [h]; unfold rec1; simp
  have hl : N - m = (a ++ num sz.length ++ sz).length := by rw [hN, hm, e1]; simp; omega
  have e2 : l.take (N - m) = a ++ num sz.length ++ sz := by rw [hl, e1, List.take_left]
  have hl2 : N - m - sz.length = (a ++ num sz.length).length := by rw [hl]; simp; omega
  rw [e2, hl2, List.drop_left]
set_option maxRecDepth 100000 in
set_option maxHeartbeats 2000000 in
theorem cut_recs (w : World) (v : Value) (l : List Nat) (hp : Bytes w w.heap.size v l) (hl : l.length ≤ 1048576) :
    Calls Try.prog 41 #[v] w fun e w' => ∃ u, e = .returned (.tuple #[u, .int .i64 ((layR (cutL l)).length : Int)]) ∧ Rows2 w' w.heap.size w'.heap.size u (cutL l) ∧ Below w.heap.size w w' := by
  have HC := hide (tp_clone_any w v l hp (by omega))
  have HP := Lib.hid hp
  obtain ⟨i0, hi0, hz0, hz1, hz2⟩ := info_parts infoSlice
  have HI := Lib.hid hi0
  have H0 := Lib.hid hz0
  have H1 := Lib.hid hz1
  have H2 := Lib.hid hz2
  clear hi0 hz0 hz1 hz2
  obtain ⟨A0, c0, rfl, _, _, _⟩ := hp.form
  obtain ⟨N, hN⟩ : ∃ N, N = l.length := ⟨_, rfl⟩
  rw [← hN] at hl ⊢
  rw [← hN] at HC HP
  have HN := Lib.hid hN
  clear hp hN
  go_enter Try.func41, Try.ntmps41
  go_wp2_with (first
    | (go_at_call 66; (with_reducible refine (unhide HC).mono ?_); rintro e w1 ⟨A1, n1, c1, rfl, hM1, hb1⟩; go_loud (
        obtain rfl : N = n1 := (HN.out.trans hM1.len.symm);
        have hc1 : N ≤ c1 := mine_cap hM1;
        have HM1 := Lib.hid hM1;
        clear hM1;
        have HR := hide (tp_read_any w1 _ l (HP.out.along hb1) (by rw [← HN.out]; exact hl))))
    | (go_at_call 67; (with_reducible refine (unhide HR).mono ?_); rintro e w2 ⟨g, u, rfl, hR2, hg2, hb2⟩))
  have hg : g < w2.heap.size := lt_of_heap hR2.st
  have HOWN : Hid (Bytes w2 g (.slice A1 N c1) l) := Lib.hid ((HM1.out.bytes.below hb2).up hg2)
  have HW2 : Hid (Below w.heap.size w w2) := Lib.hid (hb1.trans (hb2.mono hb1.size))
  have hwg : w.heap.size ≤ g := Nat.le_trans hb1.size hg2
  clear hb1 hb2
  go_loopw [4, 5] (fun t e wr => CutS w2 g l t e wr) (fun _ e _ => N - (intOf e).toNat)
  case atStart =>
    exact ⟨[], l, u, rfl, rfl, (fun s hs => by cases hs), hR2, Rows2.nil _ _ _, Below.refl _ _⟩
  case round =>
    obtain ⟨ls, rest, u1, rfl, hl1, hfit, hR, hRo, hB⟩ := hrel
    have HLf := hide (rleft_any wr g g u1 false rest hR)
    have hrs : ∀ b ∈ rest, b < 256 := hR.by_.small
    have hrl : rest.length ≤ N := by rw [HN.out, hl1, List.length_append]; omega
    have hEN : (layR ls).length + rest.length = N := by rw [HN.out, hl1, List.length_append]
    have HEN := Lib.hid hEN
    have HRD := Lib.hid hR
    have HRO := Lib.hid hRo
    have HB := Lib.hid hB
    have HL1 := Lib.hid hl1
    have HFIT := Lib.hid hfit
    have hsW := hB.size
    have HEnd : Hid (NoRec rest → ∀ w', Below wr.heap.size wr w' ∨ Chg wr w' g none → (∃ u, Ending.returned (.tuple #[u4, .int .i64 ((layR ls).length : Int)]) = .returned (.tuple #[u, .int .i64 ((layR (cutL l)).length : Int)]) ∧ Rows2 w' w.heap.size w'.heap.size u (cutL l) ∧ Below w.heap.size w w')) := Lib.hid (by
      intro hno w' hw'
      have he : cutL l = ls := by rw [hl1]; exact cutL_eq hfit hno
      have hbg : Below g wr w' := hw'.elim (fun h => h.mono (by omega)) (fun h => h.below_g (Below.refl g wr) (by omega))
      have hk : ∀ k, u4.ownBlock = some k → w'.heap[k]? = wr.heap[k]? := fun k hk => by
        obtain ⟨vs, h1, h2, h3⟩ := hRo
        have hh := own_block_lt h2 hk
        exact hw'.elim (fun h => h.block k hh.2) (fun h => h.block k hh.2 (by omega) (by simp))
      refine ⟨u4, by rw [he], ?_, HW2.out.trans ((hB.trans hbg).mono hwg)⟩
      rw [he]
      exact ((hRo.keep hk hbg).lower (Nat.le_trans hwg (Nat.le_of_lt hg))).up (Nat.le_trans (by omega) hbg.size))
    clear hR hRo hB hl1 hfit hEN
    by_cases hre : rest = []
    · subst hre
      go_wp2_with (go_at_call 68; (with_reducible refine (unhide HLf).mono ?_); rintro e w3 ⟨rfl, rfl⟩)
      go_ret2
      exact HEnd.out noRec_nil _ (.inl (Below.refl _ _))
    · have hpos : (rest.length : Int) > 0 := by
        have := List.length_pos_iff.2 hre
        omega
      have HT := hide (rtext_any wr g g 65536 u1 false rest HRD.out (by decide))
      rw [show ((65536 : Nat) : Int) = 65536 from rfl] at HT
      by_cases hok : (takeText rest 65536).2.2 = true
      · obtain ⟨hre1, hsl⟩ := takeText_back hrs hok
        rw [hok] at HT
        obtain ⟨sz, hsz⟩ : ∃ n, n = (takeText rest 65536).1 := ⟨_, rfl⟩
        obtain ⟨r2, hr2⟩ : ∃ n, n = (takeText rest 65536).2.1 := ⟨_, rfl⟩
        rw [← hsz, ← hr2] at HT hre1
        rw [← hsz] at hsl
        have hr2l : r2.length ≤ N := by rw [hre1, List.length_append] at hrl; omega
        have HR1 := Lib.hid hre1
        have hle : sz.length + r2.length ≤ N := by
          rw [hre1, List.length_append] at hrl
          unfold rec1 at hrl
          rw [List.length_append] at hrl
          omega
        have HSUM : Hid ((layR (ls ++ [sz])).length + r2.length = N) := Lib.hid (by
          have := HEN.out
          rw [hre1, List.length_append] at this
          rw [layR_snoc, List.length_append]
          omega)
        have HGT : Hid ((layR ls).length + 1 + r2.length ≤ N) := Lib.hid (by
          have := HEN.out
          have := rec1_pos sz
          rw [hre1, List.length_append] at *
          omega)
        have hlss : ls.length ≤ N := by
          have := layR_count ls
          have := HEN.out
          omega
        have hfit2 : Fit (ls ++ [sz]) := fun s hs => by
          rcases List.mem_append.1 hs with h | h
          · exact HFIT.out s h
          · rw [List.mem_singleton] at h; rw [h]; exact hsl
        have HF2 := Lib.hid hfit2
        have HL2 : Hid (l = layR (ls ++ [sz]) ++ r2) := Lib.hid (by rw [layR_snoc, List.append_assoc, ← hre1]; exact HL1.out)
        clear hsz hr2 hok hre1 hre hrl hfit2
        have htx := txt_size sz
        obtain ⟨k, hk⟩ : ∃ k, k = sz.length := ⟨_, rfl⟩
        obtain ⟨m, hm⟩ : ∃ m, m = r2.length := ⟨_, rfl⟩
        rw [← hk] at hsl hle htx
        rw [← hm] at hle hr2l HSUM HGT
        have hTD := take_drop_rec (a := layR ls) (sz := sz) (r2 := r2) (HL1.out.trans (by rw [HR1.out])) HN.out hm
        rw [← hk] at hTD
        have HSB : Hid (∀ w4, Below g w2 w4 → Bytes w4 g (subS A1 (N - m) k) sz) := Lib.hid (fun w4 hb => by
          have := subS_bytes (E := N - m) (k := k) (HOWN.out.below hb) (by omega) (by omega)
          rw [hTD] at this
          exact this)
        have HK := Lib.hid hk
        have HMM := Lib.hid hm
        have hLeft : ∀ w4 v4, Rdr w4 g g v4 false r2 → Calls Try.prog 68 #[.pointer (some ⟨g, 0, none⟩)] w4 fun e w' => e = .returned (.int .i64 (m : Int)) ∧ w4 = w' := fun w4 v4 h => by rw [hm]; exact rleft_any w4 g g v4 false r2 h
        have HLL := Lib.hid hLeft
        obtain ⟨vs, hvl, hown, hby⟩ := HRO.out
        have HV := Lib.hid hvl
        have HO := Lib.hid hown
        have HBY := Lib.hid hby
        have HO4 : Hid (∀ w4 o, Chg wr w4 g none → (w4.alloc o).ownsRow w2.heap.size 43 1 u4 ls.length vs) := Lib.hid (fun w4 o h => World.ownsRow.alloc (ownsRow_keep hown fun k hk => by
          have hh := own_block_lt hown hk
          exact h.block k hh.2 (by omega) (by simp)) _)
        clear hk hm hLeft hTD hvl hown hby
        by_cases hm0 : m = 0
        · subst hm0
          have hd0 : doneIs false r2 = 0 := by
            have : r2 = [] := List.eq_nil_of_length_eq_zero HMM.out.symm
            rw [this]; rfl
          have HD0 := Lib.hid hd0
          clear hd0
          go_wp2_with (first
            | (go_at_call 68; (with_reducible refine (unhide HLf).mono ?_); rintro e w3 ⟨rfl, rfl⟩)
            | (go_at_call 68; (with_reducible refine (unhide HL4).mono ?_); rintro e w3 ⟨rfl, rfl⟩)
            | (go_at_call 70; (with_reducible refine (unhide HD4).mono ?_); rintro e w3 ⟨rfl, rfl⟩)
            | (at_builtin; go_loud (refine wpList_append_own _ rfl _ _ 34 rfl w2.heap.size 43 i0 (.slice none 0 0) 1 24 Try.underlying34 HI.out H0.out H1.out H2.out rfl (by decide) _ ls.length vs rfl (HO4.out w4 _ HC4.out) ⟨_, 0, none⟩ 1 1 [subS A1 N k] rfl rfl (cell_one_new _ _) (by simp [Value.oneCell', subS]) (by unfold maxLen; omega) (by omega) (by simp; omega) ?_); intro v' w6 hown6 hg6 hx6)
            | (go_at_call 69; (with_reducible refine (unhide HT).mono ?_); rintro e w4 ⟨rfl, v4, hR4, hC4⟩; go_loud (
                have hR4' : Rdr w4 g g v4 false r2 := hR4;
                have HL4 := hide (HLL.out w4 v4 hR4');
                have HD4 := hide (rdone_any w4 g g v4 false r2 hR4');
                rw [HD0.out] at HD4;
                have HR4 := Lib.hid hR4';
                have hs4 := hC4.size;
                have HC4 := Lib.hid hC4;
                clear hR4 hR4' hC4)))
          obtain ⟨j1, j2, j3⟩ := cut_next hg HB.out HV.out HO.out HBY.out HR4.out HC4.out hown6 hg6 (HSB.out w4 (HC4.out.below_g HB.out (by omega)))
          have J1 := Lib.hid j1
          have J2 := Lib.hid j2
          have J3 := Lib.hid j3
          clear hown6 hg6 j1 j2 j3
          go_roundw
          case rel => exact ⟨ls ++ [sz], r2, v4, int_i64 (by have := HSUM.out; omega), HL2.out, HF2.out, J1.out, J2.out, J3.out⟩
          case measure => simp [intOf]; have := HSUM.out; have := HEN.out; have := HGT.out; omega
        · go_wp2_with (first
            | (go_at_call 68; (with_reducible refine (unhide HLf).mono ?_); rintro e w3 ⟨rfl, rfl⟩)
            | (go_at_call 68; (with_reducible refine (unhide HL4).mono ?_); rintro e w3 ⟨rfl, rfl⟩)
            | (at_builtin; go_loud (refine wpList_append_own _ rfl _ _ 34 rfl w2.heap.size 43 i0 (.slice none 0 0) 1 24 Try.underlying34 HI.out H0.out H1.out H2.out rfl (by decide) _ ls.length vs rfl (HO4.out w4 _ HC4.out) ⟨_, 0, none⟩ 1 1 [subS A1 (N - m) k] rfl rfl (cell_one_new _ _) (by simp [Value.oneCell', subS]) (by unfold maxLen; omega) (by omega) (by simp; omega) ?_); intro v' w6 hown6 hg6 hx6)
            | (go_at_call 69; (with_reducible refine (unhide HT).mono ?_); rintro e w4 ⟨rfl, v4, hR4, hC4⟩; go_loud (
                have hR4' : Rdr w4 g g v4 false r2 := hR4;
                have HL4 := hide (HLL.out w4 v4 hR4');
                have HR4 := Lib.hid hR4';
                have hs4 := hC4.size;
                have HC4 := Lib.hid hC4;
                clear hR4 hR4' hC4)))
          obtain ⟨j1, j2, j3⟩ := cut_next hg HB.out HV.out HO.out HBY.out HR4.out HC4.out hown6 hg6 (HSB.out w4 (HC4.out.below_g HB.out (by omega)))
          have J1 := Lib.hid j1
          have J2 := Lib.hid j2
          have J3 := Lib.hid j3
          clear hown6 hg6 j1 j2 j3
          go_roundw
          case rel => exact ⟨ls ++ [sz], r2, v4, int_i64 (by have := HSUM.out; omega), HL2.out, HF2.out, J1.out, J2.out, J3.out⟩
          case measure => simp [intOf]; have := HSUM.out; have := HEN.out; have := HGT.out; omega
      · have hb := takeText_bad (Bool.eq_false_iff.2 hok)
        rw [hb] at HT
        have HNO := Lib.hid (show NoRec rest from Bool.eq_false_iff.2 hok)
        clear hok hb
        go_wp2_with (first
          | (go_at_call 68; (with_reducible refine (unhide HLf).mono ?_); rintro e w3 ⟨rfl, rfl⟩)
          | (go_at_call 68; (with_reducible refine (unhide HL4).mono ?_); rintro e w3 ⟨rfl, rfl⟩)
          | (go_at_call 70; (with_reducible refine (unhide HD4).mono ?_); rintro e w3 ⟨rfl, rfl⟩)
          | (go_at_call 69; (with_reducible refine (unhide HT).mono ?_); rintro e w4 ⟨rfl, v4, hR4, hC4⟩; go_loud (
              have hR4' : Rdr w4 g g v4 true [] := hR4;
              have HL4 := hide (rleft_any w4 g g v4 true [] hR4');
              have HD4 := hide (rdone_any w4 g g v4 true [] hR4');
              rw [done_bad (.inl rfl)] at HD4;
              have HR4 := Lib.hid hR4';
              have HC4 := Lib.hid hC4;
              clear hR4 hR4' hC4)))
        go_ret2
        exact HEnd.out HNO.out _ (.inr HC4.out)
end Go.Proofs.Ytalpippeelomjaa
