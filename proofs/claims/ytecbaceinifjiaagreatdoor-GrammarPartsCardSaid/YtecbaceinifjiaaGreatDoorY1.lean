/- GBal, GCount, GApp, GNamed, GSuf, GPart: joined by program (tools/merge.py). -/
import Derived.Test.YtecbaceinifjiaaGreatDoorZ27
import Derived.Test.YtecbaceinifjiaaGreatDoorZ29
namespace Go.Proofs.YtecbaceinifjiaaGreatDoor
open Go.RowKit
set_option linter.unusedSimpArgs false
set_option linter.unusedVariables false
set_option maxRecDepth 100000
/-- A brace is a sign. -/
def GoodB (t : Tok) : Prop := t.text = c_lbr ∨ t.text = c_rbr → t.kind = 4
def wt (t : List Nat) : Int := if t = c_lbr then 1 else if t = c_rbr then -1 else 0
def bal : List Tok → Int
  | [] => 0
  | t :: r => wt t.text + bal r
/-- From s to s': so much was taken; where nothing is wrong behind it, nothing was ahead of it, and d more braces were opened than closed. -/
structure Bl (s s' : PS) (d : Int) : Prop where
  suf : s'.left <:+ s.left
  wr : s'.wrong = false → s.wrong = false
  ok : (∀ t ∈ s.left, GoodB t) → s'.wrong = false → bal s.left = bal s'.left + d
theorem Bl.refl (s : PS) : Bl s s 0 := ⟨List.suffix_refl _, fun h => h, fun _ h => by omega⟩
theorem Bl.trans {a b c : PS} {d e : Int} (h : Bl a b d) (k : Bl b c e) : Bl a c (d + e) := by
  refine ⟨k.suf.trans h.suf, fun hw => h.wr (k.wr hw), fun hg hw => ?_⟩
  have k2 := k.ok (fun t ht => hg t (h.suf.subset ht)) hw
  have h2 := h.ok hg (k.wr hw)
  omega
theorem Bl.cast {a b : PS} {d e : Int} (h : Bl a b d) (he : d = e) : Bl a b e := by rw [← he]; exact h
/-- What keeps what is left, and whether something is wrong. -/
theorem bl_same {s s' : PS} (h1 : s'.left = s.left) (h2 : s'.wrong = s.wrong) : Bl s s' 0 := ⟨by rw [h1]; exact List.suffix_refl _, fun h => by rw [← h2]; exact h, fun _ h => by rw [h1]; omega⟩
theorem bl_fail (s : PS) (d : Int) : Bl s (failS s) d := ⟨List.nil_suffix, (fun h => by cases h), fun _ h => by cases h⟩
theorem Bl.failed {a b : PS} {d : Int} (h : Bl a b d) (e : Int) : Bl a (failS b) e := ⟨List.nil_suffix, (fun h => by cases h), fun _ h => by cases h⟩
/-- The next token is taken. -/
theorem bl_next (s : PS) : Bl s (nextS s) (wt (nextT s).text) := by
  unfold nextS nextT
  cases hs : s.left with
  | nil => exact ⟨List.nil_suffix, (fun h => by cases h), fun _ h => by cases h⟩
  | cons t r =>
    refine ⟨by rw [hs]; exact List.suffix_cons t r, fun h => h, fun _ h => ?_⟩
    rw [hs]
    show wt t.text + bal r = bal r + wt t.text
    omega
theorem is_next {c : List Nat} {s : PS} (h : isS c s = true) : (nextT s).text = c := by
  unfold isS at h
  unfold nextT
  cases hs : s.left with
  | nil => rw [hs] at h; cases h
  | cons t r => rw [hs] at h; simpa using h
theorem bl_want (c : List Nat) (s : PS) : Bl s (wantS c s) (wt c) := by
  unfold wantS
  split
  · rename_i h
    have := bl_next s
    rw [is_next h] at this
    exact this
  · exact bl_fail s _
theorem bl_take {c : List Nat} {s : PS} (h : isS c s = true) : Bl s (nextS s) (wt c) := by
  have := bl_next s
  rw [is_next h] at this
  exact this
/-- A token of another kind than a sign is no brace. -/
theorem wt_kind {s : PS} (hg : ∀ t ∈ s.left, GoodB t) (hk : (nextT s).kind ≠ 4) : wt (nextT s).text = 0 := by
  unfold nextT at hk ⊢
  cases hs : s.left with
  | nil => rfl
  | cons t r =>
    rw [hs] at hk
    have h1 := hg t (by rw [hs]; exact List.mem_cons_self)
    unfold wt
    show (if t.text = c_lbr then (1 : Int) else if t.text = c_rbr then -1 else 0) = 0
    rw [if_neg (fun e => hk (h1 (.inl e))), if_neg (fun e => hk (h1 (.inr e)))]
theorem bl_nextK {s : PS} (hk : (nextT s).kind ≠ 4) : Bl s (nextS s) 0 := by
  have h := bl_next s
  refine ⟨h.suf, h.wr, fun hg hw => ?_⟩
  have h1 := h.ok hg hw
  rw [wt_kind hg hk] at h1
  exact h1
theorem bl_nextT {s : PS} {c : List Nat} (hk : (nextT s).text = c) (hc : wt c = 0) : Bl s (nextS s) 0 := by
  have h := bl_next s
  rw [hk, hc] at h
  exact h
theorem bl_name (s : PS) : Bl s (nameS s) 0 := by
  unfold nameS
  split
  · rename_i h; exact bl_nextK (by rw [h]; decide)
  · exact (bl_next s).failed 0
theorem bl_type (s : PS) : Bl s (typeS s) 0 := by
  unfold typeS
  split
  · rename_i h; exact bl_nextT h (by decide)
  · split
    · rename_i h; exact bl_nextT h (by decide)
    · exact (bl_next s).failed 0
theorem bl_grow (u : Nat) (n : Nd) (s : PS) : Bl s (growS u n s) 0 := bl_same rfl rfl
theorem bl_nest {f : PS → PS} {d : Int} (hf : ∀ t, Bl t (f t) d) (s : PS) : Bl s (nestS f s) d := by
  unfold nestS
  split
  · exact bl_fail s _
  · have h := hf { s with depth := s.depth + 1 }
    exact ⟨h.suf, h.wr, h.ok⟩
theorem bl_comma {part : PS → PS} (hp : ∀ t, Bl t (part t) 0) : ∀ (k : Nat) (s : PS), Bl s (commaS part k s) 0
  | 0, s => Bl.refl s
  | k + 1, s => by
    show Bl s (if isS c_comma s then commaS part k (part (nextS s)) else s) 0
    split
    · rename_i h; exact (((bl_take h).trans (hp _)).trans (bl_comma hp k _)).cast (by decide)
    · exact Bl.refl s
theorem bl_list {part : PS → PS} (hp : ∀ t, Bl t (part t) 0) (s : PS) : Bl s (listS part s) 0 := by
  unfold listS
  split
  · rename_i h; exact (bl_take h).cast (by decide)
  · exact (((hp s).trans (bl_comma hp _ _)).trans (bl_want c_rpar _)).cast (by decide)
theorem bl_call {ex : Nat → PS → PS} (hx : ∀ u t, Bl t (ex u t) 0) (u : Nat) (m : List Nat) (s : PS) : Bl s (callS ex u m s) 0 := by
  unfold callS
  dsimp only
  have h1 := ((bl_grow u (nd0 19) s).trans (bl_want c_dot _)).trans (bl_name _)
  have h2 : Bl (nameS (wantS c_dot (growS u (nd0 19) s))) { nameS (wantS c_dot (growS u (nd0 19) s)) with calls := (nameS (wantS c_dot (growS u (nd0 19) s))).calls ++ [(growId s, m, nameT (wantS c_dot (growS u (nd0 19) s)))], cnt := (nameS (wantS c_dot (growS u (nd0 19) s))).cnt + 1 } 0 := bl_same rfl rfl
  exact (((h1.trans h2).trans (bl_want c_lpar _)).trans (bl_nest (fun t => bl_list (hx _) t) _)).cast (by decide)
theorem bl_var (n : List Nat) (s : PS) : Bl s (varS n s) 0 := by unfold varS; split; exact bl_same rfl rfl; exact Bl.refl s
theorem opG_wt {t : List Nat} (h : opG t ≠ 0) : wt t = 0 := by
  unfold wt
  rw [if_neg, if_neg]
  · intro e; rw [e] at h; exact h (by decide)
  · intro e; rw [e] at h; exact h (by decide)
theorem bl_bin {ex : Nat → PS → PS} (hx : ∀ u t, Bl t (ex u t) 0) (u : Nat) (s : PS) : Bl s (binS ex u s) 0 := by
  unfold binS
  refine ((bl_grow u (nd0 18) s).trans (bl_nest (d := 0) (fun t => ?_) _)).cast (by decide)
  dsimp only
  have h1 : ∀ x : PS, Bl x (if opG (nextT x).text = 0 then failS (nextS x) else nextS x) 0 := fun x => by
    split
    · exact (bl_next x).failed 0
    · rename_i h; exact (bl_next x).cast (opG_wt h)
  have h2 : ∀ (x : PS) (i v : Nat), Bl x (numOf i v x) 0 := fun x i v => bl_same rfl rfl
  exact (((((hx _ t).trans (h1 _)).trans (h2 _ _ _)).trans (hx _ _)).trans (bl_want c_rpar _)).cast (by decide)
theorem bl_expr : ∀ (f u : Nat) (s : PS), Bl s (exprS f u s) 0
  | 0, u, s => Bl.refl s
  | f + 1, u, s => by
    unfold exprS
    dsimp only
    split
    · rename_i h; exact ((bl_nextK (by rw [h]; decide)).trans (bl_grow _ _ _)).cast (by decide)
    · split
      · rename_i h
        have hk : Bl s (nextS s) 0 := bl_nextK (by rw [h]; decide)
        split
        · exact (hk.trans (bl_call (fun u t => bl_expr f u t) _ _ _)).cast (by decide)
        · exact ((hk.trans (bl_var _ _)).trans (bl_grow _ _ _)).cast (by decide)
      · split
        · rename_i h; exact ((bl_nextT h (by decide)).trans (bl_grow _ _ _)).cast (by decide)
        · split
          · rename_i h; exact ((bl_nextT h (by decide)).trans (bl_grow _ _ _)).cast (by decide)
          · split
            · rename_i h; exact ((bl_nextT h (by decide)).trans (bl_grow _ _ _)).cast (by decide)
            · split
              · rename_i h; exact (((bl_nextT h (by decide)).trans (bl_grow _ _ _)).trans (bl_nest (fun t => bl_expr f _ t) _)).cast (by decide)
              · split
                · rename_i h; exact (((bl_nextT h (by decide)).trans (bl_grow _ _ _)).trans (bl_nest (fun t => bl_expr f _ t) _)).cast (by decide)
                · split
                  · rename_i h; exact ((bl_nextT h (by decide)).trans (bl_bin (fun u t => bl_expr f u t) _ _)).cast (by decide)
                  · exact (bl_next s).failed 0
theorem bl_end (u : Nat) (s : PS) : Bl s (endS u s) 0 := by unfold endS exprT; exact ((bl_expr _ _ _).trans (bl_want c_semi _)).cast (by decide)
theorem bl_show (n : List Nat) (id : Nat) (s : PS) : Bl s (showS n id s) 0 := by
  refine bl_same ?_ ?_
  · unfold showS defTakS; dsimp only; split <;> rfl
  · unfold showS defTakS; dsimp only; split <;> rfl
theorem bl_let (u : Nat) (s : PS) : Bl s (letS u s) 0 := by
  unfold letS
  dsimp only
  exact ((((((bl_name s).trans (bl_type _)).trans (bl_grow _ _ _)).trans (bl_want c_eq _)).trans (bl_end _ _)).trans (bl_show _ _ _)).cast (by decide)
theorem bl_sts {st : PS → PS} (hs : ∀ t, Bl t (st t) 0) (e : List Nat) : ∀ (k : Nat) (s : PS), Bl s (stsS st e k s) 0
  | 0, s => Bl.refl s
  | k + 1, s => by
    show Bl s (if s.wrong || isS e s then s else stsS st e k (st s)) 0
    split
    · exact Bl.refl s
    · exact ((hs s).trans (bl_sts hs e k _)).cast (by decide)
theorem bl_block {st : Nat → PS → PS} (hs : ∀ u t, Bl t (st u t) 0) (u : Nat) (s : PS) : Bl s (blockS st u s) 0 := by
  unfold blockS
  dsimp only
  have h1 : ∀ (k : Nat) (x : PS), Bl x (hideS k x) 0 := fun k x => bl_same rfl rfl
  exact ((((bl_grow u (nd0 5) s).trans (bl_want c_lbr _)).trans (bl_nest (d := 0 + wt c_rbr) (fun t => (bl_sts (hs _) c_rbr _ t).trans (bl_want c_rbr _)) _)).trans (h1 _ _)).cast (by decide)
theorem bl_stmt : ∀ (f b : Nat) (s : PS), Bl s (stmtS f b s) 0
  | 0, b, s => Bl.refl s
  | f + 1, b, s => by
    have ih := fun u t => bl_stmt f u t
    unfold stmtS
    dsimp only
    split
    · rename_i h; exact ((bl_take h).trans (bl_let _ _)).cast (by decide)
    · split
      · rename_i h; exact ((((((bl_take h).trans (bl_grow _ _ _)).trans (bl_expr _ _ _)).trans (bl_block ih _ _)).trans (bl_want c_else _)).trans (bl_block ih _ _)).cast (by decide)
      · split
        · rename_i h; exact ((((bl_take h).trans (bl_grow _ _ _)).trans (bl_expr _ _ _)).trans (bl_block ih _ _)).cast (by decide)
        · split
          · rename_i h; exact (((bl_take h).trans (bl_grow _ _ _)).trans (bl_end _ _)).cast (by decide)
          · split
            · rename_i h; exact (((((bl_take h).trans (bl_grow _ _ _)).trans (bl_name _)).trans (bl_call (fun u t => bl_expr _ u t) _ _ _)).trans (bl_want c_semi _)).cast (by decide)
            · exact (((((bl_name s).trans (bl_var _ _)).trans (bl_want c_eq _)).trans (bl_grow _ _ _)).trans (bl_end _ _)).cast (by decide)
theorem bl_param (u : Nat) (s : PS) : Bl s (paramS u s) 0 := by
  unfold paramS
  dsimp only
  exact ((((bl_name s).trans (bl_type _)).trans (bl_grow _ _ _)).trans (bl_show _ _ _)).cast (by decide)
theorem bl_func (m : Nat) (s : PS) : Bl s (funcS m s) 0 := by
  rw [funcS_eq]
  have hA : ∀ t, Bl t (funcA m t) 0 := fun t => by
    unfold funcA
    have h1 : ∀ (a n : List Nat) (i : Nat) (x : PS), Bl x (defFunS a n i x) 0 := fun a n i x => bl_same (defFun_facts a n i x).2.1 (defFun_facts a n i x).2.2.2.2
    have h2 : ∀ x : PS, Bl x (enterS x) 0 := fun x => bl_same rfl rfl
    exact (((((bl_name t).trans (bl_grow _ _ _)).trans (h1 _ _ _ _)).trans (h2 _)).trans (bl_want c_lpar _)).cast (by decide)
  have hB : ∀ id t, Bl t (funcB id t) (wt c_lbr) := fun id t => by
    unfold funcB
    have h1 : ∀ (i v : Nat) (x : PS), Bl x (typOf i v x) 0 := fun i v x => bl_same rfl rfl
    exact ((((bl_list (fun x => bl_param _ x) t).trans (bl_type _)).trans (h1 _ _ _)).trans (bl_want c_lbr _)).cast (by decide)
  have hC : ∀ id t, Bl t (funcC id t) 0 := fun id t => by
    unfold funcC
    exact (((bl_grow _ _ t).trans (bl_sts (fun x => bl_stmt _ _ x) _ _ _)).trans (bl_want c_return _)).cast (by decide)
  have hD : ∀ b t, Bl t (funcD b t) (wt c_rbr) := fun b t => by
    unfold funcD
    exact (((bl_grow _ _ t).trans (bl_end _ _)).trans (bl_want c_rbr _)).cast (by decide)
  exact (((((bl_want c_func s).trans (hA _)).trans (hB (growId (nameS (wantS c_func s))) _)).trans (hC _ _)).trans (hD _ _)).cast (by decide)
theorem bl_mod (u : Nat) (s : PS) : Bl s (modS u s) 0 := by
  rw [modS_eq]
  have hA : ∀ t, Bl t (modA u t) (wt c_lbr) := fun t => by
    unfold modA
    have h1 : ∀ (n : List Nat) (i : Nat) (x : PS), Bl x (defModS n i x) 0 := fun n i x => bl_same (defMod_facts n i x).2.1 (defMod_facts n i x).2.2.2.2
    exact ((((bl_name t).trans (bl_grow _ _ _)).trans (h1 _ _ _)).trans (bl_want c_lbr _)).cast (by decide)
  have hB : ∀ id t, Bl t (modB id t) (wt c_rbr) := fun id t => by
    unfold modB
    exact ((bl_sts (fun x => bl_func _ x) _ _ t).trans (bl_want c_rbr _)).cast (by decide)
  exact (((bl_want c_module s).trans (hA _)).trans (hB (growId (nameS (wantS c_module s))) _)).cast (by decide)
theorem mods_left (u : Nat) : ∀ (k : Nat) (s : PS), s.left.length ≤ k → (modsS u k s).left = []
  | 0, s, h => List.eq_nil_of_length_eq_zero (by show s.left.length = 0; omega)
  | k + 1, s, h => by
    show (if s.left.length = 0 then s else modsS u k (modS u s)).left = []
    split
    · rename_i h0; exact List.eq_nil_of_length_eq_zero h0
    · exact mods_left u k _ (by have := less_mod u (t := s) (by omega); omega)
theorem bl_mods (u : Nat) : ∀ (k : Nat) (s : PS), Bl s (modsS u k s) 0
  | 0, s => Bl.refl s
  | k + 1, s => by
    show Bl s (if s.left.length = 0 then s else modsS u k (modS u s)) 0
    split
    · exact Bl.refl s
    · exact ((bl_mod u s).trans (bl_mods u k _)).cast (by decide)
theorem prog_left (s : PS) : (progS s).left = [] := by
  unfold progS
  dsimp only
  exact mods_left _ _ _ (Nat.le_refl _)
/-- What is a program has as many opening braces as closing ones. -/
theorem prog_bal {ts : List Tok} (hg : ∀ t ∈ ts, GoodB t) (hw : (progS (startS ts)).wrong = false) : bal ts = 0 := by
  have h : Bl (startS ts) (progS (startS ts)) 0 := by
    unfold progS
    dsimp only
    exact ((bl_grow 0 (nd0 1) (startS ts)).trans (bl_mods _ _ _)).cast (by decide)
  have h1 := h.ok hg hw
  rw [prog_left] at h1
  have h2 : bal ts = bal [] + 0 := h1
  rw [h2]
  rfl
end Go.Proofs.YtecbaceinifjiaaGreatDoor
namespace Go.Proofs.YtecbaceinifjiaaGreatDoor
open Go.RowKit
set_option linter.unusedSimpArgs false
set_option linter.unusedVariables false
set_option maxRecDepth 100000
/-- How many more braces are opened than closed. -/
def braces (l : List Nat) : Int := (l.count 123 : Int) - (l.count 125 : Int)
theorem braces_app (a b : List Nat) : braces (a ++ b) = braces a + braces b := by
  unfold braces
  rw [List.count_append, List.count_append]
  omega
theorem braces_none {l : List Nat} (h1 : 123 ∉ l) (h2 : 125 ∉ l) : braces l = 0 := by
  unfold braces
  rw [List.count_eq_zero_of_not_mem h1, List.count_eq_zero_of_not_mem h2]
  rfl
theorem gap_blanks : ∀ (l : List Nat), 35 ∉ l → ∀ b ∈ l.take (gapC false l), b = 32 ∨ b = 9 ∨ b = 10
  | [], h, b, hb => by cases hb
  | c :: l, h, b, hb => by
    have hc : c ≠ 35 := fun e => h (by rw [e]; exact List.mem_cons_self)
    unfold gapC at hb
    by_cases h1 : c = 32 ∨ c = 9 ∨ c = 10
    · rw [if_pos h1, List.take_succ_cons] at hb
      rcases List.mem_cons.1 hb with e | hb
      · rw [e]; exact h1
      · exact gap_blanks l (fun e => h (List.mem_cons_of_mem _ e)) b hb
    · rw [if_neg h1, if_neg hc] at hb
      cases hb
theorem run_ld : ∀ (l : List Nat), ∀ b ∈ l.take (runL l), isLD b = true
  | [], b, hb => by cases hb
  | c :: l, b, hb => by
    unfold runL at hb
    by_cases h : isLD c = true
    · rw [if_pos h, List.take_succ_cons] at hb
      rcases List.mem_cons.1 hb with e | hb
      · rw [e]; exact h
      · exact run_ld l b hb
    · rw [if_neg h] at hb
      cases hb
theorem sign_mem (l : List Nat) (h : signL l ≠ 0) : l.take (signL l) ∈ signsL := by
  unfold signL at h ⊢
  by_cases h1 : l.take 2 ∈ signsL ∧ 2 ≤ l.length
  · rw [if_pos h1]; exact h1.1
  · rw [if_neg h1] at h ⊢
    by_cases h2 : l.take 1 ∈ signsL
    · rw [if_pos h2]; exact h2
    · rw [if_neg h2] at h; exact absurd rfl h
theorem sign_braces : ∀ t ∈ signsL, braces t = wt t := by decide
/-- The token at the front: its braces. -/
theorem first_braces (l : List Nat) (h : (firstL l).1 ≠ 0) : braces (l.take (firstL l).2) = wt (l.take (firstL l).2) ∧ GoodB ⟨(firstL l).1, l.take (firstL l).2, 0⟩ := by
  by_cases h0 : runL l = 0
  · have e : firstL l = if signL l = 0 then (0, 0) else (4, signL l) := by unfold firstL; rw [if_pos h0]
    by_cases h1 : signL l = 0
    · rw [e, if_pos h1] at h; exact absurd rfl h
    · rw [e, if_neg h1]
      exact ⟨sign_braces _ (sign_mem l h1), fun _ => rfl⟩
  · have e2 : (firstL l).2 = runL l := by
      unfold firstL at h ⊢
      rw [if_neg h0] at h ⊢
      split
      · rfl
      · split
        · rfl
        · split
          · rfl
          · rename_i a b c
            rw [if_neg a, if_neg b, if_neg c] at h
            exact absurd rfl h
    rw [e2]
    have hld := run_ld l
    have n1 : 123 ∉ l.take (runL l) := fun e => by have := hld _ e; exact absurd this (by decide)
    have n2 : 125 ∉ l.take (runL l) := fun e => by have := hld _ e; exact absurd this (by decide)
    have w1 : ¬ l.take (runL l) = c_lbr := fun e => n1 (by rw [e]; decide)
    have w2 : ¬ l.take (runL l) = c_rbr := fun e => n2 (by rw [e]; decide)
    refine ⟨?_, fun e => ?_⟩
    · rw [braces_none n1 n2]
      unfold wt
      rw [if_neg w1, if_neg w2]
    · rcases e with e | e
      · exact absurd e w1
      · exact absurd e w2
theorem scanF_braces : ∀ (f : Nat) (l : List Nat) (a : Nat) (ts : List Tok), scanF f l a = some ts → l.length ≤ f → 35 ∉ l → bal ts = braces l ∧ ∀ t ∈ ts, GoodB t
  | 0, l, a, ts, h, hl, h35 => by
    have h : some [] = some ts := h
    injection h with h
    subst h
    have e : l = [] := List.eq_nil_of_length_eq_zero (by omega)
    subst e
    exact ⟨rfl, fun t ht => by cases ht⟩
  | f + 1, l, a, ts, h, hl, h35 => by
    have hgb := gap_blanks l h35
    have hgap : braces (l.take (gapL l)) = 0 := braces_none (fun e => by rcases hgb _ e with h | h | h <;> omega) (fun e => by rcases hgb _ e with h | h | h <;> omega)
    unfold scanF at h
    by_cases h0 : l.length ≤ gapL l
    · rw [if_pos h0] at h
      injection h with h
      subst h
      refine ⟨?_, fun t ht => by cases ht⟩
      rw [List.take_of_length_le h0] at hgap
      rw [hgap]
      rfl
    rw [if_neg h0] at h
    by_cases h1 : (firstL (l.drop (gapL l))).1 = 0
    · rw [if_pos h1] at h; cases h
    rw [if_neg h1] at h
    have hp := firstL_pos _ h1
    obtain ⟨hbr, hgd⟩ := first_braces _ h1
    obtain ⟨r, hr⟩ : ∃ r, r = scanF f (l.drop (gapL l + (firstL (l.drop (gapL l))).2)) (a + gapL l + (firstL (l.drop (gapL l))).2) := ⟨_, rfl⟩
    rw [← hr] at h
    cases r with
    | none => cases h
    | some ts' =>
      injection h with h
      have ih := scanF_braces f _ _ ts' hr.symm (by rw [List.length_drop]; omega) (fun e => h35 (List.mem_of_mem_drop e))
      subst h
      have e : braces l = braces (l.take (gapL l)) + (braces ((l.drop (gapL l)).take (firstL (l.drop (gapL l))).2) + braces (l.drop (gapL l + (firstL (l.drop (gapL l))).2))) := by
        rw [← braces_app, ← List.drop_drop, List.take_append_drop, ← braces_app, List.take_append_drop]
      refine ⟨?_, fun t ht => ?_⟩
      · show wt ((l.drop (gapL l)).take (firstL (l.drop (gapL l))).2) + bal ts' = _
        rw [e, hgap, hbr, ih.1]
        omega
      · rcases List.mem_cons.1 ht with e | ht
        · rw [e]; exact hgd
        · exact ih.2 t ht
theorem scan_braces {l : List Nat} {ts : List Tok} (h : scan l 0 = some ts) (h35 : 35 ∉ l) : bal ts = braces l ∧ ∀ t ∈ ts, GoodB t := scanF_braces _ l 0 ts h (Nat.le_refl _) h35
/-- A TEXT WHOSE BRACES DON'T MATCH IS NO PROGRAM. -/
theorem parse_unbal {l : List Nat} (h35 : 35 ∉ l) (hl : l.length ≤ 200000) (hb : l.count 123 ≠ l.count 125) : (parseG l).1 = 20 := by
  unfold parseG
  rw [if_neg (by omega)]
  cases h0 : scan l 0 with
  | none => rfl
  | some ts =>
    dsimp only
    obtain ⟨h1, h2⟩ := scan_braces h0 h35
    cases hw : (progS (startS ts)).wrong with
    | true => rw [if_pos rfl]
    | false =>
      have h3 := prog_bal h2 hw
      rw [h1] at h3
      unfold braces at h3
      omega
end Go.Proofs.YtecbaceinifjiaaGreatDoor
namespace Go.Proofs.YtecbaceinifjiaaGreatDoor
open Go.RowKit
set_option linter.unusedSimpArgs false
set_option linter.unusedVariables false
set_option maxRecDepth 100000
def addR (R : List Tok) (s : PS) : PS := { s with left := s.left ++ R }
/-- R begins with the word that begins a module. -/
def HM (R : List Tok) : Prop := ∃ t r, R = t :: r ∧ t.text = c_module
theorem is_app {R : List Tok} (hR : HM R) {s : PS} {c : List Nat} (h : c ≠ c_module) : isS c (addR R s) = isS c s := by
  obtain ⟨t, r, rfl, ht⟩ := hR
  unfold isS addR
  dsimp only
  cases hs : s.left with
  | nil =>
    show decide (t.text = c) = false
    rw [ht]
    exact decide_eq_false fun e => h e.symm
  | cons a l => rfl
theorem next_app {R : List Tok} {s : PS} (h : s.left ≠ []) : nextS (addR R s) = addR R (nextS s) ∧ nextT (addR R s) = nextT s ∧ ∀ c, isS c (addR R s) = isS c s := by
  unfold nextS nextT addR isS
  dsimp only
  cases hs : s.left with
  | nil => exact absurd hs h
  | cons a l => exact ⟨rfl, rfl, fun c => rfl⟩
theorem next_ne {s : PS} (hw : (nextS s).wrong = false) : s.left ≠ [] := fun e => by
  rw [next_nil e] at hw
  cases hw
theorem is_ne {s : PS} {c : List Nat} (h : isS c s = true) : s.left ≠ [] := fun e => by rw [is_nil e] at h; cases h
theorem want_app {R : List Tok} {s : PS} {c : List Nat} (hw : (wantS c s).wrong = false) : wantS c (addR R s) = addR R (wantS c s) := by
  unfold wantS at hw ⊢
  cases h : isS c s with
  | false => rw [h] at hw; cases hw
  | true =>
    obtain ⟨h1, h2, h3⟩ := next_app (R := R) (is_ne h)
    rw [h3 c, h, if_pos rfl, if_pos rfl, h1]
theorem name_app {R : List Tok} {s : PS} (hw : (nameS s).wrong = false) : nameS (addR R s) = addR R (nameS s) ∧ nameT (addR R s) = nameT s := by
  unfold nameS nameT at *
  by_cases hk : (nextT s).kind = 1
  · rw [if_pos hk] at hw
    obtain ⟨h1, h2, h3⟩ := next_app (R := R) (next_ne hw)
    rw [h2, if_pos hk, if_pos hk, if_pos hk, h1]
    exact ⟨rfl, rfl⟩
  · rw [if_neg hk] at hw; cases hw
theorem type_app {R : List Tok} {s : PS} (hw : (typeS s).wrong = false) : typeS (addR R s) = addR R (typeS s) ∧ typeT (addR R s) = typeT s := by
  have hne : s.left ≠ [] := by
    unfold typeS at hw
    split at hw
    · exact next_ne hw
    · split at hw
      · exact next_ne hw
      · cases hw
  obtain ⟨h1, h2, h3⟩ := next_app (R := R) hne
  unfold typeS typeT at *
  rw [h2, h1]
  refine ⟨?_, rfl⟩
  split
  · rfl
  · split
    · rfl
    · rename_i a b
      rw [if_neg a, if_neg b] at hw
      cases hw
theorem var_app (R : List Tok) (n : List Nat) (s : PS) : varS n (addR R s) = addR R (varS n s) := by
  unfold varS
  show (if s.vis n = 0 then _ else _) = _
  split <;> rfl
theorem show_app (R : List Tok) (n : List Nat) (id : Nat) (s : PS) : showS n id (addR R s) = addR R (showS n id s) := by
  unfold showS defTakS
  dsimp only
  rw [show (addR R s).taken = s.taken from rfl]
  split <;> rfl
theorem defFun_app (R : List Tok) (m n : List Nat) (id : Nat) (s : PS) : defFunS m n id (addR R s) = addR R (defFunS m n id s) := by
  unfold defFunS
  dsimp only
  rw [show (addR R s).funs = s.funs from rfl]
  split <;> rfl
theorem defMod_app (R : List Tok) (n : List Nat) (id : Nat) (s : PS) : defModS n id (addR R s) = addR R (defModS n id s) := by
  unfold defModS
  dsimp only
  rw [show (addR R s).mods = s.mods from rfl]
  split <;> rfl
theorem nest_app {R : List Tok} {f g : PS → PS} {s : PS} (h : (f { s with depth := s.depth + 1 }).wrong = false → g (addR R { s with depth := s.depth + 1 }) = addR R (f { s with depth := s.depth + 1 })) (hw : (nestS f s).wrong = false) : nestS g (addR R s) = addR R (nestS f s) := by
  unfold nestS at hw ⊢
  by_cases hd : s.depth = 90
  · rw [if_pos hd] at hw; cases hw
  · rw [if_neg hd] at hw ⊢
    rw [if_neg (show ¬ (addR R s).depth = 90 from hd)]
    have e := h hw
    show { g (addR R { s with depth := s.depth + 1 }) with depth := (g (addR R { s with depth := s.depth + 1 })).depth - 1 } = _
    rw [e]
    rfl
theorem nest_wr {f : PS → PS} {s : PS} (hw : (nestS f s).wrong = false) (hf : (f { s with depth := s.depth + 1 }).wrong = false → s.wrong = false) : s.wrong = false := by
  unfold nestS at hw
  split at hw
  · cases hw
  · exact hf hw
theorem comma_app {R : List Tok} (hR : HM R) {part part' : PS → PS} {L : Nat} (hb : ∀ t, Bl t (part t) 0) (hp : ∀ t, t.left.length ≤ L → (part t).wrong = false → part' (addR R t) = addR R (part t)) :
    ∀ (k g : Nat) (s : PS), s.left.length ≤ k → k ≤ g → s.left.length ≤ L → (commaS part k s).wrong = false → commaS part' g (addR R s) = addR R (commaS part k s)
  | 0, g, s, h1, h2, h3, hw => by
    have h0 : s.left = [] := List.eq_nil_of_length_eq_zero (by omega)
    exact comma_stop (by rw [is_app hR (by decide), is_nil h0]) g
  | k + 1, g, s, h1, h2, h3, hw => by
    cases hc : isS c_comma s with
    | false =>
      rw [comma_stop hc]
      exact comma_stop (by rw [is_app hR (by decide), hc]) g
    | true =>
      obtain ⟨g', rfl⟩ : ∃ g', g = g' + 1 := ⟨g - 1, by omega⟩
      have e : commaS part (k + 1) s = commaS part k (part (nextS s)) := by show (if isS c_comma s then _ else s) = _; rw [hc, if_pos rfl]
      rw [e] at hw ⊢
      obtain ⟨n1, n2, n3⟩ := next_app (R := R) (is_ne hc)
      have hl := (isS_pos hc).2
      have hw1 := (bl_comma hb k _).wr hw
      have hsub := (hb (nextS s)).suf.length_le
      show (if isS c_comma (addR R s) then commaS part' g' (part' (nextS (addR R s))) else addR R s) = _
      rw [n3, hc, if_pos rfl, n1, hp _ (by omega) hw1]
      exact comma_app hR hb hp k g' _ (by omega) (by omega) (by omega) hw
theorem list_app {R : List Tok} (hR : HM R) {part part' : PS → PS} {s : PS} (hb : ∀ t, Bl t (part t) 0) (hp : ∀ t, t.left.length ≤ s.left.length → (part t).wrong = false → part' (addR R t) = addR R (part t)) (hw : (listS part s).wrong = false) :
    listS part' (addR R s) = addR R (listS part s) := by
  unfold listS at hw ⊢
  cases hc : isS c_rpar s with
  | true =>
    obtain ⟨n1, n2, n3⟩ := next_app (R := R) (is_ne hc)
    rw [n3, hc, if_pos rfl, if_pos rfl, n1]
  | false =>
    rw [hc, if_neg (by decide)] at hw
    rw [is_app hR (by decide), hc, if_neg (by decide), if_neg (by decide)]
    have w1 := (bl_want _ _).wr hw
    have w2 := (bl_comma hb _ _).wr w1
    have hsub := (hb s).suf.length_le
    rw [hp s (Nat.le_refl _) w2]
    have e := comma_app hR hb hp (part s).left.length (addR R (part s)).left.length (part s) (Nat.le_refl _) (by show _ ≤ ((part s).left ++ R).length; rw [List.length_append]; omega) hsub w1
    rw [e]
    exact want_app hw
theorem call_app {R : List Tok} (hR : HM R) {ex ex' : Nat → PS → PS} (hb : ∀ u t, Bl t (ex u t) 0) (u : Nat) (m : List Nat) {s : PS} (hp : ∀ u t, t.left.length ≤ s.left.length → (ex u t).wrong = false → ex' u (addR R t) = addR R (ex u t)) (hw : (callS ex u m s).wrong = false) :
    callS ex' u m (addR R s) = addR R (callS ex u m s) := by
  unfold callS at hw ⊢
  dsimp only at hw ⊢
  obtain ⟨s1, hs1⟩ : ∃ s1, s1 = wantS c_dot (growS u (nd0 19) s) := ⟨_, rfl⟩
  obtain ⟨s2, hs2⟩ : ∃ s2, s2 = nameS s1 := ⟨_, rfl⟩
  obtain ⟨s3, hs3⟩ : ∃ s3 : PS, s3 = { s2 with calls := s2.calls ++ [(growId s, m, nameT s1)], cnt := s2.cnt + 1 } := ⟨_, rfl⟩
  obtain ⟨s4, hs4⟩ : ∃ s4, s4 = wantS c_lpar s3 := ⟨_, rfl⟩
  rw [← hs1, ← hs2, ← hs3, ← hs4] at hw
  have w4 : s4.wrong = false := (bl_nest (fun t => bl_list (hb _) t) _).wr hw
  have w3 : s3.wrong = false := (bl_want c_lpar s3).wr (by rw [← hs4]; exact w4)
  have w2 : s2.wrong = false := by rw [hs3] at w3; exact w3
  have w1 : s1.wrong = false := (bl_name s1).wr (by rw [← hs2]; exact w2)
  have l1 : s1.left.length ≤ s.left.length := by rw [hs1]; exact (bl_want _ _).suf.length_le
  have l2 : s2.left.length ≤ s1.left.length := by rw [hs2]; exact (bl_name _).suf.length_le
  have l3 : s3.left = s2.left := by rw [hs3]
  have l4 : s4.left.length ≤ s3.left.length := by rw [hs4]; exact (bl_want _ _).suf.length_le
  have e1 : wantS c_dot (growS u (nd0 19) (addR R s)) = addR R s1 := by rw [hs1]; exact want_app (s := growS u (nd0 19) s) (by rw [← hs1]; exact w1)
  obtain ⟨e2, e3⟩ := name_app (R := R) (s := s1) (by rw [← hs2]; exact w2)
  rw [e1, e2, e3, ← hs2]
  have e5 : ({ addR R s2 with calls := (addR R s2).calls ++ [(growId (addR R s), m, nameT s1)], cnt := (addR R s2).cnt + 1 } : PS) = addR R s3 := by rw [hs3]; rfl
  rw [e5, want_app (s := s3) (by rw [← hs4]; exact w4), ← hs4, ← hs1, ← hs2, ← hs3, ← hs4]
  exact nest_app (fun h => list_app hR (hb _) (fun t ht => hp _ t (Nat.le_trans ht (by show s4.left.length ≤ _; rw [l3] at l4; omega))) h) hw
theorem bin_app {R : List Tok} {ex ex' : Nat → PS → PS} (hb : ∀ u t, Bl t (ex u t) 0) (u : Nat) {s : PS} (hp : ∀ u t, t.left.length ≤ s.left.length → (ex u t).wrong = false → ex' u (addR R t) = addR R (ex u t)) (hw : (binS ex u s).wrong = false) :
    binS ex' u (addR R s) = addR R (binS ex u s) := by
  unfold binS at hw ⊢
  refine nest_app (fun h => ?_) hw
  clear hw
  dsimp only at h ⊢
  obtain ⟨s0, hs0⟩ : ∃ s0 : PS, s0 = { growS u (nd0 18) s with depth := (growS u (nd0 18) s).depth + 1 } := ⟨_, rfl⟩
  have l0 : s0.left = s.left := by rw [hs0]; rfl
  rw [← hs0] at h ⊢
  rw [show growId (addR R s) = growId s from rfl]
  obtain ⟨id, hid⟩ : ∃ id, id = growId s := ⟨_, rfl⟩
  rw [← hid] at h ⊢
  obtain ⟨s1, hs1⟩ : ∃ s1, s1 = ex id s0 := ⟨_, rfl⟩
  rw [← hs1] at h ⊢
  by_cases ho : opG (nextT s1).text = 0
  · rw [if_pos ho] at h
    have w2 := (hb _ _).wr ((bl_want _ _).wr h)
    cases w2
  · rw [if_neg ho] at h ⊢
    have w3 := (bl_want _ _).wr h
    have w2' := (hb id (numOf id (opG (nextT s1).text) (nextS s1))).wr w3
    have w2 : (nextS s1).wrong = false := w2'
    have w1 : s1.wrong = false := (bl_next s1).wr w2
    have l1 : s1.left.length ≤ s.left.length := by rw [← l0, hs1]; exact (hb _ _).suf.length_le
    obtain ⟨n1, n2, n3⟩ := next_app (R := R) (next_ne w2)
    rw [hp id s0 (by rw [l0]; exact Nat.le_refl _) (by rw [← hs1]; exact w1), ← hs1, n2, if_neg ho, n1]
    have l2 : (nextS s1).left.length ≤ s1.left.length := (bl_next s1).suf.length_le
    have e : ex' id (numOf id (opG (nextT s1).text) (addR R (nextS s1))) = addR R (ex id (numOf id (opG (nextT s1).text) (nextS s1))) := hp id (numOf id (opG (nextT s1).text) (nextS s1)) (Nat.le_trans l2 l1) w3
    rw [e]
    exact want_app h
theorem expr_app {R : List Tok} (hR : HM R) : ∀ (f g u : Nat) (s : PS), s.left.length < f → f ≤ g → (exprS f u s).wrong = false → exprS g u (addR R s) = addR R (exprS f u s)
  | 0, g, u, s, h, _, _ => absurd h (by omega)
  | f + 1, g, u, s, h, hg, hw => by
    obtain ⟨g', rfl⟩ : ∃ g', g = g' + 1 := ⟨g - 1, by omega⟩
    have hne : s.left ≠ [] := fun e => by
      have ht : nextT s = noTok := by unfold nextT; rw [e]
      unfold exprS at hw
      dsimp only at hw
      rw [ht, if_neg (by decide), if_neg (by decide), if_neg (by decide), if_neg (by decide), if_neg (by decide), if_neg (by decide), if_neg (by decide), if_neg (by decide)] at hw
      cases hw
    obtain ⟨n1, n2, _⟩ := next_app (R := R) hne
    have hl := nextS_less (List.length_pos_iff.2 hne)
    have hp : ∀ u t, t.left.length ≤ (nextS s).left.length → (exprS f u t).wrong = false → exprS g' u (addR R t) = addR R (exprS f u t) := fun u t ht hwt => expr_app hR f g' u t (by omega) (by omega) hwt
    have hb : ∀ u t, Bl t (exprS f u t) 0 := fun u t => bl_expr f u t
    unfold exprS at hw ⊢
    dsimp only at hw ⊢
    rw [n1, n2, is_app hR (s := nextS s) (c := c_dot) (by decide)]
    split
    · rfl
    · rename_i k2
      rw [if_neg k2] at hw
      split
      · rename_i k1
        rw [if_pos k1] at hw
        split
        · rename_i kd
          rw [if_pos kd] at hw
          exact call_app hR hb u _ hp hw
        · rw [var_app]
          rfl
      · rename_i k1
        rw [if_neg k1] at hw
        split
        · rfl
        · rename_i q0
          rw [if_neg q0] at hw
          split
          · rfl
          · rename_i q1
            rw [if_neg q1] at hw
            split
            · rfl
            · rename_i q2
              rw [if_neg q2] at hw
              split
              · rename_i q3
                rw [if_pos q3] at hw
                exact nest_app (s := growS u (nd0 16) (nextS s)) (fun h9 => hp _ _ (Nat.le_refl _) h9) hw
              · rename_i q3
                rw [if_neg q3] at hw
                split
                · rename_i q4
                  rw [if_pos q4] at hw
                  exact nest_app (s := growS u (nd0 17) (nextS s)) (fun h9 => hp _ _ (Nat.le_refl _) h9) hw
                · rename_i q4
                  rw [if_neg q4] at hw
                  split
                  · rename_i q5
                    rw [if_pos q5] at hw
                    exact bin_app hb u hp hw
                  · rename_i q5
                    rw [if_neg q5] at hw
                    cases hw
theorem exprT_app {R : List Tok} (hR : HM R) (u : Nat) (s : PS) (hw : (exprT u s).wrong = false) : exprT u (addR R s) = addR R (exprT u s) :=
  expr_app hR (s.left.length + 1) _ u s (Nat.lt_succ_self _) (by show _ ≤ (s.left ++ R).length + 1; rw [List.length_append]; omega) hw
theorem end_app {R : List Tok} (hR : HM R) (u : Nat) (s : PS) (hw : (endS u s).wrong = false) : endS u (addR R s) = addR R (endS u s) := by
  unfold endS at hw ⊢
  rw [exprT_app hR u s ((bl_want _ _).wr hw)]
  exact want_app hw
theorem show_wr {n : List Nat} {id : Nat} {s : PS} (hw : (showS n id s).wrong = false) : s.wrong = false := (bl_show n id s).wr hw
theorem let_app {R : List Tok} (hR : HM R) (u : Nat) (s : PS) (hw : (letS u s).wrong = false) : letS u (addR R s) = addR R (letS u s) := by
  unfold letS at hw ⊢
  dsimp only at hw ⊢
  have w5 := show_wr hw
  have w4 := (bl_end _ _).wr w5
  have w3 := (bl_want _ _).wr w4
  have w2 : (typeS (nameS s)).wrong = false := w3
  have w1 := (bl_type _).wr w2
  obtain ⟨a1, a2⟩ := name_app (R := R) w1
  obtain ⟨b1, b2⟩ := type_app (R := R) w2
  rw [a1, a2, b1, b2]
  have e1 : wantS c_eq (growS u { nd0 6 with name := ba (nameT s), typ := typeT (nameS s) } (addR R (typeS (nameS s)))) = addR R (wantS c_eq (growS u { nd0 6 with name := ba (nameT s), typ := typeT (nameS s) } (typeS (nameS s)))) := want_app w4
  rw [e1, show growId (addR R (typeS (nameS s))) = growId (typeS (nameS s)) from rfl, end_app hR _ _ w5, show_app]
theorem sts_app {R : List Tok} (hR : HM R) {st st' : PS → PS} {N L : Nat} (hok : StOkN N st) (hb : ∀ t, Bl t (st t) 0) {e : List Nat} (he : e ≠ c_module) (hp : ∀ t, t.left.length ≤ L → (st t).wrong = false → st' (addR R t) = addR R (st t)) :
    ∀ (k g : Nat) (s : PS), s.left.length < k → k ≤ g → s.left.length ≤ L → (stsS st e k s).wrong = false → stsS st' e g (addR R s) = addR R (stsS st e k s)
  | 0, g, s, h1, _, _, _ => absurd h1 (by omega)
  | k + 1, g, s, h1, h2, h3, hw => by
    obtain ⟨g', rfl⟩ : ∃ g', g = g' + 1 := ⟨g - 1, by omega⟩
    have hw0 := (bl_sts hb e (k + 1) s).wr hw
    show (if (addR R s).wrong || isS e (addR R s) then addR R s else stsS st' e g' (st' (addR R s))) = addR R (if s.wrong || isS e s then s else stsS st e k (st s))
    have hw' : (if s.wrong || isS e s then s else stsS st e k (st s)).wrong = false := hw
    rw [is_app hR he, show (addR R s).wrong = s.wrong from rfl, hw0, Bool.false_or]
    rw [hw0, Bool.false_or] at hw'
    cases hi : isS e s with
    | true => rw [if_pos rfl, if_pos rfl]
    | false =>
      rw [hi, if_neg (by decide)] at hw'
      rw [if_neg (by decide), if_neg (by decide)]
      have hw1 := (bl_sts hb e k _).wr hw'
      by_cases h0 : s.left = []
      · have := (hok.none s h0).2
        rw [hw1] at this
        cases this
      · have hl := hok.less s (List.length_pos_iff.2 h0)
        rw [hp s h3 hw1]
        exact sts_app hR hok hb he hp k g' _ (by omega) (by omega) (by omega) hw'
theorem block_app {R : List Tok} (hR : HM R) {f g : Nat} (u : Nat) {s : PS} (hf : 1 ≤ f) (hp : ∀ b t, t.left.length ≤ s.left.length → (stmtS f b t).wrong = false → stmtS g b (addR R t) = addR R (stmtS f b t)) (hw : (blockS (stmtS f) u s).wrong = false) :
    blockS (stmtS g) u (addR R s) = addR R (blockS (stmtS f) u s) := by
  obtain ⟨f', rfl⟩ : ∃ f', f = f' + 1 := ⟨f - 1, by omega⟩
  unfold blockS at hw ⊢
  dsimp only at hw ⊢
  have hbn : ∀ t, Bl t (wantS c_rbr (stsS (stmtS (f' + 1) (growId s)) c_rbr (t.left.length + 1) t)) (0 + wt c_rbr) := fun t => (bl_sts (fun x => bl_stmt _ _ x) _ _ _).trans (bl_want _ _)
  have w1 : (nestS (fun s2 => wantS c_rbr (stsS (stmtS (f' + 1) (growId s)) c_rbr (s2.left.length + 1) s2)) (wantS c_lbr (growS u (nd0 5) s))).wrong = false := hw
  have w2 := (bl_nest hbn _).wr w1
  have e1 : wantS c_lbr (growS u (nd0 5) (addR R s)) = addR R (wantS c_lbr (growS u (nd0 5) s)) := want_app (s := growS u (nd0 5) s) w2
  rw [e1, show growId (addR R s) = growId s from rfl]
  have hl : (wantS c_lbr (growS u (nd0 5) s)).left.length ≤ s.left.length := (bl_want _ _).suf.length_le
  have e2 := nest_app (R := R) (f := fun s2 => wantS c_rbr (stsS (stmtS (f' + 1) (growId s)) c_rbr (s2.left.length + 1) s2)) (g := fun s2 => wantS c_rbr (stsS (stmtS g (growId s)) c_rbr (s2.left.length + 1) s2)) (s := wantS c_lbr (growS u (nd0 5) s)) (fun h => by
    dsimp only at h ⊢
    have h1 := (bl_want _ _).wr h
    have e3 := sts_app hR (stokN_stmt f' (growId s)) (fun x => bl_stmt _ _ x) (e := c_rbr) (by decide) (fun t ht hwt => hp (growId s) t ht hwt) _ ((addR R { wantS c_lbr (growS u (nd0 5) s) with depth := (wantS c_lbr (growS u (nd0 5) s)).depth + 1 }).left.length + 1) { wantS c_lbr (growS u (nd0 5) s) with depth := (wantS c_lbr (growS u (nd0 5) s)).depth + 1 } (Nat.lt_succ_self _) (by show _ ≤ ((wantS c_lbr (growS u (nd0 5) s)).left ++ R).length + 1; rw [List.length_append]; show (wantS c_lbr (growS u (nd0 5) s)).left.length + 1 ≤ _; omega) hl h1
    rw [e3]
    exact want_app h) w1
  rw [e2]
  rfl
theorem stmt_app {R : List Tok} (hR : HM R) : ∀ (f g b : Nat) (s : PS), s.left.length < f → f ≤ g → (stmtS f b s).wrong = false → stmtS g b (addR R s) = addR R (stmtS f b s)
  | 0, g, b, s, h, _, _ => absurd h (by omega)
  | f + 1, g, b, s, h, hg, hw => by
    obtain ⟨g', rfl⟩ : ∃ g', g = g' + 1 := ⟨g - 1, by omega⟩
    have hne : s.left ≠ [] := fun e => by
      have := (stokN_stmt f b).none s e
      rw [hw] at this
      cases this.2
    obtain ⟨n1, n2, n3⟩ := next_app (R := R) hne
    have hl := nextS_less (List.length_pos_iff.2 hne)
    have hp : ∀ b t, t.left.length ≤ (nextS s).left.length → (stmtS f b t).wrong = false → stmtS g' b (addR R t) = addR R (stmtS f b t) := fun b t ht hwt => stmt_app hR f g' b t (by omega) (by omega) hwt
    have ih := fun u t => bl_stmt f u t
    unfold stmtS at hw ⊢
    dsimp only at hw ⊢
    rw [n3, n3, n3, n3, n3]
    split
    · rename_i q
      rw [if_pos q] at hw
      rw [n1]
      exact let_app hR b _ hw
    · rename_i q
      rw [if_neg q] at hw
      split
      · rename_i q1
        rw [if_pos q1] at hw
        rw [n1, show growId (addR R (nextS s)) = growId (nextS s) from rfl]
        obtain ⟨s1, hs1⟩ : ∃ s1, s1 = growS b (nd0 8) (nextS s) := ⟨_, rfl⟩
        obtain ⟨id, hid⟩ : ∃ id, id = growId (nextS s) := ⟨_, rfl⟩
        rw [← hs1, ← hid] at hw
        rw [show growS b (nd0 8) (addR R (nextS s)) = addR R s1 by rw [hs1]; rfl, ← hid, ← hs1]
        have w4 := (bl_block ih _ _).wr hw
        have w3 := (bl_want _ _).wr w4
        have w2 := (bl_block ih _ _).wr w3
        have l1 : s1.left.length = (nextS s).left.length := by rw [hs1]; rfl
        have l2 : (exprT id s1).left.length ≤ s1.left.length := (bl_expr _ _ _).suf.length_le
        have l3 := (bl_block ih id (exprT id s1)).suf.length_le
        have l4 := (bl_want c_else (blockS (stmtS f) id (exprT id s1))).suf.length_le
        have hf : 1 ≤ f := by omega
        rw [exprT_app hR id s1 w2, block_app hR id hf (fun b t ht => hp b t (by omega)) w3, want_app w4]
        exact block_app hR id hf (fun b t ht => hp b t (by omega)) hw
      · rename_i q1
        rw [if_neg q1] at hw
        split
        · rename_i q2
          rw [if_pos q2] at hw
          rw [n1, show growId (addR R (nextS s)) = growId (nextS s) from rfl]
          obtain ⟨s1, hs1⟩ : ∃ s1, s1 = growS b (nd0 9) (nextS s) := ⟨_, rfl⟩
          obtain ⟨id, hid⟩ : ∃ id, id = growId (nextS s) := ⟨_, rfl⟩
          rw [← hs1, ← hid] at hw
          rw [show growS b (nd0 9) (addR R (nextS s)) = addR R s1 by rw [hs1]; rfl, ← hid, ← hs1]
          have w2 := (bl_block ih _ _).wr hw
          have l1 : s1.left.length = (nextS s).left.length := by rw [hs1]; rfl
          have l2 : (exprT id s1).left.length ≤ s1.left.length := (bl_expr _ _ _).suf.length_le
          have hf : 1 ≤ f := by omega
          rw [exprT_app hR id s1 w2]
          exact block_app hR id hf (fun b t ht => hp b t (by omega)) hw
        · rename_i q2
          rw [if_neg q2] at hw
          split
          · rename_i q3
            rw [if_pos q3] at hw
            rw [n1]
            exact end_app hR _ (growS b (nd0 11) (nextS s)) hw
          · rename_i q3
            rw [if_neg q3] at hw
            split
            · rename_i q4
              rw [if_pos q4] at hw
              rw [n1, show growId (addR R (nextS s)) = growId (nextS s) from rfl]
              obtain ⟨s1, hs1⟩ : ∃ s1, s1 = growS b (nd0 12) (nextS s) := ⟨_, rfl⟩
              obtain ⟨id, hid⟩ : ∃ id, id = growId (nextS s) := ⟨_, rfl⟩
              rw [← hs1, ← hid] at hw
              rw [show growS b (nd0 12) (addR R (nextS s)) = addR R s1 by rw [hs1]; rfl, ← hid, ← hs1]
              have w3 := (bl_want _ _).wr hw
              have w2 := (bl_call (fun u t => bl_expr _ u t) _ _ _).wr w3
              obtain ⟨a1, a2⟩ := name_app (R := R) w2
              rw [a1, a2]
              have e1 := call_app hR (fun u t => bl_expr ((nameS s1).left.length + 1) u t) id (nameT s1) (ex' := exprS ((addR R (nameS s1)).left.length + 1)) (fun u t ht hwt => expr_app hR _ _ u t (by omega) (by show _ ≤ ((nameS s1).left ++ R).length + 1; rw [List.length_append]; omega) hwt) w3
              rw [e1]
              exact want_app hw
            · rename_i q4
              rw [if_neg q4] at hw
              have w3 := (bl_end _ _).wr hw
              have w2 : (wantS c_eq (varS (nameT s) (nameS s))).wrong = false := w3
              have w1 := (bl_var _ _).wr ((bl_want _ _).wr w2)
              obtain ⟨a1, a2⟩ := name_app (R := R) w1
              rw [a1, a2, var_app, want_app w2]
              exact end_app hR _ (growS b { nd0 7 with ref := (nameS s).vis (nameT s) } (wantS c_eq (varS (nameT s) (nameS s)))) hw
theorem param_app {R : List Tok} (u : Nat) (s : PS) (hw : (paramS u s).wrong = false) : paramS u (addR R s) = addR R (paramS u s) := by
  unfold paramS at hw ⊢
  dsimp only at hw ⊢
  have w2' := show_wr hw
  have w2 : (typeS (nameS s)).wrong = false := w2'
  have w1 := (bl_type _).wr w2
  obtain ⟨a1, a2⟩ := name_app (R := R) w1
  obtain ⟨b1, b2⟩ := type_app (R := R) w2
  rw [a1, a2, b1, b2]
  exact show_app R _ _ (growS u { nd0 4 with name := ba (nameT s), typ := typeT (nameS s) } (typeS (nameS s)))
theorem func_app {R : List Tok} (hR : HM R) (m : Nat) (s : PS) (hw : (funcS m s).wrong = false) : funcS m (addR R s) = addR R (funcS m s) := by
  rw [funcS_eq] at hw
  rw [funcS_eq, funcS_eq]
  obtain ⟨s0, hs0⟩ : ∃ s0, s0 = wantS c_func s := ⟨_, rfl⟩
  rw [← hs0] at hw
  obtain ⟨id, hid⟩ : ∃ id, id = growId (nameS s0) := ⟨_, rfl⟩
  rw [← hid] at hw
  obtain ⟨sA, hA⟩ : ∃ sA, sA = funcA m s0 := ⟨_, rfl⟩
  rw [← hA] at hw
  obtain ⟨sB, hB⟩ : ∃ sB, sB = funcB id sA := ⟨_, rfl⟩
  rw [← hB] at hw
  obtain ⟨sC, hC⟩ : ∃ sC, sC = funcC id sB := ⟨_, rfl⟩
  rw [← hC] at hw
  have hbD : Bl sC (funcD (growId sB) sC) (wt c_rbr) := by
    unfold funcD
    exact (((bl_grow _ _ sC).trans (bl_end _ _)).trans (bl_want c_rbr _)).cast (by decide)
  have hbC : Bl sB sC 0 := by
    rw [hC]
    unfold funcC
    exact (((bl_grow _ _ sB).trans (bl_sts (fun x => bl_stmt _ _ x) _ _ _)).trans (bl_want c_return _)).cast (by decide)
  have hbB : Bl sA sB (wt c_lbr) := by
    rw [hB]
    unfold funcB
    have h1 : ∀ (i v : Nat) (x : PS), Bl x (typOf i v x) 0 := fun i v x => bl_same rfl rfl
    exact ((((bl_list (fun x => bl_param _ x) sA).trans (bl_type _)).trans (h1 _ _ _)).trans (bl_want c_lbr _)).cast (by decide)
  have wC := hbD.wr hw
  have wB := hbC.wr wC
  have wA := hbB.wr wB
  have eA : s0.wrong = false ∧ nameS (addR R s0) = addR R (nameS s0) ∧ funcA m (addR R s0) = addR R sA := by
    rw [hA] at wA ⊢
    unfold funcA at wA ⊢
    have w5 := (bl_want _ _).wr wA
    have w4 : (nameS s0).wrong = false := by
      have : (defFunS (nameOf m (growS m { nd0 3 with name := ba (nameT s0) } (nameS s0))) (nameT s0) (growId (nameS s0)) (growS m { nd0 3 with name := ba (nameT s0) } (nameS s0))).wrong = false := w5
      rw [(defFun_facts _ _ _ _).2.2.2.2] at this
      exact this
    obtain ⟨a1, a2⟩ := name_app (R := R) w4
    refine ⟨(bl_name s0).wr w4, a1, ?_⟩
    rw [a1, a2]
    have e := defFun_app R (nameOf m (growS m { nd0 3 with name := ba (nameT s0) } (nameS s0))) (nameT s0) (growId (nameS s0)) (growS m { nd0 3 with name := ba (nameT s0) } (nameS s0))
    show wantS c_lpar (enterS (defFunS (nameOf m (growS m { nd0 3 with name := ba (nameT s0) } (nameS s0))) (nameT s0) (growId (nameS s0)) (addR R (growS m { nd0 3 with name := ba (nameT s0) } (nameS s0))))) = _
    rw [e]
    exact want_app (s := enterS (defFunS (nameOf m (growS m { nd0 3 with name := ba (nameT s0) } (nameS s0))) (nameT s0) (growId (nameS s0)) (growS m { nd0 3 with name := ba (nameT s0) } (nameS s0)))) wA
  have e0 : wantS c_func (addR R s) = addR R s0 := by rw [hs0]; exact want_app (by rw [← hs0]; exact eA.1)
  have eB : funcB id (addR R sA) = addR R sB := by
    rw [hB] at wB ⊢
    unfold funcB at wB ⊢
    have w3 := (bl_want _ _).wr wB
    have w2 : (typeS (listS (paramS id) sA)).wrong = false := w3
    have w1 := (bl_type _).wr w2
    have e1 := list_app hR (fun x => bl_param id x) (part' := paramS id) (fun t _ hwt => param_app id t hwt) w1
    obtain ⟨b1, b2⟩ := type_app (R := R) w2
    rw [e1, b1, b2]
    exact want_app (s := typOf id (typeT (listS (paramS id) sA)) (typeS (listS (paramS id) sA))) wB
  have eC : funcC id (addR R sB) = addR R sC := by
    rw [hC] at wC ⊢
    unfold funcC at wC ⊢
    have w1 := (bl_want _ _).wr wC
    obtain ⟨x, hx⟩ : ∃ x, x = growS id (nd0 5) sB := ⟨_, rfl⟩
    rw [← hx] at w1 wC ⊢
    rw [show growS id (nd0 5) (addR R sB) = addR R x by rw [hx]; rfl, show growId (addR R sB) = growId sB from rfl]
    have e1 := sts_app hR (stokN_stmt x.left.length (growId sB)) (fun y => bl_stmt _ _ y) (st' := stmtS ((addR R x).left.length + 1) (growId sB)) (e := c_return) (by decide) (L := x.left.length) (fun t ht hwt => stmt_app hR _ _ _ t (by omega) (by show _ ≤ (x.left ++ R).length + 1; rw [List.length_append]; omega) hwt) (x.left.length + 1) ((addR R x).left.length + 1) x (Nat.lt_succ_self _) (by show _ ≤ (x.left ++ R).length + 1; rw [List.length_append]; omega) (Nat.le_refl _) w1
    rw [e1]
    exact want_app wC
  rw [e0, eA.2.1, show growId (addR R (nameS s0)) = id by rw [hid]; rfl, eA.2.2, eB, eC, show growId (addR R sB) = growId sB from rfl, ← hs0, ← hid, ← hA, ← hB, ← hC]
  unfold funcD at hw ⊢
  have w1 := (bl_want _ _).wr hw
  have e1 := end_app hR (growId sC) (growS (growId sB) (nd0 10) sC) w1
  show wantS c_rbr (endS (growId sC) (addR R (growS (growId sB) (nd0 10) sC))) = _
  rw [e1]
  exact want_app hw
theorem mod_app {R : List Tok} (hR : HM R) (u : Nat) (s : PS) (hw : (modS u s).wrong = false) : modS u (addR R s) = addR R (modS u s) := by
  rw [modS_eq] at hw
  rw [modS_eq, modS_eq]
  obtain ⟨s0, hs0⟩ : ∃ s0, s0 = wantS c_module s := ⟨_, rfl⟩
  rw [← hs0] at hw
  obtain ⟨id, hid⟩ : ∃ id, id = growId (nameS s0) := ⟨_, rfl⟩
  rw [← hid] at hw
  obtain ⟨sA, hA⟩ : ∃ sA, sA = modA u s0 := ⟨_, rfl⟩
  rw [← hA] at hw
  have hbB : Bl sA (modB id sA) (wt c_rbr) := by
    unfold modB
    exact ((bl_sts (fun x => bl_func _ x) _ _ sA).trans (bl_want c_rbr _)).cast (by decide)
  have wA := hbB.wr hw
  have eA : s0.wrong = false ∧ nameS (addR R s0) = addR R (nameS s0) ∧ modA u (addR R s0) = addR R sA := by
    rw [hA] at wA ⊢
    unfold modA at wA ⊢
    have w5 := (bl_want _ _).wr wA
    have w4 : (nameS s0).wrong = false := by
      rw [(defMod_facts _ _ _).2.2.2.2] at w5
      exact w5
    obtain ⟨a1, a2⟩ := name_app (R := R) w4
    refine ⟨(bl_name s0).wr w4, a1, ?_⟩
    rw [a1, a2]
    have e := defMod_app R (nameT s0) (growId (nameS s0)) (growS u { nd0 2 with name := ba (nameT s0) } (nameS s0))
    show wantS c_lbr (defModS (nameT s0) (growId (nameS s0)) (addR R (growS u { nd0 2 with name := ba (nameT s0) } (nameS s0)))) = _
    rw [e]
    exact want_app wA
  have e0 : wantS c_module (addR R s) = addR R s0 := by rw [hs0]; exact want_app (by rw [← hs0]; exact eA.1)
  rw [e0, eA.2.1, show growId (addR R (nameS s0)) = id by rw [hid]; rfl, eA.2.2, ← hs0, ← hid, ← hA]
  unfold modB at hw ⊢
  have w1 := (bl_want _ _).wr hw
  have e1 := sts_app hR (stokN_func id) (fun y => bl_func _ y) (st' := funcS id) (e := c_rbr) (by decide) (L := sA.left.length) (fun t _ hwt => func_app hR id t hwt) (sA.left.length + 1) ((addR R sA).left.length + 1) sA (Nat.lt_succ_self _) (by show _ ≤ (sA.left ++ R).length + 1; rw [List.length_append]; omega) (Nat.le_refl _) w1
  rw [e1]
  exact want_app hw
/-- Modules, and what stands behind them. -/
theorem mods_app {R : List Tok} (hR : HM R) (u : Nat) : ∀ (k : Nat) (s : PS) (g : Nat), s.left.length ≤ k → (modsS u k s).wrong = false → s.left.length ≤ g → ∃ g', g - s.left.length ≤ g' ∧ modsS u g (addR R s) = modsS u g' (addR R (modsS u k s))
  | 0, s, g, h, hw, hg => ⟨g, by omega, rfl⟩
  | k + 1, s, g, h, hw, hg => by
    by_cases h0 : s.left.length = 0
    · exact ⟨g, by omega, by rw [mod_nil h0]⟩
    · have e : modsS u (k + 1) s = modsS u k (modS u s) := by show (if s.left.length = 0 then s else modsS u k (modS u s)) = _; rw [if_neg h0]
      rw [e] at hw ⊢
      have hl := less_mod u (t := s) (by omega)
      have hw1 := (bl_mods u k _).wr hw
      obtain ⟨g0, rfl⟩ : ∃ g0, g = g0 + 1 := ⟨g - 1, by omega⟩
      obtain ⟨g', h1, h2⟩ := mods_app hR u k (modS u s) g0 (by omega) hw (by omega)
      refine ⟨g', by omega, ?_⟩
      rw [← h2, ← mod_app hR u s hw1]
      show (if (addR R s).left.length = 0 then addR R s else modsS u g0 (modS u (addR R s))) = _
      rw [if_neg (by show ¬ (s.left ++ R).length = 0; rw [List.length_append]; omega)]
end Go.Proofs.YtecbaceinifjiaaGreatDoor
namespace Go.Proofs.YtecbaceinifjiaaGreatDoor
open Go.RowKit
set_option linter.unusedSimpArgs false
set_option linter.unusedVariables false
set_option maxRecDepth 100000
/-- No text, or a token's. -/
def InT (ts : List Tok) (n : List Nat) : Prop := n = [] ∨ ∃ t ∈ ts, t.text = n
structure NmOk (ts : List Tok) (s : PS) : Prop where
  left : ∀ t ∈ s.left, t ∈ ts
  mods : ∀ n, ¬ InT ts n → s.mods n = 0
  nodes : ∀ nd ∈ s.nodes, InT ts (str nd.name)
  funs : ∀ a b, ¬ InT ts a → s.funs a b = 0
theorem setN_mem {id : Nat} {f : Nd → Nd} {ns : List Nd} {x : Nd} (h : x ∈ setN id f ns) : ∃ y ∈ ns, x = y ∨ x = f y := by
  unfold setN at h
  obtain ⟨i, hi⟩ := List.getElem?_of_mem h
  rw [List.getElem?_modify] at hi
  cases hy : ns[i]? with
  | none => rw [hy] at hi; cases hi
  | some y =>
    rw [hy] at hi
    refine ⟨y, List.mem_of_getElem? hy, ?_⟩
    split at hi
    · injection hi with hi; exact .inr hi.symm
    · injection hi with hi; exact .inl hi.symm
theorem NmOk.of {ts : List Tok} {s s' : PS} (h : NmOk ts s) (h1 : s'.left = s.left) (h2 : s'.mods = s.mods) (h3 : s'.nodes = s.nodes) (h4 : s'.funs = s.funs) : NmOk ts s' :=
  ⟨by rw [h1]; exact h.left, by rw [h2]; exact h.mods, by rw [h3]; exact h.nodes, by rw [h4]; exact h.funs⟩
theorem NmOk.name {ts : List Tok} {s : PS} (h : NmOk ts s) : InT ts (nameT s) := by
  unfold nameT nextT
  cases hs : s.left with
  | nil => exact .inl rfl
  | cons t r =>
    dsimp only
    split
    · exact .inr ⟨t, h.left t (by rw [hs]; exact List.mem_cons_self), rfl⟩
    · exact .inl rfl
theorem NmOk.nameOf {ts : List Tok} {s : PS} (h : NmOk ts s) (m : Nat) : InT ts (nameOf m s) := by
  unfold Go.Proofs.YtecbaceinifjiaaGreatDoor.nameOf
  rw [List.getD_eq_getElem?_getD]
  cases hm : s.nodes[m - 1]? with
  | none => exact .inl rfl
  | some nd => exact h.nodes nd (List.mem_of_getElem? hm)
theorem InT.ba {ts : List Tok} (hgt : ∀ t ∈ ts, ∀ b ∈ t.text, b < 256) {n : List Nat} (h : InT ts n) : InT ts (str (ba n)) := by
  rw [str_ba]
  · exact h
  · intro b hb
    rcases h with h | ⟨t, ht, h⟩
    · rw [h] at hb; cases hb
    · exact hgt t ht b (by rw [h]; exact hb)
theorem named_closed {ts : List Tok} (hgt : ∀ t ∈ ts, ∀ b ∈ t.text, b < 256) : Closed (NmOk ts) := by
  refine ⟨fun s h => ?_, fun s h => ⟨(fun t ht => by cases ht), h.mods, h.nodes, h.funs⟩, fun s d h => h.of rfl rfl rfl rfl, fun u n s h hn => ?_, fun s id m n h _ _ => h.of rfl rfl rfl rfl, fun n s h => ?_, fun id v s h => ?_, fun id v s h => ?_, fun n id s h hn _ _ => ?_, fun m n id s h hn _ _ => ?_, fun s h => h.of rfl rfl rfl rfl, fun n id s h _ _ => ?_, fun k s h => h.of rfl rfl rfl rfl⟩
  · unfold nextS
    cases hs : s.left with
    | nil => exact ⟨(fun t ht => by cases ht), h.mods, h.nodes, h.funs⟩
    | cons t r => exact ⟨fun x hx => h.left x (by rw [hs]; exact List.mem_cons_of_mem _ hx), h.mods, h.nodes, h.funs⟩
  · have hnew : InT ts (str n.name) := by
      rcases hn with e | ⟨s0, h0, e⟩
      · rw [e]; exact .inl rfl
      · rw [e]; exact InT.ba hgt h0.name
    have hall : ∀ nd ∈ s.nodes ++ [n], InT ts (str nd.name) := fun nd hnd => by
      rcases List.mem_append.1 hnd with h9 | h9
      · exact h.nodes nd h9
      · rw [List.mem_singleton] at h9; rw [h9]; exact hnew
    refine ⟨h.left, h.mods, fun nd hnd => ?_, h.funs⟩
    have hnd : nd ∈ (if u = 0 then s.nodes ++ [n] else setN u (addKid (growId s)) (s.nodes ++ [n])) := hnd
    split at hnd
    · exact hall nd hnd
    · obtain ⟨y, hy, e⟩ := setN_mem hnd
      rcases e with e | e
      · rw [e]; exact hall y hy
      · rw [e]; exact hall y hy
  · unfold varS
    split
    · exact h.of rfl rfl rfl rfl
    · exact h
  · refine ⟨h.left, h.mods, fun nd hnd => ?_, h.funs⟩
    obtain ⟨y, hy, e⟩ := setN_mem (show nd ∈ setN id _ s.nodes from hnd)
    rcases e with e | e
    · rw [e]; exact h.nodes y hy
    · rw [e]; exact h.nodes y hy
  · refine ⟨h.left, h.mods, fun nd hnd => ?_, h.funs⟩
    obtain ⟨y, hy, e⟩ := setN_mem (show nd ∈ setN id _ s.nodes from hnd)
    rcases e with e | e
    · rw [e]; exact h.nodes y hy
    · rw [e]; exact h.nodes y hy
  · obtain ⟨s0, h0, e⟩ := hn
    have e1 : (defModS n id s).mods = put1 s.mods n id ∧ (defModS n id s).funs = s.funs := by
      unfold defModS
      dsimp only
      split <;> exact ⟨rfl, rfl⟩
    refine ⟨by rw [(defMod_facts n id s).2.1]; exact h.left, fun x hx => ?_, by rw [(defMod_facts n id s).2.2.1]; exact h.nodes, by rw [e1.2]; exact h.funs⟩
    rw [e1.1]
    unfold put1
    rw [if_neg (fun e2 => hx (by rw [e2, e]; exact h0.name))]
    exact h.mods x hx
  · have e1 : (defFunS (nameOf m s) n id s).funs = put2 s.funs (nameOf m s) n id ∧ (defFunS (nameOf m s) n id s).mods = s.mods := by
      unfold defFunS
      dsimp only
      split <;> exact ⟨rfl, rfl⟩
    refine ⟨by rw [(defFun_facts _ n id s).2.1]; exact h.left, by rw [e1.2]; exact h.mods, by rw [(defFun_facts _ n id s).2.2.1]; exact h.nodes, fun a b ha => ?_⟩
    rw [e1.1]
    unfold put2
    rw [if_neg (fun e2 => ha (by rw [e2.1]; exact h.nameOf m))]
    exact h.funs a b ha
  · refine h.of ?_ ?_ ?_ ?_
    all_goals
      unfold showS defTakS
      dsimp only
      split <;> rfl
theorem start_named {ts : List Tok} (hgt : ∀ t ∈ ts, ∀ b ∈ t.text, b < 256) : NmOk ts (progS (startS ts)) :=
  cl_prog (named_closed hgt) (s := startS ts) ⟨fun t ht => ht, fun _ _ => rfl, (fun nd hnd => by cases hnd), fun _ _ _ => rfl⟩
end Go.Proofs.YtecbaceinifjiaaGreatDoor
namespace Go.Proofs.YtecbaceinifjiaaGreatDoor
open Go.RowKit
set_option linter.unusedSimpArgs false
set_option linter.unusedVariables false
set_option maxRecDepth 100000
/-- Behind a text without comments: blanks alone. -/
theorem gap_app_all (r : List Nat) : ∀ (l : List Nat), 35 ∉ l → l.length ≤ gapL l → gapL (l ++ r) = l.length + gapL r
  | [], h, hl => by show gapL r = 0 + gapL r; omega
  | c :: l, h, hl => by
    have hc : c ≠ 35 := fun e => h (by rw [e]; exact List.mem_cons_self)
    unfold gapL gapC at hl
    by_cases h1 : c = 32 ∨ c = 9 ∨ c = 10
    · rw [if_pos h1] at hl
      have ih := gap_app_all r l (fun e => h (List.mem_cons_of_mem _ e)) (by unfold gapL; rw [List.length_cons] at hl; omega)
      show gapC false (c :: (l ++ r)) = l.length + 1 + gapL r
      unfold gapC
      rw [if_pos h1]
      unfold gapL at ih
      rw [ih]
      unfold gapL
      omega
    · rw [if_neg h1, if_neg hc, List.length_cons] at hl
      omega
/-- .. or something else: the gap is the same. -/
theorem gap_app_ne (r : List Nat) : ∀ (l : List Nat), 35 ∉ l → gapL l < l.length → gapL (l ++ r) = gapL l
  | [], h, hl => by cases hl
  | c :: l, h, hl => by
    have hc : c ≠ 35 := fun e => h (by rw [e]; exact List.mem_cons_self)
    show gapC false (c :: (l ++ r)) = gapC false (c :: l)
    unfold gapL gapC at hl
    by_cases h1 : c = 32 ∨ c = 9 ∨ c = 10
    · rw [if_pos h1, List.length_cons] at hl
      have ih := gap_app_ne r l (fun e => h (List.mem_cons_of_mem _ e)) (by unfold gapL; omega)
      unfold gapC
      rw [if_pos h1, if_pos h1]
      unfold gapL at ih
      rw [ih]
    · unfold gapC
      rw [if_neg h1, if_neg h1, if_neg hc, if_neg hc]
theorem runL_appN (r : List Nat) : ∀ (x : List Nat), runL (x ++ 10 :: r) = runL x
  | [] => rfl
  | b :: x => by
    show (if isLD b then runL (x ++ 10 :: r) + 1 else 0) = (if isLD b then runL x + 1 else 0)
    rw [runL_appN r x]
theorem signs_10 : ∀ t ∈ signsL, 10 ∉ t := by decide
theorem signL_appN (r x : List Nat) (hx : x ≠ []) : signL (x ++ 10 :: r) = signL x := by
  rcases x with _ | ⟨a, _ | ⟨b, y⟩⟩
  · exact absurd rfl hx
  · unfold signL
    have n1 : ¬ (([a] ++ 10 :: r).take 2 ∈ signsL ∧ 2 ≤ ([a] ++ 10 :: r).length) := fun e => signs_10 [a, 10] e.1 (by simp)
    have n2 : ¬ ([a].take 2 ∈ signsL ∧ 2 ≤ [a].length) := fun e => absurd e.2 (by simp)
    rw [if_neg n1, if_neg n2]
    rfl
  · unfold signL
    show (if [a, b] ∈ signsL ∧ 2 ≤ (a :: b :: (y ++ 10 :: r)).length then 2 else if [a] ∈ signsL then 1 else 0) = (if [a, b] ∈ signsL ∧ 2 ≤ (a :: b :: y).length then 2 else if [a] ∈ signsL then 1 else 0)
    by_cases h : [a, b] ∈ signsL
    · rw [if_pos ⟨h, by simp⟩, if_pos ⟨h, by simp⟩]
    · have n1 : ¬ ([a, b] ∈ signsL ∧ 2 ≤ (a :: b :: (y ++ 10 :: r)).length) := fun e => h e.1
      have n2 : ¬ ([a, b] ∈ signsL ∧ 2 ≤ (a :: b :: y).length) := fun e => h e.1
      rw [if_neg n1, if_neg n2]
theorem firstL_appN (r x : List Nat) (hx : x ≠ []) : firstL (x ++ 10 :: r) = firstL x := by
  have ht : (x ++ 10 :: r).take (runL x) = x.take (runL x) := List.take_append_of_le_length (runL_le x)
  unfold firstL
  rw [runL_appN, signL_appN r x hx, ht]
theorem scan_muteG {s : List Nat} (h : ∀ r, gapL (s ++ r) = s.length + gapL r) (r : List Nat) (a : Nat) : scan (s ++ r) a = scan r (a + s.length) := by
  have hg := h r
  have e : (s ++ r).drop (gapL (s ++ r)) = r.drop (gapL r) := by
    rw [hg, ← List.drop_drop, List.drop_append_of_le_length (Nat.le_refl _), List.drop_length, List.nil_append]
  by_cases hend : r.length ≤ gapL r
  · rw [scan_end hend, scan_end (by rw [hg, List.length_append]; omega)]
  · have hlt : gapL (s ++ r) < (s ++ r).length := by rw [hg, List.length_append]; omega
    by_cases hf : (firstL (r.drop (gapL r))).1 = 0
    · rw [scan_bad (by omega) hf, scan_bad hlt (by rw [e]; exact hf)]
    · rw [scan_next (by omega) hf, scan_next hlt (by rw [e]; exact hf), ← List.drop_drop, ← List.drop_drop, e, hg]
      simp only [Nat.add_assoc]
theorem scanF_app (r : List Nat) : ∀ (f : Nat) (l : List Nat) (a : Nat) (ts : List Tok) (g : Nat), scanF f l a = some ts → l.length ≤ f → 35 ∉ l → (l ++ 10 :: r).length ≤ g → scanF g (l ++ 10 :: r) a = (scan (10 :: r) (a + l.length)).map (ts ++ ·)
  | 0, l, a, ts, g, h, hl, h35, hg => by
    have h : some [] = some ts := h
    injection h with h
    subst h
    have e : l = [] := List.eq_nil_of_length_eq_zero (by omega)
    subst e
    show scanF g (10 :: r) a = _
    rw [scanF_up (10 :: r).length (10 :: r) a g (Nat.le_refl _) hg]
    show scan (10 :: r) a = (scan (10 :: r) (a + 0)).map _
    rw [Nat.add_zero]
    cases scan (10 :: r) a <;> rfl
  | f + 1, l, a, ts, g, h, hl, h35, hg => by
    unfold scanF at h
    by_cases h0 : l.length ≤ gapL l
    · rw [if_pos h0] at h
      injection h with h
      subst h
      have hga := gap_app_all (10 :: r) l h35 h0
      have hsk : scan (l ++ 10 :: r) a = scan (10 :: r) (a + l.length) := by
        refine scan_muteG (fun r' => gap_app_all r' l h35 h0) _ a
      rw [scanF_up (l ++ 10 :: r).length (l ++ 10 :: r) a g (Nat.le_refl _) hg]
      show scan (l ++ 10 :: r) a = _
      rw [hsk]
      cases scan (10 :: r) (a + l.length) <;> rfl
    rw [if_neg h0] at h
    by_cases h1 : (firstL (l.drop (gapL l))).1 = 0
    · rw [if_pos h1] at h; cases h
    rw [if_neg h1] at h
    have hp := firstL_pos _ h1
    have hle := firstL_le (l.drop (gapL l))
    rw [List.length_drop] at hle
    obtain ⟨q, hq⟩ : ∃ q, q = scanF f (l.drop (gapL l + (firstL (l.drop (gapL l))).2)) (a + gapL l + (firstL (l.drop (gapL l))).2) := ⟨_, rfl⟩
    rw [← hq] at h
    cases q with
    | none => cases h
    | some ts' =>
      injection h with h
      subst h
      have hlen : (l ++ 10 :: r).length = l.length + (r.length + 1) := by rw [List.length_append, List.length_cons]
      obtain ⟨g', rfl⟩ : ∃ g', g = g' + 1 := ⟨g - 1, by omega⟩
      have ih := scanF_app r f _ _ ts' g' hq.symm (by rw [List.length_drop]; omega) (fun e => h35 (List.mem_of_mem_drop e)) (by rw [List.length_append, List.length_drop, List.length_cons]; omega)
      have hgn := gap_app_ne (10 :: r) l h35 (by omega)
      have hd : ∀ k, k ≤ l.length → (l ++ 10 :: r).drop k = l.drop k ++ 10 :: r := fun k hk => List.drop_append_of_le_length hk
      have hne : l.drop (gapL l) ≠ [] := fun e => by have := congrArg List.length e; rw [List.length_drop] at this; simp at this; omega
      have hfi := firstL_appN r (l.drop (gapL l)) hne
      unfold scanF
      rw [hgn, if_neg (by rw [hlen]; omega), hd _ (by omega), hfi, if_neg h1, hd _ (by omega), ih, List.length_drop]
      have e1 : a + gapL l + (firstL (l.drop (gapL l))).2 + (l.length - (gapL l + (firstL (l.drop (gapL l))).2)) = a + l.length := by omega
      have e2 : (l.drop (gapL l) ++ 10 :: r).take (firstL (l.drop (gapL l))).2 = (l.drop (gapL l)).take (firstL (l.drop (gapL l))).2 := List.take_append_of_le_length (by rw [List.length_drop]; omega)
      rw [e1, e2]
      cases scan (10 :: r) (a + l.length) <;> rfl
/-- A token without its place. -/
def kt (t : Tok) : Nat × List Nat := (t.kind, t.text)
theorem scanF_kt : ∀ (f : Nat) (l : List Nat) (a b : Nat), (scanF f l a).map (·.map kt) = (scanF f l b).map (·.map kt)
  | 0, l, a, b => rfl
  | f + 1, l, a, b => by
    unfold scanF
    split
    · rfl
    · split
      · rfl
      · have ih := scanF_kt f (l.drop (gapL l + (firstL (l.drop (gapL l))).2)) (a + gapL l + (firstL (l.drop (gapL l))).2) (b + gapL l + (firstL (l.drop (gapL l))).2)
        rw [Option.map_map, Option.map_map]
        cases h1 : scanF f (l.drop (gapL l + (firstL (l.drop (gapL l))).2)) (a + gapL l + (firstL (l.drop (gapL l))).2) with
        | none =>
          rw [h1] at ih
          cases h2 : scanF f (l.drop (gapL l + (firstL (l.drop (gapL l))).2)) (b + gapL l + (firstL (l.drop (gapL l))).2) with
          | none => rfl
          | some y => rw [h2] at ih; cases ih
        | some x =>
          rw [h1] at ih
          cases h2 : scanF f (l.drop (gapL l + (firstL (l.drop (gapL l))).2)) (b + gapL l + (firstL (l.drop (gapL l))).2) with
          | none => rw [h2] at ih; cases ih
          | some y =>
            rw [h2] at ih
            injection ih with ih
            have ih : x.map kt = y.map kt := ih
            show some (_ :: x.map kt) = some (_ :: y.map kt)
            rw [ih]
            rfl
/-- A token's text is a part of the text. -/
theorem scanF_sub : ∀ (f : Nat) (l : List Nat) (a : Nat) (ts : List Tok), scanF f l a = some ts → ∀ t ∈ ts, ∃ i n, (l.drop i).take n = t.text
  | 0, l, a, ts, h, t, ht => by
    have h : some [] = some ts := h
    injection h with h
    subst h
    cases ht
  | f + 1, l, a, ts, h, t, ht => by
    unfold scanF at h
    by_cases h0 : l.length ≤ gapL l
    · rw [if_pos h0] at h
      injection h with h
      subst h
      cases ht
    rw [if_neg h0] at h
    by_cases h1 : (firstL (l.drop (gapL l))).1 = 0
    · rw [if_pos h1] at h; cases h
    rw [if_neg h1] at h
    obtain ⟨q, hq⟩ : ∃ q, q = scanF f (l.drop (gapL l + (firstL (l.drop (gapL l))).2)) (a + gapL l + (firstL (l.drop (gapL l))).2) := ⟨_, rfl⟩
    rw [← hq] at h
    cases q with
    | none => cases h
    | some ts' =>
      injection h with h
      subst h
      rcases List.mem_cons.1 ht with e | ht
      · exact ⟨gapL l, (firstL (l.drop (gapL l))).2, by rw [e]⟩
      · obtain ⟨i, n, e⟩ := scanF_sub f _ _ ts' hq.symm t ht
        exact ⟨gapL l + (firstL (l.drop (gapL l))).2 + i, n, by rw [← List.drop_drop]; exact e⟩
theorem scan_sub {l : List Nat} {ts : List Tok} (h : scan l 0 = some ts) : ∀ t ∈ ts, ∃ i n, (l.drop i).take n = t.text := scanF_sub _ l 0 ts h
/-- The module that the law puts behind. -/
def sufL : List Nat := [10, 109, 111, 100, 117, 108, 101, 32, 108, 97, 115, 116, 95, 111, 102, 95, 97, 108, 108, 32, 123, 32, 102, 117, 110, 99, 32, 102, 40, 41, 32, 105, 110, 116, 32, 123, 32, 114, 101, 116, 117, 114, 110, 32, 49, 59, 32, 125, 32, 125]
def c_last : List Nat := [108, 97, 115, 116, 95, 111, 102, 95, 97, 108, 108]
def sufK : List (Nat × List Nat) := [(3, c_module), (1, c_last), (4, c_lbr), (3, c_func), (1, [102]), (4, c_lpar), (4, c_rpar), (3, c_int), (4, c_lbr), (3, c_return), (2, [49]), (4, c_semi), (4, c_rbr), (4, c_rbr)]
theorem suf_kt : (scan sufL 0).map (·.map kt) = some sufK := by decide +kernel
theorem scan_suf {l : List Nat} {ts : List Tok} (h : scan l 0 = some ts) (h35 : 35 ∉ l) : ∃ R, scan (l ++ sufL) 0 = some (ts ++ R) ∧ R.map kt = sufK := by
  have h1 := scanF_app (sufL.drop 1) l.length l 0 ts (l ++ sufL).length h (Nat.le_refl _) h35 (Nat.le_refl _)
  have e : 10 :: sufL.drop 1 = sufL := rfl
  rw [e] at h1
  have h2 := scanF_kt sufL.length sufL (0 + l.length) 0
  have h3 := suf_kt
  unfold scan at h3
  rw [h3] at h2
  cases h4 : scan sufL (0 + l.length) with
  | none => unfold scan at h4; rw [h4] at h2; cases h2
  | some R =>
    rw [h4] at h1
    unfold scan at h4
    rw [h4] at h2
    injection h2 with h2
    exact ⟨R, h1, h2⟩
end Go.Proofs.YtecbaceinifjiaaGreatDoor
namespace Go.Proofs.YtecbaceinifjiaaGreatDoor
open Go.RowKit
set_option linter.unusedSimpArgs false
set_option linter.unusedVariables false
set_option maxRecDepth 100000
/-- From F on, tokens of the kinds and texts K being left, k nodes more, nothing wrong, nothing blamed, no call more. -/
structure Sf (F s : PS) (K : List (Nat × List Nat)) (k : Nat) : Prop where
  left : s.left.map kt = K
  wrong : s.wrong = false
  nodes : s.nodes.length = F.nodes.length + k
  calls : s.calls = F.calls
  fault : s.fault = F.fault
  funs : ∀ a b, F.funs a b ≠ 0 → s.funs a b ≠ 0
theorem kt_head {s : PS} {k : Nat} {x : List Nat} {K : List (Nat × List Nat)} (h : s.left.map kt = (k, x) :: K) : s.left ≠ [] ∧ (nextT s).kind = k ∧ (nextT s).text = x ∧ (nextS s).left.map kt = K ∧ ∀ c, isS c s = decide (x = c) := by
  unfold nextT nextS isS
  cases hs : s.left with
  | nil => rw [hs] at h; cases h
  | cons t r =>
    rw [hs] at h
    injection h with h1 h2
    injection h1 with h1 h3
    exact ⟨by simp, h1, h3, h2, fun c => by dsimp only; rw [h3]⟩
theorem next_fields {s : PS} (h : s.left ≠ []) : (nextS s).wrong = s.wrong ∧ (nextS s).nodes = s.nodes ∧ (nextS s).calls = s.calls ∧ (nextS s).fault = s.fault ∧ (nextS s).funs = s.funs ∧ (nextS s).mods = s.mods := by
  unfold nextS
  cases hs : s.left with
  | nil => exact absurd hs h
  | cons t r => exact ⟨rfl, rfl, rfl, rfl, rfl, rfl⟩
theorem Sf.next {F s : PS} {k n : Nat} {x : List Nat} {K : List (Nat × List Nat)} (h : Sf F s ((k, x) :: K) n) : Sf F (nextS s) K n ∧ (nextS s).nodes = s.nodes ∧ (nextS s).funs = s.funs ∧ (nextS s).mods = s.mods := by
  obtain ⟨h0, h1, h2, h3, h4⟩ := kt_head h.left
  obtain ⟨f1, f2, f3, f4, f5, f6⟩ := next_fields h0
  exact ⟨⟨h3, f1.trans h.wrong, by rw [f2]; exact h.nodes, f3.trans h.calls, f4.trans h.fault, by rw [f5]; exact h.funs⟩, f2, f5, f6⟩
theorem Sf.want {F s : PS} {k n : Nat} {x : List Nat} {K : List (Nat × List Nat)} (h : Sf F s ((k, x) :: K) n) : Sf F (wantS x s) K n ∧ (wantS x s).nodes = s.nodes ∧ (wantS x s).funs = s.funs ∧ (wantS x s).mods = s.mods := by
  have hi := (kt_head h.left).2.2.2.2 x
  have e : wantS x s = nextS s := by unfold wantS; rw [hi, decide_eq_true rfl, if_pos rfl]
  rw [e]
  exact h.next
theorem Sf.name {F s : PS} {n : Nat} {x : List Nat} {K : List (Nat × List Nat)} (h : Sf F s ((1, x) :: K) n) : nameT s = x ∧ Sf F (nameS s) K n ∧ (nameS s).nodes = s.nodes ∧ (nameS s).funs = s.funs ∧ (nameS s).mods = s.mods := by
  obtain ⟨h0, h1, h2, h3, h4⟩ := kt_head h.left
  have e : nameS s = nextS s := by unfold nameS; rw [h1, if_pos rfl]
  rw [e]
  exact ⟨by unfold nameT; rw [h1, if_pos rfl, h2], h.next⟩
theorem Sf.type {F s : PS} {k n : Nat} {K : List (Nat × List Nat)} (h : Sf F s ((k, c_int) :: K) n) : Sf F (typeS s) K n := by
  obtain ⟨h0, h1, h2, h3, h4⟩ := kt_head h.left
  have e : typeS s = nextS s := by unfold typeS; rw [h2, if_pos rfl]
  rw [e]
  exact h.next.1
theorem Sf.grow {F s : PS} {n : Nat} {K : List (Nat × List Nat)} (h : Sf F s K n) (u : Nat) (nd : Nd) : Sf F (growS u nd s) K (n + 1) :=
  ⟨h.left, h.wrong, by rw [(grow_facts u nd s).2.1, h.nodes]; omega, h.calls, h.fault, h.funs⟩
theorem Sf.typ {F s : PS} {n : Nat} {K : List (Nat × List Nat)} (h : Sf F s K n) (id v : Nat) : Sf F (typOf id v s) K n :=
  ⟨h.left, h.wrong, by show (setN id _ s.nodes).length = _; unfold setN; rw [List.length_modify]; exact h.nodes, h.calls, h.fault, h.funs⟩
theorem Sf.mod {F s : PS} {n : Nat} {K : List (Nat × List Nat)} (h : Sf F s K n) (x : List Nat) (id : Nat) (hm : s.mods x = 0) : Sf F (defModS x id s) K n ∧ (defModS x id s).nodes = s.nodes ∧ (defModS x id s).funs = s.funs := by
  unfold defModS
  dsimp only
  rw [hm, if_neg (by simp)]
  exact ⟨⟨h.left, h.wrong, h.nodes, h.calls, h.fault, h.funs⟩, rfl, rfl⟩
theorem Sf.fun_ {F s : PS} {n : Nat} {K : List (Nat × List Nat)} (h : Sf F s K n) (a x : List Nat) (id : Nat) (hid : id ≠ 0) (hm : s.funs a x = 0) : Sf F (defFunS a x id s) K n := by
  unfold defFunS
  dsimp only
  rw [hm, if_neg (by simp)]
  refine ⟨h.left, h.wrong, h.nodes, h.calls, h.fault, fun p q hpq => ?_⟩
  show put2 s.funs a x id p q ≠ 0
  unfold put2
  split
  · exact hid
  · exact h.funs p q hpq
theorem Sf.enter {F s : PS} {n : Nat} {K : List (Nat × List Nat)} (h : Sf F s K n) : Sf F (enterS s) K n := ⟨h.left, h.wrong, h.nodes, h.calls, h.fault, h.funs⟩
theorem Sf.num {F s : PS} {n : Nat} {x : List Nat} {K : List (Nat × List Nat)} (h : Sf F s ((2, x) :: K) n) (u : Nat) : Sf F (exprT u s) K (n + 1) := by
  obtain ⟨h0, h1, h2, h3, h4⟩ := kt_head h.left
  have e : exprT u s = growS u { nd0 13 with num := (valL (nextT s).text : Int) } (nextS s) := by
    unfold exprT exprS
    dsimp only
    rw [h1, if_pos rfl]
  rw [e]
  exact h.next.1.grow u _
theorem sts_stop {st : PS → PS} {e : List Nat} {s : PS} (h : isS e s = true) : ∀ k, stsS st e k s = s
  | 0 => rfl
  | k + 1 => by
    show (if s.wrong || isS e s then s else stsS st e k (st s)) = s
    rw [h, Bool.or_true, if_pos rfl]
theorem setN_name (j v : Nat) (ns : List Nd) (i : Nat) : ((setN j (addKid v) ns)[i]?).map (·.name) = (ns[i]?).map (·.name) := by
  unfold setN
  rw [List.getElem?_modify]
  cases ns[i]? with
  | none => rfl
  | some x =>
    show ((if j - 1 = i then addKid v x else x) |> some |>.map (·.name)) = _
    split <;> rfl
theorem nameOf_eq {id : Nat} {s : PS} {x : ByteArray} (h : (s.nodes[id - 1]?).map (·.name) = some x) : nameOf id s = str x := by
  unfold nameOf
  rw [List.getD_eq_getElem?_getD]
  cases hn : s.nodes[id - 1]? with
  | none => rw [hn] at h; cases h
  | some nd =>
    rw [hn] at h
    injection h with h
    have h : nd.name = x := h
    show str nd.name = str x
    rw [h]
theorem grow_name {u : Nat} {n : Nd} {s : PS} (hu : u ≠ 0) (i : Nat) : ((growS u n s).nodes[i]?).map (·.name) = ((s.nodes ++ [n])[i]?).map (·.name) := by
  show ((if u = 0 then s.nodes ++ [n] else setN u (addKid (growId s)) (s.nodes ++ [n]))[i]?).map (·.name) = _
  rw [if_neg hu]
  exact setN_name _ _ _ _
/-- The function of the module behind. -/
theorem suf_func {F s : PS} {n id : Nat} (h : Sf F s [(3, c_func), (1, [102]), (4, c_lpar), (4, c_rpar), (3, c_int), (4, c_lbr), (3, c_return), (2, [49]), (4, c_semi), (4, c_rbr), (4, c_rbr)] n) (hid : id ≠ 0) (hin : id ≤ s.nodes.length) (hnm : (s.nodes[id - 1]?).map (·.name) = some (ba c_last)) (hf : ∀ b, s.funs c_last b = 0) :
    Sf F (funcS id s) [(4, c_rbr)] (n + 4) := by
  rw [funcS_eq]
  obtain ⟨h0, a1, a2, a3⟩ := h.want
  obtain ⟨s0, hs0⟩ : ∃ s0, s0 = wantS c_func s := ⟨_, rfl⟩
  rw [← hs0] at h0 a1 a2 a3 ⊢
  obtain ⟨hn, h1, b1, b2, b3⟩ := h0.name
  obtain ⟨fid, hfid⟩ : ∃ fid, fid = growId (nameS s0) := ⟨_, rfl⟩
  rw [← hfid]
  have hA : Sf F (funcA id s0) [(4, c_rpar), (3, c_int), (4, c_lbr), (3, c_return), (2, [49]), (4, c_semi), (4, c_rbr), (4, c_rbr)] (n + 1) := by
    unfold funcA
    rw [hn, ← hfid]
    have h2 := h1.grow id { nd0 3 with name := ba [102] }
    have hno : nameOf id (growS id { nd0 3 with name := ba [102] } (nameS s0)) = c_last := by
      rw [nameOf_eq (x := ba c_last)]
      · exact str_ba (by decide)
      · rw [grow_name hid, List.getElem?_append_left (by rw [b1, a1]; omega), b1, a1]
        exact hnm
    rw [hno]
    exact ((h2.fun_ c_last [102] fid (by rw [hfid]; exact Nat.succ_ne_zero _) (by show (nameS s0).funs c_last [102] = 0; rw [b2, a2]; exact hf _)).enter).want.1
  have hB : Sf F (funcB fid (funcA id s0)) [(3, c_return), (2, [49]), (4, c_semi), (4, c_rbr), (4, c_rbr)] (n + 1) := by
    unfold funcB
    have hi := (kt_head hA.left).2.2.2.2 c_rpar
    have e : listS (paramS fid) (funcA id s0) = nextS (funcA id s0) := by unfold listS; rw [hi, decide_eq_true rfl, if_pos rfl]
    rw [e]
    exact (hA.next.1.type.typ _ _).want.1
  have hC : Sf F (funcC fid (funcB fid (funcA id s0))) [(2, [49]), (4, c_semi), (4, c_rbr), (4, c_rbr)] (n + 2) := by
    unfold funcC
    have h2 := hB.grow fid (nd0 5)
    rw [sts_stop (by rw [(kt_head h2.left).2.2.2.2 c_return]; decide)]
    exact h2.want.1
  unfold funcD endS
  exact ((hC.grow _ (nd0 10)).num _).want.1.want.1
/-- The module behind. -/
theorem suf_mod {F s : PS} (h : Sf F s sufK 0) (hpos : 0 < F.nodes.length) (hm : s.mods c_last = 0) (hf : ∀ b, s.funs c_last b = 0) : Sf F (modS 1 s) [] 5 := by
  rw [modS_eq]
  obtain ⟨h0, a1, a2, a3⟩ := (show Sf F s ((3, c_module) :: _) 0 from h).want
  obtain ⟨s0, hs0⟩ : ∃ s0, s0 = wantS c_module s := ⟨_, rfl⟩
  rw [← hs0] at h0 a1 a2 a3 ⊢
  obtain ⟨hn, h1, b1, b2, b3⟩ := h0.name
  obtain ⟨id, hid⟩ : ∃ id, id = growId (nameS s0) := ⟨_, rfl⟩
  rw [← hid]
  have hid0 : id ≠ 0 := by rw [hid]; exact Nat.succ_ne_zero _
  have hidn : id = (nameS s0).nodes.length + 1 := hid
  have h2 := h1.grow 1 { nd0 2 with name := ba c_last }
  obtain ⟨h3, d1, d2⟩ := h2.mod c_last id (by show (nameS s0).mods c_last = 0; rw [b3, a3]; exact hm)
  obtain ⟨h4, e1, e2, e3⟩ := h3.want
  have hAe : modA 1 s0 = wantS c_lbr (defModS c_last id (growS 1 { nd0 2 with name := ba c_last } (nameS s0))) := by unfold modA; rw [hn, hid]
  rw [hAe]
  obtain ⟨x, hx⟩ : ∃ x, x = wantS c_lbr (defModS c_last id (growS 1 { nd0 2 with name := ba c_last } (nameS s0))) := ⟨_, rfl⟩
  rw [← hx] at h4 e1 e2 e3 ⊢
  have hxn : x.nodes = (growS 1 { nd0 2 with name := ba c_last } (nameS s0)).nodes := e1.trans d1
  have hxl : x.nodes.length = (nameS s0).nodes.length + 1 := by rw [hxn]; exact (grow_facts _ _ _).2.1
  have hfn := suf_func (id := id) h4 hid0 (by omega) (by
    rw [hxn, grow_name (by decide), hidn, Nat.add_sub_cancel, List.getElem?_append_right (Nat.le_refl _), Nat.sub_self]
    rfl) (fun b => by rw [e2, d2]; show (nameS s0).funs c_last b = 0; rw [b2, a2]; exact hf b)
  unfold modB
  have hi1 : isS c_rbr x = false := by rw [(kt_head h4.left).2.2.2.2 c_rbr]; decide
  have hi2 : isS c_rbr (funcS id x) = true := by rw [(kt_head hfn.left).2.2.2.2 c_rbr]; decide
  have est : stsS (funcS id) c_rbr (x.left.length + 1) x = funcS id x := by
    show (if x.wrong || isS c_rbr x then x else stsS (funcS id) c_rbr x.left.length (funcS id x)) = _
    rw [h4.wrong, hi1, if_neg (by decide)]
    exact sts_stop hi2 _
  rw [est]
  exact hfn.want.1
theorem link_fault : ∀ (l : List (Nat × List Nat × List Nat)) (s : PS), (∀ c ∈ l, s.funs c.2.1 c.2.2 ≠ 0) → (linkL l s).fault = s.fault
  | [], s, h => rfl
  | c :: r, s, h => by
    rw [linkL_cons]
    have hc := h c List.mem_cons_self
    have e : link1 c s = refOf c.1 (s.funs c.2.1 c.2.2) s := by unfold link1; rw [if_neg hc]
    rw [link_fault r (link1 c s) fun d hd => by rw [(link1_facts c s).2.1]; exact h d (List.mem_cons_of_mem _ hd), e]
    rfl
theorem link_faultN : ∀ (l : List (Nat × List Nat × List Nat)) (s : PS), s.fault ≠ 0 → (linkL l s).fault ≠ 0
  | [], s, h => h
  | c :: r, s, h => by
    rw [linkL_cons]
    refine link_faultN r _ ?_
    unfold link1
    split
    · show (if s.fault = 0 then 9 else s.fault) ≠ 0
      rw [if_neg h]
      exact h
    · exact h
theorem link_back : ∀ (l : List (Nat × List Nat × List Nat)) (s : PS), (linkL l s).fault = 0 → s.fault = 0 ∧ ∀ c ∈ l, s.funs c.2.1 c.2.2 ≠ 0
  | [], s, h => ⟨h, fun c hc => by cases hc⟩
  | c :: r, s, h => by
    rw [linkL_cons] at h
    by_cases hc : s.funs c.2.1 c.2.2 = 0
    · refine absurd h (link_faultN r _ ?_)
      unfold link1
      rw [if_pos hc]
      show (if s.fault = 0 then 9 else s.fault) ≠ 0
      split
      · decide
      · assumption
    · obtain ⟨h1, h2⟩ := link_back r _ h
      refine ⟨?_, fun d hd => ?_⟩
      · unfold link1 at h1
        rw [if_neg hc] at h1
        exact h1
      · rcases List.mem_cons.1 hd with e | hd
        · rw [e]; exact hc
        · have := h2 d hd
          rw [(link1_facts c s).2.1] at this
          exact this
/-- What it takes that a text is a program. -/
theorem gparse_ok {l : List Nat} (h : (parseG l).1 = 0) : ∃ ts, scan l 0 = some ts ∧ (progS (startS ts)).wrong = false ∧ (linkL (progS (startS ts)).calls (progS (startS ts))).fault = 0 ∧ (parseG l).2.length = (progS (startS ts)).nodes.length := by
  unfold parseG at h ⊢
  by_cases hl : 200000 < l.length
  · rw [if_pos hl] at h; cases h
  rw [if_neg hl] at h ⊢
  cases h0 : scan l 0 with
  | none => rw [h0] at h; cases h
  | some ts =>
    rw [h0] at h
    dsimp only at h ⊢
    cases hw : (progS (startS ts)).wrong with
    | true => rw [hw] at h; cases h
    | false =>
      rw [hw, if_neg (by decide)] at h
      rw [if_neg (by decide)]
      by_cases hn : 20000 < (progS (startS ts)).nodes.length
      · rw [if_pos hn] at h; cases h
      rw [if_neg hn] at h ⊢
      by_cases hf : (linkL (progS (startS ts)).calls (progS (startS ts))).fault = 0
      · rw [if_neg (fun e => e hf)]
        refine ⟨ts, rfl, hw, hf, ?_⟩
        show (idsFrom 1 _).length = _
        rw [idsFrom_length, linkL_nodes]
      · rw [if_pos hf] at h
        exact absurd h hf
/-- A PROGRAM AND A MODULE BEHIND IT ARE ONE. -/
theorem gparse_more {l : List Nat} (hb : ∀ b ∈ l, b < 256) (hl : l.length ≤ 800) (h35 : 35 ∉ l) (hno : ∀ i n, (l.drop i).take n ≠ c_last) (h : (parseG l).1 = 0) :
    (parseG (l ++ sufL)).1 = 0 ∧ (parseG (l ++ sufL)).2.length = (parseG l).2.length + 5 := by
  obtain ⟨ts, hs, hw, hf, hlen⟩ := gparse_ok h
  obtain ⟨R, hsR, hR⟩ := scan_suf hs h35
  obtain ⟨F, hF⟩ : ∃ F, F = progS (startS ts) := ⟨_, rfl⟩
  have hFl : F.left = [] := by rw [hF]; exact prog_left _
  have hpos : 0 < F.nodes.length := by rw [hF]; exact prog_pos _
  have hgt := scan_good hs hb (by omega)
  have hnm : NmOk ts F := by rw [hF]; exact start_named fun t ht => (hgt.1 t ht).1
  have hin : ¬ InT ts c_last := fun e => by
    rcases e with e | ⟨t, ht, e⟩
    · exact absurd e (by decide)
    · obtain ⟨i, n, e2⟩ := scan_sub hs t ht
      exact hno i n (e2.trans e)
  rw [← hF] at hw hf hlen
  have hHM : HM R := by
    cases R with
    | nil => cases hR
    | cons t r =>
      injection hR with h1 h2
      injection h1 with h1 h3
      exact ⟨t, r, rfl, h3⟩
  have hRl : R.length = 14 := by have := congrArg List.length hR; rw [List.length_map] at this; exact this
  -- the whole
  have hprog : progS (startS (ts ++ R)) = modS 1 (addR R F) := by
    obtain ⟨s1, hs1⟩ : ∃ s1, s1 = growS 0 (nd0 1) (startS ts) := ⟨_, rfl⟩
    have e1 : growS 0 (nd0 1) (startS (ts ++ R)) = addR R s1 := by rw [hs1]; rfl
    have eF : F = modsS 1 s1.left.length s1 := by rw [hF, hs1]; rfl
    have l1 : s1.left = ts := by rw [hs1]; rfl
    have hup : progS (startS (ts ++ R)) = modsS 1 (addR R s1).left.length (addR R s1) := by
      unfold progS
      dsimp only
      rw [e1]
    rw [hup]
    have hal : (addR R s1).left.length = ts.length + 14 := by show (s1.left ++ R).length = _; rw [List.length_append, l1, hRl]
    obtain ⟨g', hg', e2⟩ := mods_app hHM 1 s1.left.length s1 (addR R s1).left.length (Nat.le_refl _) (by rw [← eF]; exact hw) (by rw [hal, l1]; omega)
    rw [e2, ← eF]
    rw [hal, l1] at hg'
    obtain ⟨g0, rfl⟩ : ∃ g0, g' = g0 + 1 := ⟨g' - 1, by omega⟩
    show (if (addR R F).left.length = 0 then addR R F else modsS 1 g0 (modS 1 (addR R F))) = _
    have hne : ¬ (addR R F).left.length = 0 := by show ¬ (F.left ++ R).length = 0; rw [List.length_append, hRl]; omega
    rw [if_neg hne]
    have hX := suf_mod (F := F) (s := addR R F) ⟨by show (F.left ++ R).map kt = sufK; rw [hFl, List.nil_append]; exact hR, hw, rfl, rfl, rfl, fun _ _ h => h⟩ hpos (hnm.mods _ hin) (fun b => hnm.funs _ b hin)
    exact mod_nil (by have := congrArg List.length hX.left; rw [List.length_map] at this; exact this) _
  have hX := suf_mod (F := F) (s := addR R F) ⟨by show (F.left ++ R).map kt = sufK; rw [hFl, List.nil_append]; exact hR, hw, rfl, rfl, rfl, fun _ _ h => h⟩ hpos (hnm.mods _ hin) (fun b => hnm.funs _ b hin)
  rw [← hprog] at hX
  obtain ⟨lf, lk⟩ := link_back _ _ hf
  have hfault : (linkL (progS (startS (ts ++ R))).calls (progS (startS (ts ++ R)))).fault = 0 := by
    rw [link_fault _ _ fun c hc => hX.funs _ _ (lk c (by rw [← hX.calls]; exact hc)), hX.fault]
    exact lf
  have hup := (up_prog (startS (ts ++ R))).sum
  have hsz : (startS (ts ++ R)).left.length * 16 + (startS (ts ++ R)).nodes.length + (startS (ts ++ R)).cnt = (ts.length + 14) * 16 := by
    show (ts ++ R).length * 16 + 0 + 0 = _
    rw [List.length_append, hRl]
    omega
  have hn : ¬ 20000 < (progS (startS (ts ++ R))).nodes.length := by have := hgt.2; omega
  have hll : ¬ 200000 < (l ++ sufL).length := by rw [List.length_append]; show ¬ 200000 < l.length + 50; omega
  have e : parseG (l ++ sufL) = (0, idsFrom 1 (linkL (progS (startS (ts ++ R))).calls (progS (startS (ts ++ R)))).nodes) := by
    unfold parseG
    rw [if_neg hll, hsR]
    dsimp only
    rw [hX.wrong, if_neg (by decide), if_neg hn, if_neg (fun e => e hfault)]
  rw [e]
  refine ⟨rfl, ?_⟩
  show (idsFrom 1 _).length = _
  rw [idsFrom_length, linkL_nodes, hX.nodes, hlen]
end Go.Proofs.YtecbaceinifjiaaGreatDoor
