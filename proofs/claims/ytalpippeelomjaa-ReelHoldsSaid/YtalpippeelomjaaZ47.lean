/- LTidy, LLife, LSess, LSessB, LSessC: joined by program (tools/merge.py). -/
import Derived.Test.YtalpippeelomjaaZ43
namespace Go.Proofs.Ytalpippeelomjaa
open Go.RowKit
set_option linter.unusedSimpArgs false
set_option linter.unusedVariables false
set_option maxRecDepth 100000
theorem be4_inj {a b : Nat} (ha : a < 4294967296) (hb : b < 4294967296) (h : be4 a = be4 b) : a = b := by
  unfold be4 at h
  simp only [List.cons.injEq] at h
  omega
/-- A page of a log's life: its link is at most its serial, which lies below `top`. -/
structure Leaf (gen top i : Nat) (q : Pg) : Prop where
  good : GoodPg q
  gen : q.gen = gen
  kind : q.kind = 1
  num : q.num = i
  ser : q.ser < top
  data : ∃ lk part, q.data = be4 lk ++ part ∧ lk ≤ q.ser ∧ part ≠ [] ∧ ∀ b ∈ part, b < 256
def Half (gen top : Nat) (X : List (List Nat)) : Prop := ∀ (i : Nat) (s : List Nat), X[i]? = some s → s = noughts ∨ ∃ q, s = pageOf q ∧ Leaf gen top i q
theorem half_blank (gen top n : Nat) : Half gen top (List.replicate n noughts) := fun i s h => .inl (List.eq_of_mem_replicate (List.mem_of_getElem? h))
theorem Half.up {gen top top' : Nat} {X : List (List Nat)} (h : Half gen top X) (ht : top ≤ top') : Half gen top' X := fun i s hs => by
  rcases h i s hs with e | ⟨q, e, l⟩
  · exact .inl e
  · exact .inr ⟨q, e, l.good, l.gen, l.kind, l.num, by have := l.ser; omega, l.data⟩
theorem noughts_page {q : Pg} (h : GoodPg q) : noughts ≠ pageOf q := fun e => by
  have h1 := err_noughts
  rw [e, err_page h] at h1
  cases h1
theorem page_inj {q r : Pg} (hq : GoodPg q) (hr : GoodPg r) (h : pageOf q = pageOf r) : q = r := by
  have h1 := pgOf_page hq
  rw [h, pgOf_page hr] at h1
  exact h1.symm
theorem topX_ge (gen : Nat) : ∀ (l : List (List Nat)) (a : Nat), a ≤ topX gen a l ∧ ∀ s ∈ l, errOf s = 0 → genOf s = gen → serOf s ≤ topX gen a l
  | [], a => ⟨Nat.le_refl _, fun s h => by cases h⟩
  | s :: r, a => by
    unfold topX
    by_cases hc : errOf s = 0 ∧ genOf s = gen
    · rw [if_pos hc]
      obtain ⟨h1, h2⟩ := topX_ge gen r (max a (serOf s))
      refine ⟨by omega, fun x hx h3 h4 => ?_⟩
      rcases List.mem_cons.1 hx with rfl | hx
      · omega
      · exact h2 x hx h3 h4
    · rw [if_neg hc]
      obtain ⟨h1, h2⟩ := topX_ge gen r a
      refine ⟨h1, fun x hx h3 h4 => ?_⟩
      rcases List.mem_cons.1 hx with rfl | hx
      · exact absurd ⟨h3, h4⟩ hc
      · exact h2 x hx h3 h4
theorem topX_none {gen a : Nat} {s : List Nat} {r : List (List Nat)} (h : errOf s ≠ 0) : topX gen a (s :: r) = topX gen a r := by
  rw [topX, if_neg (fun hc => h hc.1)]
theorem topX_page {gen a : Nat} {s : List Nat} {r : List (List Nat)} (h : errOf s = 0) (hg : genOf s = gen) : topX gen a (s :: r) = topX gen (max a (serOf s)) r := by
  rw [topX, if_pos ⟨h, hg⟩]
theorem topX_lt (gen t : Nat) : ∀ (l : List (List Nat)) (a : Nat), a < t → (∀ s ∈ l, errOf s = 0 → genOf s = gen → serOf s < t) → topX gen a l < t
  | [], a, h, _ => h
  | s :: r, a, h, hs => by
    unfold topX
    by_cases hc : errOf s = 0 ∧ genOf s = gen
    · rw [if_pos hc]
      have := hs s (by simp) hc.1 hc.2
      exact topX_lt gen t r _ (by omega) (fun x hx => hs x (by simp [hx]))
    · rw [if_neg hc]
      exact topX_lt gen t r a h (fun x hx => hs x (by simp [hx]))
/-- The pages that Open takes: each one the next; all but the last one full; and then none that is the next. -/
structure Chain (gen : Nat) (X : List (List Nat)) (qs : List Pg) : Prop where
  at_ : ∀ (i : Nat) (q : Pg), qs[i]? = some q → X[i]? = some (pageOf q) ∧ GoodPg q ∧ nextP gen (qs.take i) q = true
  full : ∀ (i : Nat) (q : Pg), qs[i]? = some q → i + 1 < qs.length → q.data.length = 491
  stop : ∀ q, X[qs.length]? = some (pageOf q) → GoodPg q → (∀ (i : Nat) (r : Pg), qs[i]? = some r → r.data.length = 491) → nextP gen qs q = false
theorem Half.page {gen top : Nat} {X : List (List Nat)} (h : Half gen top X) {i : Nat} {q : Pg} (hi : X[i]? = some (pageOf q)) (hq : GoodPg q) : Leaf gen top i q := by
  rcases h i _ hi with e | ⟨r, e, l⟩
  · exact absurd e.symm (noughts_page hq)
  · rw [page_inj hq l.good e]; exact l
theorem openF_dark {gen top : Nat} {X : List (List Nat)} (h : Half gen top X) : ∀ (d k a : Nat) (qs : List Pg), k + d = X.length → openF gen ⟨a, qs, false⟩ (X.drop k) k = .inl ⟨topX gen a (X.drop k), qs, false⟩
  | 0, k, a, qs, hk => by rw [List.drop_of_length_le (by omega)]; rfl
  | d + 1, k, a, qs, hk => by
    have hlt : k < X.length := by omega
    rw [List.drop_eq_getElem_cons hlt]
    have hx : X[k]? = some X[k] := List.getElem?_eq_getElem hlt
    have hno : (OS.mk a qs false).bad X[k] = false := rfl
    rw [openF_step hno]
    unfold topX
    have e1 : (OS.mk a qs false).step gen X[k] = ⟨if errOf X[k] = 0 ∧ genOf X[k] = gen then max a (serOf X[k]) else a, qs, false⟩ := by
      unfold OS.step OS.next OS.top
      simp
    rw [e1]
    exact openF_dark h d (k + 1) _ qs (by omega)
set_option maxRecDepth 100000 in
set_option maxHeartbeats 1000000 in
theorem openF_chain {gen top : Nat} {X : List (List Nat)} (h : Half gen top X) : ∀ (d a : Nat) (qs : List Pg), qs.length + d = X.length →
    (∀ (i : Nat) (q : Pg), qs[i]? = some q → X[i]? = some (pageOf q) ∧ GoodPg q ∧ nextP gen (qs.take i) q = true) → (∀ (i : Nat) (q : Pg), qs[i]? = some q → q.data.length = 491) →
    ∃ q' lk', openF gen ⟨a, qs, true⟩ (X.drop qs.length) qs.length = .inl ⟨topX gen a (X.drop qs.length), q', lk'⟩ ∧ Chain gen X q'
  | 0, a, qs, hk, h1, h2 => by
    rw [List.drop_of_length_le (by omega)]
    exact ⟨qs, true, rfl, h1, fun i q hq _ => h2 i q hq, fun q hq => by rw [List.getElem?_eq_none (by omega)] at hq; cases hq⟩
  | d + 1, a, qs, hk, h1, h2 => by
    have hlt : qs.length < X.length := by omega
    have hx : X[qs.length]? = some X[qs.length] := List.getElem?_eq_getElem hlt
    rw [List.drop_eq_getElem_cons hlt]
    rcases h _ _ hx with e | ⟨q, e, l⟩
    · rw [e]
      have e3 := err_noughts
      rw [openF_step (by unfold OS.bad; rw [e3]; simp), step_err (by rw [e3]; omega)]
      rw [topX_none (s := noughts) (by rw [e3]; decide)]
      refine ⟨qs, false, openF_dark h d _ _ _ (by omega), h1, fun i q hq _ => h2 i q hq, fun q hq hg _ => ?_⟩
      rw [hx, e] at hq
      injection hq with hq
      exact absurd hq (noughts_page hg)
    · rw [e]
      have e0 := err_page l.good
      have ep := pgOf_page l.good
      have eg : genOf (pageOf q) = gen := by have := congrArg Pg.gen ep; exact this.trans l.gen
      have es : serOf (pageOf q) = q.ser := by have := congrArg Pg.ser ep; exact this
      have ed : dataOf (pageOf q) = q.data := by have := congrArg Pg.data ep; exact this
      rw [openF_step (by unfold OS.bad; rw [e0]; simp), topX_page (s := pageOf q) e0 eg, es]
      cases hn : nextP gen qs q
      · rw [step_no e0 eg (by show (true && nextP gen qs (pgOf (pageOf q))) = false; rw [ep, hn]; rfl), es]
        refine ⟨qs, false, openF_dark h d _ _ _ (by omega), h1, fun i q hq _ => h2 i q hq, fun r hr hg _ => ?_⟩
        rw [hx, e] at hr
        injection hr with hr
        rw [← page_inj l.good hg hr]
        exact hn
      · rw [step_yes e0 eg rfl (by show nextP gen qs (pgOf (pageOf q)) = true; rw [ep]; exact hn), es, ed, ep]
        have h1' : ∀ (i : Nat) (r : Pg), (qs ++ [q])[i]? = some r → X[i]? = some (pageOf r) ∧ GoodPg r ∧ nextP gen ((qs ++ [q]).take i) r = true := fun i r hr => by
          by_cases hi : i < qs.length
          · rw [List.getElem?_append_left hi] at hr
            rw [List.take_append_of_le_length (by omega)]
            exact h1 i r hr
          · have hil := (List.getElem?_eq_some_iff.1 hr).1
            rw [List.length_append, List.length_singleton] at hil
            obtain rfl : i = qs.length := by omega
            rw [List.getElem?_append_right (Nat.le_refl _)] at hr
            have er : r = q := by simpa using hr.symm
            subst er
            rw [List.take_left' rfl]
            exact ⟨by rw [hx, e], l.good, hn⟩
        have hlen : (qs ++ [q]).length = qs.length + 1 := by rw [List.length_append, List.length_singleton]
        by_cases hf : q.data.length = 491
        · have h2' : ∀ (i : Nat) (r : Pg), (qs ++ [q])[i]? = some r → r.data.length = 491 := fun i r hr => by
            rcases List.mem_append.1 (List.mem_of_getElem? hr) with hm | hm
            · obtain ⟨j, hj⟩ := List.mem_iff_getElem?.1 hm
              exact h2 j r hj
            · rw [List.mem_singleton] at hm; rw [hm]; exact hf
          rw [decide_eq_true hf, ← hlen]
          exact openF_chain h d (max a q.ser) (qs ++ [q]) (by rw [hlen]; omega) h1' h2'
        · rw [decide_eq_false hf]
          refine ⟨qs ++ [q], false, openF_dark h d _ _ _ (by omega), h1', fun i r hr hi => ?_, fun r hr hg hall => ?_⟩
          · rw [hlen] at hi
            rw [List.getElem?_append_left (by omega)] at hr
            exact h2 i r hr
          · exact absurd (hall qs.length q (by rw [List.getElem?_append_right (Nat.le_refl _)]; simp)) hf
/-- What Open makes of a half that logs have left. -/
theorem open_half {gen top : Nat} {X : List (List Nat)} (h : Half gen top X) (s0 : Nat) : ∃ qs lk, openX gen s0 X = .inl ⟨topX gen s0 X, qs, lk⟩ ∧ Chain gen X qs := by
  have h1 := openF_chain h X.length s0 [] (by simp) (fun i q hq => by simp at hq) (fun i q hq => by simp at hq)
  rw [List.length_nil, List.drop_zero] at h1
  exact h1
theorem half_top {gen top : Nat} {X : List (List Nat)} (h : Half gen top X) (s0 : Nat) : Half gen (topX gen s0 X + 1) X := fun i s hs => by
  rcases h i s hs with e | ⟨q, e, l⟩
  · exact .inl e
  · subst e
    have hm : pageOf q ∈ X := List.mem_of_getElem? hs
    have e0 := err_page l.good
    have ep := pgOf_page l.good
    have eg : genOf (pageOf q) = gen := by have := congrArg Pg.gen ep; exact this.trans l.gen
    have es : serOf (pageOf q) = q.ser := by have := congrArg Pg.ser ep; exact this
    have h1 : serOf (pageOf q) ≤ topX gen s0 X := (topX_ge gen X s0).2 (pageOf q) hm e0 eg
    have h2 : q.ser < topX gen s0 X + 1 := Nat.lt_succ_of_le (Nat.le_trans (Nat.le_of_eq es.symm) h1)
    exact .inr ⟨q, rfl, ⟨l.good, l.gen, l.kind, l.num, h2, l.data⟩⟩
theorem top_half {gen top s0 : Nat} {X : List (List Nat)} (h : Half gen top X) (h0 : s0 < top) : topX gen s0 X < top := by
  refine topX_lt gen top X s0 h0 fun s hs h1 h2 => ?_
  obtain ⟨i, hi⟩ := List.mem_iff_getElem?.1 hs
  rcases h i s hi with e | ⟨q, e, l⟩
  · subst e
    have e3 := err_noughts
    omega
  · subst e
    have es : serOf (pageOf q) = q.ser := by have := congrArg Pg.ser (pgOf_page l.good); exact this
    exact Nat.lt_of_le_of_lt (Nat.le_of_eq es) l.ser
theorem nextP_parts {gen : Nat} {qs : List Pg} {q : Pg} (h : nextP gen qs q = true) : q.gen = gen ∧ q.kind = 1 ∧ q.num = qs.length ∧ q.data.take 4 = be4 (serP qs qs.length) := by
  unfold nextP at h
  simp only [Bool.and_eq_true, decide_eq_true_eq] at h
  exact ⟨h.1.1.1, h.1.1.2, h.1.2, h.2⟩
theorem nextP_of {gen : Nat} {qs : List Pg} {q : Pg} (h1 : q.gen = gen) (h2 : q.kind = 1) (h3 : q.num = qs.length) (h4 : q.data.take 4 = be4 (serP qs qs.length)) : nextP gen qs q = true := by
  unfold nextP
  rw [decide_eq_true h1, decide_eq_true h2, decide_eq_true h3, decide_eq_true h4]
  rfl
/-- Parts of a row, all but the last one full: they are the row's parts. -/
theorem parts_flat : ∀ (ps : List (List Nat)), (∀ (i : Nat) (p : List Nat), ps[i]? = some p → i + 1 < ps.length → p.length = 487) → (∀ p ∈ ps, p ≠ [] ∧ p.length ≤ 487) → chunkM ps.flatten.length = ps.length ∧ ∀ (i : Nat) (p : List Nat), ps[i]? = some p → partK ps.flatten i = p
  | [], _, _ => ⟨rfl, fun i p h => by simp at h⟩
  | p :: r, h1, h2 => by
    have hp := h2 p (by simp)
    have hp0 : 0 < p.length := List.length_pos_iff.2 hp.1
    by_cases hr : r = []
    · subst hr
      refine ⟨?_, fun i q hq => ?_⟩
      · simp only [List.flatten_cons, List.flatten_nil, List.append_nil, List.length_singleton]
        unfold chunkM
        omega
      · cases i with
        | zero =>
          simp at hq
          subst hq
          unfold partK
          simp only [List.flatten_cons, List.flatten_nil, List.append_nil, Nat.mul_zero, List.drop_zero]
          exact List.take_of_length_le hp.2
        | succ i => simp at hq
    · have hrl : 0 < r.length := List.length_pos_iff.2 hr
      have hpl : p.length = 487 := h1 0 p rfl (by rw [List.length_cons]; omega)
      obtain ⟨e1, e2⟩ := parts_flat r (fun i q hq hi => h1 (i + 1) q (by simpa using hq) (by rw [List.length_cons]; omega)) (fun q hq => h2 q (by simp [hq]))
      refine ⟨?_, fun i q hq => ?_⟩
      · rw [List.flatten_cons, List.length_append, List.length_cons, ← e1, hpl]
        unfold chunkM
        omega
      · rw [List.flatten_cons]
        cases i with
        | zero =>
          simp at hq
          subst hq
          unfold partK
          rw [Nat.mul_zero, List.drop_zero, ← hpl, List.take_left' rfl]
        | succ i =>
          have h3 := e2 i q (by simpa using hq)
          unfold partK at h3 ⊢
          rw [← h3, show 487 * (i + 1) = p.length + 487 * i by omega, List.drop_append, List.drop_of_length_le (by omega), List.nil_append, show p.length + 487 * i - p.length = 487 * i by omega]
/-- A log of whole records, and perhaps the beginning of one; anything behind it. -/
structure Tidy (gen ser : Nat) (X : List (List Nat)) (qs : List Pg) (recs : List (List Nat)) (rest : List Nat) : Prop where
  few : qs.length = chunkM (layR recs ++ rest).length
  room : qs.length ≤ X.length
  at_ : ∀ (i : Nat) (q : Pg), qs[i]? = some q → X[i]? = some (pageOf q) ∧ q.gen = gen ∧ q.kind = 1 ∧ q.num = i ∧ q.data = be4 (serP qs i) ++ partK (layR recs ++ rest) i ∧ q.ser ≤ ser
  fit : Fit recs
  small : ∀ r ∈ recs, ∀ b ∈ r, b < 256
  none_ : NoRec rest
  rsmall : ∀ b ∈ rest, b < 256
section
variable {gen ser : Nat} {X : List (List Nat)} {qs : List Pg} {recs : List (List Nat)} {rest : List Nat}
theorem Tidy.row (h : Tidy gen ser X qs recs rest) : rowP qs = layR recs ++ rest := by
  have e : (qs.map fun q => q.data.drop 4) = (List.range qs.length).map (partK (layR recs ++ rest)) := by
    refine List.ext_getElem? fun i => ?_
    rw [List.getElem?_map, List.getElem?_map]
    by_cases hi : i < qs.length
    · rw [List.getElem?_range hi, List.getElem?_eq_getElem hi]
      have h1 := (h.at_ i qs[i] (List.getElem?_eq_getElem hi)).2.2.2.2.1
      simp only [Option.map_some]
      rw [h1, show (4 : Nat) = (be4 (serP qs i)).length from rfl, List.drop_left]
    · rw [List.getElem?_eq_none (by omega), List.getElem?_eq_none (by rw [List.length_range]; omega)]
      rfl
  unfold rowP
  rw [e, h.few]
  exact parts_flatten _
theorem Tidy.cut (h : Tidy gen ser X qs recs rest) : cutL (rowP qs) = recs := by
  rw [h.row]
  exact cutL_eq h.fit h.none_
theorem Tidy.nums (h : Tidy gen ser X qs recs rest) : Nums qs := fun i q hq => (h.at_ i q hq).2.2.2.1
theorem Tidy.good (h : Tidy gen ser X qs recs rest) (hg : gen < 4294967296) (hs : ser < 4294967296) (hX : X.length ≤ 4096) {i : Nat} {q : Pg} (hq : qs[i]? = some q) : GoodPg q := by
  obtain ⟨_, h1, h2, h3, h4, h5⟩ := h.at_ i q hq
  have hi := (List.getElem?_eq_some_iff.1 hq).1
  have hr := h.room
  refine ⟨by omega, by omega, by omega, by omega, ?_⟩
  rw [h4, List.length_append, be4_length]
  have := partK_le (layR recs ++ rest) i
  omega
/-- The row behind the whole pages. -/
theorem Tidy.newRow (h : Tidy gen ser X qs recs rest) (rc : List Nat) : Go.Proofs.Ytalpippeelomjaa.newRow qs (layR recs).length rc = (layR recs ++ rc).drop (487 * ((layR recs).length / 487)) := by
  obtain ⟨n, hn⟩ : ∃ n, n = (layR recs).length := ⟨_, rfl⟩
  have hd : (layR recs ++ rc).drop (487 * (n / 487)) = (layR recs).drop (487 * (n / 487)) ++ rc := List.drop_append_of_le_length (by omega)
  rw [← hn, hd]
  unfold Go.Proofs.Ytalpippeelomjaa.newRow
  by_cases h0 : n % 487 = 0
  · rw [if_pos h0, List.drop_of_length_le (by omega), List.nil_append]
  · rw [if_neg h0]
    have hf := h.few
    have hlt : n / 487 < qs.length := by rw [hf, List.length_append, ← hn]; unfold chunkM; omega
    have hq : qs[n / 487]? = some qs[n / 487] := List.getElem?_eq_getElem hlt
    have h4 := (h.at_ _ _ hq).2.2.2.2.1
    rw [hq, Option.map_some, Option.getD_some, h4, show (4 : Nat) = (be4 (serP qs (n / 487))).length from rfl, List.drop_left]
    unfold partK
    rw [List.take_take, List.drop_append_of_le_length (by omega), List.take_append_of_le_length (by rw [List.length_drop]; omega), List.take_of_length_le (by rw [List.length_drop]; omega)]
end
/-- What is opened of a half that logs have left lies tidily. -/
theorem chain_tidy {gen top : Nat} {X : List (List Nat)} {qs : List Pg} (h : Half gen (top + 1) X) (c : Chain gen X qs) : ∃ rest, Tidy gen top X qs (cutL (rowP qs)) rest := by
  have hleaf : ∀ (i : Nat) (q : Pg), qs[i]? = some q → Leaf gen (top + 1) i q := fun i q hq => by
    obtain ⟨h1, h2, _⟩ := c.at_ i q hq
    exact h.page h1 h2
  have hpart : ∀ (i : Nat) (q : Pg), qs[i]? = some q → ∃ part, q.data = be4 (serP qs i) ++ part ∧ part ≠ [] ∧ (∀ b ∈ part, b < 256) ∧ part = q.data.drop 4 ∧ part.length ≤ 487 ∧ (i + 1 < qs.length → part.length = 487) := fun i q hq => by
    obtain ⟨h1, h2, h3⟩ := c.at_ i q hq
    obtain ⟨lk, part, e1, e2, e3, e4⟩ := (hleaf i q hq).data
    obtain ⟨_, _, _, n4⟩ := nextP_parts h3
    have hi := (List.getElem?_eq_some_iff.1 hq).1
    have hl : (qs.take i).length = i := by rw [List.length_take]; omega
    rw [hl, serP_take (Nat.le_refl _)] at n4
    have e5 : be4 lk = be4 (serP qs i) := by rw [← n4, e1]; exact (List.take_left' rfl).symm
    have hf := h2.few
    have hln := congrArg List.length e1
    rw [List.length_append, be4_length] at hln
    refine ⟨part, by rw [e1, e5], e3, e4, by rw [e1, show (4 : Nat) = (be4 lk).length from rfl, List.drop_left], by omega, fun h5 => ?_⟩
    have := c.full i q hq h5
    omega
  obtain ⟨f1, f2⟩ := parts_flat (qs.map fun q => q.data.drop 4) (fun i p hp hi => by
      rw [List.getElem?_map] at hp
      rw [List.length_map] at hi
      obtain ⟨q, hq, rfl⟩ := Option.map_eq_some_iff.1 hp
      obtain ⟨part, _, _, _, e, _, hf⟩ := hpart i q hq
      rw [← e]
      exact hf hi) (fun p hp => by
      obtain ⟨q, hq, rfl⟩ := List.mem_map.1 hp
      obtain ⟨i, hi⟩ := List.mem_iff_getElem?.1 hq
      obtain ⟨part, _, e0, _, e, hf, _⟩ := hpart i q hi
      rw [← e]
      exact ⟨e0, hf⟩)
  have hsm : ∀ b ∈ rowP qs, b < 256 := fun b hb => by
    unfold rowP at hb
    obtain ⟨p, hp, hb⟩ := List.mem_flatten.1 hb
    obtain ⟨q, hq, rfl⟩ := List.mem_map.1 hp
    obtain ⟨i, hi⟩ := List.mem_iff_getElem?.1 hq
    obtain ⟨part, _, _, e0, e, _⟩ := hpart i q hi
    exact e0 b (by rw [e]; exact hb)
  obtain ⟨rest, r1, r2, r3⟩ := cutL_parts hsm
  rw [List.length_map] at f1
  refine ⟨rest, ?_, ?_, fun i q hq => ?_, r2, ?_, r3, ?_⟩
  · rw [← r1]; exact f1.symm
  · rcases Nat.lt_or_ge X.length qs.length with hlt | hge
    · exfalso
      obtain ⟨h1, _⟩ := c.at_ _ _ (List.getElem?_eq_getElem hlt)
      rw [List.getElem?_eq_none (Nat.le_refl _)] at h1
      cases h1
    · exact hge
  · obtain ⟨h1, h2, h3⟩ := c.at_ i q hq
    have l := hleaf i q hq
    obtain ⟨part, e1, _, _, e, _⟩ := hpart i q hq
    refine ⟨h1, l.gen, l.kind, l.num, ?_, by have := l.ser; omega⟩
    have h4 := f2 i (q.data.drop 4) (by rw [List.getElem?_map, hq]; rfl)
    rw [← r1, show rowP qs = (qs.map fun q => q.data.drop 4).flatten from rfl, h4, ← e]
    exact e1
  · intro r hr b hb
    refine hsm b ?_
    rw [r1]
    refine List.mem_append_left _ ?_
    unfold layR
    exact List.mem_flatten.2 ⟨rec1 r, List.mem_map_of_mem hr, List.mem_append_right _ hb⟩
  · intro b hb
    exact hsm b (by rw [r1]; exact List.mem_append_right _ hb)
/-- Two that have the same pages to begin with. -/
theorem chain_pre {gen : Nat} {X : List (List Nat)} {qs rs : List Pg} (a : Chain gen X qs) (hb : ∀ (i : Nat) (q : Pg), rs[i]? = some q → X[i]? = some (pageOf q) ∧ GoodPg q ∧ nextP gen (rs.take i) q = true ∧ (i + 1 < rs.length → q.data.length = 491)) :
    ∀ d, d ≤ rs.length → d ≤ qs.length ∧ qs.take d = rs.take d
  | 0, _ => ⟨Nat.zero_le _, rfl⟩
  | d + 1, h => by
    obtain ⟨h1, h2⟩ := chain_pre a hb d (by omega)
    obtain ⟨r, hr⟩ : ∃ r, rs[d]? = some r := ⟨_, List.getElem?_eq_getElem (by omega)⟩
    obtain ⟨b1, b2, b3, b4⟩ := hb d _ hr
    have hlt : d < qs.length := by
      rcases Nat.lt_or_ge d qs.length with hlt | hge
      · exact hlt
      · exfalso
        obtain rfl : d = qs.length := by omega
        rw [List.take_of_length_le (Nat.le_refl _)] at h2
        have h5 := a.stop _ b1 b2 fun i r' hi => by
          rw [h2] at hi
          have hil := (List.getElem?_eq_some_iff.1 hi).1
          rw [List.length_take] at hil
          rw [List.getElem?_take, if_pos (by omega)] at hi
          exact (hb i r' hi).2.2.2 (by omega)
        rw [h2, b3] at h5
        cases h5
    refine ⟨hlt, ?_⟩
    have hq : qs[d]? = some qs[d] := List.getElem?_eq_getElem hlt
    obtain ⟨a1, a2, _⟩ := a.at_ d _ hq
    rw [b1] at a1
    injection a1 with a1
    have e := page_inj b2 a2 a1
    have hrl := (List.getElem?_eq_some_iff.1 hr).1
    have hre := (List.getElem?_eq_some_iff.1 hr).2
    rw [List.take_succ_eq_append_getElem hlt, List.take_succ_eq_append_getElem hrl, h2, hre, e]
end Go.Proofs.Ytalpippeelomjaa
namespace Go.Proofs.Ytalpippeelomjaa
open Go.RowKit
set_option linter.unusedSimpArgs false
set_option linter.unusedVariables false
set_option maxRecDepth 100000
section
variable {gen ser : Nat} {X : List (List Nat)} {qs : List Pg} {recs : List (List Nat)} {rest : List Nat}
/-- The new pages of an Append. -/
theorem tidy_news (h : Tidy gen ser X qs recs rest) (p : List Nat) {n f : Nat} (hn : n = (layR recs).length) (hf : f = n / 487) {news : List Pg} (hnw : news = newsA gen ser qs n p) :
    f + news.length = chunkM (n + (rec1 p).length) ∧ f ≤ qs.length ∧ (layR (recs ++ [p])).length = n + (rec1 p).length ∧
    ∀ (j : Nat) (q : Pg), news[j]? = some q → q.num = f + j ∧ q = mkP gen ser qs (f + j) (serP (qs.take f ++ news) (f + j)) (partK (layR (recs ++ [p])) (f + j)) := by
  have hrow : newRow qs n (rec1 p) = (layR (recs ++ [p])).drop (487 * f) := by rw [hn, h.newRow, layR_snoc, hf, hn]
  have hlay : (layR (recs ++ [p])).length = n + (rec1 p).length := by rw [layR_snoc, List.length_append, hn]
  have hr1 := rec1_pos p
  have hqs : chunkM n ≤ qs.length := by
    rw [h.few, List.length_append, ← hn]
    unfold chunkM
    omega
  have hfq : f ≤ qs.length := by unfold chunkM at hqs; omega
  have hnl : news.length = chunkM (n + (rec1 p).length) - f := by
    rw [hnw]
    unfold newsA
    rw [extF_length, parts_length, hrow, List.length_drop, hlay]
    unfold chunkM
    omega
  have htl : (qs.take f).length = f := by rw [List.length_take]; omega
  refine ⟨by rw [hnl, hf]; unfold chunkM; omega, hfq, hlay, fun j q hq => ?_⟩
  have hq' := hq
  rw [hnw] at hq'
  unfold newsA at hq'
  rw [← hf] at hq'
  refine ⟨extF_num h.nums _ _ _ _ _ hq', ?_⟩
  obtain ⟨part, h1, h2⟩ := extF_at _ _ _ _ _ hq'
  have h3 : part = partK (layR (recs ++ [p])) (f + j) := by
    unfold partsL at h1
    rw [List.getElem?_map] at h1
    have hjl : j < chunkM (newRow qs n (rec1 p)).length := by
      have := (List.getElem?_eq_some_iff.1 hq').1
      rwa [extF_length, parts_length] at this
    rw [List.getElem?_range hjl, Option.map_some] at h1
    injection h1 with h1
    rw [← h1, hrow]
    unfold partK
    rw [List.drop_drop, show 487 * f + 487 * j = 487 * (f + j) by omega]
  rw [h2, h3]
  congr 1
  cases j with
  | zero => rw [Nat.add_zero, serP_left (by omega), serP_take (Nat.le_refl _)]
  | succ j =>
    show _ = (((qs.take f ++ news)[f + j]?).map Pg.ser).getD 0
    rw [List.getElem?_append_right (by omega), htl, show f + j - f = j by omega, hnw]
    unfold newsA
    rw [← hf]
/-- An Append to a log that lies tidily. -/
theorem tidy_append {first secs : Nat} {D : List (List Nat)} (h : Tidy gen ser ((D.drop first).take secs) qs recs rest) (hD : first + secs ≤ D.length) (p : List Nat) (hp : p.length ≤ 65536) (hps : ∀ b ∈ p, b < 256) (hfit : (rec1 p).length + (layR recs).length ≤ secs * 487) :
    Tidy gen ser (((applied (wrsF first qs (newsA gen ser qs (layR recs).length p)) D).drop first).take secs) (qs.take ((layR recs).length / 487) ++ newsA gen ser qs (layR recs).length p) (recs ++ [p]) [] := by
  obtain ⟨n, hn⟩ : ∃ n, n = (layR recs).length := ⟨_, rfl⟩
  obtain ⟨f, hf⟩ : ∃ f, f = n / 487 := ⟨_, rfl⟩
  obtain ⟨news, hnw⟩ : ∃ l, l = newsA gen ser qs n p := ⟨_, rfl⟩
  obtain ⟨hnl2, hfq, hlay, hall⟩ := tidy_news h p hn hf hnw
  have hr1 := rec1_pos p
  have hcm : chunkM (n + (rec1 p).length) ≤ secs := by unfold chunkM; omega
  have hnum : ∀ (j : Nat) (q : Pg), news[j]? = some q → q.num = f + j := fun j q hq => (hall j q hq).1
  have hnew : ∀ (j : Nat) (q : Pg), news[j]? = some q → q = mkP gen ser qs (f + j) (serP (qs.take f ++ news) (f + j)) (partK (layR (recs ++ [p])) (f + j)) := fun j q hq => (hall j q hq).2
  obtain ⟨a1, a2, a3⟩ := applied_news (first := first) (f := f) (qs := qs) news D hnum (by omega)
  have hview : ∀ (j : Nat) (q : Pg), news[j]? = some q → (((applied (wrsF first qs news) D).drop first).take secs)[f + j]? = some (pageOf q) := fun j q hq => by
    have hj := (List.getElem?_eq_some_iff.1 hq).1
    rw [getElem?_view (by omega), show first + (f + j) = first + f + j by omega, a2 j q hq]
    by_cases hc : qs[q.num]? = some q
    · rw [if_pos hc, ← (h.at_ _ _ hc).1, hnum j q hq, getElem?_view (by omega), show first + (f + j) = first + f + j by omega]
    · rw [if_neg hc]
  have hview2 : ∀ i, i < f ∨ f + news.length ≤ i → (((applied (wrsF first qs news) D).drop first).take secs)[i]? = ((D.drop first).take secs)[i]? := fun i hi => by
    by_cases his : i < secs
    · rw [getElem?_view his, getElem?_view his, a3 _ (by omega)]
    · rw [List.getElem?_eq_none (by rw [List.length_take]; omega), List.getElem?_eq_none (by rw [List.length_take]; omega)]
  have htl : (qs.take f).length = f := by rw [List.length_take]; omega
  have hser : ∀ (j : Nat) (q : Pg), news[j]? = some q → q.gen = gen ∧ q.kind = 1 ∧ q.ser ≤ ser := fun j q hq => by
    have e := hnew j q hq
    rcases mkP_kind (gen := gen) (ser := ser) (i := f + j) (bf := serP (qs.take f ++ news) (f + j)) (qs := qs) (part := partK (layR (recs ++ [p])) (f + j)) with h1 | h1
    · rw [← e] at h1
      obtain ⟨_, b, c, _, _, g⟩ := h.at_ _ _ h1
      exact ⟨b, c, g⟩
    · rw [e, h1]; exact ⟨rfl, rfl, Nat.le_refl _⟩
  rw [← hn, ← hf, ← hnw]
  refine ⟨?_, ?_, ?_, ?_, ?_, noRec_nil, fun b hb => by cases hb⟩
  · rw [List.length_append, htl, List.append_nil, hlay, hnl2]
  · rw [List.length_append, htl, hnl2, List.length_take, List.length_drop, a1]; omega
  · intro i q hq
    rw [List.append_nil]
    by_cases hi : i < f
    · have hq' : qs[i]? = some q := by
        rw [List.getElem?_append_left (by omega), List.getElem?_take, if_pos hi] at hq
        exact hq
      obtain ⟨b0, b1, b2, b3, b4, b5⟩ := h.at_ i q hq'
      refine ⟨(hview2 i (.inl hi)).trans b0, b1, b2, b3, ?_, b5⟩
      rw [b4, serP_left (by omega), serP_take (by omega)]
      congr 1
      unfold partK
      rw [layR_snoc, List.drop_append_of_le_length (by omega), List.take_append_of_le_length (by rw [List.length_drop]; omega), List.drop_append_of_le_length (by omega), List.take_append_of_le_length (by rw [List.length_drop]; omega)]
    · obtain ⟨j, rfl⟩ : ∃ j, i = f + j := ⟨i - f, by omega⟩
      have hq' : news[j]? = some q := by
        rw [List.getElem?_append_right (by omega), htl, show f + j - f = j by omega] at hq
        exact hq
      obtain ⟨s1, s2, s3⟩ := hser j q hq'
      exact ⟨hview j q hq', s1, s2, hnum j q hq', by rw [hnew j q hq', mkP_data], s3⟩
  · intro s hs
    rcases List.mem_append.1 hs with hs | hs
    · exact h.fit s hs
    · rw [List.mem_singleton] at hs; rw [hs]; exact hp
  · intro s hs
    rcases List.mem_append.1 hs with hs | hs
    · exact h.small s hs
    · rw [List.mem_singleton] at hs; rw [hs]; exact hps
end
theorem part_pre {R R' : List Nat} (h : R <+: R') (i : Nat) : partK R i <+: partK R' i := by
  obtain ⟨t, rfl⟩ := h
  unfold partK
  by_cases hi : 487 * i ≤ R.length
  · rw [List.drop_append_of_le_length hi]
    by_cases h2 : 487 ≤ (R.drop (487 * i)).length
    · rw [List.take_append_of_le_length h2]
      exact List.prefix_refl _
    · rw [List.take_of_length_le (by omega), List.take_append]
      rw [List.take_of_length_le (by omega)]
      exact List.prefix_append _ _
  · rw [List.drop_of_length_le (by omega), List.take_nil]
    exact List.nil_prefix
theorem pre_full {a b : List Nat} (h : a <+: b) (hb : b.length ≤ a.length) : a = b := h.eq_of_length (by have := h.length_le; omega)
/-- A page that a session wrote at a place: a beginning of the row's part; it has all that was synced. -/
def Ver (gen S D lk : Nat) (R Rs : List Nat) (i : Nat) (s : List Nat) : Prop := ∃ part, s = pageOf ⟨gen, S, i, 1, be4 (if i = D then lk else S) ++ part⟩ ∧ part ≠ [] ∧ part <+: partK R i ∧ (partK Rs i).length ≤ part.length
theorem Ver.more {gen S D lk i : Nat} {R R' Rs s : List Nat} (h : Ver gen S D lk R Rs i s) (hR : R <+: R') : Ver gen S D lk R' Rs i s := by
  obtain ⟨part, h1, h2, h3, h4⟩ := h
  exact ⟨part, h1, h2, h3.trans (part_pre hR i), h4⟩
theorem ver_good {gen S D lk i : Nat} {R part : List Nat} (hg : gen < 4294967296) (hS : S < 4294967296) (hi : i < 4294967296) (hp : part <+: partK R i) : GoodPg ⟨gen, S, i, 1, be4 (if i = D then lk else S) ++ part⟩ := by
  refine ⟨hg, hS, hi, Nat.one_pos, ?_⟩
  have h1 := hp.length_le
  have h2 := partK_le R i
  show (be4 _ ++ part).length ≤ 491
  rw [List.length_append, be4_length]
  omega
theorem Ver.inside {gen S D lk i : Nat} {R Rs s : List Nat} (h : Ver gen S D lk R Rs i s) : i < chunkM R.length := by
  obtain ⟨part, _, h2, h3, _⟩ := h
  have h4 := h3.length_le
  have h5 := List.length_pos_iff.2 h2
  unfold partK at h4
  rw [List.length_take, List.length_drop] at h4
  unfold chunkM
  omega
/-- What a session, behind its first Append, may leave. -/
structure Wr (gen S first secs : Nat) (V0 : List (List Nat)) (qs0 : List Pg) (recs0 : List (List Nat)) (D : Nat) (recs : List (List Nat)) (qs : List Pg) (k : Nat) (sy : Bool) (dur : List (List Nat)) (pend : List (Nat × List Nat)) : Prop where
  dq : D < qs.length
  d0 : D ≤ qs0.length
  pre : qs.take D = qs0.take D
  from_ : (layR recs0).length / 487 ≤ D
  rec0 : recs0 <+: recs
  kk : k ≤ recs.length
  nsy : sy = false → k = recs0.length
  ysy : sy = true → D < chunkM (layR (recs.take k)).length
  new : ∀ (i : Nat) (q : Pg), qs[i]? = some q → D ≤ i → q.ser = S
  old : ∀ i, i < D → dur[first + i]? = V0[i]?
  cand : ∀ (i : Nat) (s : List Nat), D ≤ i → i < secs → dur[first + i]? = some s → (V0[i]? = some s ∧ (sy = true → chunkM (layR (recs.take k)).length ≤ i)) ∨ Ver gen S D (serP qs0 D) (layR recs) (layR (recs.take k)) i s
  wr : ∀ (a : Nat) (s : List Nat), (a, s) ∈ pend → ∃ i, a = first + i ∧ D ≤ i ∧ i < secs ∧ Ver gen S D (serP qs0 D) (layR recs) (layR (recs.take k)) i s
/-- Writes, some of them: each sector is as it was, or as one of them has it. -/
theorem kept_at : ∀ (xs : List (Bool × (Nat × List Nat))) (d : List (List Nat)) (a : Nat), ((xs.foldl (fun d x => if x.1 then d.set x.2.1 x.2.2 else d) d)[a]? = d[a]?) ∨ ∃ s, (a, s) ∈ xs.map (fun x => x.2) ∧ (xs.foldl (fun d x => if x.1 then d.set x.2.1 x.2.2 else d) d)[a]? = some s
  | [], d, a => .inl rfl
  | x :: xs, d, a => by
    rw [List.foldl_cons]
    rcases kept_at xs (if x.1 then d.set x.2.1 x.2.2 else d) a with h | ⟨s, h1, h2⟩
    · rw [h]
      cases hx : x.1
      · exact .inl rfl
      · rw [if_pos rfl]
        by_cases ha : x.2.1 = a
        · by_cases hl : a < d.length
          · refine .inr ⟨x.2.2, ?_, ?_⟩
            · rw [List.map_cons, ← ha]
              exact List.mem_cons_self
            · rw [ha, List.getElem?_set_self hl]
          · left
            rw [List.getElem?_eq_none (by rw [List.length_set]; omega), List.getElem?_eq_none (by omega)]
        · exact .inl (List.getElem?_set_ne ha)
    · exact .inr ⟨s, by rw [List.map_cons]; exact List.mem_cons_of_mem _ h1, h2⟩
theorem kept_any (ks : List Bool) (pend : List (Nat × List Nat)) (dur : List (List Nat)) (a : Nat) : (kept ks pend dur)[a]? = dur[a]? ∨ ∃ s, (a, s) ∈ pend ∧ (kept ks pend dur)[a]? = some s := by
  rcases kept_at (ks.zip pend) dur a with h | ⟨s, h1, h2⟩
  · exact .inl h
  · refine .inr ⟨s, ?_, h2⟩
    obtain ⟨⟨b, y⟩, hy, e⟩ := List.mem_map.1 h1
    dsimp only at e
    rw [← e]
    exact (List.of_mem_zip hy).2
theorem applied_at : ∀ (pend : List (Nat × List Nat)) (d : List (List Nat)) (a : Nat), (applied pend d)[a]? = d[a]? ∨ ∃ s, (a, s) ∈ pend ∧ (applied pend d)[a]? = some s := by
  intro pend
  refine snoc_rec (P := fun pend => ∀ (d : List (List Nat)) (a : Nat), (applied pend d)[a]? = d[a]? ∨ ∃ s, (a, s) ∈ pend ∧ (applied pend d)[a]? = some s) ?_ ?_ pend
  · intro d a; exact .inl rfl
  · intro l x ih d a
    rw [applied_snoc]
    by_cases ha : x.1 = a
    · by_cases hl : a < (applied l d).length
      · exact .inr ⟨x.2, by rw [← ha]; simp, by rw [ha, List.getElem?_set_self hl]⟩
      · left
        rw [applied_length] at hl
        rw [List.getElem?_eq_none (by rw [List.length_set, applied_length]; omega), List.getElem?_eq_none (by omega)]
    · rw [List.getElem?_set_ne ha]
      rcases ih d a with h | ⟨s, h1, h2⟩
      · exact .inl h
      · exact .inr ⟨s, List.mem_append_left _ h1, h2⟩
/-- A beginning of a row that has whole records: they are among those that are cut of it. -/
theorem cut_front {a : List (List Nat)} {u : List Nat} (ha : Fit a) (hu : ∀ b ∈ u, b < 256) : ∃ c, cutL (layR a ++ u) = a ++ c := by
  obtain ⟨rest, h1, h2, h3⟩ := cutL_parts hu
  refine ⟨cutL u, ?_⟩
  have e : layR a ++ u = layR (a ++ cutL u) ++ rest := by rw [layR_append, List.append_assoc, ← h1]
  rw [e]
  exact cutL_eq (fun s hs => by
    rcases List.mem_append.1 hs with hs | hs
    · exact ha s hs
    · exact h2 s hs) h3
theorem noRec_pre {l r : List Nat} (h : NoRec l) (hr : r <+: l) (hs : ∀ b ∈ l, b < 256) : NoRec r := by
  refine Bool.eq_false_iff.2 fun ht => ?_
  obtain ⟨t, rfl⟩ := hr
  obtain ⟨h1, h2⟩ := takeText_back (fun b hb => hs b (List.mem_append_left _ hb)) ht
  have h3 := takeText_rec (s := (takeText r 65536).1) (r := (takeText r 65536).2.1 ++ t) (M := 65536) h2 (by omega)
  rw [← List.append_assoc, ← h1] at h3
  unfold NoRec at h
  rw [h3] at h
  cases h
/-- Records that are cut of what lies between two beginnings of a row. -/
theorem cut_between {recs : List (List Nat)} {R : List Nat} {k : Nat} (hf : Fit recs) (hs : ∀ r ∈ recs, ∀ b ∈ r, b < 256) (hk : k ≤ recs.length) (h1 : R <+: layR recs) (h2 : (layR (recs.take k)).length ≤ R.length) : ∃ j, k ≤ j ∧ j ≤ recs.length ∧ cutL R = recs.take j := by
  have hR : R = (layR recs).take R.length := by
    obtain ⟨t, ht⟩ := h1
    rw [← ht, List.take_left' rfl]
  obtain ⟨j, hj, e⟩ := cut_begins recs R.length hf hs
  rw [← hR] at e
  refine ⟨j, ?_, hj, e⟩
  have h3 : layR recs = layR (recs.take k) ++ layR (recs.drop k) := by rw [← layR_append, List.take_append_drop]
  obtain ⟨u, hu⟩ : ∃ u, R = layR (recs.take k) ++ u := by
    refine ⟨R.drop (layR (recs.take k)).length, ?_⟩
    have h4 : layR (recs.take k) = R.take (layR (recs.take k)).length := by
      rw [hR, h3, List.take_take, Nat.min_eq_left h2, List.take_left' rfl]
    rw [h4]
    rw [show (R.take (layR (recs.take k)).length).length = (layR (recs.take k)).length by rw [List.length_take]; omega]
    rw [List.take_append_drop]
  have hsm : ∀ b ∈ R, b < 256 := fun b hb => layR_small hs b (h1.subset hb)
  obtain ⟨c, hc⟩ := cut_front (a := recs.take k) (u := u) (fun s hs2 => hf s (List.mem_of_mem_take hs2)) (fun b hb => hsm b (by rw [hu]; exact List.mem_append_right _ hb))
  rw [← hu, e] at hc
  have h5 := congrArg List.length hc
  rw [List.length_append, List.length_take, List.length_take] at h5
  omega
end Go.Proofs.Ytalpippeelomjaa
namespace Go.Proofs.Ytalpippeelomjaa
open Go.RowKit
set_option linter.unusedSimpArgs false
set_option linter.unusedVariables false
set_option maxRecDepth 100000
theorem Tidy.full {gen ser : Nat} {X : List (List Nat)} {qs : List Pg} {recs : List (List Nat)} {rest : List Nat} (h : Tidy gen ser X qs recs rest) {i : Nat} {q : Pg} (hq : qs[i]? = some q) (hi : i + 1 < qs.length) : q.data.length = 491 := by
  have h1 := congrArg List.length (h.at_ i q hq).2.2.2.2.1
  rw [List.length_append, be4_length] at h1
  unfold partK at h1
  rw [List.length_take, List.length_drop] at h1
  have h2 := h.few
  unfold chunkM at h2
  omega
theorem Tidy.next {gen ser : Nat} {X : List (List Nat)} {qs : List Pg} {recs : List (List Nat)} {rest : List Nat} (h : Tidy gen ser X qs recs rest) {i : Nat} {q : Pg} (hq : qs[i]? = some q) : nextP gen (qs.take i) q = true := by
  obtain ⟨_, h1, h2, h3, h4, _⟩ := h.at_ i q hq
  have hi := (List.getElem?_eq_some_iff.1 hq).1
  have hl : (qs.take i).length = i := by rw [List.length_take]; omega
  refine nextP_of h1 h2 (by rw [hl]; exact h3) ?_
  rw [hl, serP_take (Nat.le_refl _), h4]
  exact List.take_left' rfl
/-- Beginnings of parts, all but the last one whole. -/
theorem flat_pre : ∀ (ps : List (List Nat)) (R : List Nat), (∀ (i : Nat) (p : List Nat), ps[i]? = some p → p <+: partK R i ∧ (i + 1 < ps.length → p.length = 487)) → ps.flatten <+: R ∧ ∀ (i : Nat) (p : List Nat), ps[i]? = some p → i + 1 = ps.length → ps.flatten.length = 487 * i + p.length
  | [], R, _ => ⟨List.nil_prefix, fun i p h => by simp at h⟩
  | p :: r, R, h => by
    obtain ⟨h1, h2⟩ := h 0 p rfl
    have e0 : partK R 0 = R.take 487 := by unfold partK; rw [Nat.mul_zero, List.drop_zero]
    rw [e0] at h1
    by_cases hr : r = []
    · subst hr
      refine ⟨?_, fun i q hq hi => ?_⟩
      · simp only [List.flatten_cons, List.flatten_nil, List.append_nil]
        exact h1.trans (List.take_prefix _ _)
      · have hi0 : i = 0 := by simpa using hi
        subst hi0
        simp at hq
        subst hq
        simp
    · have hrl : 0 < r.length := List.length_pos_iff.2 hr
      have hpl := h2 (by rw [List.length_cons]; omega)
      have hp : p = R.take 487 := pre_full h1 (by rw [List.length_take]; omega)
      obtain ⟨a, b⟩ := flat_pre r (R.drop 487) (fun i q hq => by
        obtain ⟨h3, h4⟩ := h (i + 1) q (by simpa using hq)
        refine ⟨?_, fun hi => h4 (by rw [List.length_cons]; omega)⟩
        have e1 : partK (R.drop 487) i = partK R (i + 1) := by
          unfold partK
          rw [List.drop_drop, show 487 + 487 * i = 487 * (i + 1) by omega]
        rw [e1]
        exact h3)
      refine ⟨?_, fun i q hq hi => ?_⟩
      · rw [List.flatten_cons]
        obtain ⟨t, ht⟩ := a
        refine ⟨t, ?_⟩
        rw [List.append_assoc, ht, hp, List.take_append_drop]
      · rw [List.length_cons] at hi
        cases i with
        | zero => omega
        | succ i =>
          rw [List.flatten_cons, List.length_append, b i q (by simpa using hq) (by omega), hpl]
          omega
/-- A page that lay there ahead of the session names no page of this session. -/
theorem old_link {gen S i : Nat} {V0 : List (List Nat)} {q : Pg} {rs : List Pg} (hS : S < 4294967296) (hV : Half gen S V0) (hq : V0[i]? = some (pageOf q)) (hg : GoodPg q) (hn : nextP gen rs q = true) : serP rs rs.length ≠ S := fun e => by
  obtain ⟨lk, part, e1, e2, _, _⟩ := (hV.page hq hg).data
  have h1 := (hV.page hq hg).ser
  obtain ⟨_, _, _, h4⟩ := nextP_parts hn
  rw [e1, List.take_left' (be4_length _), e] at h4
  have := be4_inj (by omega) hS h4
  omega
theorem serP_at {qs : List Pg} {i : Nat} {q : Pg} (h : qs[i]? = some q) : serP qs (i + 1) = q.ser := by
  show (qs[i]?.map Pg.ser).getD 0 = _
  rw [h]
  rfl
section
variable {gen S first secs D k : Nat} {sy : Bool} {V0 C dur X : List (List Nat)} {qs0 qs qsC : List Pg} {recs0 recs : List (List Nat)} {rest0 : List Nat} {pend : List (Nat × List Nat)}
/-- What a session leaves is a half as logs leave it. -/
theorem wr_half (hg : gen < 4294967296) (hS : S < 4294967296) (hsecs : secs ≤ 4096) (hV : Half gen S V0) (c0 : Chain gen V0 qs0) (hs : ∀ r ∈ recs, ∀ b ∈ r, b < 256) (hCl : C.length = secs) (hc1 : ∀ i, i < D → C[i]? = V0[i]?)
    (hc2 : ∀ (i : Nat) (s : List Nat), D ≤ i → i < secs → C[i]? = some s → (V0[i]? = some s ∧ (sy = true → chunkM (layR (recs.take k)).length ≤ i)) ∨ Ver gen S D (serP qs0 D) (layR recs) (layR (recs.take k)) i s) : Half gen (S + 1) C := by
  intro i s hi
  have his : i < secs := by have := (List.getElem?_eq_some_iff.1 hi).1; omega
  have hold : V0[i]? = some s → s = noughts ∨ ∃ q, s = pageOf q ∧ Leaf gen (S + 1) i q := fun h => hV.up (Nat.le_succ S) i s h
  rcases Nat.lt_or_ge i D with hlt | hge
  · exact hold (by rw [← hc1 i hlt]; exact hi)
  · rcases hc2 i s hge his hi with ⟨h, _⟩ | ⟨part, h1, h2, h3, h4⟩
    · exact hold h
    · refine .inr ⟨_, h1, ver_good hg hS (by omega) h3, rfl, rfl, rfl, Nat.lt_succ_self _, (if i = D then serP qs0 D else S), part, rfl, ?_, h2, fun b hb => ?_⟩
      · show (if i = D then serP qs0 D else S) ≤ S
        split
        · cases D with
          | zero => exact Nat.zero_le _
          | succ D =>
            show (qs0[D]?.map Pg.ser).getD 0 ≤ S
            cases hq : qs0[D]? with
            | none => exact Nat.zero_le _
            | some q =>
              obtain ⟨a1, a2, _⟩ := c0.at_ D q hq
              have := (hV.page a1 a2).ser
              show q.ser ≤ S
              omega
        · exact Nat.le_refl _
      · have h5 := h3.subset hb
        unfold partK at h5
        exact layR_small hs b (List.mem_of_mem_drop (List.mem_of_mem_take h5))
set_option maxHeartbeats 1000000 in
/-- Whatever survives of it. -/
theorem wr_crash (hg : gen < 4294967296) (hS : S < 4294967296) (hsecs : secs ≤ 4096) (hV : Half gen S V0) (c0 : Chain gen V0 qs0) (t0 : Tidy gen S V0 qs0 recs0 rest0) (t : Tidy gen S X qs recs []) (hXl : X.length = secs)
    (w : Wr gen S first secs V0 qs0 recs0 D recs qs k sy dur pend) (hCl : C.length = secs) (hc1 : ∀ i, i < D → C[i]? = V0[i]?)
    (hc2 : ∀ (i : Nat) (s : List Nat), D ≤ i → i < secs → C[i]? = some s → (V0[i]? = some s ∧ (sy = true → chunkM (layR (recs.take k)).length ≤ i)) ∨ Ver gen S D (serP qs0 D) (layR recs) (layR (recs.take k)) i s)
    (c : Chain gen C qsC) : ∃ j, k ≤ j ∧ j ≤ recs.length ∧ cutL (rowP qsC) = recs.take j := by
  have hroom := t.room
  have hdq := w.dq
  have hd0 := w.d0
  have hfull : ∀ (i : Nat) (q : Pg), qs0[i]? = some q → i < D → q.data.length = 491 := fun i q hq hi => by
    have e : (qs.take D)[i]? = some q := by rw [w.pre, List.getElem?_take, if_pos hi]; exact hq
    rw [List.getElem?_take, if_pos hi] at e
    exact t.full e (by omega)
  have htl : (qs0.take D).length = D := by rw [List.length_take]; omega
  have hbase : ∀ (i : Nat) (q : Pg), (qs0.take D)[i]? = some q → C[i]? = some (pageOf q) ∧ GoodPg q ∧ nextP gen ((qs0.take D).take i) q = true ∧ q.data.length = 491 := fun i q hq => by
    have hi := (List.getElem?_eq_some_iff.1 hq).1
    rw [htl] at hi
    rw [List.getElem?_take, if_pos hi] at hq
    obtain ⟨a1, a2, a3⟩ := c0.at_ i q hq
    refine ⟨by rw [hc1 i hi]; exact a1, a2, ?_, hfull i q hq hi⟩
    rw [List.take_take, Nat.min_eq_left (by omega)]
    exact a3
  obtain ⟨hDn, hDe⟩ := chain_pre c (rs := qs0.take D) (fun i q hq => ⟨(hbase i q hq).1, (hbase i q hq).2.1, (hbase i q hq).2.2.1, fun _ => (hbase i q hq).2.2.2⟩) D (by omega)
  rw [List.take_take, Nat.min_self] at hDe
  have hserD : serP qsC D = serP qs0 D := by rw [← serP_take (qs := qsC) (Nat.le_refl D), hDe, serP_take (Nat.le_refl _)]
  obtain ⟨sD, hsD⟩ : ∃ s, C[D]? = some s := ⟨_, List.getElem?_eq_getElem (by omega)⟩
  have hk2 : sy = false → recs.take k = recs0 := fun e => by
    rw [w.nsy e]
    obtain ⟨u, hu⟩ := w.rec0
    rw [← hu, List.take_left' rfl]
  have hpart : ∀ (i : Nat) (q : Pg), qsC[i]? = some q → C[i]? = some (pageOf q) ∧ GoodPg q ∧ nextP gen (qsC.take i) q = true := c.at_
  have hin : ∀ (i : Nat) (q : Pg), qsC[i]? = some q → i < secs := fun i q hq => by
    have := (List.getElem?_eq_some_iff.1 (hpart i q hq).1).1
    omega
  rcases hc2 D sD (Nat.le_refl _) (by omega) hsD with ⟨hVD, hsy⟩ | hver
  · -- the old page stands at the place where the session began
    have hns : sy = false := by
      cases hsy0 : sy
      · rfl
      · have h1 := hsy hsy0
        have h2 := w.ysy hsy0
        omega
    have hsame : ∀ i, i < qsC.length → C[i]? = V0[i]? := by
      intro i
      induction i using Nat.strongRecOn with
      | ind i ih =>
        intro hi
        rcases Nat.lt_or_ge i D with hlt | hge
        · exact hc1 i hlt
        · by_cases hiD : i = D
          · rw [hiD, hsD, hVD]
          · have hq : qsC[i]? = some qsC[i] := List.getElem?_eq_getElem hi
            obtain ⟨a1, a2, a3⟩ := hpart i _ hq
            rcases hc2 i _ hge (hin i _ hq) a1 with ⟨h, _⟩ | ⟨part, h1, h2, h3, h4⟩
            · rw [a1, h]
            · exfalso
              obtain ⟨i', rfl⟩ : ∃ i', i = i' + 1 := ⟨i - 1, by omega⟩
              have hq' : qsC[i']? = some qsC[i'] := List.getElem?_eq_getElem (by omega)
              obtain ⟨b1, b2, _⟩ := hpart i' _ hq'
              rw [ih i' (by omega) (by omega)] at b1
              have b4 := (hV.page b1 b2).ser
              have e := page_inj a2 (ver_good hg hS (by have := hin _ _ hq; omega) h3) h1
              obtain ⟨_, _, _, n4⟩ := nextP_parts a3
              have hl : (qsC.take (i' + 1)).length = i' + 1 := by rw [List.length_take]; omega
              rw [hl, serP_take (Nat.le_refl _), serP_at hq', e] at n4
              rw [show (Pg.mk gen S (i' + 1) 1 (be4 (if i' + 1 = D then serP qs0 D else S) ++ part)).data.take 4 = be4 (if i' + 1 = D then serP qs0 D else S) from List.take_left' rfl, if_neg hiD] at n4
              have := be4_inj hS (by omega) n4
              omega
    obtain ⟨hn, hne⟩ := chain_pre c0 (rs := qsC) (fun i q hq => by
      have hi := (List.getElem?_eq_some_iff.1 hq).1
      obtain ⟨a1, a2, a3⟩ := hpart i q hq
      exact ⟨by rw [← hsame i hi]; exact a1, a2, a3, fun h => c.full i q hq h⟩) qsC.length (Nat.le_refl _)
    rw [List.take_of_length_le (Nat.le_refl qsC.length)] at hne
    have hpre : rowP qsC <+: rowP qs0 := by
      rw [← hne]
      have e : rowP qs0 = rowP (qs0.take qsC.length) ++ rowP (qs0.drop qsC.length) := by rw [← rowP_append, List.take_append_drop]
      rw [e]
      exact List.prefix_append _ _
    have hlen : (layR recs0).length ≤ (rowP qsC).length := by
      rcases Nat.lt_or_ge qsC.length qs0.length with hlt | hge
      · have hnD : qsC.length ≠ D := fun e => by
          obtain ⟨qD, hq⟩ : ∃ q, qs0[D]? = some q := ⟨_, List.getElem?_eq_getElem (by omega)⟩
          obtain ⟨a1, a2, a3⟩ := c0.at_ D _ hq
          have h5 := c.stop qD (by rw [e, hsD, ← hVD]; exact a1) a2 (fun i r hr => by
            have hi := (List.getElem?_eq_some_iff.1 hr).1
            rw [← hne, List.getElem?_take, if_pos hi] at hr
            exact c0.full i r hr (by omega))
          have e5 : qsC = qs0.take D := by rw [← e]; exact hne.symm
          rw [e5, a3] at h5
          cases h5
        have h6 := (flat_pre (qsC.map fun q => q.data.drop 4) (rowP qs0) (fun i p hp => by
          rw [List.getElem?_map] at hp
          obtain ⟨q, hq, rfl⟩ := Option.map_eq_some_iff.1 hp
          have hi := (List.getElem?_eq_some_iff.1 hq).1
          rw [← hne, List.getElem?_take, if_pos hi] at hq
          have h7 := (t0.at_ i q hq).2.2.2.2.1
          have h8 := c0.full i q hq (by omega)
          refine ⟨?_, fun _ => by rw [List.length_drop]; omega⟩
          rw [t0.row, h7, List.drop_left' (be4_length _)]
          exact List.prefix_refl _)).2 (qsC.length - 1)
        obtain ⟨qL, hq⟩ : ∃ q, qsC[qsC.length - 1]? = some q := ⟨_, List.getElem?_eq_getElem (by omega)⟩
        have h9 := h6 _ (by rw [List.getElem?_map, hq]; rfl) (by rw [List.length_map]; omega)
        have h10 : qL.data.length = 491 := by
          have hq1 : qs0[qsC.length - 1]? = some qL := by
            have e : (qs0.take qsC.length)[qsC.length - 1]? = some qL := by rw [hne]; exact hq
            rw [List.getElem?_take, if_pos (by omega)] at e
            exact e
          exact c0.full _ _ hq1 (by omega)
        have h11 := w.from_
        rw [List.length_drop, h10] at h9
        show _ ≤ ((qsC.map fun q => q.data.drop 4).flatten).length
        rw [h9]
        omega
      · rw [List.take_of_length_le hge] at hne
        rw [← hne, t0.row, List.length_append]
        omega
    refine ⟨k, Nat.le_refl _, w.kk, ?_⟩
    rw [hk2 hns]
    rw [t0.row] at hpre
    obtain ⟨r', hr'⟩ : ∃ r', rowP qsC = layR recs0 ++ r' := by
      refine ⟨(rowP qsC).drop (layR recs0).length, ?_⟩
      have h1 : (rowP qsC).take (layR recs0).length = layR recs0 := by
        obtain ⟨u, hu⟩ := hpre
        have h2 := congrArg (List.take (layR recs0).length) hu
        rw [List.take_append_of_le_length hlen, List.take_left' rfl] at h2
        exact h2
      rw [← h1]
      rw [show ((rowP qsC).take (layR recs0).length).length = (layR recs0).length by rw [List.length_take]; omega]
      rw [List.take_append_drop]
    rw [hr'] at hpre ⊢
    obtain ⟨u, hu⟩ := hpre
    rw [List.append_assoc] at hu
    exact cutL_eq t0.fit (noRec_pre t0.none_ ⟨u, List.append_cancel_left hu⟩ t0.rsmall)
  · -- a page of the session stands there
    obtain ⟨pD, e1, e2, e3, e4⟩ := hver
    obtain ⟨hD1, hDe1⟩ := chain_pre c (rs := qs0.take D ++ [⟨gen, S, D, 1, be4 (if D = D then serP qs0 D else S) ++ pD⟩]) (fun i q hq => by
      by_cases hi : i < D
      · rw [List.getElem?_append_left (by omega)] at hq
        rw [List.take_append_of_le_length (by omega)]
        exact ⟨(hbase i q hq).1, (hbase i q hq).2.1, (hbase i q hq).2.2.1, fun _ => (hbase i q hq).2.2.2⟩
      · have hil := (List.getElem?_eq_some_iff.1 hq).1
        rw [List.length_append, htl, List.length_singleton] at hil
        obtain rfl : i = D := by omega
        rw [List.getElem?_append_right (by omega), htl, Nat.sub_self] at hq
        have eq : q = ⟨gen, S, i, 1, be4 (if i = i then serP qs0 i else S) ++ pD⟩ := by simpa using hq.symm
        rw [List.take_left' htl, eq]
        refine ⟨by rw [hsD, e1], ver_good hg hS (by omega) e3, nextP_of rfl rfl htl.symm ?_, fun h => by rw [List.length_append, htl, List.length_singleton] at h; omega⟩
        rw [htl, serP_take (Nat.le_refl _), if_pos rfl]
        exact List.take_left' rfl) (D + 1) (by rw [List.length_append, htl, List.length_singleton]; omega)
    rw [List.take_of_length_le (l := qs0.take D ++ [_]) (by rw [List.length_append, htl, List.length_singleton]; omega)] at hDe1
    have hvers : ∀ d (q : Pg), qsC[D + d]? = some q → q.ser = S ∧ Ver gen S D (serP qs0 D) (layR recs) (layR (recs.take k)) (D + d) (pageOf q) := by
      intro d
      induction d with
      | zero =>
        intro q hq
        have h1 : (qsC.take (D + 1))[D]? = some q := by rw [List.getElem?_take, if_pos (by omega)]; exact hq
        rw [hDe1, List.getElem?_append_right (by omega), htl, Nat.sub_self] at h1
        have eq : q = ⟨gen, S, D, 1, be4 (if D = D then serP qs0 D else S) ++ pD⟩ := by simpa using h1.symm
        rw [eq]
        exact ⟨rfl, pD, rfl, e2, e3, e4⟩
      | succ d ih =>
        intro q hq
        have hlt := (List.getElem?_eq_some_iff.1 hq).1
        have hq' : qsC[D + d]? = some qsC[D + d] := List.getElem?_eq_getElem (by omega)
        have hs := (ih _ hq').1
        obtain ⟨a1, a2, a3⟩ := hpart _ q hq
        have hl : (qsC.take (D + (d + 1))).length = D + (d + 1) := by rw [List.length_take]; omega
        rcases hc2 (D + (d + 1)) _ (by omega) (hin _ _ hq) a1 with ⟨h, _⟩ | hv
        · exact absurd (by rw [hl, serP_take (Nat.le_refl _)]; exact (serP_at hq').trans hs) (old_link hS hV h a2 a3)
        · refine ⟨?_, hv⟩
          obtain ⟨part, h1, h2, h3, h4⟩ := hv
          rw [page_inj a2 (ver_good hg hS (by have := hin _ _ hq; omega) h3) h1]
    have hpp : ∀ (i : Nat) (p : List Nat), (qsC.map fun q => q.data.drop 4)[i]? = some p → p <+: partK (layR recs) i ∧ (i + 1 < (qsC.map fun q => q.data.drop 4).length → p.length = 487) := fun i p hp => by
      rw [List.getElem?_map] at hp
      obtain ⟨q, hq, rfl⟩ := Option.map_eq_some_iff.1 hp
      refine ⟨?_, fun h => ?_⟩
      · rcases Nat.lt_or_ge i D with hlt | hge
        · have h1 : (qsC.take D)[i]? = some q := by rw [List.getElem?_take, if_pos hlt]; exact hq
          rw [hDe, ← w.pre, List.getElem?_take, if_pos hlt] at h1
          have h2 := (t.at_ i q h1).2.2.2.2.1
          rw [List.append_nil] at h2
          rw [h2, List.drop_left' (be4_length _)]
          exact List.prefix_refl _
        · obtain ⟨d, rfl⟩ : ∃ d, i = D + d := ⟨i - D, by omega⟩
          obtain ⟨part, h1, h2, h3, h4⟩ := (hvers d q hq).2
          rw [page_inj (hpart _ q hq).2.1 (ver_good hg hS (by have := hin _ _ hq; omega) h3) h1]
          show (be4 _ ++ part).drop 4 <+: _
          rw [List.drop_left' (be4_length _)]
          exact h3
      · rw [List.length_map] at h
        have := c.full i q hq h
        rw [List.length_drop]
        omega
    obtain ⟨f1, f2⟩ := flat_pre _ _ hpp
    refine cut_between t.fit t.small w.kk f1 ?_
    obtain ⟨n, hn⟩ : ∃ n, qsC.length = n + 1 := ⟨qsC.length - 1, by omega⟩
    have hql : qsC[n]? = some (qsC[n]'(by omega)) := List.getElem?_eq_getElem (by omega)
    obtain ⟨d, hd⟩ : ∃ d, n = D + d := ⟨n - D, by omega⟩
    have hvl := hvers d (qsC[n]'(by omega)) (by rw [← hd]; exact hql)
    rw [← hd] at hvl
    obtain ⟨hsl, part, h1, h2, h3, h4⟩ := hvl
    have hlast := page_inj (hpart _ _ hql).2.1 (ver_good hg hS (by have := hin _ _ hql; omega) h3) h1
    have hlp : ((qsC[n]'(by omega)).data.drop 4) = part := by rw [hlast]; exact List.drop_left' rfl
    have f3 := f2 n _ (by rw [List.getElem?_map, hql]; rfl) (by rw [List.length_map]; omega)
    replace f3 : ((qsC.map fun q => q.data.drop 4).flatten).length = 487 * n + ((qsC[n]'(by omega)).data.drop 4).length := f3
    rw [hlp] at f3
    show _ ≤ (rowP qsC).length
    have f4 : (rowP qsC).length = 487 * n + part.length := f3
    rw [f4]
    have hRs : (layR (recs.take k)).length ≤ (layR recs).length := layR_take_le recs k
    have hplen : (partK (layR (recs.take k)) n).length = min 487 ((layR (recs.take k)).length - 487 * n) := by unfold partK; rw [List.length_take, List.length_drop]
    have hfew := t.few
    rw [List.append_nil] at hfew
    rcases Nat.lt_or_ge (487 * (n + 1)) (layR (recs.take k)).length with hlt | hge
    · exfalso
      have hns : n + 1 < secs := by unfold chunkM at hfew; omega
      have hCn : C[n + 1]? = some (C[n + 1]'(by omega)) := List.getElem?_eq_getElem (by omega)
      have hallfull : ∀ (i : Nat) (r : Pg), qsC[i]? = some r → r.data.length = 491 := fun i r hr => by
        have hi := (List.getElem?_eq_some_iff.1 hr).1
        rcases Nat.lt_or_ge (i + 1) qsC.length with hh | hh
        · exact c.full i r hr hh
        · obtain rfl : i = n := by omega
          rw [hql] at hr
          injection hr with hr
          rw [← hr, hlast]
          show (be4 _ ++ part).length = 491
          rw [List.length_append, be4_length]
          have := h3.length_le
          have := partK_le (layR recs) i
          omega
      rcases hc2 (n + 1) _ (by omega) hns hCn with ⟨h, hsy⟩ | ⟨p2, g1, g2, g3, g4⟩
      · cases hsy0 : sy
        · have e := hk2 hsy0
          rw [e] at hlt
          have := w.from_
          omega
        · have := hsy hsy0
          unfold chunkM at this
          omega
      · have h5 := c.stop ⟨gen, S, n + 1, 1, be4 (if n + 1 = D then serP qs0 D else S) ++ p2⟩ (by rw [hn, hCn, g1]) (ver_good hg hS (by omega) g3) hallfull
        have h6 : nextP gen qsC ⟨gen, S, n + 1, 1, be4 (if n + 1 = D then serP qs0 D else S) ++ p2⟩ = true := by
          refine nextP_of rfl rfl (by rw [hn]) ?_
          rw [hn, serP_at hql, hsl, if_neg (by omega)]
          exact List.take_left' rfl
        rw [h6] at h5
        cases h5
    · rw [hplen] at h4
      omega
/-- As it stands now it is found whole. -/
theorem wr_now (hg : gen < 4294967296) (hS : S < 4294967296) (hsecs : secs ≤ 4096) (hV : Half gen S V0) (t : Tidy gen S X qs recs []) (hXl : X.length = secs)
    (w : Wr gen S first secs V0 qs0 recs0 D recs qs k sy dur pend)
    (hc2 : ∀ (i : Nat) (s : List Nat), D ≤ i → i < secs → X[i]? = some s → (V0[i]? = some s ∧ (sy = true → chunkM (layR (recs.take k)).length ≤ i)) ∨ Ver gen S D (serP qs0 D) (layR recs) (layR (recs.take k)) i s)
    (c : Chain gen X qsC) : cutL (rowP qsC) = recs := by
  have hdq := w.dq
  obtain ⟨h1, h2⟩ := chain_pre c (rs := qs) (fun i q hq => ⟨(t.at_ i q hq).1, t.good hg hS (by omega) hq, t.next hq, fun h => t.full hq h⟩) qs.length (Nat.le_refl _)
  rw [List.take_of_length_le (Nat.le_refl qs.length)] at h2
  have hfew := t.few
  rw [List.append_nil] at hfew
  rcases Nat.lt_or_ge qs.length qsC.length with hlt | hge
  · exfalso
    have hq : qsC[qs.length]? = some qsC[qs.length] := List.getElem?_eq_getElem hlt
    obtain ⟨a1, a2, a3⟩ := c.at_ _ _ hq
    have hin : qs.length < secs := by have := (List.getElem?_eq_some_iff.1 a1).1; omega
    rw [h2] at a3
    rcases hc2 _ _ (by omega) hin a1 with ⟨h, _⟩ | hv
    · obtain ⟨n, hn⟩ : ∃ n, qs.length = n + 1 := ⟨qs.length - 1, by omega⟩
      have hql : qs[n]? = some (qs[n]'(by omega)) := List.getElem?_eq_getElem (by omega)
      refine absurd ?_ (old_link hS hV h a2 a3)
      rw [hn, serP_at hql]
      exact w.new n _ hql (by omega)
    · have := hv.inside
      omega
  · rw [List.take_of_length_le hge] at h2
    rw [h2]
    exact t.cut
end
end Go.Proofs.Ytalpippeelomjaa
namespace Go.Proofs.Ytalpippeelomjaa
open Go.RowKit
set_option linter.unusedSimpArgs false
set_option linter.unusedVariables false
set_option maxRecDepth 100000
theorem wrsF_mem {first : Nat} {qs news : List Pg} {a : Nat} {s : List Nat} (h : (a, s) ∈ wrsF first qs news) : ∃ q ∈ news, qs[q.num]? ≠ some q ∧ a = first + q.num ∧ s = pageOf q := by
  unfold wrsF at h
  obtain ⟨q, hq, e⟩ := List.mem_map.1 h
  obtain ⟨h1, h2⟩ := List.mem_filter.1 hq
  injection e with e1 e2
  exact ⟨q, h1, of_decide_eq_true h2, e1.symm, e2.symm⟩
section
variable {gen S first secs D k : Nat} {sy : Bool} {V0 C dur X : List (List Nat)} {qs0 qs qsC : List Pg} {recs0 recs : List (List Nat)} {rest0 rest : List Nat} {pend : List (Nat × List Nat)}
/-- A new page of an Append, as a session's page. -/
theorem news_ver {f n lk : Nat} {p : List Nat} {news : List Pg} {Rs : List Nat} (h : Tidy gen S X qs recs rest) (hn : n = (layR recs).length) (hf : f = n / 487) (hnw : news = newsA gen S qs n p)
    (hall : ∀ (j : Nat) (q : Pg), news[j]? = some q → q.num = f + j ∧ q = mkP gen S qs (f + j) (serP (qs.take f ++ news) (f + j)) (partK (layR (recs ++ [p])) (f + j))) (hfl : f + news.length = chunkM (n + (rec1 p).length)) (hlay : (layR (recs ++ [p])).length = n + (rec1 p).length)
    {j : Nat} {q : Pg} (hq : news[j]? = some q) (hne : qs[q.num]? ≠ some q) (hlk : serP (qs.take f ++ news) (f + j) = if f + j = D then lk else S) (hRs : Rs <+: layR (recs ++ [p])) : Ver gen S D lk (layR (recs ++ [p])) Rs (f + j) (pageOf q) := by
  obtain ⟨h1, h2⟩ := hall j q hq
  have hj := (List.getElem?_eq_some_iff.1 hq).1
  have hpos : partK (layR (recs ++ [p])) (f + j) ≠ [] := by
    intro e
    have h3 := congrArg List.length e
    unfold partK at h3
    rw [List.length_take, List.length_drop, hlay, List.length_nil] at h3
    unfold chunkM at hfl
    omega
  rcases mkP_kind (gen := gen) (ser := S) (i := f + j) (bf := serP (qs.take f ++ news) (f + j)) (qs := qs) (part := partK (layR (recs ++ [p])) (f + j)) with e | e
  · rw [← h2] at e
    exact absurd (by rw [h1]; exact e) hne
  · exact ⟨_, by rw [h2, e, hlk], hpos, List.prefix_refl _, (part_pre hRs _).length_le⟩
/-- The first Append of a session. -/
theorem wr_first (hg : gen < 4294967296) (hS : S < 4294967296) (hsecs : secs ≤ 4096) (hV : Half gen S V0) (hVl : V0.length = secs) (c0 : Chain gen V0 qs0) (t0 : Tidy gen S V0 qs0 recs0 rest0) (hd : ∀ i, i < secs → dur[first + i]? = V0[i]?)
    (p : List Nat) (hp : p.length ≤ 65536) (hps : ∀ b ∈ p, b < 256) (hfit : (rec1 p).length + (layR recs0).length ≤ secs * 487) :
    ∃ D, Wr gen S first secs V0 qs0 recs0 D (recs0 ++ [p]) (qs0.take ((layR recs0).length / 487) ++ newsA gen S qs0 (layR recs0).length p) recs0.length false dur (wrsF first qs0 (newsA gen S qs0 (layR recs0).length p)) := by
  obtain ⟨n, hn⟩ : ∃ n, n = (layR recs0).length := ⟨_, rfl⟩
  obtain ⟨f, hf⟩ : ∃ f, f = n / 487 := ⟨_, rfl⟩
  obtain ⟨news, hnw⟩ : ∃ l, l = newsA gen S qs0 n p := ⟨_, rfl⟩
  obtain ⟨hfl, hfq, hlay, hall⟩ := tidy_news t0 p hn hf hnw
  have hr1 := rec1_pos p
  have hsm : ∀ b ∈ p, b < 256 := hps
  have htl : (qs0.take f).length = f := by rw [List.length_take]; omega
  rw [← hn, ← hf, ← hnw]
  have hcm : chunkM (n + (rec1 p).length) ≤ secs := by unfold chunkM; omega
  have hnpos : 0 < news.length := by
    have : f < chunkM (n + (rec1 p).length) := by unfold chunkM; omega
    omega
  -- some page is new
  have hsome : ∃ j, j < news.length ∧ qs0[f + j]? ≠ news[j]? := by
    refine Classical.byContradiction fun hno => ?_
    have hsame : ∀ j, j < news.length → qs0[f + j]? = news[j]? := fun j hj => Classical.byContradiction fun h => hno ⟨j, hj, h⟩
    obtain ⟨m, hm⟩ : ∃ m, news.length = m + 1 := ⟨news.length - 1, by omega⟩
    -- then the row of the old pages goes on with the whole record
    have hlong : 487 * f + 487 * m ≤ n + (rec1 p).length ∧ n + (rec1 p).length ≤ 487 * f + 487 * (m + 1) := by unfold chunkM at hfl; omega
    have hparts : ∀ j, j < news.length → partK (layR recs0 ++ rest0) (f + j) = partK (layR (recs0 ++ [p])) (f + j) := fun j hj => by
      have hq : news[j]? = some news[j] := List.getElem?_eq_getElem hj
      have e1 := (hall j _ hq).2
      have e2 := congrArg (fun q => q.data.drop 4) e1
      try dsimp only at e2
      rw [mkP_data, List.drop_left' (be4_length _)] at e2
      have h3 := (t0.at_ (f + j) news[j] (by rw [hsame j hj, hq])).2.2.2.2.1
      rw [h3, List.drop_left' (be4_length _)] at e2
      exact e2
    have hrow : ∀ x, x < n + (rec1 p).length → (layR recs0 ++ rest0)[x]? = (layR (recs0 ++ [p]))[x]? := fun x hx => by
      by_cases hxn : x < n
      · rw [layR_snoc, List.getElem?_append_left (by omega), List.getElem?_append_left (by omega)]
      · obtain ⟨j, y, hy, hxy⟩ : ∃ j y, y < 487 ∧ x = 487 * (f + j) + y := ⟨x / 487 - f, x % 487, Nat.mod_lt _ (by decide), by omega⟩
        have hj : j < news.length := by omega
        have e := congrArg (fun l => l[y]?) (hparts j hj)
        unfold partK at e
        try dsimp only at e
        rw [List.getElem?_take, List.getElem?_take, if_pos hy, if_pos hy, List.getElem?_drop, List.getElem?_drop, ← hxy] at e
        exact e
    have hpre : layR (recs0 ++ [p]) = (layR recs0 ++ rest0).take (n + (rec1 p).length) := by
      refine List.ext_getElem? fun x => ?_
      rw [List.getElem?_take]
      split
      · rename_i h; exact (hrow x h).symm
      · rw [List.getElem?_eq_none (by omega)]
    have hrest : rec1 p = rest0.take (rec1 p).length := by
      rw [layR_snoc, hn, List.take_length_add_append] at hpre
      exact List.append_cancel_left hpre
    have h4 := takeText_rec (s := p) (r := rest0.drop (rec1 p).length) (M := 65536) hp (by omega)
    have h5 : rec1 p ++ rest0.drop (rec1 p).length = rest0 := by
      have := List.take_append_drop (rec1 p).length rest0
      rw [← hrest] at this
      exact this
    rw [h5] at h4
    have h6 := t0.none_
    unfold NoRec at h6
    rw [h4] at h6
    cases h6
  -- the first one of them
  obtain ⟨j0, hj0, hne0, hmin⟩ : ∃ j, j < news.length ∧ qs0[f + j]? ≠ news[j]? ∧ ∀ i, i < j → qs0[f + i]? = news[i]? := by
    obtain ⟨j, h1, h2⟩ := hsome
    induction j using Nat.strongRecOn with
    | ind j ih =>
      by_cases hall' : ∀ i, i < j → qs0[f + i]? = news[i]?
      · exact ⟨j, h1, h2, hall'⟩
      · obtain ⟨i, hi⟩ := Classical.not_forall.1 hall'
        obtain ⟨hij, hne⟩ := Classical.not_imp.1 hi
        exact ih i hij (by omega) hne
  have hpre : (qs0.take f ++ news).take (f + j0) = qs0.take (f + j0) := by
    refine List.ext_getElem? fun i => ?_
    rw [List.getElem?_take, List.getElem?_take]
    split
    · rename_i hi
      by_cases hif : i < f
      · rw [List.getElem?_append_left (by omega), List.getElem?_take, if_pos hif]
      · rw [List.getElem?_append_right (by omega), htl]
        have := hmin (i - f) (by omega)
        rw [show f + (i - f) = i by omega] at this
        exact this.symm
    · rfl
  have hD0 : f + j0 ≤ qs0.length := by
    rcases Nat.eq_zero_or_pos j0 with h | h
    · omega
    · have e := hmin (j0 - 1) (by omega)
      rw [List.getElem?_eq_getElem (l := news) (by omega)] at e
      have := (List.getElem?_eq_some_iff.1 e).1
      omega
  have hlkD : serP (qs0.take f ++ news) (f + j0) = serP qs0 (f + j0) := by rw [← serP_take (qs := qs0.take f ++ news) (Nat.le_refl (f + j0)), hpre, serP_take (Nat.le_refl _)]
  -- from there on all are new
  have hser : ∀ d, j0 + d < news.length → (∀ q, news[j0 + d]? = some q → qs0[q.num]? ≠ some q ∧ q.ser = S) := by
    intro d
    induction d with
    | zero =>
      intro hj q hq
      obtain ⟨h1, h2⟩ := hall _ q hq
      rw [Nat.add_zero] at hq h1 h2
      have hne : qs0[q.num]? ≠ some q := by rw [h1, ← hq]; exact hne0
      refine ⟨hne, ?_⟩
      rcases mkP_kind (gen := gen) (ser := S) (i := f + j0) (bf := serP (qs0.take f ++ news) (f + j0)) (qs := qs0) (part := partK (layR (recs0 ++ [p])) (f + j0)) with e | e
      · rw [← h2, ← h1] at e; exact absurd e hne
      · rw [h2, e]
    | succ d ih =>
      intro hj q hq
      obtain ⟨h1, h2⟩ := hall _ q hq
      have hq' : news[j0 + d]? = some (news[j0 + d]'(by omega)) := List.getElem?_eq_getElem (by omega)
      have hs := (ih (by omega) _ hq').2
      have hbf : serP (qs0.take f ++ news) (f + (j0 + (d + 1))) = S := by
        rw [show f + (j0 + (d + 1)) = f + (j0 + d) + 1 by omega]
        rw [serP_at (q := news[j0 + d]'(by omega)) (by rw [List.getElem?_append_right (by omega), htl, show f + (j0 + d) - f = j0 + d by omega]; exact hq')]
        exact hs
      have hne : qs0[q.num]? ≠ some q := fun h => by
        rw [h1] at h
        obtain ⟨a1, a2, a3⟩ := c0.at_ _ q h
        have e2 := congrArg (fun q => q.data.take 4) h2
        try dsimp only at e2
        rw [mkP_data, List.take_left' (be4_length _), hbf] at e2
        obtain ⟨_, _, _, n4⟩ := nextP_parts a3
        obtain ⟨lk, part, e3, e4, _, _⟩ := (hV.page a1 a2).data
        have e5 := (hV.page a1 a2).ser
        rw [e3, List.take_left' (be4_length _)] at e2
        have := be4_inj (by omega) hS e2
        omega
      refine ⟨hne, ?_⟩
      rcases mkP_kind (gen := gen) (ser := S) (i := f + (j0 + (d + 1))) (bf := serP (qs0.take f ++ news) (f + (j0 + (d + 1)))) (qs := qs0) (part := partK (layR (recs0 ++ [p])) (f + (j0 + (d + 1)))) with e | e
      · rw [← h2, ← h1] at e; exact absurd e hne
      · rw [h2, e]
  have hRs : layR ((recs0 ++ [p]).take recs0.length) <+: layR (recs0 ++ [p]) := by
    rw [List.take_left' rfl, layR_append]
    exact List.prefix_append _ _
  refine ⟨f + j0, ⟨by rw [List.length_append, htl]; omega, hD0, hpre, by omega, List.prefix_append _ _, by rw [List.length_append]; omega, fun _ => rfl, (fun h => by cases h), ?_, fun i hi => hd i (by omega), fun i s hi his hs => .inl ⟨by rw [← hd i his]; exact hs, fun h => by cases h⟩, ?_⟩⟩
  · intro i q hq hi
    rw [List.getElem?_append_right (by omega), htl] at hq
    have hlt := (List.getElem?_eq_some_iff.1 hq).1
    have h := hser (i - f - j0) (by omega) q (by rw [show j0 + (i - f - j0) = i - f by omega]; exact hq)
    exact h.2
  · intro a s h
    obtain ⟨q, hq, hne, rfl, rfl⟩ := wrsF_mem h
    obtain ⟨j, hj⟩ := List.mem_iff_getElem?.1 hq
    have hjl := (List.getElem?_eq_some_iff.1 hj).1
    obtain ⟨h1, h2⟩ := hall j q hj
    have hge : j0 ≤ j := by
      rcases Nat.lt_or_ge j j0 with hlt | hge
      · exact absurd (by rw [h1, hmin j hlt, hj]) hne
      · exact hge
    refine ⟨f + j, by rw [h1], by omega, by omega, ?_⟩
    refine news_ver (n := n) (f := f) t0 hn hf hnw hall hfl hlay hj hne ?_ hRs
    by_cases hjj : j = j0
    · subst hjj
      rw [if_pos rfl]
      exact hlkD
    · rw [if_neg (by omega)]
      have hq' : news[j - 1]? = some (news[j - 1]'(by omega)) := List.getElem?_eq_getElem (by omega)
      have h3 := (hser (j - 1 - j0) (by omega) (news[j - 1]'(by omega)) (by rw [show j0 + (j - 1 - j0) = j - 1 by omega]; exact hq')).2
      rw [show f + j = f + (j - 1) + 1 by omega, serP_at (q := news[j - 1]'(by omega)) (by rw [List.getElem?_append_right (by omega), htl, show f + (j - 1) - f = j - 1 by omega]; exact hq')]
      exact h3
/-- A further Append. -/
theorem wr_append (hg : gen < 4294967296) (hS : S < 4294967296) (hsecs : secs ≤ 4096) (t : Tidy gen S X qs recs []) (w : Wr gen S first secs V0 qs0 recs0 D recs qs k sy dur pend)
    (p : List Nat) (hp : p.length ≤ 65536) (hps : ∀ b ∈ p, b < 256) (hfit : (rec1 p).length + (layR recs).length ≤ secs * 487) :
    Wr gen S first secs V0 qs0 recs0 D (recs ++ [p]) (qs.take ((layR recs).length / 487) ++ newsA gen S qs (layR recs).length p) k sy dur (pend ++ wrsF first qs (newsA gen S qs (layR recs).length p)) := by
  obtain ⟨n, hn⟩ : ∃ n, n = (layR recs).length := ⟨_, rfl⟩
  obtain ⟨f, hf⟩ : ∃ f, f = n / 487 := ⟨_, rfl⟩
  obtain ⟨news, hnw⟩ : ∃ l, l = newsA gen S qs n p := ⟨_, rfl⟩
  obtain ⟨hfl, hfq, hlay, hall⟩ := tidy_news t p hn hf hnw
  have hr1 := rec1_pos p
  have htl : (qs.take f).length = f := by rw [List.length_take]; omega
  have hdq := w.dq
  have hfew := t.few
  rw [List.append_nil, ← hn] at hfew
  have hDf : D ≤ f := by unfold chunkM at hfew; omega
  rw [← hn, ← hf, ← hnw]
  have hcm : chunkM (n + (rec1 p).length) ≤ secs := by unfold chunkM; omega
  have hnpos : 0 < news.length := by
    have : f < chunkM (n + (rec1 p).length) := by unfold chunkM; omega
    omega
  have hkk := w.kk
  have htake : (recs ++ [p]).take k = recs.take k := List.take_append_of_le_length hkk
  have hmore : layR recs <+: layR (recs ++ [p]) := by rw [layR_append]; exact List.prefix_append _ _
  have hpre : (qs.take f ++ news).take D = qs0.take D := by
    rw [List.take_append_of_le_length (by omega), List.take_take, Nat.min_eq_left hDf]
    exact w.pre
  have hserD : serP (qs.take f ++ news) D = serP qs0 D := by rw [← serP_take (qs := qs.take f ++ news) (Nat.le_refl D), hpre, serP_take (Nat.le_refl _)]
  have hall2 : ∀ (i : Nat) (q : Pg), (qs.take f ++ news)[i]? = some q → D ≤ i → q.ser = S := fun i q hq hi => by
    by_cases hif : i < f
    · rw [List.getElem?_append_left (by omega), List.getElem?_take, if_pos hif] at hq
      exact w.new i q hq hi
    · rw [List.getElem?_append_right (by omega), htl] at hq
      obtain ⟨h1, h2⟩ := hall _ q hq
      rcases mkP_kind (gen := gen) (ser := S) (i := f + (i - f)) (bf := serP (qs.take f ++ news) (f + (i - f))) (qs := qs) (part := partK (layR (recs ++ [p])) (f + (i - f))) with e | e
      · rw [← h2] at e
        exact w.new _ q e (by omega)
      · rw [h2, e]
  have hlk : ∀ j, j < news.length → serP (qs.take f ++ news) (f + j) = if f + j = D then serP qs0 D else S := fun j hj => by
    by_cases h : f + j = D
    · rw [if_pos h, h]; exact hserD
    · rw [if_neg h]
      obtain ⟨i, hi⟩ : ∃ i, f + j = i + 1 := ⟨f + j - 1, by omega⟩
      have hq : (qs.take f ++ news)[i]? = some ((qs.take f ++ news)[i]'(by rw [List.length_append, htl]; omega)) := List.getElem?_eq_getElem _
      rw [hi, serP_at hq]
      exact hall2 i _ hq (by omega)
  have hRs : layR (recs.take k) <+: layR (recs ++ [p]) := by
    have e : recs ++ [p] = recs.take k ++ (recs.drop k ++ [p]) := by rw [← List.append_assoc, List.take_append_drop]
    rw [e, layR_append]
    exact List.prefix_append _ _
  refine ⟨by rw [List.length_append, htl]; omega, w.d0, hpre, w.from_, w.rec0.trans (List.prefix_append _ _), by rw [List.length_append]; omega, w.nsy, fun h => by rw [htake]; exact w.ysy h, hall2, w.old, fun i s hi his hs => ?_, fun a s h => ?_⟩
  · rw [htake]
    rcases w.cand i s hi his hs with h | h
    · exact .inl h
    · exact .inr (h.more hmore)
  · rw [htake]
    rcases List.mem_append.1 h with h | h
    · obtain ⟨i, h1, h2, h3, h4⟩ := w.wr a s h
      exact ⟨i, h1, h2, h3, h4.more hmore⟩
    · obtain ⟨q, hq, hne, rfl, rfl⟩ := wrsF_mem h
      obtain ⟨j, hj⟩ := List.mem_iff_getElem?.1 hq
      have hjl := (List.getElem?_eq_some_iff.1 hj).1
      obtain ⟨h1, h2⟩ := hall j q hj
      exact ⟨f + j, by rw [h1], by omega, by omega, news_ver (n := n) (f := f) t hn hf hnw hall hfl hlay hj hne (hlk j hjl) hRs⟩
/-- A Sync. -/
theorem wr_sync (t : Tidy gen S ((applied pend dur).drop first |>.take secs) qs recs []) (w : Wr gen S first secs V0 qs0 recs0 D recs qs k sy dur pend) : Wr gen S first secs V0 qs0 recs0 D recs qs recs.length true (applied pend dur) [] := by
  have hfew := t.few
  rw [List.append_nil] at hfew
  have htk : recs.take recs.length = recs := List.take_of_length_le (Nat.le_refl _)
  have hdq := w.dq
  refine ⟨w.dq, w.d0, w.pre, w.from_, w.rec0, Nat.le_refl _, (fun h => by cases h), fun _ => by rw [htk, ← hfew]; exact w.dq, w.new, fun i hi => ?_, fun i s hi his hs => ?_, fun a s h => by cases h⟩
  · rcases applied_at pend dur (first + i) with h | ⟨s, h1, h2⟩
    · rw [h]; exact w.old i hi
    · obtain ⟨i', e1, e2, _⟩ := w.wr _ s h1
      omega
  · rw [htk]
    by_cases hin : i < qs.length
    · have hq : qs[i]? = some qs[i] := List.getElem?_eq_getElem hin
      obtain ⟨a0, a1, a2, a3, a4, a5⟩ := t.at_ i _ hq
      rw [getElem?_view his, hs] at a0
      injection a0 with a0
      rw [List.append_nil] at a4
      have hser := w.new i _ hq hi
      have hlk : serP qs i = if i = D then serP qs0 D else S := by
        by_cases hiD : i = D
        · subst hiD
          rw [if_pos rfl, ← serP_take (qs := qs) (Nat.le_refl i), w.pre, serP_take (Nat.le_refl _)]
        · rw [if_neg hiD]
          obtain ⟨i', rfl⟩ : ∃ i', i = i' + 1 := ⟨i - 1, by omega⟩
          have hq' : qs[i']? = some (qs[i']'(by omega)) := List.getElem?_eq_getElem (by omega)
          rw [serP_at hq']
          exact w.new i' _ hq' (by omega)
      refine .inr ⟨partK (layR recs) i, ?_, ?_, List.prefix_refl _, Nat.le_refl _⟩
      · rw [a0]
        congr 1
        rw [hlk] at a4
        obtain ⟨x0, x1, x2, x3, x4⟩ : ∃ x : Pg, x = qs[i] := ⟨_, rfl⟩
        generalize hx : qs[i] = x at a1 a2 a3 a4 hser ⊢
        cases x
        try dsimp only at a1 a2 a3 a4 hser
        subst a1 a2 a3 a4 hser
        rfl
      · intro e
        have h3 := congrArg List.length e
        unfold partK at h3
        rw [List.length_take, List.length_drop, List.length_nil] at h3
        unfold chunkM at hfew
        omega
    · left
      rcases applied_at pend dur (first + i) with h | ⟨s', h1, h2⟩
      · rw [h] at hs
        rcases w.cand i s hi his hs with ⟨h1, _⟩ | hv
        · exact ⟨h1, fun _ => by omega⟩
        · have := hv.inside; omega
      · obtain ⟨i', e1, _, _, hv⟩ := w.wr _ s' h1
        obtain rfl : i' = i := by omega
        have := hv.inside
        omega
end
end Go.Proofs.Ytalpippeelomjaa
namespace Go.Proofs.Ytalpippeelomjaa
open Go.RowKit
set_option linter.unusedSimpArgs false
set_option linter.unusedVariables false
set_option maxRecDepth 100000
/-- A session of a log of `secs` sectors, since it was opened: its records, its pages, how many of them were synced. -/
def Sess (gen S first secs : Nat) (recs : List (List Nat)) (qs : List Pg) (k : Nat) (dur : List (List Nat)) (pend : List (Nat × List Nat)) : Prop :=
  ∃ (V0 : List (List Nat)) (qs0 : List Pg) (recs0 : List (List Nat)) (rest0 : List Nat), Half gen S V0 ∧ V0.length = secs ∧ Chain gen V0 qs0 ∧ Tidy gen S V0 qs0 recs0 rest0 ∧
    ((pend = [] ∧ (dur.drop first).take secs = V0 ∧ qs = qs0 ∧ recs = recs0 ∧ k = recs.length) ∨
      ∃ D sy, Wr gen S first secs V0 qs0 recs0 D recs qs k sy dur pend ∧ Tidy gen S (((applied pend dur).drop first).take secs) qs recs [])
section
variable {gen S first secs k : Nat} {dur : List (List Nat)} {qs : List Pg} {recs : List (List Nat)} {pend : List (Nat × List Nat)}
theorem Sess.tidy (h : Sess gen S first secs recs qs k dur pend) : ∃ rest, Tidy gen S (((applied pend dur).drop first).take secs) qs recs rest := by
  obtain ⟨V0, qs0, recs0, rest0, h1, h2, h3, h4, ⟨rfl, h5, rfl, rfl, _⟩ | ⟨D, sy, _, h5⟩⟩ := h
  · exact ⟨rest0, by rw [show applied [] dur = dur from rfl, h5]; exact h4⟩
  · exact ⟨[], h5⟩
theorem Sess.kk (h : Sess gen S first secs recs qs k dur pend) : k ≤ recs.length := by
  obtain ⟨V0, qs0, recs0, rest0, h1, h2, h3, h4, ⟨rfl, h5, rfl, rfl, e⟩ | ⟨D, sy, w, h5⟩⟩ := h
  · exact Nat.le_of_eq e
  · exact w.kk
theorem sess_append (hg : gen < 4294967296) (hS : S < 4294967296) (hsecs : secs ≤ 4096) (h : Sess gen S first secs recs qs k dur pend) (hD : first + secs ≤ dur.length) (p : List Nat) (hp : p.length ≤ 65536) (hps : ∀ b ∈ p, b < 256) (hfit : (rec1 p).length + (layR recs).length ≤ secs * 487) :
    Sess gen S first secs (recs ++ [p]) (qs.take ((layR recs).length / 487) ++ newsA gen S qs (layR recs).length p) k dur (pend ++ wrsF first qs (newsA gen S qs (layR recs).length p)) := by
  have happ : ∀ W, applied (pend ++ W) dur = applied W (applied pend dur) := fun W => by unfold applied; rw [List.foldl_append]
  obtain ⟨rest, ht⟩ := h.tidy
  have h6 := tidy_append ht (by rw [applied_length]; exact hD) p hp hps hfit
  obtain ⟨V0, qs0, recs0, rest0, h1, h2, h3, h4, ⟨rfl, h5, rfl, rfl, e⟩ | ⟨D, sy, w, h5⟩⟩ := h
  · obtain ⟨D, w⟩ := wr_first (first := first) (dur := dur) hg hS hsecs h1 h2 h3 h4 (fun i hi => by rw [← h5, getElem?_view hi]) p hp hps hfit
    rw [e]
    exact ⟨V0, qs, recs, rest0, h1, h2, h3, h4, .inr ⟨D, false, w, by rw [List.nil_append]; exact h6⟩⟩
  · exact ⟨V0, qs0, recs0, rest0, h1, h2, h3, h4, .inr ⟨D, sy, wr_append hg hS hsecs h5 w p hp hps hfit, by rw [happ]; exact h6⟩⟩
theorem sess_sync (h : Sess gen S first secs recs qs k dur pend) : Sess gen S first secs recs qs recs.length (applied pend dur) [] := by
  obtain ⟨V0, qs0, recs0, rest0, h1, h2, h3, h4, ⟨rfl, h5, rfl, rfl, e⟩ | ⟨D, sy, w, h5⟩⟩ := h
  · exact ⟨V0, qs, recs, rest0, h1, h2, h3, h4, .inl ⟨rfl, h5, rfl, rfl, rfl⟩⟩
  · exact ⟨V0, qs0, recs0, rest0, h1, h2, h3, h4, .inr ⟨D, true, wr_sync h5 w, h5⟩⟩
/-- Whatever survives of a session. -/
theorem sess_crash (hg : gen < 4294967296) (hS : S < 4294967296) (hsecs : secs ≤ 4096) (h : Sess gen S first secs recs qs k dur pend) (hD : first + secs ≤ dur.length) {dur' : List (List Nat)} (hl : dur'.length = dur.length) (hat : ∀ a : Nat, dur'[a]? = dur[a]? ∨ ∃ s, (a, s) ∈ pend ∧ dur'[a]? = some s) :
    Half gen (S + 1) ((dur'.drop first).take secs) ∧ ∀ qsC, Chain gen ((dur'.drop first).take secs) qsC → ∃ j, k ≤ j ∧ j ≤ recs.length ∧ cutL (rowP qsC) = recs.take j := by
  obtain ⟨V0, qs0, recs0, rest0, h1, h2, h3, h4, ⟨rfl, h5, rfl, rfl, e⟩ | ⟨D, sy, w, h5⟩⟩ := h
  · have e2 : dur' = dur := List.ext_getElem? fun a => by
      rcases hat a with h | ⟨s, h, _⟩
      · exact h
      · cases h
    rw [e2, h5]
    refine ⟨h1.up (Nat.le_succ _), fun qsC c => ⟨recs.length, Nat.le_of_eq e, Nat.le_refl _, ?_⟩⟩
    rw [List.take_of_length_le (Nat.le_refl _)]
    obtain ⟨a1, a2⟩ := chain_pre c (rs := qs) (fun i q hq => ⟨(h3.at_ i q hq).1, (h3.at_ i q hq).2.1, (h3.at_ i q hq).2.2, fun h => h3.full i q hq h⟩) qs.length (Nat.le_refl _)
    obtain ⟨b1, b2⟩ := chain_pre h3 (rs := qsC) (fun i q hq => ⟨(c.at_ i q hq).1, (c.at_ i q hq).2.1, (c.at_ i q hq).2.2, fun h => c.full i q hq h⟩) qsC.length (Nat.le_refl _)
    rw [List.take_of_length_le a1, List.take_of_length_le (Nat.le_refl _)] at b2
    rw [← b2]
    exact h4.cut
  · have hCl : ((dur'.drop first).take secs).length = secs := by rw [List.length_take, List.length_drop, hl]; omega
    have hXl : (((applied pend dur).drop first).take secs).length = secs := by rw [List.length_take, List.length_drop, applied_length]; omega
    have hdq := w.dq
    have hrm := h5.room
    rw [hXl] at hrm
    have hc1 : ∀ i, i < D → ((dur'.drop first).take secs)[i]? = V0[i]? := fun i hi => by
      rw [getElem?_view (by omega)]
      rcases hat (first + i) with h | ⟨s, h, _⟩
      · rw [h]; exact w.old i hi
      · obtain ⟨i', e1, e2, _⟩ := w.wr _ s h
        omega
    have hc2 : ∀ (i : Nat) (s : List Nat), D ≤ i → i < secs → ((dur'.drop first).take secs)[i]? = some s → (V0[i]? = some s ∧ (sy = true → chunkM (layR (recs.take k)).length ≤ i)) ∨ Ver gen S D (serP qs0 D) (layR recs) (layR (recs.take k)) i s := fun i s hi his hs => by
      rw [getElem?_view his] at hs
      rcases hat (first + i) with h | ⟨s', h, h'⟩
      · exact w.cand i s hi his (by rw [← h]; exact hs)
      · rw [h'] at hs
        injection hs with hs
        subst hs
        obtain ⟨i', e1, _, _, hv⟩ := w.wr _ _ h
        obtain rfl : i' = i := by omega
        exact .inr hv
    exact ⟨wr_half hg hS hsecs h1 h3 h5.small hCl hc1 hc2, fun qsC c => wr_crash hg hS hsecs h1 h3 h4 h5 hXl w hCl hc1 hc2 c⟩
/-- As it stands now. -/
theorem sess_now (hg : gen < 4294967296) (hS : S < 4294967296) (hsecs : secs ≤ 4096) (h : Sess gen S first secs recs qs k dur pend) (hD : first + secs ≤ dur.length) :
    Half gen (S + 1) (((applied pend dur).drop first).take secs) ∧ ∀ qsC, Chain gen (((applied pend dur).drop first).take secs) qsC → cutL (rowP qsC) = recs := by
  refine ⟨(sess_crash hg hS hsecs h hD (applied_length _ _) (fun a => applied_at pend dur a)).1, fun qsC c => ?_⟩
  obtain ⟨j, hj1, hj2, e⟩ := (sess_crash hg hS hsecs h hD (applied_length _ _) (fun a => applied_at pend dur a)).2 qsC c
  obtain ⟨V0, qs0, recs0, rest0, h1, h2, h3, h4, ⟨rfl, h5, rfl, rfl, e'⟩ | ⟨D, sy, w, h5⟩⟩ := h
  · rw [e, List.take_of_length_le (by omega)]
  · have hXl : (((applied pend dur).drop first).take secs).length = secs := by rw [List.length_take, List.length_drop, applied_length]; omega
    refine wr_now hg hS hsecs h1 h5 hXl w (fun i s hi his hs => ?_) c
    rw [getElem?_view his] at hs
    rcases applied_at pend dur (first + i) with h | ⟨s', h, h'⟩
    · exact w.cand i s hi his (by rw [← h]; exact hs)
    · rw [h'] at hs
      injection hs with hs
      subst hs
      obtain ⟨i', e1, _, _, hv⟩ := w.wr _ _ h
      obtain rfl : i' = i := by omega
      exact .inr hv
/-- A session begins. -/
theorem sess_open {top s0 : Nat} {X : List (List Nat)} (hX : (dur.drop first).take secs = X) (hl : X.length = secs) (h : Half gen top X) {qsC : List Pg} (c : Chain gen X qsC) : Sess gen (topX gen s0 X + 1) first secs (cutL (rowP qsC)) qsC (cutL (rowP qsC)).length dur [] := by
  have h1 := half_top h s0
  obtain ⟨rest, t⟩ := chain_tidy h1 c
  refine ⟨X, qsC, _, rest, h1, hl, c, ⟨t.few, t.room, fun i q hq => ?_, t.fit, t.small, t.none_, t.rsmall⟩, .inl ⟨rfl, hX, rfl, rfl, rfl⟩⟩
  obtain ⟨a, b, c, d, e, f⟩ := t.at_ i q hq
  exact ⟨a, b, c, d, e, by omega⟩
end
end Go.Proofs.Ytalpippeelomjaa
