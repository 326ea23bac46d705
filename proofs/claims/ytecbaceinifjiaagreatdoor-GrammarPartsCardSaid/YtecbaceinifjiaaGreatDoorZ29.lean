/- KAll, GScan, GParse: joined by program (tools/merge.py). -/
import Derived.Test.YtecbaceinifjiaaGreatDoorZ19
import Derived.Test.YtecbaceinifjiaaGreatDoorZ28
import Derived.Deep.QuietTactic
import Derived.BigQuiet
namespace Go.Proofs.YtecbaceinifjiaaGreatDoor
open Go.RowKit
set_option linter.unusedSimpArgs false
set_option linter.unusedVariables false
set_option maxRecDepth 100000 in
set_option maxHeartbeats 1000000 in
theorem all_long (w : World) (s : ByteArray) (hs : 200000 < s.size) :
    Calls Tryz.prog 18 #[.string s] w fun e w' => e = .returned (.tuple #[.slice none 0 0, .int .i64 4]) ∧ w = w' := by
  have hx : decide (200000 < (s.size : Int)) = true := decide_eq_true (by omega)
  go_enter Tryz.func18, Tryz.ntmps18
  go_wp2
  go_ret2
  exact ⟨rfl, rfl⟩
/-- What All answers of a text that is not too long. -/
def AllR (w : World) (ty : TypeId) (r : Option (List Tok)) (e : Ending) (w' : World) : Prop :=
  (∀ ts, r = some ts → ∃ v, e = .returned (.tuple #[v, .int .i64 0]) ∧ TRow w' w.heap.size ty v ts) ∧ (r = none → e = .returned (.tuple #[.slice none 0 0, .int .i64 20])) ∧ Below w.heap.size w w'
set_option maxRecDepth 100000 in
set_option maxHeartbeats 2000000 in
theorem all_any (w : World) (s : ByteArray) (hs : s.size ≤ 200000) (hv : Vr w) :
    Calls Tryz.prog 18 #[.string s] w (AllR w 74 (scan (str s) 0)) := by
  obtain ⟨i0, hi0, hz0, hz1, hz2⟩ := info_tok infoTok
  have HI := Lib.hid hi0
  have H0 := Lib.hid hz0
  have H1 := Lib.hid hz1
  have H2 := Lib.hid hz2
  have HV := hide hv
  have HG := fun (x : World) => hide (gap_any x s (by omega))
  have HGR := fun (x : World) (a : Nat) (ha : a ≤ s.size) => hide (gap_any x (s.extract a s.size) (by rw [← str_length, str_rest, List.length_drop, str_length]; omega))
  have HF := fun (x : World) (a : Nat) (ha : a ≤ s.size) (hx : Vr x) => hide (tk_first_any x (s.extract a s.size) (by rw [← str_length, str_rest, List.length_drop, str_length]; omega) hx)
  have HC := fun (x : World) (t : ByteArray) (ht : t.size ≤ 281474976710656) => hide (tk_clone_any x t ht)
  have hx : decide (200000 < (s.size : Int)) = false := decide_eq_false (by omega)
  clear hi0 hz0 hz1 hz2 hv
  go_enter Tryz.func18, Tryz.ntmps18
  go_wp2_with (go_at_call 27; (with_reducible refine (unhide (HG _)).mono ?_); rintro e w1 ⟨rfl, rfl⟩)
  clear hx
  go_loopw [4, 5] (fun v i wr => AllI w s v i wr) (fun _ i _ => s.size - (intOf i).toNat)
  case atStart => exact ⟨0, [], by omega, by rw [List.drop_zero, Nat.zero_add], TRow.nil _ _ _, by simp, Below.refl _ _, by rw [List.drop_zero]; simp⟩
  case round =>
    obtain ⟨p, acc, hp, rfl, hrow, hacc, hb, hsc⟩ := hrel
    obtain ⟨a, ha⟩ : ∃ a, a = p + gapL ((str s).drop p) := ⟨_, rfl⟩
    have HA := hide ha
    have HB := hide hb
    have HS := hide hsc
    rw [← ha]
    clear hsc ha
    by_cases hlt : a < s.size
    · have HF1 := fun (x : World) (hx : Vr x) => HF x a (by omega) hx
      rw [str_rest] at HF1
      have hle := firstL_le ((str s).drop a)
      rw [List.length_drop, str_length] at hle
      obtain ⟨k, hk⟩ : ∃ k, k = (firstL ((str s).drop a)).1 := ⟨_, rfl⟩
      obtain ⟨n, hn⟩ : ∃ n, n = (firstL ((str s).drop a)).2 := ⟨_, rfl⟩
      rw [← hk, ← hn] at HF1
      rw [← hn] at hle
      have HK := hide hk
      have HN := hide hn
      clear hk hn
      have HR := hide hrow
      by_cases hk0 : k = 0
      · subst hk0
        clear hrow hb
        go_wp2_with (go_at_call 28; (with_reducible refine (unhide (HF1 _ ((unhide HV).below (unhide HB)))).mono ?_); rintro e w2 ⟨rfl, hb2⟩; have HB2 := hide (below_on (unhide HB) hb2); clear hb2)
        go_ret2
        have hbad : scan (str s) 0 = none := by
          have hk := unhide HK
          have ha := unhide HA
          rw [unhide HS, scan_bad]
          · rfl
          · rw [List.length_drop, str_length]
            omega
          · rw [List.drop_drop, ← ha]
            exact hk.symm
        refine ⟨fun ts h => ?_, fun _ => rfl, unhide HB2⟩
        rw [hbad] at h
        cases h
      · have hk1 : ((k : Int) == 0) = false := by rw [beq_eq_false_iff_ne]; omega
        have q1 : 0 ≤ (a : Int) + (n : Int) := by omega
        have q2 : ((a : Int) + (n : Int)).toNat = a + n := by omega
        have q3 : (a : Int) + (n : Int) ≤ (s.size : Int) := by omega
        have q4 : (a : Int) ≤ (a : Int) + (n : Int) := by omega
        clear hrow hb
        go_wp2_with (first
          | (go_at_call 28; (with_reducible refine (unhide (HF1 _ ((unhide HV).below (unhide HB)))).mono ?_); rintro e w2 ⟨rfl, hb2⟩; go_loud (
              have HB2 := hide (below_on (unhide HB) hb2);
              have HR2 := hide ((unhide HR).below hb2);
              have HC1 := HC w2 (s.extract a (a + n)) (by rw [← str_length, str_extract, List.length_take, List.length_drop, str_length]; omega);
              clear hb2))
          | (go_at_call 29; (with_reducible refine (unhide HC1).mono ?_); rintro e w3 ⟨rfl, hb3⟩; go_loud (
              have HB3 := hide (below_on (unhide HB2) hb3);
              have HR3 := hide ((unhide HR2).below hb3);
              clear hb3))
          | (at_builtin; refine wpList_append_own _ rfl _ _ 47 rfl w.heap.size 74 i0 (.agg #[.int .u8 0, .string ⟨#[]⟩, .int .i64 0]) 3 32 Tryz.underlying47 HI.out H0.out H1.out H2.out rfl (by decide) _ _ _ rfl (World.ownsRow.alloc (unhide HR3) _) ⟨_, 0, none⟩ 1 1 [.int .u8 (k : Int), .string (s.extract a (a + n)), .int .i64 (a : Int)] rfl rfl ?c1 ?c2 ?c3 ?c4 ?c5 ?_))
        case c1 => exact cell_three_new _ _ _ _
        case c2 => simp [Value.oneCell']
        case c3 => unfold maxLen; omega
        case c4 => omega
        case c5 => exact (((unhide HB3).alloc (unhide HB3).size _).size)
        intro v' w4 hown1 hg1 _
        have hbel := ((unhide HB3).alloc (unhide HB3).size _).grown hg1 (by have := (unhide HB3).size; simp; omega) (fun g hg => (World.ownsRow.lt (unhide HR3) g hg).1)
        have HO := hide hown1
        have HB4 := hide hbel
        clear hown1 hbel hg1
        have HG2 := fun (x : World) => HGR x (a + n) (by omega)
        rw [str_rest] at HG2
        have hgl := gapL_le ((str s).drop (a + n))
        rw [List.length_drop, str_length] at hgl
        have hn1 : 1 ≤ n := by rw [unhide HN]; exact firstL_pos _ (by rw [← unhide HK]; exact hk0)
        obtain ⟨m, hm⟩ : ∃ m, m = gapL ((str s).drop (a + n)) := ⟨_, rfl⟩
        rw [← hm] at HG2 hgl
        have HM := hide hm
        have hal : p ≤ a := by rw [unhide HA]; omega
        clear hm
        go_wp2_with (go_at_call 27; (with_reducible refine (unhide (HG2 _)).mono ?_); rintro e w5 ⟨rfl, rfl⟩)
        go_roundw
        case rel =>
          refine ⟨a + n, acc ++ [⟨k, ((str s).drop a).take n, a⟩], by omega, ?_, ?_, ?_, unhide HB4, ?_⟩
          · rw [← unhide HM]
            congr 1
          · have h := unhide HO
            unfold TRow
            rw [toksC_append, List.length_append, show toksC [⟨k, ((str s).drop a).take n, a⟩] = [.int .u8 (k : Int), .string (s.extract a (a + n)), .int .i64 (a : Int)] from by simp [toksC, tokC, ba_piece]]
            exact h
          · rw [List.length_append, List.length_singleton]
            omega
          · have h := all_next (l := str s) (p := p) (acc := acc) (by rw [str_length]; exact hp) (unhide HS) (by rw [← unhide HA, str_length]; exact hlt) (by rw [← unhide HA, ← unhide HK]; exact hk0)
            rw [← unhide HA, ← unhide HK, ← unhide HN] at h
            exact h
        case measure => simp [intOf]; omega
    · have hend : scan ((str s).drop p) p = some [] := scan_end (by
        have := unhide HA
        have h2 := gapL_le ((str s).drop p)
        rw [List.length_drop, str_length] at h2 ⊢
        omega)
      have hs2 := unhide HS
      rw [hend] at hs2
      have HS2 := hide hs2
      have HR := hide hrow
      clear hs2 hend hrow hb
      go_wp2
      go_ret2
      refine ⟨fun ts h => ⟨_, rfl, ?_⟩, fun h => ?_, unhide HB⟩
      · rw [unhide HS2] at h
        simp at h
        rw [← h]
        exact unhide HR
      · rw [unhide HS2] at h
        cases h
end Go.Proofs.YtecbaceinifjiaaGreatDoor
namespace Go.Proofs.YtecbaceinifjiaaGreatDoor
open Go.RowKit
set_option linter.unusedSimpArgs false
set_option linter.unusedVariables false
set_option maxRecDepth 100000
theorem firstL_kind (l : List Nat) : (firstL l).1 ≤ 4 := by
  unfold firstL
  repeat' split
  all_goals first | decide | omega
theorem firstL_num (l : List Nat) (h : (firstL l).1 = 2) : (firstL l).2 = runL l ∧ numL (l.take (runL l)) = true := by
  unfold firstL at h ⊢
  by_cases h0 : runL l = 0
  · rw [if_pos h0] at h
    by_cases h1 : signL l = 0
    · rw [if_pos h1] at h; cases h
    · rw [if_neg h1] at h; cases h
  rw [if_neg h0] at h ⊢
  by_cases h1 : l.take (runL l) ∈ wordsL
  · rw [if_pos h1] at h; cases h
  rw [if_neg h1] at h ⊢
  by_cases h2 : nameL (l.take (runL l)) = true
  · rw [if_pos h2] at h; cases h
  rw [if_neg h2] at h ⊢
  by_cases h3 : numL (l.take (runL l)) = true
  · rw [if_pos h3]; exact ⟨rfl, h3⟩
  · rw [if_neg h3] at h; cases h
theorem scanF_good : ∀ (f : Nat) (l : List Nat) (a : Nat) (ts : List Tok), scanF f l a = some ts → (∀ b ∈ l, b < 256) → l.length + a ≤ 200000 → (∀ t ∈ ts, GoodT t) ∧ ts.length ≤ l.length
  | 0, l, a, ts, h, hb, hl => by
    have h : some [] = some ts := h
    injection h with h
    subst h
    exact ⟨(fun t ht => by cases ht), Nat.zero_le _⟩
  | f + 1, l, a, ts, h, hb, hl => by
    unfold scanF at h
    by_cases h0 : l.length ≤ gapL l
    · rw [if_pos h0] at h
      injection h with h
      subst h
      exact ⟨(fun t ht => by cases ht), Nat.zero_le _⟩
    rw [if_neg h0] at h
    by_cases h1 : (firstL (l.drop (gapL l))).1 = 0
    · rw [if_pos h1] at h; cases h
    rw [if_neg h1] at h
    have hp := firstL_pos _ h1
    have hle := firstL_le (l.drop (gapL l))
    rw [List.length_drop] at hle
    have hk := firstL_kind (l.drop (gapL l))
    have hnum := firstL_num (l.drop (gapL l))
    obtain ⟨r, hr⟩ : ∃ r, r = scanF f (l.drop (gapL l + (firstL (l.drop (gapL l))).2)) (a + gapL l + (firstL (l.drop (gapL l))).2) := ⟨_, rfl⟩
    rw [← hr] at h
    cases r with
    | none => cases h
    | some ts' =>
      injection h with h
      have ih := scanF_good f _ _ ts' hr.symm (fun b hb' => hb b (List.mem_of_mem_drop hb')) (by rw [List.length_drop]; omega)
      rw [List.length_drop] at ih
      subst h
      refine ⟨fun t ht => ?_, by rw [List.length_cons]; omega⟩
      rcases List.mem_cons.1 ht with e | ht
      · subst e
        refine ⟨fun b hb' => hb b (List.mem_of_mem_drop (List.mem_of_mem_take hb')), ?_, by show (firstL (l.drop (gapL l))).1 < 256; omega, by show a + gapL l ≤ 200000; omega, fun h2 => ?_⟩
        · show ((l.drop (gapL l)).take _).length ≤ _
          rw [List.length_take, List.length_drop]
          omega
        · obtain ⟨e1, e2⟩ := hnum h2
          show numL ((l.drop (gapL l)).take (firstL (l.drop (gapL l))).2) = true ∧ runL ((l.drop (gapL l)).take (firstL (l.drop (gapL l))).2) = ((l.drop (gapL l)).take (firstL (l.drop (gapL l))).2).length
          rw [e1]
          refine ⟨e2, ?_⟩
          rw [runL_take, List.length_take]
          have := runL_le (l.drop (gapL l))
          omega
      · exact ih.1 t ht
theorem scan_good {l : List Nat} {ts : List Tok} (h : scan l 0 = some ts) (hb : ∀ b ∈ l, b < 256) (hl : l.length ≤ 200000) : (∀ t ∈ ts, GoodT t) ∧ ts.length ≤ l.length := scanF_good _ l 0 ts h hb (by omega)
theorem toksC_atG {ts : List Tok} {j : Nat} {t : Tok} (h : ts[j]? = some t) : (toksC ts)[3 * j]? = some (.int .u8 (t.kind : Int)) ∧ (toksC ts)[3 * j + 1]? = some (.string (ba t.text)) ∧ (toksC ts)[3 * j + 2]? = some (.int .i64 (t.at_ : Int)) := by
  induction ts generalizing j with
  | nil => simp at h
  | cons a ts ih =>
    have e : toksC (a :: ts) = tokC a ++ toksC ts := rfl
    have e3 : (tokC a).length = 3 := rfl
    rcases j with _ | j
    · simp at h
      subst h
      rw [e]
      exact ⟨rfl, rfl, rfl⟩
    · obtain ⟨h1, h2, h3⟩ := ih (j := j) (by simpa using h)
      rw [e]
      refine ⟨?_, ?_, ?_⟩
      · rw [List.getElem?_append_right (by omega), e3, show 3 * (j + 1) - 3 = 3 * j by omega]; exact h1
      · rw [List.getElem?_append_right (by omega), e3, show 3 * (j + 1) + 1 - 3 = 3 * j + 1 by omega]; exact h2
      · rw [List.getElem?_append_right (by omega), e3, show 3 * (j + 1) + 2 - 3 = 3 * j + 2 by omega]; exact h3
/-- A row of tokens, for the parser. -/
theorem TRow.tokIn {w : World} {base : Nat} {v : Value} {ts : List Tok} (h : TRow w base 74 v ts) : TokIn w v ts := by
  obtain ⟨hl, ⟨rfl, h0⟩ | ⟨g, cap, cur, rfl, h1, h2, h3, h4, h5, h6⟩⟩ := id h
  · have e : ts = [] := List.length_eq_zero_iff.1 h0
    subst e
    exact TokIn.nil w
  · refine ⟨_, cap, rfl, h3, h4, fun i t hi => ⟨g, 0, rfl, ⟨_, _, h2⟩, ?_⟩⟩
    have hc : ∀ i u, (toksC ts)[i]? = some u → w.cell? ⟨g, i, none⟩ = some u := fun i u hi => by
      have := h.cells (g := g) rfl i u hi
      rw [Addr.add] at this
      split at this
      · rename_i h0; subst h0; exact this
      · simpa using this
    obtain ⟨q1, q2, q3⟩ := toksC_atG hi
    rw [Nat.zero_add, Nat.mul_comm i 3]
    exact ⟨hc _ _ q1, hc _ _ q2, hc _ _ q3⟩
theorem up_mods (u : Nat) : ∀ (k : Nat) (s : PS), Up s (modsS u k s) 0
  | 0, s => Up.refl s
  | k + 1, s => by
    show Up s (if s.left.length = 0 then s else modsS u k (modS u s)) 0
    split
    · exact Up.refl s
    · exact (up_mod u (by omega)).trans (up_mods u k _)
theorem up_prog (s : PS) : Up s (progS s) 1 := by
  unfold progS
  dsimp only
  exact (up_grow 0 (nd0 1) s).trans (up_mods 1 _ _)
theorem linkL_nodes : ∀ (l : List (Nat × List Nat × List Nat)) (s : PS), (linkL l s).nodes.length = s.nodes.length
  | [], s => rfl
  | c :: r, s => by rw [linkL_cons, linkL_nodes r, (link1_facts c s).2.2]
theorem prog_pos (s : PS) : 0 < (progS s).nodes.length := by
  unfold progS
  dsimp only
  have h1 := (up_mods 1 (growS 0 (nd0 1) s).left.length (growS 0 (nd0 1) s)).nodes
  rw [(grow_facts 0 (nd0 1) s).2.1] at h1
  omega
theorem start_calls (ts : List Tok) : CallsOk (progS (startS ts)) := cl_prog calls_closed (s := startS ts) fun c hc => by cases hc
theorem start_funs (ts : List Tok) : FunsOk (progS (startS ts)) := cl_prog funs_closed (s := startS ts) fun a b => Nat.zero_le _
end Go.Proofs.YtecbaceinifjiaaGreatDoor
namespace Go.Proofs.YtecbaceinifjiaaGreatDoor
open Go.RowKit
set_option linter.unusedSimpArgs false
set_option linter.unusedVariables false
set_option maxRecDepth 100000
attribute [local go_sem] Oper.semAt_some undef
theorem namesInfo : (Tryz.prog.info? 55).map (·.size) = some 7 := by kernel_rfl
theorem names_ret {fn : Func} {p : Tmp} {a : Act} {w : World} {R : Ending → World → Prop} {g : Nat} {cs : Array Value} (hf : fn.results = #[.cell p 55]) (hd : a.defers = []) (h2 : a.tmps.getD p undef = .pointer (some ⟨g, 0, none⟩))
    (hg : w.heap[g]? = some (.cells cs 55 (0, 0))) (hs : cs.size = 7) (hR : R (.returned (.agg cs)) w) : bodyPost Tryz.prog fn R .ret a w := by
  refine bodyPost_ret_by (v := .agg cs) ?_ hd hR
  have hl := run_loadVar_row (P := Tryz.prog) w g 55 55 cs (0, 0) _ hg Tryz.underlying55 rfl (by rw [namesInfo, hs])
  rw [results_one hf, h2]
  simp [asAddr, Result.andThen, hl]
def NamesR (w : World) (e : Ending) (w' : World) : Prop :=
  ∃ a b, e = .returned (.agg #[.map (some a), .map (some b), .map none, .map none, .slice none 0 0, .slice none 0 0, .int .i64 0]) ∧ w.heap.size ≤ a ∧ w.heap.size ≤ b ∧ a ≠ b ∧ MapF 9 w' a 0 (fS fun _ => 0) ∧ MapF 78 w' b 0 (fP fun _ _ => 0) ∧ Below w.heap.size w w'
theorem fP_none : ∀ v, fP (fun _ _ => 0) v = 0 := fun v => by
  rcases pairOf v with ⟨x, y, rfl⟩ | h
  · rfl
  · exact h _
set_option maxHeartbeats 4000000 in
theorem newNames_any (w : World) : Calls Tryz.prog 19 #[] w (NamesR w) := by
  have hmm := @run_makeMap Tryz.prog
  go_enter Tryz.func19, Tryz.ntmps19
  go_wp2_with fail
  obtain ⟨cs, hcs⟩ : ∃ cs : Array Value, cs = #[.map (some (w.heap.size + 1)), .map (some (w.heap.size + 1 + 1)), .map none, .map none, .slice none 0 0, .slice none 0 0, .int .i64 0] := ⟨_, rfl⟩
  obtain ⟨W1, hW1⟩ : ∃ W1, W1 = w.alloc (.cells cs 55) := ⟨_, rfl⟩
  have hz1 : W1.heap.size = w.heap.size + 1 := by rw [hW1]; simp
  have hx1 : W1.heap[w.heap.size]? = some (.cells cs 55 (0, 0)) := by rw [hW1]; exact Go.heap_alloc_new _ _
  have hb1 : Below w.heap.size w W1 := by rw [hW1]; exact (Below.refl _ _).alloc (Nat.le_refl _) _
  rw [← hcs, ← hW1]
  clear hW1
  obtain ⟨W2, hW2⟩ : ∃ W2, W2 = W1.alloc (.map #[] 0) := ⟨_, rfl⟩
  have hz2 : W2.heap.size = w.heap.size + 1 + 1 := by rw [hW2, ← hz1]; simp
  have hm1 := MapF.made 9 W1 (fS fun _ => 0) fS_none
  rw [← hW2, hz1] at hm1
  have hb2 : Below W1.heap.size W1 W2 := by rw [hW2]; exact (Below.refl _ _).alloc (Nat.le_refl _) _
  rw [← hW2]
  clear hW2
  obtain ⟨W3, hW3⟩ : ∃ W3, W3 = W2.alloc (.map #[] 0) := ⟨_, rfl⟩
  have hm2 := MapF.made 78 W2 (fP fun _ _ => 0) fP_none
  rw [← hW3, hz2] at hm2
  have hb3 : Below W2.heap.size W2 W3 := by rw [hW3]; exact (Below.refl _ _).alloc (Nat.le_refl _) _
  rw [← hW3]
  clear hW3
  have hx3 : W3.heap[w.heap.size]? = some (.cells cs 55 (0, 0)) := (hb3.block _ (by omega)).trans ((hb2.block _ (by omega)).trans hx1)
  refine names_ret (p := 0) rfl rfl rfl hx3 (by rw [hcs]; rfl) ?_
  exact ⟨_, _, by rw [hcs], by omega, by omega, by omega, hm1.at_ (hb3.block _ hm1.lt), hm2, (hb1.trans (hb2.mono (by omega))).trans (hb3.mono (by omega))⟩
/-- The parser's memory, where it begins. -/
def startM (gp a b : Nat) (v : Value) : GM := ⟨gp, v, .slice none 0 0, [], a, b, none, none, .slice none 0 0, .slice none 0 0⟩
theorem start_gr {w w2 : World} {a b : Nat} {v : Value} {ts : List Tok} {base : Nat} (hbw : base ≤ w.heap.size) (hb : Below w.heap.size w w2) (ha : w.heap.size ≤ a) (hb' : w.heap.size ≤ b) (hab : a ≠ b) (hma : MapF 9 w2 a 0 (fS fun _ => 0)) (hmb : MapF 78 w2 b 0 (fP fun _ _ => 0))
    (hv : TokIn w v ts) (hg : ∀ t ∈ ts, GoodT t) (hl : ts.length ≤ 200000) (vs : Vs w) (gb : GB base) :
    GR (w2.alloc (.cells #[v, .bool false, .int .i64 0, .slice none 0 0, .map (some a), .map (some b), .map none, .map none, .slice none 0 0, .slice none 0 0, .int .i64 0] 59)) base (startM w2.heap.size a b v) (startS ts) := by
  have hal : Below w2.heap.size w2 (w2.alloc (.cells #[v, .bool false, .int .i64 0, .slice none 0 0, .map (some a), .map (some b), .map none, .map none, .slice none 0 0, .slice none 0 0, .int .i64 0] 59)) := (Below.refl _ _).alloc (Nat.le_refl _) _
  have hbb := hb.trans (hal.mono hb.size)
  refine ⟨Go.heap_alloc_new _ _, hv.at_ fun j cs z hj => hbb.block _ (lt_of_heap2 hj), NodeRow.nil _ _, hma.at_ (hal.block _ hma.lt), hmb.at_ (hal.block _ hmb.lt), .inl ⟨rfl, fS_none⟩, .inl ⟨rfl, fS_none⟩, World.ownsRow_nil _ _ _ _, World.ownsRow_nil _ _ _ _,
    Nat.le_trans hbw hb.size, Nat.le_trans hbw ha, Nat.le_trans hbw hb', (fun g e => by cases e), (fun g e => by cases e), hab, (fun g e => by cases e), (fun g e => by cases e), Nat.le_trans hbw hbb.size, hg, (fun n hn => by cases hn), (fun c hc => by cases hc), (by show ts.length * 16 + 0 + 0 ≤ 10000000; omega), Nat.le_refl _, Nat.le_refl _, Nat.zero_le _, (by show 0 < 100; omega), vs.on (hbb.mono hbw) gb, gb, (fun _ => by show 0 < 18446744073709551616; omega)⟩
/-- What Parse tells. -/
def ParseR (w : World) (r : Nat × List (Nat × Nd)) (e : Ending) (w' : World) : Prop :=
  (r.1 = 0 → ∃ b0 ga gm gp F vs N, w.heap.size ≤ b0 ∧ e = .returned (.tuple #[.pointer (some ⟨ga, 0, none⟩), .int .i64 0]) ∧ AR w' b0 ga gm gp F vs r.2 N ∧ N ≤ 400000000) ∧ (r.1 ≠ 0 → e = .returned (.tuple #[.pointer none, .int .i64 (r.1 : Int)])) ∧ Below w.heap.size w w'
theorem ParseR.bad {w w' : World} {k : Nat} (hk : k ≠ 0) (hb : Below w.heap.size w w') : ParseR w (k, []) (.returned (.tuple #[.pointer none, .int .i64 (k : Int)])) w' := ⟨fun h => absurd h hk, fun _ => rfl, hb⟩
set_option maxHeartbeats 8000000 in
theorem gparse_scan (w : World) (s : ByteArray) (hs : s.size ≤ 200000) (hv : Vs w) (h0 : scan (str s) 0 = none) :
    Calls Tryz.prog 7 #[.string s] w (ParseR w (20, [])) := by
  have HA := Lib.hid (all_any w s hs hv.vr)
  have H0 := Lib.hid h0
  clear hs hv h0
  go_enter Tryz.func7, Tryz.ntmps7
  go_wp2_with (go_at_call 18; (with_reducible refine (HA.out).mono ?_); rintro e w1 ⟨_, h2, hb1⟩; go_loud (
    obtain rfl := h2 H0.out;
    have HB1 := Lib.hid hb1;
    clear h2 hb1))
  go_ret2
  exact ParseR.bad (k := 20) (by decide) HB1.out
set_option maxHeartbeats 16000000 in
theorem gparse_wrong (w : World) (s : ByteArray) (ts : List Tok) (hs : s.size ≤ 200000) (hv : Vs w) (hgb : GB w.heap.size) (h0 : scan (str s) 0 = some ts) (hw : (progS (startS ts)).wrong = true) :
    Calls Tryz.prog 7 #[.string s] w (ParseR w (20, [])) := by
  have HA := Lib.hid (all_any w s hs hv.vr)
  have hsg := scan_good h0 (str_small s) (by rw [str_length]; exact hs)
  have hln : ts.length ≤ 200000 := by have := hsg.2; rw [str_length] at this; omega
  obtain ⟨P, hP⟩ : ∃ P, P = progS (startS ts) := ⟨_, rfl⟩
  have hpp := prog_pos (startS ts)
  have hsc := start_calls ts
  have hsf := start_funs ts
  rw [← hP] at hpp hsc hsf
  rw [← hP] at hw
  obtain ⟨n, hn0⟩ : ∃ n, n = P.nodes.length := ⟨_, rfl⟩
  have H0 := Lib.hid h0
  have HV := Lib.hid hv
  have HGB := Lib.hid hgb
  have HGT := Lib.hid hsg
  have HLN := Lib.hid hln
  have HP := Lib.hid hP
  have HPP := Lib.hid hpp
  have HSC := Lib.hid hsc
  have HSF := Lib.hid hsf
  have HWR := Lib.hid hw
  have HPN := Lib.hid hn0
  clear hs hv hgb h0 hsg hln hP hpp hsc hsf hw hn0
  go_enter Tryz.func7, Tryz.ntmps7
  go_wp2_with (first
    | (go_at_call 18; (with_reducible refine (HA.out).mono ?_); rintro e w1 ⟨h1, _, hb1⟩; go_loud (
        obtain ⟨v, rfl, hrow⟩ := h1 ts H0.out;
        have HB1 := Lib.hid hb1;
        have HTI := Lib.hid hrow.tokIn;
        obtain ⟨A0, k0, hv0⟩ := slForm (show World.ownsRow _ _ _ _ _ _ _ from hrow);
        subst hv0;
        have HNN := Lib.hid (newNames_any w1);
        clear h1 hb1 hrow))
    | (go_at_call 19; (with_reducible refine (HNN.out).mono ?_); rintro e w2 ⟨a, b, rfl, ha, hb, hab, hma, hmb, hbel⟩; go_loud (
        have hgr := start_gr (base := w.heap.size) HB1.out.size hbel ha hb hab hma hmb HTI.out HGT.out.1 HLN.out (HV.out.on HB1.out HGB.out) HGB.out;
        have hpr := prog_any _ w.heap.size (startM w2.heap.size a b (.slice A0 ts.length k0)) (startS ts) hgr rfl (by show ts.length * 16 + 0 + 0 + 11 ≤ 10000000; have := HLN.out; omega);
        have hbs : Below w.heap.size w (w2.alloc (.cells #[.slice A0 ts.length k0, .bool false, .int .i64 0, .slice none 0 0, .map (some a), .map (some b), .map none, .map none, .slice none 0 0, .slice none 0 0, .int .i64 0] 59)) := (HB1.out.trans (hbel.mono HB1.out.size)).trans ((((Below.refl _ _).alloc (Nat.le_refl _) _ : Below w2.heap.size w2 _)).mono (Nat.le_trans HB1.out.size hbel.size));
        have HOW := Lib.hid (fun j (hj : OwnG (startM w2.heap.size a b (.slice A0 ts.length k0)) j) => (hgr.own hj).1);
        rw [show (startM w2.heap.size a b (.slice A0 ts.length k0)).gp = w2.heap.size from rfl, ← HP.out] at hpr;
        have HPR := Lib.hid hpr;
        have HBS := Lib.hid hbs;
        clear ha hb hab hma hmb hbel hgr hpr hbs))
    | (go_at_call 20; (with_reducible refine (HPR.out).mono ?_); rintro e w3 ⟨rfl, M3, hg3, hgp3, hT3, hO3, hl3⟩; go_loud (
        have hbt : Below w.heap.size w w3 := HBS.out.trans (hT3.below HBS.out.size fun j hj => HOW.out j hj);
        have hgp3' : M3.gp = w2.heap.size := hgp3;
        obtain ⟨⟨_, d1, _, d3, _⟩, _⟩ := hg3.cells;
        rw [hgp3'] at d1 d3;
        rw [HWR.out] at d1;
        obtain ⟨A3, c3, hnv3⟩ := slForm hg3.nodes.own;
        rw [hnv3, ← HPN.out] at d3;
        have HG3 := Lib.hid hg3;
        have HGP3 := Lib.hid hgp3';
        have HBT := Lib.hid hbt;
        clear hg3 hgp3 hgp3' hT3 hO3 hl3 hbt hnv3)))
  go_ret2
  exact ParseR.bad (k := 20) (by decide) HBT.out
set_option maxHeartbeats 16000000 in
theorem gparse_full (w : World) (s : ByteArray) (ts : List Tok) (hs : s.size ≤ 200000) (hv : Vs w) (hgb : GB w.heap.size) (h0 : scan (str s) 0 = some ts) (hw : (progS (startS ts)).wrong = false) (hn : 20000 < (progS (startS ts)).nodes.length) :
    Calls Tryz.prog 7 #[.string s] w (ParseR w (5, [])) := by
  have HA := Lib.hid (all_any w s hs hv.vr)
  have hsg := scan_good h0 (str_small s) (by rw [str_length]; exact hs)
  have hln : ts.length ≤ 200000 := by have := hsg.2; rw [str_length] at this; omega
  obtain ⟨P, hP⟩ : ∃ P, P = progS (startS ts) := ⟨_, rfl⟩
  have hpp := prog_pos (startS ts)
  have hsc := start_calls ts
  have hsf := start_funs ts
  rw [← hP] at hpp hsc hsf
  rw [← hP] at hw hn
  obtain ⟨n, hn0⟩ : ∃ n, n = P.nodes.length := ⟨_, rfl⟩
  have H0 := Lib.hid h0
  have HV := Lib.hid hv
  have HGB := Lib.hid hgb
  have HGT := Lib.hid hsg
  have HLN := Lib.hid hln
  have HP := Lib.hid hP
  have HPP := Lib.hid hpp
  have HSC := Lib.hid hsc
  have HSF := Lib.hid hsf
  have HWR := Lib.hid hw
  have HPN := Lib.hid hn0
  have hnI : decide ((20000 : Int) < (n : Int)) = true := decide_eq_true (by rw [hn0]; omega)
  have hnJ : (20000 : Int) < (n : Int) := by rw [hn0]; omega
  clear hn
  clear hs hv hgb h0 hsg hln hP hpp hsc hsf hw hn0
  go_enter Tryz.func7, Tryz.ntmps7
  go_wp2_with (first
    | (go_at_call 18; (with_reducible refine (HA.out).mono ?_); rintro e w1 ⟨h1, _, hb1⟩; go_loud (
        obtain ⟨v, rfl, hrow⟩ := h1 ts H0.out;
        have HB1 := Lib.hid hb1;
        have HTI := Lib.hid hrow.tokIn;
        obtain ⟨A0, k0, hv0⟩ := slForm (show World.ownsRow _ _ _ _ _ _ _ from hrow);
        subst hv0;
        have HNN := Lib.hid (newNames_any w1);
        clear h1 hb1 hrow))
    | (go_at_call 19; (with_reducible refine (HNN.out).mono ?_); rintro e w2 ⟨a, b, rfl, ha, hb, hab, hma, hmb, hbel⟩; go_loud (
        have hgr := start_gr (base := w.heap.size) HB1.out.size hbel ha hb hab hma hmb HTI.out HGT.out.1 HLN.out (HV.out.on HB1.out HGB.out) HGB.out;
        have hpr := prog_any _ w.heap.size (startM w2.heap.size a b (.slice A0 ts.length k0)) (startS ts) hgr rfl (by show ts.length * 16 + 0 + 0 + 11 ≤ 10000000; have := HLN.out; omega);
        have hbs : Below w.heap.size w (w2.alloc (.cells #[.slice A0 ts.length k0, .bool false, .int .i64 0, .slice none 0 0, .map (some a), .map (some b), .map none, .map none, .slice none 0 0, .slice none 0 0, .int .i64 0] 59)) := (HB1.out.trans (hbel.mono HB1.out.size)).trans ((((Below.refl _ _).alloc (Nat.le_refl _) _ : Below w2.heap.size w2 _)).mono (Nat.le_trans HB1.out.size hbel.size));
        have HOW := Lib.hid (fun j (hj : OwnG (startM w2.heap.size a b (.slice A0 ts.length k0)) j) => (hgr.own hj).1);
        rw [show (startM w2.heap.size a b (.slice A0 ts.length k0)).gp = w2.heap.size from rfl, ← HP.out] at hpr;
        have HPR := Lib.hid hpr;
        have HBS := Lib.hid hbs;
        clear ha hb hab hma hmb hbel hgr hpr hbs))
    | (go_at_call 20; (with_reducible refine (HPR.out).mono ?_); rintro e w3 ⟨rfl, M3, hg3, hgp3, hT3, hO3, hl3⟩; go_loud (
        have hbt : Below w.heap.size w w3 := HBS.out.trans (hT3.below HBS.out.size fun j hj => HOW.out j hj);
        have hgp3' : M3.gp = w2.heap.size := hgp3;
        obtain ⟨⟨_, d1, _, d3, _⟩, _⟩ := hg3.cells;
        rw [hgp3'] at d1 d3;
        rw [HWR.out] at d1;
        obtain ⟨A3, c3, hnv3⟩ := slForm hg3.nodes.own;
        rw [hnv3, ← HPN.out] at d3;
        have HG3 := Lib.hid hg3;
        have HGP3 := Lib.hid hgp3';
        have HBT := Lib.hid hbt;
        clear hg3 hgp3 hgp3' hT3 hO3 hl3 hbt hnv3)))
  go_ret2
  exact ParseR.bad (k := 5) (by decide) HBT.out
set_option maxHeartbeats 16000000 in
theorem gparse_fault (w : World) (s : ByteArray) (ts : List Tok) (hs : s.size ≤ 200000) (hv : Vs w) (hgb : GB w.heap.size) (h0 : scan (str s) 0 = some ts) (hw : (progS (startS ts)).wrong = false) (hn : (progS (startS ts)).nodes.length ≤ 20000) (hf : (linkL (progS (startS ts)).calls (progS (startS ts))).fault ≠ 0) :
    Calls Tryz.prog 7 #[.string s] w (ParseR w ((linkL (progS (startS ts)).calls (progS (startS ts))).fault, [])) := by
  have HA := Lib.hid (all_any w s hs hv.vr)
  have hsg := scan_good h0 (str_small s) (by rw [str_length]; exact hs)
  have hln : ts.length ≤ 200000 := by have := hsg.2; rw [str_length] at this; omega
  obtain ⟨P, hP⟩ : ∃ P, P = progS (startS ts) := ⟨_, rfl⟩
  have hpp := prog_pos (startS ts)
  have hsc := start_calls ts
  have hsf := start_funs ts
  rw [← hP] at hpp hsc hsf
  rw [← hP] at hw hn hf
  rw [← hP]
  obtain ⟨n, hn0⟩ : ∃ n, n = P.nodes.length := ⟨_, rfl⟩
  have H0 := Lib.hid h0
  have HV := Lib.hid hv
  have HGB := Lib.hid hgb
  have HGT := Lib.hid hsg
  have HLN := Lib.hid hln
  have HP := Lib.hid hP
  have HPP := Lib.hid hpp
  have HSC := Lib.hid hsc
  have HSF := Lib.hid hsf
  have HWR := Lib.hid hw
  have HPN := Lib.hid hn0
  have hnI : decide ((20000 : Int) < (n : Int)) = false := decide_eq_false (by rw [hn0]; omega)
  have hnJ : ¬ (20000 : Int) < (n : Int) := by rw [hn0]; omega
  have hnK : (n : Int) ≤ 20000 := by rw [hn0]; omega
  have HNL := Lib.hid hn
  obtain ⟨Q, hQ⟩ : ∃ Q, Q = linkL P.calls P := ⟨_, rfl⟩
  have hQn : Q.nodes.length = P.nodes.length := by rw [hQ]; exact linkL_nodes _ _
  rw [← hQ] at hf ⊢
  obtain ⟨ft, hft⟩ : ∃ ft, ft = Q.fault := ⟨_, rfl⟩
  rw [← hft] at hf ⊢
  have HQ := Lib.hid hQ
  have HQN := Lib.hid hQn
  have HFT := Lib.hid hft
  have HF0 := Lib.hid hf
  have hfI : ¬ (ft : Int) = 0 := by omega
  have hfb : ((ft : Int) != 0) = true := by simpa using hfI
  clear hn hQ hQn hft hf
  clear hs hv hgb h0 hsg hln hP hpp hsc hsf hw hn0
  go_enter Tryz.func7, Tryz.ntmps7
  go_upto_region 12 with (first
    | (go_at_call 18; (with_reducible refine (HA.out).mono ?_); rintro e w1 ⟨h1, _, hb1⟩; go_loud (
        obtain ⟨v, rfl, hrow⟩ := h1 ts H0.out;
        have HB1 := Lib.hid hb1;
        have HTI := Lib.hid hrow.tokIn;
        obtain ⟨A0, k0, hv0⟩ := slForm (show World.ownsRow _ _ _ _ _ _ _ from hrow);
        subst hv0;
        have HNN := Lib.hid (newNames_any w1);
        clear h1 hb1 hrow))
    | (go_at_call 19; (with_reducible refine (HNN.out).mono ?_); rintro e w2 ⟨a, b, rfl, ha, hb, hab, hma, hmb, hbel⟩; go_loud (
        have hgr := start_gr (base := w.heap.size) HB1.out.size hbel ha hb hab hma hmb HTI.out HGT.out.1 HLN.out (HV.out.on HB1.out HGB.out) HGB.out;
        have hpr := prog_any _ w.heap.size (startM w2.heap.size a b (.slice A0 ts.length k0)) (startS ts) hgr rfl (by show ts.length * 16 + 0 + 0 + 11 ≤ 10000000; have := HLN.out; omega);
        have hbs : Below w.heap.size w (w2.alloc (.cells #[.slice A0 ts.length k0, .bool false, .int .i64 0, .slice none 0 0, .map (some a), .map (some b), .map none, .map none, .slice none 0 0, .slice none 0 0, .int .i64 0] 59)) := (HB1.out.trans (hbel.mono HB1.out.size)).trans ((((Below.refl _ _).alloc (Nat.le_refl _) _ : Below w2.heap.size w2 _)).mono (Nat.le_trans HB1.out.size hbel.size));
        have HOW := Lib.hid (fun j (hj : OwnG (startM w2.heap.size a b (.slice A0 ts.length k0)) j) => (hgr.own hj).1);
        rw [show (startM w2.heap.size a b (.slice A0 ts.length k0)).gp = w2.heap.size from rfl, ← HP.out] at hpr;
        have HPR := Lib.hid hpr;
        have HBS := Lib.hid hbs;
        clear ha hb hab hma hmb hbel hgr hpr hbs))
    | (go_at_call 20; (with_reducible refine (HPR.out).mono ?_); rintro e w3 ⟨rfl, M3, hg3, hgp3, hT3, hO3, hl3⟩; go_loud (
        have hbt : Below w.heap.size w w3 := HBS.out.trans (hT3.below HBS.out.size fun j hj => HOW.out j hj);
        have hgp3' : M3.gp = w2.heap.size := hgp3;
        obtain ⟨⟨_, d1, _, d3, _⟩, _⟩ := hg3.cells;
        rw [hgp3'] at d1 d3;
        rw [HWR.out] at d1;
        obtain ⟨A3, c3, hnv3⟩ := slForm hg3.nodes.own;
        rw [hnv3, ← HPN.out] at d3;
        have hlk := link_any w3 w.heap.size M3 P hg3 HSC.out HSF.out;
        rw [hgp3'] at hlk;
        have HLK := Lib.hid hlk;
        clear hlk;
        have HG3 := Lib.hid hg3;
        have HGP3 := Lib.hid hgp3';
        have HBT := Lib.hid hbt;
        clear hg3 hgp3 hgp3' hT3 hO3 hl3 hbt hnv3))
    | (go_at_call 21; (with_reducible refine (HLK.out).mono ?_); rintro e w4 ⟨rfl, hg4, hT4⟩; go_loud (
        have hbt4 : Below w.heap.size w w4 := HBT.out.trans (hT4.below HBT.out.size fun j hj => (HG3.out.own hj).1);
        rw [← HQ.out] at hg4;
        obtain ⟨⟨_, _, _, e3, _, _, _, _, _, _, d10⟩, _⟩ := hg4.cells;
        rw [HGP3.out] at d10 e3;
        rw [← HFT.out] at d10;
        have HG4 := Lib.hid hg4;
        have HBT4 := Lib.hid hbt4;
        clear hg4 hT4 hbt4)))
  go_quiet (fail)
  go_wp2_with fail
  go_ret2
  exact ParseR.bad (k := ft) HF0.out (below_drewN HBT4.out _)
set_option maxHeartbeats 16000000 in
theorem gparse_good (w : World) (s : ByteArray) (ts : List Tok) (hs : s.size ≤ 200000) (hv : Vs w) (hgb : GB w.heap.size) (h0 : scan (str s) 0 = some ts) (hw : (progS (startS ts)).wrong = false) (hn : (progS (startS ts)).nodes.length ≤ 20000) (hf : (linkL (progS (startS ts)).calls (progS (startS ts))).fault = 0) :
    Calls Tryz.prog 7 #[.string s] w (ParseR w (0, idsFrom 1 (linkL (progS (startS ts)).calls (progS (startS ts))).nodes)) := by
  have HA := Lib.hid (all_any w s hs hv.vr)
  have hsg := scan_good h0 (str_small s) (by rw [str_length]; exact hs)
  have hln : ts.length ≤ 200000 := by have := hsg.2; rw [str_length] at this; omega
  obtain ⟨P, hP⟩ : ∃ P, P = progS (startS ts) := ⟨_, rfl⟩
  have hpp := prog_pos (startS ts)
  have hsc := start_calls ts
  have hsf := start_funs ts
  rw [← hP] at hpp hsc hsf
  rw [← hP] at hw hn hf
  rw [← hP]
  obtain ⟨n, hn0⟩ : ∃ n, n = P.nodes.length := ⟨_, rfl⟩
  have H0 := Lib.hid h0
  have HV := Lib.hid hv
  have HGB := Lib.hid hgb
  have HGT := Lib.hid hsg
  have HLN := Lib.hid hln
  have HP := Lib.hid hP
  have HPP := Lib.hid hpp
  have HSC := Lib.hid hsc
  have HSF := Lib.hid hsf
  have HWR := Lib.hid hw
  have HPN := Lib.hid hn0
  have hnI : decide ((20000 : Int) < (n : Int)) = false := decide_eq_false (by rw [hn0]; omega)
  have hnJ : ¬ (20000 : Int) < (n : Int) := by rw [hn0]; omega
  have hnK : (n : Int) ≤ 20000 := by rw [hn0]; omega
  have HNL := Lib.hid hn
  obtain ⟨Q, hQ⟩ : ∃ Q, Q = linkL P.calls P := ⟨_, rfl⟩
  have hQn : Q.nodes.length = P.nodes.length := by rw [hQ]; exact linkL_nodes _ _
  rw [← hQ] at hf ⊢
  obtain ⟨ft, hft⟩ : ∃ ft, ft = Q.fault := ⟨_, rfl⟩
  rw [← hft] at hf
  have HQ := Lib.hid hQ
  have HQN := Lib.hid hQn
  have HFT := Lib.hid hft
  subst hf
  clear hn hQ hQn hft
  clear hs hv hgb h0 hsg hln hP hpp hsc hsf hw hn0
  go_enter Tryz.func7, Tryz.ntmps7
  go_wp2_with (first
    | (go_at_call 18; (with_reducible refine (HA.out).mono ?_); rintro e w1 ⟨h1, _, hb1⟩; go_loud (
        obtain ⟨v, rfl, hrow⟩ := h1 ts H0.out;
        have HB1 := Lib.hid hb1;
        have HTI := Lib.hid hrow.tokIn;
        obtain ⟨A0, k0, hv0⟩ := slForm (show World.ownsRow _ _ _ _ _ _ _ from hrow);
        subst hv0;
        have HNN := Lib.hid (newNames_any w1);
        clear h1 hb1 hrow))
    | (go_at_call 19; (with_reducible refine (HNN.out).mono ?_); rintro e w2 ⟨a, b, rfl, ha, hb, hab, hma, hmb, hbel⟩; go_loud (
        have hgr := start_gr (base := w.heap.size) HB1.out.size hbel ha hb hab hma hmb HTI.out HGT.out.1 HLN.out (HV.out.on HB1.out HGB.out) HGB.out;
        have hpr := prog_any _ w.heap.size (startM w2.heap.size a b (.slice A0 ts.length k0)) (startS ts) hgr rfl (by show ts.length * 16 + 0 + 0 + 11 ≤ 10000000; have := HLN.out; omega);
        have hbs : Below w.heap.size w (w2.alloc (.cells #[.slice A0 ts.length k0, .bool false, .int .i64 0, .slice none 0 0, .map (some a), .map (some b), .map none, .map none, .slice none 0 0, .slice none 0 0, .int .i64 0] 59)) := (HB1.out.trans (hbel.mono HB1.out.size)).trans ((((Below.refl _ _).alloc (Nat.le_refl _) _ : Below w2.heap.size w2 _)).mono (Nat.le_trans HB1.out.size hbel.size));
        have HOW := Lib.hid (fun j (hj : OwnG (startM w2.heap.size a b (.slice A0 ts.length k0)) j) => (hgr.own hj).1);
        rw [show (startM w2.heap.size a b (.slice A0 ts.length k0)).gp = w2.heap.size from rfl, ← HP.out] at hpr;
        have HPR := Lib.hid hpr;
        have HBS := Lib.hid hbs;
        clear ha hb hab hma hmb hbel hgr hpr hbs))
    | (go_at_call 20; (with_reducible refine (HPR.out).mono ?_); rintro e w3 ⟨rfl, M3, hg3, hgp3, hT3, hO3, hl3⟩; go_loud (
        have hbt : Below w.heap.size w w3 := HBS.out.trans (hT3.below HBS.out.size fun j hj => HOW.out j hj);
        have hgp3' : M3.gp = w2.heap.size := hgp3;
        obtain ⟨⟨_, d1, _, d3, _⟩, _⟩ := hg3.cells;
        rw [hgp3'] at d1 d3;
        rw [HWR.out] at d1;
        obtain ⟨A3, c3, hnv3⟩ := slForm hg3.nodes.own;
        rw [hnv3, ← HPN.out] at d3;
        have hlk := link_any w3 w.heap.size M3 P hg3 HSC.out HSF.out;
        rw [hgp3'] at hlk;
        have HLK := Lib.hid hlk;
        clear hlk;
        have HG3 := Lib.hid hg3;
        have HGP3 := Lib.hid hgp3';
        have HBT := Lib.hid hbt;
        clear hg3 hgp3 hgp3' hT3 hO3 hl3 hbt hnv3))
    | (go_at_call 21; (with_reducible refine (HLK.out).mono ?_); rintro e w4 ⟨rfl, hg4, hT4⟩; go_loud (
        have hbt4 : Below w.heap.size w w4 := HBT.out.trans (hT4.below HBT.out.size fun j hj => (HG3.out.own hj).1);
        rw [← HQ.out] at hg4;
        obtain ⟨⟨_, _, _, e3, _, _, _, _, _, _, d10⟩, _⟩ := hg4.cells;
        rw [HGP3.out] at d10 e3;
        rw [← HFT.out] at d10;
        have HG4 := Lib.hid hg4;
        have HBT4 := Lib.hid hbt4;
        have hpl := planted_any w4 w.heap.size M3 Q hg4 (by rw [HQN.out]; exact HPP.out) (by rw [HQN.out]; exact HNL.out);
        have HPL := Lib.hid hpl;
        clear hpl;
        clear hg4 hT4 hbt4))
    | (go_at_call 22; (with_reducible refine (HPL.out).mono ?_); rintro e w5 ⟨ga, gm, gp, F, vs, N, rfl, hA, hN, hb5⟩; go_loud (
        have HA5 := Lib.hid hA;
        have HN5 := Lib.hid hN;
        have HB5 := Lib.hid hb5;
        clear hA hN hb5)))
  go_ret2
  exact ⟨fun _ => ⟨w4.heap.size, ga, gm, gp, F, vs, N, HBT4.out.size, rfl, HA5.out, HN5.out⟩, fun h => absurd rfl h, HBT4.out.trans (HB5.out.mono HBT4.out.size)⟩
/-- WHAT PARSE TELLS OF ANY TEXT. -/
theorem gparse_any (w : World) (s : ByteArray) (hs : s.size ≤ 200000) (hv : Vs w) (hgb : GB w.heap.size) : Calls Tryz.prog 7 #[.string s] w (ParseR w (parseG (str s))) := by
  have hl : ¬ 200000 < (str s).length := by rw [str_length]; omega
  unfold parseG
  rw [if_neg hl]
  cases h0 : scan (str s) 0 with
  | none => exact gparse_scan w s hs hv h0
  | some ts =>
    dsimp only
    cases hw : (progS (startS ts)).wrong with
    | true => rw [if_pos rfl]; exact gparse_wrong w s ts hs hv hgb h0 hw
    | false =>
      rw [if_neg (by decide)]
      by_cases hn : 20000 < (progS (startS ts)).nodes.length
      · rw [if_pos hn]; exact gparse_full w s ts hs hv hgb h0 hw hn
      · rw [if_neg hn]
        by_cases hf : (linkL (progS (startS ts)).calls (progS (startS ts))).fault = 0
        · rw [if_neg (fun h => h hf)]; exact gparse_good w s ts hs hv hgb h0 hw (by omega) hf
        · rw [if_pos hf]; exact gparse_fault w s ts hs hv hgb h0 hw (by omega) hf
end Go.Proofs.YtecbaceinifjiaaGreatDoor
