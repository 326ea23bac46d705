/- AFew, ARef: joined by program (tools/merge.py). -/
import Derived.Laws.AppendOwnNone
import Derived.Test.YtdphpjlhkamadaaZ21
namespace Go.Proofs.Ytdphpjlhkamadaa
open Go.RowKit Go.Shelf
set_option linter.unusedSimpArgs false
set_option linter.unusedVariables false
set_option maxRecDepth 100000
attribute [local go_sem] Oper.semAt_some undef
def cutS (s : ByteArray) (m : Nat) : ByteArray := if s.size ≤ m then s else s.extract 0 m
theorem cutS_small (s : ByteArray) (m : Nat) : (cutS s m).size ≤ s.size := by
  unfold cutS
  split
  · exact Nat.le_refl _
  · rw [ByteArray.size_extract]; omega
theorem text_any (w : World) (s : ByteArray) (m : Nat) (hs : s.size ≤ 9223372036854775807) (hm : m ≤ 1000000) : Calls Try.prog 60 #[.string s, .int .i64 (m : Int)] w (fun e w' => e = .returned (.string (cutS s m)) ∧ w' = w) := by
  by_cases h : s.size ≤ m
  · have hI : (s.size : Int) ≤ (m : Int) := by omega
    have hc : cutS s m = s := by unfold cutS; rw [if_pos h]
    rw [hc]
    go_enter Try.func60, Try.ntmps60
    go_wp2_with fail
    go_ret
    exact ⟨rfl, rfl⟩
  · have hI : ¬ (s.size : Int) ≤ (m : Int) := by omega
    have hc : cutS s m = s.extract 0 m := by unfold cutS; rw [if_neg h]
    rw [hc]
    go_enter Try.func60, Try.ntmps60
    go_wp2_with fail
    go_ret
    exact ⟨rfl, rfl⟩
def fewNd (n : Nd) : Nd := ⟨n.kind, cutS n.name 64, n.num, n.typ, n.ref, n.kids.take 12⟩
theorem fewNd_ok {n : Nd} (h : NdOk n) : NdOk (fewNd n) := ⟨h.kind, Nat.le_trans (cutS_small _ _) h.name, h.num, h.typ, h.ref⟩
def FewR (w : World) (n : Nd) (e : Ending) (w' : World) : Prop :=
  ∃ A c, e = .returned (ndV (fewNd n) (.slice A (fewNd n).kids.length c)) ∧ IdSl w' w'.heap.size (.slice A (fewNd n).kids.length c) (fewNd n).kids ∧ (∀ ad, A = some ad → w.heap.size ≤ ad.block) ∧ Below w.heap.size w w'
theorem wpList_append_nothing {P : Program} {w : World} {ops : Array Oper} {rest : List Oper} {o : Oper} {a : Act} {Q : Exit → Act → World → Prop} (hgd : o.guard = none) (s x : Operand) (t : TypeId)
    (ho : o.op = .call { callee := .builtin .append, args := #[s, x], argTypes := #[t, t] }) (e : TypeId) (i : TypeInfo) (ht : P.underlying t = some (.slice e)) (hi : P.info? e = some i)
    (B : Option Addr) (n cap c : Nat) (hs : a.eval s = .slice B n cap) (hnc : n ≤ cap) (hx : a.eval x = .slice none 0 c)
    (h : wpList P ops Q rest (a.put o.dst (.slice B n cap)) w) : wpList P ops Q (o :: rest) a w := by
  refine wpList_plain hgd fun K hK => ?_
  have hrun : (Builtin.append_ #[t, t] o.type #[.slice B n cap, .slice none 0 c]).run P w = .ok (.slice B n cap) w := by
    cases B <;> simp [Builtin.append_, run_underlying ht, sizeOf, typeInfo, hi, Builtin.lenOf, Builtin.firstCells, hnc, storeCells]
  unfold Oper.wp
  simp [execOp, ho, resolve, invoke, builtin, hs, hx, hrun, Result.andThen]
  exact hK _ _ h
theorem few_end {w W : World} {n : Nd} {g : Nat} {A : Option Addr} {c : Nat} {v : Value} (hg : W.heap[g]? = some (.cells #[.int .u8 0, .string ⟨#[]⟩, .int .i64 0, .int .u8 0, .int .u64 0, .slice none 0 0] 33 (0, 0))) (hb : Below w.heap.size w W) (hgb : w.heap.size ≤ g) (hv : v = .slice A (fewNd n).kids.length c)
    (hs : IdSl W W.heap.size (.slice A (fewNd n).kids.length c) (fewNd n).kids) (hf : ∀ ad, A = some ad → w.heap.size ≤ ad.block) :
    ∃ cs, ((((((W.setCell ⟨g, 0, none⟩ (.int .u8 (n.kind : Int))).setCell ⟨g, 1, none⟩ (.string (cutS n.name 64))).setCell ⟨g, 2, none⟩ (.int .i64 n.num)).setCell ⟨g, 3, none⟩ (.int .u8 (n.typ : Int))).setCell ⟨g, 4, none⟩ (.int .u64 (n.ref : Int))).setCell ⟨g, 5, none⟩ v).heap[g]? = some (.cells cs 33 (0, 0)) ∧ cs.size = 6 ∧
      FewR w n (.returned (.agg cs)) ((((((W.setCell ⟨g, 0, none⟩ (.int .u8 (n.kind : Int))).setCell ⟨g, 1, none⟩ (.string (cutS n.name 64))).setCell ⟨g, 2, none⟩ (.int .i64 n.num)).setCell ⟨g, 3, none⟩ (.int .u8 (n.typ : Int))).setCell ⟨g, 4, none⟩ (.int .u64 (n.ref : Int))).setCell ⟨g, 5, none⟩ v) := by
  subst hv
  refine ⟨_, set_node hg, rfl, A, c, rfl, ?_, hf, below_node hb hgb⟩
  refine (hs.keep fun j cs z hj hcs => ?_).up (by simp [World.setCell])
  have hj2 : j ≠ g := fun e => by
    rw [e, hg] at hcs
    injection hcs with hcs
    injection hcs with _ h2 _
    revert h2
    decide
  rw [heap_setCell_other _ ⟨g, 5, none⟩ j _ hj2, heap_setCell_other _ ⟨g, 4, none⟩ j _ hj2, heap_setCell_other _ ⟨g, 3, none⟩ j _ hj2, heap_setCell_other _ ⟨g, 2, none⟩ j _ hj2, heap_setCell_other _ ⟨g, 1, none⟩ j _ hj2, heap_setCell_other _ ⟨g, 0, none⟩ j _ hj2]
theorem few_row {w : World} {n : Nd} {k : Value} {cs : Array Value} :
    ((((w.alloc (.cells #[.int .u8 (n.kind : Int), .string (cutS n.name 64), .int .i64 n.num, .int .u8 (n.typ : Int), .int .u64 (n.ref : Int), k] 33)).alloc (.cells #[.int .u8 (n.kind : Int), .string (cutS n.name 64), .int .i64 n.num, .int .u8 (n.typ : Int), .int .u64 (n.ref : Int), k] 33)).alloc (.cells cs 24))).heap[w.heap.size + 1]? = some (.cells #[.int .u8 (n.kind : Int), .string (cutS n.name 64), .int .i64 n.num, .int .u8 (n.typ : Int), .int .u64 (n.ref : Int), k] 33 (0, 0)) ∧
    ((((w.alloc (.cells #[.int .u8 (n.kind : Int), .string (cutS n.name 64), .int .i64 n.num, .int .u8 (n.typ : Int), .int .u64 (n.ref : Int), k] 33)).alloc (.cells #[.int .u8 (n.kind : Int), .string (cutS n.name 64), .int .i64 n.num, .int .u8 (n.typ : Int), .int .u64 (n.ref : Int), k] 33)).alloc (.cells cs 24))).heap[w.heap.size + 1 + 1]? = some (.cells cs 24 (0, 0)) ∧
    Below w.heap.size w ((((w.alloc (.cells #[.int .u8 (n.kind : Int), .string (cutS n.name 64), .int .i64 n.num, .int .u8 (n.typ : Int), .int .u64 (n.ref : Int), k] 33)).alloc (.cells #[.int .u8 (n.kind : Int), .string (cutS n.name 64), .int .i64 n.num, .int .u8 (n.typ : Int), .int .u64 (n.ref : Int), k] 33)).alloc (.cells cs 24))) := by
  refine ⟨?_, ?_, (((Below.refl _ _).alloc (Nat.le_refl _) _).alloc (by simp) _).alloc (by simp; omega) _⟩
  · rw [heap_alloc_lt _ _ (by simp)]; exact alloc2 _ _ _ _ _
  · have h := Go.heap_alloc_new ((w.alloc (.cells #[.int .u8 (n.kind : Int), .string (cutS n.name 64), .int .i64 n.num, .int .u8 (n.typ : Int), .int .u64 (n.ref : Int), k] 33)).alloc (.cells #[.int .u8 (n.kind : Int), .string (cutS n.name 64), .int .i64 n.num, .int .u8 (n.typ : Int), .int .u64 (n.ref : Int), k] 33)) (.cells cs 24)
    rw [show ((w.alloc (.cells #[.int .u8 (n.kind : Int), .string (cutS n.name 64), .int .i64 n.num, .int .u8 (n.typ : Int), .int .u64 (n.ref : Int), k] 33)).alloc (.cells #[.int .u8 (n.kind : Int), .string (cutS n.name 64), .int .i64 n.num, .int .u8 (n.typ : Int), .int .u64 (n.ref : Int), k] 33)).heap.size = w.heap.size + 1 + 1 by simp] at h
    exact h
theorem few_three (w : World) (o1 o2 : Obj) (cs : Array Value) : (((w.alloc o1).alloc o2).alloc (.cells cs 24)).heap[w.heap.size + 1 + 1]? = some (.cells cs 24 (0, 0)) := by
  have h := Go.heap_alloc_new ((w.alloc o1).alloc o2) (.cells cs 24)
  rw [show ((w.alloc o1).alloc o2).heap.size = w.heap.size + 1 + 1 by simp] at h
  exact h
/-- IDs that came in: what lies there, and no word of whose block it is. -/
structure IdIn (w : World) (B : Nat) (A : Option Addr) (c : Nat) (l : List Nat) : Prop where
  lies : Lies w B A (ids l)
  cap : l.length ≤ c
  small : ∀ k ∈ l, k < 18446744073709551616
  long : l.length ≤ 9223372036854775807
theorem IdIn.up {w : World} {B B' c : Nat} {A : Option Addr} {l : List Nat} (h : IdIn w B A c l) (hB : B ≤ B') : IdIn w B' A c l := ⟨h.lies.up hB, h.cap, h.small, h.long⟩
theorem IdIn.below {w w' : World} {B c : Nat} {A : Option Addr} {l : List Nat} (h : IdIn w B A c l) (hb : Below B w w') : IdIn w' B A c l := by
  refine ⟨fun j u hj => ?_, h.cap, h.small, h.long⟩
  obtain ⟨ad, e, hbk, hc⟩ := h.lies j u hj
  exact ⟨ad, e, hbk, (hb.cell (by rw [addr_add_block]; exact hbk)).trans hc⟩
set_option maxHeartbeats 4000000 in
theorem few_any (w : World) (n : Nd) (A : Option Addr) (c : Nat) (hs : IdIn w w.heap.size A c n.kids) (hok : NdOk n) :
    Calls Try.prog 33 #[ndV n (.slice A n.kids.length c)] w (FewR w n) := by
  obtain ⟨N, hN⟩ : ∃ N, N = n.kids.length := ⟨_, rfl⟩
  rw [← hN]
  have hNl : N ≤ 9223372036854775807 := by rw [hN]; exact hs.long
  have hcap : N ≤ c := by rw [hN]; exact hs.cap
  have HTX := Lib.hid (fun y => text_any y n.name 64 hok.name (by omega))
  obtain ⟨i0, hi0, hz0, hs0, hb0⟩ := info_parts infoId
  have HS := Lib.hid hs
  have HN := Lib.hid hN
  unfold ndV
  cases A with
  | none =>
    have hk : n.kids = [] := by
      cases hk : n.kids with
      | nil => rfl
      | cons x r =>
        rw [hk] at hs
        obtain ⟨ad, e, _⟩ := hs.lies 0 (.int .u64 (x : Int)) rfl
        cases e
    have hN0 : N = 0 := by rw [hN, hk]; rfl
    have hk2 : (fewNd n).kids = [] := by unfold fewNd; rw [hk]; rfl
    have HK2 := Lib.hid hk2
    subst hN0
    clear hs hN hk hk2
    go_enter Try.func33, Try.ntmps33
    go_wp2_with (first
      | (go_at_call 60; refine (HTX.out _).mono ?_; rintro e w2 ⟨rfl, rfl⟩)
      | (at_builtin; refine wpList_append_nothing rfl _ _ 30 rfl 24 i0 Try.underlying30 hi0 (some ⟨w.heap.size + 1 + 1, 0, none⟩) 0 0 c rfl (Nat.le_refl _) rfl ?_))
    have hrow := few_row (w := w) (n := n) (k := .slice (some ⟨w.heap.size + 1 + 1, 0, none⟩) 0 0) (cs := #[])
    obtain ⟨h1, h2, h3⟩ := hrow
    refine node_ret (p := 2) rfl rfl rfl h1 rfl ⟨some ⟨w.heap.size + 1 + 1, 0, none⟩, 0, by rw [HK2.out]; rfl, ?_, fun ad e => by injection e with e; subst e; show w.heap.size ≤ w.heap.size + 1 + 1; omega, h3⟩
    rw [HK2.out]
    exact IdSl.of_own (base := 0) ⟨rfl, .inr ⟨w.heap.size + 1 + 1, 0, #[], rfl, Nat.zero_le _, h2, Nat.le_refl _, by unfold maxLen; omega, rfl, rfl⟩⟩ (by simp) (by simp)
  | some ad =>
    have hcells : ∀ (j : Nat) (u : Value), (ids n.kids)[j]? = some u → ∀ y, Below w.heap.size w y → y.cell? (ad.add j) = some u := fun j u hj y hy => by
      obtain ⟨ad', e', hbk, hc⟩ := hs.lies j u hj
      injection e' with e'
      subst e'
      exact (hy.cell (by rw [addr_add_block]; exact hbk)).trans hc
    have HC := Lib.hid hcells
    have HSM := Lib.hid hs.small
    clear hs hN hcells
    by_cases h12 : N ≤ 12
    · have hI : (N : Int) ≤ 12 := by omega
      have hk2 : (fewNd n).kids = n.kids := by unfold fewNd; exact List.take_of_length_le (by rw [← HN.out]; exact h12)
      have hlk : (fewNd n).kids.length = N := by rw [hk2]; first | exact HN.out.symm | (rw [List.length_take, ← HN.out]; omega)
      have HLK := Lib.hid hlk
      have HIDC : Hid (∀ (j : Nat) (u : Value), (ids (fewNd n).kids)[j]? = some u → ∀ y, Below w.heap.size w y → y.cell? (ad.add j) = some u) := Lib.hid fun j u hj y hy => HC.out j u (by
        rw [hk2] at hj
        first
          | exact hj
          | (rw [ids_take] at hj; rw [List.getElem?_take] at hj; split at hj; exact hj; cases hj)) y hy
      clear hk2 hlk
      go_enter Try.func33, Try.ntmps33
      go_wp2_with (first
        | (go_at_call 60; refine (HTX.out _).mono ?_; rintro e w2 ⟨rfl, rfl⟩)
        | (at_builtin; go_loud (
            refine wpList_append_own_at _ rfl _ _ 30 rfl w.heap.size 24 i0 (.int .u64 0) 1 8 Try.underlying30 hi0 hz0 hs0 hb0 rfl (by decide) (.slice (some ⟨w.heap.size + 1 + 1, 0, none⟩) 0 0) 0 [] rfl ⟨rfl, .inr ⟨w.heap.size + 1 + 1, 0, #[], rfl, by omega, few_three _ _ _ _, Nat.le_refl _, Nat.zero_le _, rfl, rfl⟩⟩ ad N c (ids (fewNd n).kids) rfl (by rw [ids_length, HLK.out, Nat.mul_one]) (fun j u hj => HIDC.out j u hj _ ((((Below.refl _ _).alloc (Nat.le_refl _) _).alloc (by simp) _).alloc (by simp; omega) _)) (ids_one _) (by unfold maxLen; omega) (by omega) (by simp; omega) ?_;
            intro v' w' hown' hgrow hnil hloc;
            rw [Nat.zero_add, List.nil_append] at hown';
            obtain ⟨A2, c2, rfl⟩ := row_form hown';
            have hs1 : w'.heap[w.heap.size]? = some (.cells #[.int .u8 (n.kind : Int), .string (cutS n.name 64), .int .i64 n.num, .int .u8 (n.typ : Int), .int .u64 (n.ref : Int), .slice (some ad) N c] 33 (0, 0)) := (hgrow.block w.heap.size (by simp; omega) (fun e => by have e2 := Option.some.inj (show some w.heap.size = some (w.heap.size + 1 + 1) from e); omega)).trans ((heap_alloc_lt _ _ (by simp; omega)).trans ((heap_alloc_lt _ _ (by simp)).trans (Go.heap_alloc_new _ _)));
            have hs2 : w'.heap[w.heap.size + 1]? = some (.cells #[.int .u8 0, .string ⟨#[]⟩, .int .i64 0, .int .u8 0, .int .u64 0, .slice none 0 0] 33 (0, 0)) := (hgrow.block (w.heap.size + 1) (by simp) (fun e => by have e2 := Option.some.inj (show some (w.heap.size + 1) = some (w.heap.size + 1 + 1) from e); omega)).trans ((heap_alloc_lt _ _ (by simp)).trans (alloc2 _ _ _ _ _));
            obtain ⟨b0, b1, b2, b3, b4, b5, b6⟩ := box_cells (n := ⟨n.kind, cutS n.name 64, n.num, n.typ, n.ref, n.kids⟩) hs1;
            obtain ⟨⟨r0, r1, r2, r3, r4, r5⟩, f0, f1, f2, f3, f4, f5⟩ := zero_cells hs2;
            have HO := Lib.hid hown';
            have HG := Lib.hid hgrow;
            have HL := Lib.hid hloc;
            have HS1 := Lib.hid hs1;
            have HS2 := Lib.hid hs2;
            clear hown' hgrow hnil hloc hs1 hs2)))
      have hbw : Below w.heap.size w w' := ((((Below.refl _ _).alloc (Nat.le_refl _) _).alloc (by simp) _).alloc (by simp; omega) _).grown HG.out (by simp; omega) (fun k hk => by have e2 := Option.some.inj (show some (w.heap.size + 1 + 1) = some k from hk); omega)
      have hs3 := (heap_setCell_other w' ⟨w.heap.size, 5, none⟩ (w.heap.size + 1) (.slice A2 N c2) (by show w.heap.size + 1 ≠ w.heap.size; omega)).trans HS2.out
      have hid : IdSl w' w'.heap.size (.slice A2 N c2) (fewNd n).kids := IdSl.of_own HO.out (fun z hz => HSM.out z (by unfold fewNd at hz; exact List.mem_of_mem_take hz)) (by rw [HLK.out]; omega)
      have hid2 : IdSl (w'.setCell ⟨w.heap.size, 5, none⟩ (.slice A2 N c2)) (w'.setCell ⟨w.heap.size, 5, none⟩ (.slice A2 N c2)).heap.size (.slice A2 (fewNd n).kids.length c2) (fewNd n).kids := by
        rw [HLK.out]
        refine (hid.keep fun j cs z hj hcs => ?_).up (by simp [World.setCell])
        exact heap_setCell_other _ ⟨w.heap.size, 5, none⟩ _ _ (fun e => by
          rw [e, HS1.out] at hcs
          injection hcs with hcs
          injection hcs with _ h2 _
          revert h2
          decide)
      obtain ⟨cs, h1, h2, h3⟩ := few_end (n := n) hs3 (hbw.setCell (p := ⟨w.heap.size, 5, none⟩) (Nat.le_refl _) _) (Nat.le_succ _) (by rw [HLK.out]) hid2 (fun ad e => by
        subst e
        have := (World.ownsRow.lt HO.out ad.block rfl).1
        exact this)
      exact node_ret (p := 2) rfl rfl rfl h1 h2 h3
    · have hI : ¬ (N : Int) ≤ 12 := by omega
      have hk2 : (fewNd n).kids = n.kids.take 12 := rfl
      have hlk : (fewNd n).kids.length = 12 := by rw [hk2]; first | exact HN.out.symm | (rw [List.length_take, ← HN.out]; omega)
      have HLK := Lib.hid hlk
      have HIDC : Hid (∀ (j : Nat) (u : Value), (ids (fewNd n).kids)[j]? = some u → ∀ y, Below w.heap.size w y → y.cell? (ad.add j) = some u) := Lib.hid fun j u hj y hy => HC.out j u (by
        rw [hk2] at hj
        first
          | exact hj
          | (rw [ids_take] at hj; rw [List.getElem?_take] at hj; split at hj; exact hj; cases hj)) y hy
      clear hk2 hlk
      go_enter Try.func33, Try.ntmps33
      go_wp2_with (first
        | (go_at_call 60; refine (HTX.out _).mono ?_; rintro e w2 ⟨rfl, rfl⟩)
        | (at_builtin; go_loud (
            refine wpList_append_own_at _ rfl _ _ 30 rfl w.heap.size 24 i0 (.int .u64 0) 1 8 Try.underlying30 hi0 hz0 hs0 hb0 rfl (by decide) (.slice (some ⟨w.heap.size + 1 + 1, 0, none⟩) 0 0) 0 [] rfl ⟨rfl, .inr ⟨w.heap.size + 1 + 1, 0, #[], rfl, by omega, few_three _ _ _ _, Nat.le_refl _, Nat.zero_le _, rfl, rfl⟩⟩ ad 12 c (ids (fewNd n).kids) rfl (by rw [ids_length, HLK.out, Nat.mul_one]) (fun j u hj => HIDC.out j u hj _ ((((Below.refl _ _).alloc (Nat.le_refl _) _).alloc (by simp) _).alloc (by simp; omega) _)) (ids_one _) (by unfold maxLen; omega) (by omega) (by simp; omega) ?_;
            intro v' w' hown' hgrow hnil hloc;
            rw [Nat.zero_add, List.nil_append] at hown';
            obtain ⟨A2, c2, rfl⟩ := row_form hown';
            have hs1 : w'.heap[w.heap.size]? = some (.cells #[.int .u8 (n.kind : Int), .string (cutS n.name 64), .int .i64 n.num, .int .u8 (n.typ : Int), .int .u64 (n.ref : Int), .slice (some ad) N c] 33 (0, 0)) := (hgrow.block w.heap.size (by simp; omega) (fun e => by have e2 := Option.some.inj (show some w.heap.size = some (w.heap.size + 1 + 1) from e); omega)).trans ((heap_alloc_lt _ _ (by simp; omega)).trans ((heap_alloc_lt _ _ (by simp)).trans (Go.heap_alloc_new _ _)));
            have hs2 : w'.heap[w.heap.size + 1]? = some (.cells #[.int .u8 0, .string ⟨#[]⟩, .int .i64 0, .int .u8 0, .int .u64 0, .slice none 0 0] 33 (0, 0)) := (hgrow.block (w.heap.size + 1) (by simp) (fun e => by have e2 := Option.some.inj (show some (w.heap.size + 1) = some (w.heap.size + 1 + 1) from e); omega)).trans ((heap_alloc_lt _ _ (by simp)).trans (alloc2 _ _ _ _ _));
            obtain ⟨b0, b1, b2, b3, b4, b5, b6⟩ := box_cells (n := ⟨n.kind, cutS n.name 64, n.num, n.typ, n.ref, n.kids⟩) hs1;
            obtain ⟨⟨r0, r1, r2, r3, r4, r5⟩, f0, f1, f2, f3, f4, f5⟩ := zero_cells hs2;
            have HO := Lib.hid hown';
            have HG := Lib.hid hgrow;
            have HL := Lib.hid hloc;
            have HS1 := Lib.hid hs1;
            have HS2 := Lib.hid hs2;
            clear hown' hgrow hnil hloc hs1 hs2)))
      have hbw : Below w.heap.size w w' := ((((Below.refl _ _).alloc (Nat.le_refl _) _).alloc (by simp) _).alloc (by simp; omega) _).grown HG.out (by simp; omega) (fun k hk => by have e2 := Option.some.inj (show some (w.heap.size + 1 + 1) = some k from hk); omega)
      have hs3 := (heap_setCell_other w' ⟨w.heap.size, 5, none⟩ (w.heap.size + 1) (.slice A2 12 c2) (by show w.heap.size + 1 ≠ w.heap.size; omega)).trans HS2.out
      have hid : IdSl w' w'.heap.size (.slice A2 12 c2) (fewNd n).kids := IdSl.of_own HO.out (fun z hz => HSM.out z (by unfold fewNd at hz; exact List.mem_of_mem_take hz)) (by rw [HLK.out]; omega)
      have hid2 : IdSl (w'.setCell ⟨w.heap.size, 5, none⟩ (.slice A2 12 c2)) (w'.setCell ⟨w.heap.size, 5, none⟩ (.slice A2 12 c2)).heap.size (.slice A2 (fewNd n).kids.length c2) (fewNd n).kids := by
        rw [HLK.out]
        refine (hid.keep fun j cs z hj hcs => ?_).up (by simp [World.setCell])
        exact heap_setCell_other _ ⟨w.heap.size, 5, none⟩ _ _ (fun e => by
          rw [e, HS1.out] at hcs
          injection hcs with hcs
          injection hcs with _ h2 _
          revert h2
          decide)
      obtain ⟨cs, h1, h2, h3⟩ := few_end (n := n) hs3 (hbw.setCell (p := ⟨w.heap.size, 5, none⟩) (Nat.le_refl _) _) (Nat.le_succ _) (by rw [HLK.out]) hid2 (fun ad e => by
        subst e
        have := (World.ownsRow.lt HO.out ad.block rfl).1
        exact this)
      exact node_ret (p := 2) rfl rfl rfl h1 h2 h3
end Go.Proofs.Ytdphpjlhkamadaa
namespace Go.Proofs.Ytdphpjlhkamadaa
open Go.RowKit Go.Shelf
set_option linter.unusedSimpArgs false
set_option linter.unusedVariables false
set_option maxRecDepth 100000
attribute [local go_sem] Oper.semAt_some undef
/-- A list of nodes, with what each is in memory. -/
abbrev XL := List (Nat × (Value × Nd))
def xCells (xs : XL) : List Value := xs.flatMap fun p => .int .u64 (p.1 : Int) :: ndCells p.2.1
def xNs (xs : XL) : List (Nat × Nd) := mapL Prod.snd xs
structure XR (w : World) (base : Nat) (v : Value) (xs : XL) : Prop where
  own : w.ownsRow base 69 7 v xs.length (xCells xs)
  node : ∀ p ∈ xs, NodeV w p.2.1 p.2.2
  small : ∀ p ∈ xs, p.1 < 18446744073709551616
theorem XR.keep {w w' : World} {base : Nat} {v : Value} {xs : XL} (h : XR w base v xs) (hs : w.heap.size ≤ w'.heap.size) (hk : ∀ (g : Nat) (cs : Array Value) (t : TypeId) (z : Nat × Nat), (t = 69 ∨ t = 24) → w.heap[g]? = some (.cells cs t z) → w'.heap[g]? = w.heap[g]?) : XR w' base v xs :=
  ⟨ownsRow_at h.own fun g cs hg => hk g cs _ _ (.inl rfl) hg, fun p hp => (h.node p hp).keep hs fun j cs z hj => hk j cs _ z (.inr rfl) hj, h.small⟩
theorem XR.below {w w' : World} {base : Nat} {v : Value} {xs : XL} (h : XR w base v xs) (hb : Below w.heap.size w w') : XR w' base v xs := h.keep hb.size fun g cs t z _ hg => hb.block g (lt_of_heap2 hg)
theorem NodeV.cells {w : World} {v : Value} {n : Nd} (h : NodeV w v n) : ∃ A c, v = ndV n (.slice A n.kids.length c) ∧ IdSl w w.heap.size (.slice A n.kids.length c) n.kids ∧ NdOk n := by
  obtain ⟨⟨A, c, e, hi⟩, ok⟩ := h
  exact ⟨A, c, e, hi, ok⟩
theorem xCells_at : ∀ {xs : XL} {k j : Nat} {p : Nat × (Value × Nd)}, (∀ q ∈ xs, (ndCells q.2.1).length = 6) → xs[k]? = some p → j < 7 → (xCells xs)[k * 7 + j]? = (Value.int .u64 (p.1 : Int) :: ndCells p.2.1)[j]?
  | [], k, j, p, _, h, _ => by cases h
  | q :: xs, k, j, p, h6, h, hj => by
    have h1 := h6 q (by simp)
    have hc : xCells (q :: xs) = (Value.int .u64 (q.1 : Int) :: ndCells q.2.1) ++ xCells xs := by unfold xCells; rw [List.flatMap_cons]
    rw [hc]
    cases k with
    | zero =>
      injection h with h
      subst h
      rw [Nat.zero_mul, Nat.zero_add, List.getElem?_append_left (by rw [List.length_cons, h1]; omega)]
    | succ k =>
      rw [List.getElem?_append_right (by rw [List.length_cons, h1]; omega), List.length_cons, h1, show (k + 1) * 7 + j - (6 + 1) = k * 7 + j by omega]
      exact xCells_at (fun z hz => h6 z (by simp [hz])) h hj
theorem xCells_snoc (xs : XL) (q : Nat × (Value × Nd)) : xCells (xs ++ [q]) = xCells xs ++ (.int .u64 (q.1 : Int) :: ndCells q.2.1) := by unfold xCells; rw [List.flatMap_append]; simp
/-- The cells of one row of the list. -/
theorem XR.at_ {w : World} {base n c : Nat} {A : Option Addr} {xs : XL} (h : XR w base (.slice A n c) xs) {k : Nat} {p : Nat × (Value × Nd)} (hp : xs[k]? = some p) :
    ∃ g Ak ck, A = some ⟨g, 0, none⟩ ∧ base ≤ g ∧ p.2.1 = ndV p.2.2 (.slice Ak p.2.2.kids.length ck) ∧ IdSl w w.heap.size (.slice Ak p.2.2.kids.length ck) p.2.2.kids ∧ NdOk p.2.2 ∧
      w.cell? ⟨g, k * 7, none⟩ = some (.int .u64 (p.1 : Int)) ∧ w.cell? ⟨g, k * 7 + 1, none⟩ = some (.int .u8 (p.2.2.kind : Int)) ∧ w.cell? ⟨g, k * 7 + 2, none⟩ = some (.string p.2.2.name) ∧ w.cell? ⟨g, k * 7 + 3, none⟩ = some (.int .i64 p.2.2.num) ∧ w.cell? ⟨g, k * 7 + 4, none⟩ = some (.int .u8 (p.2.2.typ : Int)) ∧
      w.cell? ⟨g, k * 7 + 5, none⟩ = some (.int .u64 (p.2.2.ref : Int)) ∧ w.cell? ⟨g, k * 7 + 6, none⟩ = some (.slice Ak p.2.2.kids.length ck) := by
  obtain ⟨Ak, ck, hv, hi, hok⟩ := (h.node p (List.mem_of_getElem? hp)).cells
  have hk := (List.getElem?_eq_some_iff.1 hp).1
  rcases h.own.2 with ⟨e, h0⟩ | ⟨g, cap, cur, e, hb, hg, _, _, _, ht⟩
  · omega
  · injection e with e1 e2 e3
    have hcell : ∀ j v, j < 7 → (Value.int .u64 (p.1 : Int) :: ndCells p.2.1)[j]? = some v → w.cell? ⟨g, k * 7 + j, none⟩ = some v := fun j v hj hv => by
      have h1 := xCells_at (k := k) (j := j) (fun q hq => by obtain ⟨A, c, e, _⟩ := (h.node q hq).cells; rw [e]; rfl) hp hj
      rw [hv, ← ht, List.getElem?_take_of_lt (by omega)] at h1
      unfold World.cell?
      rw [hg]
      dsimp only
      rw [← h1]
      simp
    rw [hv] at hcell
    exact ⟨g, Ak, ck, e1, hb, hv, hi, hok, hcell 0 _ (by omega) rfl, hcell 1 _ (by omega) rfl, hcell 2 _ (by omega) rfl, hcell 3 _ (by omega) rfl, hcell 4 _ (by omega) rfl, hcell 5 _ (by omega) rfl, hcell 6 _ (by omega) rfl⟩
section
variable {α : Type}
/-- What the reference's Put goes through. -/
def rputL (id : Nat) (v : α) : List (Nat × α) → Bool → List (Nat × α)
  | [], done => if done then [] else [(id, v)]
  | p :: r, done => if p.1 = id then rputL id v r done else if id < p.1 ∧ done = false then (id, v) :: p :: rputL id v r true else p :: rputL id v r done
theorem rputL_done {id : Nat} {v : α} : ∀ {m : List (Nat × α)}, (∀ p ∈ m, id < p.1) → rputL id v m true = m
  | [], _ => rfl
  | p :: r, h => by
    have hp := h p (by simp)
    show (if p.1 = id then _ else if id < p.1 ∧ true = false then _ else p :: rputL id v r true) = _
    rw [if_neg (by omega), if_neg (by simp), rputL_done fun q hq => h q (by simp [hq])]
theorem rputL_big {id : Nat} {v : α} : ∀ {m : List (Nat × α)}, (∀ p ∈ m, id < p.1) → rputL id v m false = (id, v) :: m
  | [], _ => rfl
  | p :: r, h => by
    have hp := h p (by simp)
    show (if p.1 = id then _ else if id < p.1 ∧ false = false then (id, v) :: p :: rputL id v r true else _) = _
    rw [if_neg (by omega), if_pos ⟨hp, rfl⟩, rputL_done fun q hq => h q (by simp [hq])]
theorem rputL_put {id : Nat} {v : α} : ∀ {m : List (Nat × α)}, Rise m → rputL id v m false = putL' m id v
  | [], _ => rfl
  | p :: r, hr => by
    show (if p.1 = id then rputL id v r false else if id < p.1 ∧ false = false then (id, v) :: p :: rputL id v r true else p :: rputL id v r false) = (if p.1 < id then p :: putL' r id v else if p.1 = id then (id, v) :: r else (id, v) :: p :: r)
    by_cases h1 : p.1 < id
    · rw [if_pos h1, if_neg (by omega), if_neg (by omega), rputL_put hr.tail]
    · rw [if_neg h1]
      by_cases h2 : p.1 = id
      · rw [if_pos h2, if_pos h2, rputL_big fun q hq => by have := hr.head q hq; omega]
      · rw [if_neg h2, if_neg h2, if_pos ⟨by omega, rfl⟩, rputL_done fun q hq => by have := hr.head q hq; omega]
end
theorem infoRow : (Try.prog.info? 69).map (fun i => (i.zero, i.size, i.bytes)) = some (some (.agg #[.int .u64 0, .int .u8 0, .string ⟨#[]⟩, .int .i64 0, .int .u8 0, .int .u64 0, .slice none 0 0]), 7, 80) := by kernel_rfl
end Go.Proofs.Ytdphpjlhkamadaa
