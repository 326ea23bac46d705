/- AExch, ANode: joined by program (tools/merge.py). -/
import Derived.Test.YtecbaceinifjiaaGreatDoorZ4
import Derived.Deep.CutBlock
import Derived.Deep.DeepCutAuto
import Derived.Deep.QuietTactic
import Derived.BigQuiet
namespace Go.Proofs.YtecbaceinifjiaaGreatDoor
open Go.RowKit
set_option linter.unusedSimpArgs false
set_option linter.unusedVariables false
set_option maxRecDepth 100000
def ids (l : List Nat) : List Value := l.map fun (k : Nat) => Value.int .u64 (k : Int)
theorem ids_length (l : List Nat) : (ids l).length = l.length := by simp [ids]
theorem ids_at (l : List Nat) (j : Nat) : (ids l)[j]? = (l[j]?).map fun (k : Nat) => Value.int .u64 (k : Int) := by simp [ids]
theorem ids_drop (l : List Nat) (k : Nat) : ids (l.drop k) = (ids l).drop k := by simp [ids]
theorem ids_take (l : List Nat) (k : Nat) : ids (l.take k) = (ids l).take k := by simp [ids]
/-- A slice of numbers of nodes, in a block of such. -/
structure IdSl (w : World) (B : Nat) (v : Value) (l : List Nat) : Prop where
  form : ∃ A c, v = .slice A l.length c ∧ Lies w B A (ids l) ∧ l.length ≤ c ∧ ∀ ad, A = some ad → ad.block < B ∧ ∃ cs z, w.heap[ad.block]? = some (.cells cs 30 z)
  small : ∀ k ∈ l, k < 18446744073709551616
  long : l.length ≤ 1000000000
theorem IdSl.keep {w w' : World} {B : Nat} {v : Value} {l : List Nat} (h : IdSl w B v l) (hb : ∀ j cs z, j < B → w.heap[j]? = some (.cells cs 30 z) → w'.heap[j]? = w.heap[j]?) : IdSl w' B v l := by
  obtain ⟨⟨A, c, rfl, h1, h2, ht⟩, h3, h4⟩ := h
  refine ⟨⟨A, c, rfl, fun j u hj => ?_, h2, fun ad e => ?_⟩, h3, h4⟩
  · obtain ⟨ad, e, hbk, hc⟩ := h1 j u hj
    obtain ⟨h5, cs, z, h6⟩ := ht ad e
    refine ⟨ad, e, hbk, ?_⟩
    rw [← hc]
    exact World.cell?_of_block (by rw [addr_add_block]; exact hb _ _ _ h5 h6)
  · obtain ⟨h5, cs, z, h6⟩ := ht ad e
    exact ⟨h5, cs, z, (hb _ _ _ h5 h6).trans h6⟩
theorem IdSl.below {w w' : World} {B : Nat} {v : Value} {l : List Nat} (h : IdSl w B v l) (hb : Below B w w') : IdSl w' B v l := h.keep fun j _ _ hj _ => hb.block j hj
theorem IdSl.quiet {w : World} {B : Nat} {v : Value} {l : List Nat} (h : IdSl w B v l) (n : Nat) : IdSl (w.drewN n) B v l := h.keep fun _ _ _ _ _ => rfl
theorem IdSl.up {w : World} {B B' : Nat} {v : Value} {l : List Nat} (h : IdSl w B v l) (hB : B ≤ B') : IdSl w B' v l := by
  obtain ⟨⟨A, c, rfl, h1, h2, ht⟩, h3, h4⟩ := h
  exact ⟨⟨A, c, rfl, h1.up hB, h2, fun ad e => ⟨Nat.lt_of_lt_of_le (ht ad e).1 hB, (ht ad e).2⟩⟩, h3, h4⟩
theorem IdSl.nil (w : World) (B : Nat) : IdSl w B (.slice none 0 0) [] := ⟨⟨none, 0, rfl, Lies.nil _ _ _, Nat.le_refl _, fun ad e => by cases e⟩, by simp, by simp⟩
theorem IdSl.at_ {w : World} {B n c : Nat} {A : Option Addr} {l : List Nat} (h : IdSl w B (.slice A n c) l) {i k : Nat} (hi : l[i]? = some k) : ∃ ad, A = some ad ∧ ad.block < B ∧ w.cell? (ad.add i) = some (.int .u64 (k : Int)) := by
  obtain ⟨⟨A', c', e, h1, h2, _⟩, h3, h4⟩ := h
  injection e with e1 _ _
  subst e1
  exact h1 i _ (by rw [ids_at, hi]; rfl)
theorem IdSl.len {w : World} {B n c : Nat} {A : Option Addr} {l : List Nat} (h : IdSl w B (.slice A n c) l) : n = l.length ∧ n ≤ c := by
  obtain ⟨⟨A', c', e, h1, h2, _⟩, h3, h4⟩ := h
  injection e with e1 e2 e3
  exact ⟨e2, by omega⟩
theorem IdSl.tail {w : World} {B n c : Nat} {A : Option Addr} {k : Nat} {l : List Nat} (h : IdSl w B (.slice A (n + 1) c) (k :: l)) : IdSl w B (.slice (if c = 1 then A else A.map (·.add 1)) n (c - 1)) l := by
  obtain ⟨⟨A', c', e, h1, h2, ht⟩, h3, h4⟩ := h
  injection e with e1 e2 e3
  subst e1 e3
  rw [List.length_cons] at e2 h2 h4
  have h5 := h1.rest (k := 1) (n := n + 1) (cap := c) (by rw [ids_length, List.length_cons]; omega) (by omega) (by omega)
  refine ⟨⟨_, c - 1, by rw [show n = l.length by omega], ?_, by omega, fun ad e => ?_⟩, fun x hx => h3 x (by simp [hx]), by omega⟩
  · simpa [ids] using h5
  · split at e
    · exact ht ad e
    · cases A with
      | none => cases e
      | some a0 =>
        have e2 : a0.add 1 = ad := Option.some.inj e
        rw [← e2, addr_add_block]
        exact ht a0 rfl
theorem IdSl.init {w : World} {B n c : Nat} {A : Option Addr} {l : List Nat} (h : IdSl w B (.slice A n c) l) {m : Nat} (hm : m ≤ n) : IdSl w B (.slice A m c) (l.take m) := by
  obtain ⟨⟨A', c', e, h1, h2, ht⟩, h3, h4⟩ := h
  injection e with e1 e2 e3
  subst e1 e3
  have hl : (l.take m).length = m := by rw [List.length_take]; omega
  refine ⟨⟨A, c, by rw [hl], by rw [ids_take]; exact h1.first m, by omega, ht⟩, fun x hx => h3 x (List.mem_of_mem_take hx), by omega⟩
theorem OwnsF.ty {w : World} {base gp : Nat} {F : PF} (h : ParW w base gp F) {j : Nat} (ho : OwnsF F j) : ∃ cs, w.heap[j]? = some (.cells cs 137 (0, 0)) := by
  obtain ⟨k, x, hx, hg⟩ := ho
  rcases (h.own k x hx).1.2 with ⟨h0, _⟩ | ⟨g, cap, cur, e2, _, h2, _⟩
  · rw [h0] at hg; cases hg
  · rw [e2] at hg
    have e3 : g = j := Option.some.inj hg
    exact ⟨cur, by rw [← e3]; exact h2⟩
theorem IdSl.touch {w w' : World} {B base gp : Nat} {F : PF} {v : Value} {l : List Nat} (h : IdSl w B v l) (hP : ParW w base gp F) (ht : Touch w w' (fun j => j = gp ∨ OwnsF F j)) : IdSl w' B v l := h.keep fun j cs z _ hj => ht.block j (lt_of_heap2 hj) fun e => by
  rcases e with e | e
  · obtain ⟨es, clock, h1, _⟩ := hP.map.own
    rw [e, h1] at hj
    cases hj
  · obtain ⟨cs', h1⟩ := e.ty hP
    rw [h1] at hj
    injection hj with hj
    injection hj with _ h2 _
    revert h2
    decide
def exC (C : Cnt) (id : Nat) (b a : List Nat) : Cnt := fun k i => if i = id then C k i - b.count k + a.count k else C k i
theorem exC_nil (C : Cnt) (id : Nat) : exC C id [] [] = C := by
  funext k i
  unfold exC
  split <;> simp
theorem exC_less {C : Cnt} {id x : Nat} {b : List Nat} (h : b.count x < C x id) : addC (exC C id b []) x id (-1) = exC C id (b ++ [x]) [] := by
  funext k i
  unfold addC exC
  by_cases hi : i = id
  · subst hi
    by_cases hk : k = x
    · subst hk
      rw [if_pos ⟨rfl, rfl⟩, if_pos rfl, if_pos rfl, List.count_append, List.count_singleton_self, List.count_nil]
      omega
    · rw [if_neg (fun e => hk e.1), if_pos rfl, if_pos rfl, List.count_append, List.count_singleton, if_neg (by simp; omega)]
      simp
  · rw [if_neg (fun e => hi e.2), if_neg hi, if_neg hi]
theorem exC_more {C : Cnt} {id x : Nat} {b a : List Nat} : addC (exC C id b a) x id 1 = exC C id b (a ++ [x]) := by
  funext k i
  unfold addC exC
  by_cases hi : i = id
  · subst hi
    by_cases hk : k = x
    · subst hk
      rw [if_pos ⟨rfl, rfl⟩, if_pos rfl, if_pos rfl, List.count_append, List.count_singleton_self]
      omega
    · rw [if_neg (fun e => hk e.1), if_pos rfl, if_pos rfl, List.count_append, List.count_singleton, if_neg (by simp; omega)]
      simp
  · rw [if_neg (fun e => hi e.2), if_neg hi, if_neg hi]
theorem exC_trim {C : Cnt} {id : Nat} {b a p s : List Nat} (h : ∀ k, (p ++ b ++ s).count k ≤ C k id) : exC C id b a = exC C id (p ++ b ++ s) (p ++ a ++ s) := by
  funext k i
  unfold exC
  by_cases hi : i = id
  · subst hi
    rw [if_pos rfl, if_pos rfl]
    have := h k
    simp only [List.count_append] at this ⊢
    omega
  · rw [if_neg hi, if_neg hi]
def lenV : Value → Nat
  | .slice _ n _ => n
  | _ => 0
def Ex1 (w : World) (B : Nat) (bl al : List Nat) (b a : Value) (wr : World) : Prop := ∃ p b' a', bl = p ++ b' ∧ al = p ++ a' ∧ IdSl wr B b b' ∧ IdSl wr B a a' ∧ Below w.heap.size w wr
def Ex2 (w : World) (B : Nat) (bl al : List Nat) (b a : Value) (wr : World) : Prop := ∃ s b' a', bl = b' ++ s ∧ al = a' ++ s ∧ IdSl wr B b b' ∧ IdSl wr B a a' ∧ Below w.heap.size w wr
theorem Touch.drewN {a b : World} {S : Nat → Prop} (h : Touch a b S) (n : Nat) : Touch a (b.drewN n) S := ⟨h.os, h.tape, h.output, h.size, h.block⟩
theorem ParC.more {w : World} {base gp : Nat} {F : PF} {C : Cnt} {N N' : Nat} (h : ParC w base gp F C N) (hN : N ≤ N') : ParC w base gp F C N' := ⟨h.par, h.cnt, fun k => Nat.le_trans (h.rows k) hN, Nat.le_trans h.keys hN, fun k i => Nat.le_trans (h.few k i) hN⟩
def Ex3 (w : World) (base gp : Nat) (F : PF) (N : Nat) (f : Nat → Cnt) (n : Nat) (i : Value) (wr : World) : Prop := ∃ (k : Nat) (F' : PF), k ≤ n ∧ i = .int .i64 (k : Int) ∧ ParC wr base gp F' (f k) (N + k) ∧ Touch w wr (fun j => j = gp ∨ OwnsF F j) ∧ (∀ j, OwnsF F' j → OwnsF F j ∨ w.heap.size ≤ j)
set_option maxHeartbeats 8000000 in
theorem exchange_any (w : World) (base gp id : Nat) (F : PF) (C : Cnt) (N : Nat) (vb va : Value) (bl al : List Nat) (hP : ParC w base gp F C N) (hid : id < 18446744073709551616) (hb : IdSl w w.heap.size vb bl) (ha : IdSl w w.heap.size va al) (hc : ∀ k, bl.count k ≤ C k id) (hN : N + bl.length + al.length ≤ 999999990) (hbase : base ≤ w.heap.size) :
    Calls Tryz.prog 76 #[.map (some gp), .int .u64 (id : Int), vb, va] w (AddC w base gp F (exC C id bl al) (N + bl.length + al.length)) := by
  obtain ⟨Ab, cb, rfl, _⟩ := hb.form
  obtain ⟨Aa, ca, rfl, _⟩ := ha.form
  have HB := Lib.hid hb
  have HA := Lib.hid ha
  have HP := Lib.hid hP
  have HC := Lib.hid hc
  clear hb ha hP hc
  go_enter Tryz.func76, Tryz.ntmps76
  go_upto_block 0 with fail
  go_cut [2, 3] (fun b a wx => Ex1 w w.heap.size bl al b a wx)
  case first =>
    go_wp2_with fail
    go_loopw [2, 3] (fun b a wr => Ex1 w w.heap.size bl al b a wr) (fun b _ _ => lenV b)
    case atStart => exact ⟨[], bl, al, rfl, rfl, HB.out, HA.out, Below.refl _ _⟩
    case round =>
      obtain ⟨p, b', a', hb1, ha1, hbs, has_, hbw⟩ := hrel
      obtain ⟨A1, c1, rfl, _⟩ := hbs.form
      obtain ⟨A2, c2, rfl, _⟩ := has_.form
      have HBS := Lib.hid hbs
      have HAS := Lib.hid has_
      have HB1 := Lib.hid hb1
      have HA1 := Lib.hid ha1
      have HBW := Lib.hid hbw
      clear hb1 ha1 hbw
      cases b' with
      | nil =>
        clear hbs has_
        simp only [List.length_nil]
        go_wp2_with fail
        go_quiet (fail)
        go_wp2_with fail
        go_meet
        exact ⟨p, [], a', HB1.out, HA1.out, HBS.out.quiet _, HAS.out.quiet _, below_drewN HBW.out _⟩
      | cons x b'' =>
        obtain ⟨nb, hnb⟩ : ∃ n, n = b''.length := ⟨_, rfl⟩
        simp only [List.length_cons] at hbs HBS ⊢
        rw [← hnb] at hbs HBS
        try rw [← hnb]
        have HNB := Lib.hid hnb
        obtain ⟨ad, hA1, _, hcx⟩ := hbs.at_ (i := 0) (k := x) rfl
        subst hA1
        have e0 : ∀ a : Addr, a.add 0 = a := fun a => if_pos rfl
        rw [e0] at hcx
        clear hnb
        cases a' with
        | nil =>
          clear hbs has_
          simp only [List.length_nil]
          go_wp2_with fail
          go_quiet (fail)
          go_wp2_with fail
          go_meet
          exact ⟨p, x :: b'', [], HB1.out, HA1.out, HBS.out.quiet _, HAS.out.quiet _, below_drewN HBW.out _⟩
        | cons y a'' =>
          obtain ⟨na, hna⟩ : ∃ n, n = a''.length := ⟨_, rfl⟩
          simp only [List.length_cons] at has_ HAS ⊢
          rw [← hna] at has_ HAS
          try rw [← hna]
          have HNA := Lib.hid hna
          obtain ⟨ad2, hA2, _, hcy⟩ := has_.at_ (i := 0) (k := y) rfl
          subst hA2
          rw [e0] at hcy
          have l1 := HBS.out.len
          have l2 := HAS.out.len
          have HBT := Lib.hid HBS.out.tail
          have HAT := Lib.hid HAS.out.tail
          clear hna hbs has_
          by_cases hxy : x = y
          · subst hxy
            go_wp2_with fail
            go_quiet (fail)
            go_wp2_with fail
            try go_quiet (fail)
            try go_wp2_with fail
            have hbt := HBT.out
            have hat := HAT.out
            rw [HNB.out] at hbt
            rw [HNA.out] at hat
            go_roundw
            case rel => exact ⟨p ++ [x], b'', a'', by rw [HB1.out, List.append_assoc]; rfl, by rw [HA1.out, List.append_assoc]; rfl, (hbt.quiet _).quiet _, (hat.quiet _).quiet _, below_drewN (below_drewN HBW.out _) _⟩
            case measure => show b''.length < nb + 1; rw [HNB.out]; omega
          · have hxy2 : ((x : Int) == (y : Int)) = false := by rw [beq_eq_false_iff_ne]; omega
            go_wp2_with fail
            go_quiet (fail)
            go_wp2_with fail
            go_meet
            exact ⟨p, x :: b'', y :: a'', HB1.out, HA1.out, HBS.out.quiet _, HAS.out.quiet _, below_drewN HBW.out _⟩
  case rest =>
  obtain ⟨p, b1, a1, hb1, ha1, hbs1, has1, hbw1⟩ := hcut
  have HB1 := Lib.hid hb1
  have HA1 := Lib.hid ha1
  have HBS1 := Lib.hid hbs1
  have HAS1 := Lib.hid has1
  have HBW1 := Lib.hid hbw1
  obtain ⟨w1, hw1⟩ : ∃ w1 : World, w1 = wc := ⟨_, rfl⟩
  rw [← hw1] at HBS1 HAS1 HBW1 ⊢
  clear hb1 ha1 hbs1 has1 hbw1 hw1
  go_upto_block 2 with fail
  go_cut [2, 3] (fun b a wx => Ex2 w w.heap.size b1 a1 b a wx)
  case first =>
    go_wp2_with fail
    go_loopw [2, 3] (fun b a wr => Ex2 w w.heap.size b1 a1 b a wr) (fun b _ _ => lenV b)
    case atStart => exact ⟨[], b1, a1, (List.append_nil _).symm, (List.append_nil _).symm, HBS1.out, HAS1.out, HBW1.out⟩
    case round =>
      obtain ⟨s, b', a', hb1, ha1, hbs, has_, hbw⟩ := hrel
      obtain ⟨A1, c1, rfl, _⟩ := hbs.form
      obtain ⟨A2, c2, rfl, _⟩ := has_.form
      have HBS := Lib.hid hbs
      have HAS := Lib.hid has_
      have HB2 := Lib.hid hb1
      have HA2 := Lib.hid ha1
      have HBW := Lib.hid hbw
      clear hb1 ha1 hbw
      obtain ⟨nb, hnb⟩ : ∃ n, n = b'.length := ⟨_, rfl⟩
      obtain ⟨na, hna⟩ : ∃ n, n = a'.length := ⟨_, rfl⟩
      rw [← hnb] at hbs HBS ⊢
      rw [← hna] at has_ HAS ⊢
      have HNB := Lib.hid hnb
      have HNA := Lib.hid hna
      have l1 := HBS.out.len
      have l2 := HAS.out.len
      have hlongb := HBS.out.long
      have hlonga := HAS.out.long
      by_cases h0 : nb = 0
      · subst h0
        clear hbs has_ hna
        go_wp2_with fail
        go_quiet (fail)
        go_wp2_with fail
        go_meet
        exact ⟨s, b', a', HB2.out, HA2.out, HBS.out.quiet _, HAS.out.quiet _, below_drewN HBW.out _⟩
      · obtain ⟨mb, rfl⟩ : ∃ m, nb = m + 1 := ⟨nb - 1, by omega⟩
        clear h0
        by_cases h1 : na = 0
        · subst h1
          clear hbs has_ hnb l1 l2 hlongb hlonga
          go_wp2_with fail
          go_quiet (fail)
          go_wp2_with fail
          go_meet
          exact ⟨s, b', a', HB2.out, HA2.out, HBS.out.quiet _, HAS.out.quiet _, below_drewN HBW.out _⟩
        · obtain ⟨ma, rfl⟩ : ∃ m, na = m + 1 := ⟨na - 1, by omega⟩
          clear h1
          obtain ⟨x, hx⟩ : ∃ x, b'[mb]? = some x := ⟨_, List.getElem?_eq_getElem (by omega)⟩
          obtain ⟨y, hy⟩ : ∃ y, a'[ma]? = some y := ⟨_, List.getElem?_eq_getElem (by omega)⟩
          obtain ⟨ad, hA1, _, hcx⟩ := hbs.at_ hx
          subst hA1
          obtain ⟨ad2, hA2, _, hcy⟩ := has_.at_ hy
          subst hA2
          have HBT := Lib.hid (HBS.out.init (m := mb) (by omega))
          have HAT := Lib.hid (HAS.out.init (m := ma) (by omega))
          have hbl : b' = b'.take mb ++ [x] := by
            rw [← List.take_append_drop mb b', List.take_append_of_le_length (by rw [List.length_take]; omega), List.take_take, Nat.min_self]
            congr 1
            rw [List.drop_eq_getElem_cons (by omega), List.drop_of_length_le (by omega)]
            rw [List.getElem?_eq_getElem (by omega)] at hx
            injection hx with hx
            rw [hx]
          have hal : a' = a'.take ma ++ [y] := by
            rw [← List.take_append_drop ma a', List.take_append_of_le_length (by rw [List.length_take]; omega), List.take_take, Nat.min_self]
            congr 1
            rw [List.drop_eq_getElem_cons (by omega), List.drop_of_length_le (by omega)]
            rw [List.getElem?_eq_getElem (by omega)] at hy
            injection hy with hy
            rw [hy]
          have HBL := Lib.hid hbl
          have HAL := Lib.hid hal
          have hw3 : IntKind.i64.wrap (mb : Int) = (mb : Int) := by rw [IntKind.wrap_i64]; omega
          have hw4 : IntKind.i64.wrap (ma : Int) = (ma : Int) := by rw [IntKind.wrap_i64]; omega
          have hw5 : (mb : Int) < (mb : Int) + 1 := by omega
          have hw7 : (mb : Int) ≤ (c1 : Int) := by have := l1.2; omega
          have hw8 : (ma : Int) ≤ (c2 : Int) := by have := l2.2; omega
          have hw9 : mb ≤ c1 := by omega
          have hw10 : ma ≤ c2 := by omega
          have hw6 : (ma : Int) < (ma : Int) + 1 := by omega
          have hw1 : IntKind.i64.wrap ((mb : Int) + 1 - 1) = (mb : Int) := by rw [IntKind.wrap_i64]; omega
          have hw2 : IntKind.i64.wrap ((ma : Int) + 1 - 1) = (ma : Int) := by rw [IntKind.wrap_i64]; omega
          clear hbs has_ hnb hna hx hy hbl hal l1 l2
          by_cases hxy : x = y
          · subst hxy
            go_wp2_with fail
            go_quiet (fail)
            go_wp2_with fail
            try go_quiet (fail)
            try go_wp2_with fail
            go_roundw
            case rel => exact ⟨x :: s, b'.take mb, a'.take ma, (HB2.out.trans (congrArg (· ++ s) HBL.out)).trans (List.append_assoc _ _ _), (HA2.out.trans (congrArg (· ++ s) HAL.out)).trans (List.append_assoc _ _ _), (HBT.out.quiet _).quiet _, (HAT.out.quiet _).quiet _, below_drewN (below_drewN HBW.out _) _⟩
            case measure => show mb < mb + 1; omega
          · have hxy2 : ((x : Int) == (y : Int)) = false := by rw [beq_eq_false_iff_ne]; omega
            go_wp2_with fail
            go_quiet (fail)
            go_wp2_with fail
            go_meet
            exact ⟨s, b', a', HB2.out, HA2.out, HBS.out.quiet _, HAS.out.quiet _, below_drewN HBW.out _⟩
  case rest =>
  obtain ⟨s, b2, a2, hb2, ha2, hbs2, has2, hbw2⟩ := hcut
  obtain ⟨w2, hw2⟩ : ∃ w2 : World, w2 = wc := ⟨_, rfl⟩
  rw [← hw2] at hbs2 has2 hbw2 ⊢
  have hbl : bl = p ++ b2 ++ s := by rw [HB1.out, hb2, List.append_assoc]
  have hal : al = p ++ a2 ++ s := by rw [HA1.out, ha2, List.append_assoc]
  have hcnt : ∀ k, (p ++ b2 ++ s).count k ≤ C k id := by rw [← hbl]; exact HC.out
  have hcb : ∀ k, b2.count k ≤ C k id := fun k => by have := hcnt k; simp only [List.count_append] at this; omega
  have htr := exC_trim (a := a2) hcnt
  rw [← hbl, ← hal] at htr
  have hlens : b2.length ≤ bl.length ∧ a2.length ≤ al.length := by
    rw [hbl, hal]
    simp only [List.length_append]
    omega
  obtain ⟨A3, c3, rfl, _⟩ := hbs2.form
  obtain ⟨A4, c4, rfl, _⟩ := has2.form
  have HBS2 := Lib.hid hbs2
  have HAS2 := Lib.hid has2
  have HBW2 := Lib.hid hbw2
  have HCB := Lib.hid hcb
  have HTR := Lib.hid htr
  have HLN := Lib.hid hlens
  have HP2 := Lib.hid (HP.out.below hbw2)
  obtain ⟨nb, hnb⟩ : ∃ n, n = b2.length := ⟨_, rfl⟩
  obtain ⟨na, hna⟩ : ∃ n, n = a2.length := ⟨_, rfl⟩
  rw [← hnb] at HBS2 ⊢
  rw [← hna] at HAS2 ⊢
  have HNB := Lib.hid hnb
  have HNA := Lib.hid hna
  have hlongb : nb ≤ 1000000000 := by rw [hnb]; exact HBS2.out.long
  have hlonga : na ≤ 1000000000 := by rw [hna]; exact HAS2.out.long
  clear hb2 ha2 hbs2 has2 hbw2 hw2 hbl hal hcnt hcb htr hlens hnb hna
  go_upto_block 4 with fail
  go_cut [] (fun wx => ∃ F' : PF, ParC wx base gp F' (exC C id b2 []) (N + nb) ∧ Touch w2 wx (fun j => j = gp ∨ OwnsF F j) ∧ (∀ j, OwnsF F' j → OwnsF F j ∨ w2.heap.size ≤ j))
  case first =>
    go_wp2_with fail
    go_loopw [68] (fun i wr => Ex3 w2 base gp F N (fun k => exC C id (b2.take k) []) nb i wr) (fun i _ => nb - (intV i).toNat)
    case atStart => exact ⟨0, F, Nat.zero_le _, rfl, by show ParC w2 base gp F (exC C id (b2.take 0) []) (N + 0); rw [List.take_zero, exC_nil]; exact HP2.out, Touch.refl _ _, fun j h => .inl h⟩
    case round =>
      obtain ⟨k, F', hk, rfl, hPk, hT, hO⟩ := hrel
      have HT := Lib.hid hT
      have HO := Lib.hid hO
      have HPK := Lib.hid hPk
      by_cases hlt : k < nb
      · have hkl : k < b2.length := by rw [← HNB.out]; exact hlt
        obtain ⟨x, hx⟩ : ∃ x, b2[k]? = some x := ⟨_, List.getElem?_eq_getElem hkl⟩
        have hsl := HBS2.out.touch HP2.out.par hT
        obtain ⟨ad, hA3, _, hcx⟩ := hsl.at_ hx
        subst hA3
        have hxm := hsl.small x (List.mem_of_getElem? hx)
        have htk : b2.take (k + 1) = b2.take k ++ [x] := by rw [List.take_add_one, hx]; rfl
        have hcl : (b2.take k).count x < C x id := by
          have h1 := HCB.out x
          have h2 : (b2.take (k + 1)).count x ≤ b2.count x := List.Sublist.count_le x (List.take_sublist _ _)
          rw [htk, List.count_append, List.count_singleton_self] at h2
          omega
        have hpos : 0 < exC C id (b2.take k) [] x id := by
          unfold exC
          rw [if_pos rfl, List.count_nil]
          omega
        have hts := hT.size
        have hbs2 := HBW2.out.size
        have hln := HLN.out
        have hnbe := HNB.out
        have HAD := Lib.hid (add_any wr base gp F' _ (N + k) x id (-1) hPk hxm hid (.inr ⟨rfl, hpos⟩) (by omega) (by omega))
        rw [exC_less hcl, ← htk] at HAD
        clear hPk hT hO hx hsl htk hcl hpos hkl hxm hts hbs2 hln hnbe
        go_wp2_with (go_at_call 87; (with_reducible refine (HAD.out).mono ?_); rintro e w3 ⟨rfl, F3, hP3, hT3, hO3⟩)
        go_roundw
        case rel =>
          exact ⟨k + 1, F3, by omega, by go_num, hP3, HT.out.trans hT3 (fun j e => by
            rcases e with e | e
            · exact .inl (.inl e)
            · exact (HO.out j e).imp .inr (fun h => h)), fun j hj => by
            rcases hO3 j hj with e | e
            · exact HO.out j e
            · exact .inr (Nat.le_trans HT.out.size e)⟩
        case measure => simp [intV]; omega
      · obtain rfl : k = nb := by omega
        have hall : b2.take k = b2 := List.take_of_length_le (by rw [← HNB.out]; exact Nat.le_refl _)
        have hPk2 : ParC wr base gp F' (exC C id (b2.take k) []) (N + k) := hPk
        rw [hall] at hPk2
        have HPK := Lib.hid hPk2
        clear hPk hPk2 hT hO hall
        go_wp2_with fail
        go_meet
        exact ⟨F', HPK.out, HT.out, HO.out⟩
  case rest =>
  obtain ⟨F1, hP1, hT1, hO1⟩ := hcut
  obtain ⟨w3, hw3⟩ : ∃ w3 : World, w3 = wc := ⟨_, rfl⟩
  rw [← hw3] at hP1 hT1 ⊢
  have HP1 := Lib.hid hP1
  have HT1 := Lib.hid hT1
  have HO1 := Lib.hid hO1
  clear hP1 hT1 hO1 hw3
  go_wp2_with fail
  go_loopw [79] (fun i wr => Ex3 w2 base gp F (N + nb) (fun k => exC C id b2 (a2.take k)) na i wr) (fun i _ => na - (intV i).toNat)
  case atStart => exact ⟨0, F1, Nat.zero_le _, rfl, by show ParC w3 base gp F1 (exC C id b2 (a2.take 0)) (N + nb + 0); rw [List.take_zero]; exact HP1.out, HT1.out, HO1.out⟩
  case round =>
    obtain ⟨k, F', hk, rfl, hPk, hT, hO⟩ := hrel
    have HT := Lib.hid hT
    have HO := Lib.hid hO
    by_cases hlt : k < na
    · have hkl : k < a2.length := by rw [← HNA.out]; exact hlt
      obtain ⟨x, hx⟩ : ∃ x, a2[k]? = some x := ⟨_, List.getElem?_eq_getElem hkl⟩
      have hsl := HAS2.out.touch HP2.out.par hT
      obtain ⟨ad, hA3, _, hcx⟩ := hsl.at_ hx
      subst hA3
      have hxm := hsl.small x (List.mem_of_getElem? hx)
      have htk : a2.take (k + 1) = a2.take k ++ [x] := by rw [List.take_add_one, hx]; rfl
      have hts := hT.size
      have hbs2 := HBW2.out.size
      have hln := HLN.out
      have hnbe := HNB.out
      have hnae := HNA.out
      have HAD := Lib.hid (add_any wr base gp F' _ (N + nb + k) x id 1 hPk hxm hid (.inl rfl) (by omega) (by omega))
      rw [exC_more, ← htk] at HAD
      clear hPk hT hO hx hsl htk hkl hxm hts hbs2 hln hnbe hnae
      go_wp2_with (go_at_call 87; (with_reducible refine (HAD.out).mono ?_); rintro e w4 ⟨rfl, F3, hP3, hT3, hO3⟩)
      go_roundw
      case rel =>
        exact ⟨k + 1, F3, by omega, by go_num, hP3, HT.out.trans hT3 (fun j e => by
          rcases e with e | e
          · exact .inl (.inl e)
          · exact (HO.out j e).imp .inr (fun h => h)), fun j hj => by
          rcases hO3 j hj with e | e
          · exact HO.out j e
          · exact .inr (Nat.le_trans HT.out.size e)⟩
      case measure => simp [intV]; omega
    · obtain rfl : k = na := by omega
      have hall : a2.take k = a2 := List.take_of_length_le (by rw [← HNA.out]; exact Nat.le_refl _)
      have hPk2 : ParC wr base gp F' (exC C id b2 (a2.take k)) (N + nb + k) := hPk
      rw [hall, HTR.out] at hPk2
      have hln := HLN.out
      have hnbe := HNB.out
      have hnae := HNA.out
      have HPK := Lib.hid (hPk2.more (N' := N + bl.length + al.length) (by omega))
      clear hPk hPk2 hT hO hall hln hnbe hnae
      go_wp2_with fail
      go_end0
      exact ⟨rfl, F', HPK.out, (Touch.of_below HBW2.out (fun _ => False)).more (fun _ e => e.elim) |>.trans HT.out (fun j e => .inl e), fun j hj => (HO.out j hj).imp (fun h => h) fun h => Nat.le_trans HBW2.out.size h⟩
end Go.Proofs.YtecbaceinifjiaaGreatDoor
namespace Go.Proofs.YtecbaceinifjiaaGreatDoor
open Go.RowKit
set_option linter.unusedSimpArgs false
set_option linter.unusedVariables false
set_option maxRecDepth 100000
structure Nd where
  kind : Nat
  name : ByteArray
  num : Int
  typ : Nat
  ref : Nat
  kids : List Nat
def ndV (n : Nd) (kv : Value) : Value := .agg #[.int .u8 (n.kind : Int), .string n.name, .int .i64 n.num, .int .u8 (n.typ : Int), .int .u64 (n.ref : Int), kv]
def zeroNd : Nd := ⟨0, ⟨#[]⟩, 0, 0, 0, []⟩
structure NdOk (n : Nd) : Prop where
  kind : n.kind < 256
  name : n.name.size ≤ 9223372036854775807
  num : -9223372036854775808 ≤ n.num ∧ n.num ≤ 9223372036854775807
  typ : n.typ < 256
  ref : n.ref < 18446744073709551616
/-- A value that is a node. -/
def NodeV (w : World) (v : Value) (n : Nd) : Prop := (∃ A c, v = ndV n (.slice A n.kids.length c) ∧ IdSl w w.heap.size (.slice A n.kids.length c) n.kids) ∧ NdOk n
theorem NodeV.zero (w : World) : NodeV w (ndV zeroNd (.slice none 0 0)) zeroNd := ⟨⟨none, 0, rfl, IdSl.nil _ _⟩, ⟨by decide, by decide, by decide, by decide, by decide⟩⟩
theorem NodeV.keep {w w' : World} {v : Value} {n : Nd} (h : NodeV w v n) (hs : w.heap.size ≤ w'.heap.size) (hb : ∀ (j : Nat) (cs : Array Value) (z : Nat × Nat), w.heap[j]? = some (.cells cs 30 z) → w'.heap[j]? = w.heap[j]?) : NodeV w' v n := by
  obtain ⟨⟨A, c, e, h1⟩, h2⟩ := h
  exact ⟨⟨A, c, e, (h1.keep fun j cs z _ hj => hb j cs z hj).up hs⟩, h2⟩
theorem NodeV.below {w w' : World} {v : Value} {n : Nd} (h : NodeV w v n) (hb : Below w.heap.size w w') : NodeV w' v n := h.keep hb.size fun j cs z hj => hb.block j (lt_of_heap2 hj)
def cntOf (ns : List (Nat × Nd)) : Cnt := fun k i => match getL ns i with | some n => n.kids.count k | none => 0
def NodesV (w : World) (vs : List (Nat × Value)) (ns : List (Nat × Nd)) : Prop := ∀ k, match getL vs k, getL ns k with | some v, some n => NodeV w v n | none, none => True | _, _ => False
theorem NodesV.keep {w w' : World} {vs : List (Nat × Value)} {ns : List (Nat × Nd)} (h : NodesV w vs ns) (hs : w.heap.size ≤ w'.heap.size) (hb : ∀ (j : Nat) (cs : Array Value) (z : Nat × Nat), w.heap[j]? = some (.cells cs 30 z) → w'.heap[j]? = w.heap[j]?) : NodesV w' vs ns := fun k => by
  have h1 := h k
  revert h1
  cases getL vs k <;> cases getL ns k <;> intro h1
  · trivial
  · exact h1
  · exact h1
  · exact NodeV.keep h1 hs hb
theorem NodesV.get {w : World} {vs : List (Nat × Value)} {ns : List (Nat × Nd)} (h : NodesV w vs ns) (k : Nat) : ∃ A c, (getL vs k).getD (ndV zeroNd (.slice none 0 0)) = ndV ((getL ns k).getD zeroNd) (.slice A ((getL ns k).getD zeroNd).kids.length c) ∧ IdSl w w.heap.size (.slice A ((getL ns k).getD zeroNd).kids.length c) ((getL ns k).getD zeroNd).kids ∧ NdOk ((getL ns k).getD zeroNd) ∧ hasL vs k = hasL ns k := by
  have h1 := h k
  unfold hasL
  revert h1
  cases getL vs k <;> cases getL ns k <;> intro h1
  · obtain ⟨⟨A, c, e, h2⟩, h3⟩ := NodeV.zero w
    exact ⟨A, c, e, h2, h3, rfl⟩
  · exact h1.elim
  · exact h1.elim
  · obtain ⟨⟨A, c, e, h2⟩, h3⟩ := h1
    exact ⟨A, c, e, h2, h3, rfl⟩
theorem NodesV.put {w : World} {vs : List (Nat × Value)} {ns : List (Nat × Nd)} (h : NodesV w vs ns) (hv : Rise vs) (hn : Rise ns) (k : Nat) {v : Value} {n : Nd} (hk : NodeV w v n) : NodesV w (putL' vs k v) (putL' ns k n) := fun j => by
  rw [getL_put hv, getL_put hn]
  by_cases e : j = k
  · rw [if_pos e, if_pos e]; exact hk
  · rw [if_neg e, if_neg e]; exact h j
theorem NodesV.del {w : World} {vs : List (Nat × Value)} {ns : List (Nat × Nd)} (h : NodesV w vs ns) (k : Nat) : NodesV w (delL vs k) (delL ns k) := fun j => by
  rw [getL_del, getL_del]
  by_cases e : j = k
  · rw [if_pos e, if_pos e]; trivial
  · rw [if_neg e, if_neg e]; exact h j
/-- An arena: its nodes. -/
structure AR (w : World) (base ga gm gp : Nat) (F : PF) (vs : List (Nat × Value)) (ns : List (Nat × Nd)) (N : Nat) : Prop where
  st : w.heap[ga]? = some (.cells #[.map (some gm), .map (some gp)] 66 (0, 0))
  map : MapV w gm vs
  rise : Rise ns
  nodes : NodesV w vs ns
  par : ParC w base gp F (cntOf ns) N
  ne : gm ≠ gp
  o1 : base ≤ ga
  o2 : base ≤ gm
  o3 : base ≤ gp
  hb : base ≤ w.heap.size
/-- The blocks that an arena's calls may change. -/
def OwnA (gm gp : Nat) (F : PF) (j : Nat) : Prop := j = gm ∨ j = gp ∨ OwnsF F j
theorem MapV.obj {w : World} {b : Nat} {m : List (Nat × Value)} (h : MapV w b m) : ∃ es clock, w.heap[b]? = some (.map es clock) := by
  obtain ⟨es, clock, h1, _⟩ := h.own
  exact ⟨es, clock, h1⟩
/-- What an arena's calls change is a map, or a row of parents. -/
theorem AR.obj {w : World} {base ga gm gp N : Nat} {F : PF} {vs : List (Nat × Value)} {ns : List (Nat × Nd)} (h : AR w base ga gm gp F vs ns N) {j : Nat} (ho : OwnA gm gp F j) : (∃ es clock, w.heap[j]? = some (.map es clock)) ∨ ∃ cs, w.heap[j]? = some (.cells cs 137 (0, 0)) := by
  rcases ho with e | e | e
  · rw [e]; exact .inl h.map.obj
  · rw [e]; exact .inl h.par.par.map.obj
  · exact .inr (e.ty h.par.par)
theorem AR.low {w : World} {base ga gm gp N : Nat} {F : PF} {vs : List (Nat × Value)} {ns : List (Nat × Nd)} (h : AR w base ga gm gp F vs ns N) {j : Nat} (ho : OwnA gm gp F j) : base ≤ j := by
  rcases ho with e | e | e
  · rw [e]; exact h.o2
  · rw [e]; exact h.o3
  · exact (e.lt h.par.par).1
theorem AR.other {w w' : World} {base ga gm gp N : Nat} {F : PF} {vs : List (Nat × Value)} {ns : List (Nat × Nd)} (h : AR w base ga gm gp F vs ns N) (ht : Touch w w' (OwnA gm gp F)) {j : Nat} {cs : Array Value} {t : TypeId} {z : Nat × Nat} (hj : w.heap[j]? = some (.cells cs t z)) (hne : t ≠ 137) : w'.heap[j]? = some (.cells cs t z) := (ht.block j (lt_of_heap2 hj) fun e => by
  rcases h.obj e with ⟨es, clock, h1⟩ | ⟨cs', h1⟩
  · rw [h1] at hj; cases hj
  · rw [h1] at hj
    injection hj with hj
    injection hj with _ h2 _
    exact hne h2.symm).trans hj
/-- An arena stays while none of its blocks is changed. -/
theorem AR.keep {w w' : World} {base ga gm gp N : Nat} {F : PF} {vs : List (Nat × Value)} {ns : List (Nat × Nd)} {S : Nat → Prop} (h : AR w base ga gm gp F vs ns N) (ht : Touch w w' S) (hS : ∀ j, S j → j ≠ ga ∧ ¬ OwnA gm gp F j ∧ ∀ cs z, w.heap[j]? ≠ some (.cells cs 30 z)) : AR w' base ga gm gp F vs ns N :=
  ⟨(ht.block ga (lt_of_heap2 h.st) fun e => (hS _ e).1 rfl).trans h.st, h.map.at_ (ht.block gm h.map.lt fun e => (hS _ e).2.1 (.inl rfl)), h.rise,
    h.nodes.keep ht.size (fun j cs z hj => ht.block j (lt_of_heap2 hj) fun e => (hS _ e).2.2 cs z hj), ⟨h.par.par.touch ht (fun e => (hS _ e).2.1 (.inr (.inl rfl))) (fun j hj e => (hS _ e).2.1 (.inr (.inr hj))), h.par.cnt, h.par.rows, h.par.keys, h.par.few⟩, h.ne, h.o1, h.o2, h.o3, Nat.le_trans h.hb ht.size⟩
theorem AR.below {w w' : World} {base ga gm gp N : Nat} {F : PF} {vs : List (Nat × Value)} {ns : List (Nat × Nd)} (h : AR w base ga gm gp F vs ns N) (hb : Below w.heap.size w w') : AR w' base ga gm gp F vs ns N := h.keep (.of_below hb (fun _ => False)) fun _ e => e.elim
theorem exC_put {ns : List (Nat × Nd)} (hr : Rise ns) (id : Nat) (n : Nd) : exC (cntOf ns) id ((getL ns id).getD zeroNd).kids n.kids = cntOf (putL' ns id n) := by
  funext k i
  unfold exC cntOf
  rw [getL_put hr]
  by_cases e : i = id
  · rw [if_pos e, if_pos e, e]
    cases hg : getL ns id with
    | none => simp [zeroNd]
    | some m => simp
  · rw [if_neg e, if_neg e]
theorem exC_del {ns : List (Nat × Nd)} (id : Nat) : exC (cntOf ns) id ((getL ns id).getD zeroNd).kids [] = cntOf (delL ns id) := by
  funext k i
  unfold exC cntOf
  rw [getL_del]
  by_cases e : i = id
  · rw [if_pos e, if_pos e, e]
    cases hg : getL ns id with
    | none => simp [zeroNd]
    | some m => simp
  · rw [if_neg e, if_neg e]
theorem cnt_le {ns : List (Nat × Nd)} (id k : Nat) : ((getL ns id).getD zeroNd).kids.count k ≤ cntOf ns k id := by
  unfold cntOf
  cases getL ns id with
  | none => simp [zeroNd]
  | some m => simp
theorem zeroNode (w : World) : (zeroValue 44).run Tryz.prog w = .ok (ndV zeroNd (.slice none 0 0)) w := by kernel_rfl
end Go.Proofs.YtecbaceinifjiaaGreatDoor
