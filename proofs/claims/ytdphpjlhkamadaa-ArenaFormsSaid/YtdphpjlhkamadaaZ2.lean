/- AFind, ARow: joined by program (tools/merge.py). -/
import Derived.Test.YtdphpjlhkamadaaZ1
import Derived.Laws.CopyRow
import Derived.Lib.Overlaps
import Derived.Maps.AppendAt
namespace Go.Proofs.Ytdphpjlhkamadaa
open Go.RowKit
set_option linter.unusedSimpArgs false
set_option linter.unusedVariables false
set_option maxRecDepth 100000
section
variable {α : Type}
def posL : List (Nat × α) → Nat → Nat
  | [], _ => 0
  | p :: r, k => if p.1 < k then posL r k + 1 else 0
theorem posL_le : ∀ (m : List (Nat × α)) (k : Nat), posL m k ≤ m.length
  | [], _ => Nat.le_refl _
  | p :: r, k => by
    unfold posL
    have := posL_le r k
    rw [List.length_cons]
    split <;> omega
theorem posL_iff : ∀ {m : List (Nat × α)} (hr : Rise m) (k i : Nat) (p : Nat × α), m[i]? = some p → (p.1 < k ↔ i < posL m k)
  | [], _, _, _, _, h => by simp at h
  | q :: r, hr, k, 0, p, h => by
    simp at h
    subst h
    unfold posL
    by_cases h1 : q.1 < k
    · rw [if_pos h1]; exact ⟨fun _ => by omega, fun _ => h1⟩
    · rw [if_neg h1]; exact ⟨fun h => absurd h h1, fun h => by omega⟩
  | q :: r, hr, k, i + 1, p, h => by
    simp at h
    have h2 := posL_iff hr.tail k i p h
    unfold posL
    by_cases h1 : q.1 < k
    · rw [if_pos h1]; omega
    · rw [if_neg h1]
      have := hr.head p (List.mem_of_getElem? h)
      omega
theorem hasL_pos : ∀ {m : List (Nat × α)} (hr : Rise m) (k : Nat), hasL m k = match m[posL m k]? with | some p => decide (p.1 = k) | none => false
  | [], _, _ => rfl
  | q :: r, hr, k => by
    unfold hasL getL posL
    by_cases h1 : q.1 < k
    · rw [if_neg (by omega), if_pos h1]
      simp only [List.getElem?_cons_succ]
      exact hasL_pos hr.tail k
    · rw [if_neg h1]
      simp only [List.getElem?_cons_zero]
      by_cases h2 : q.1 = k
      · rw [if_pos h2, decide_eq_true h2]; rfl
      · rw [if_neg h2, decide_eq_false h2, getL_none (fun x hx => by have := hr.head x hx; omega)]; rfl
theorem getL_pos {m : List (Nat × α)} (hr : Rise m) {k : Nat} {v : α} (h : getL m k = some v) : m[posL m k]? = some (k, v) := by
  induction m with
  | nil => cases h
  | cons q r ih =>
    unfold getL at h
    unfold posL
    by_cases h2 : q.1 = k
    · rw [if_pos h2] at h
      injection h with h
      rw [if_neg (by omega), List.getElem?_cons_zero, ← h2, ← h]
    · rw [if_neg h2] at h
      have h3 := hr.head _ (getL_mem h)
      rw [if_pos (show q.1 < k from h3), List.getElem?_cons_succ]
      exact ih hr.tail h
theorem put_new : ∀ {m : List (Nat × α)} (hr : Rise m) (k : Nat) (v : α), hasL m k = false → putL' m k v = m.take (posL m k) ++ (k, v) :: m.drop (posL m k)
  | [], _, _, _, _ => rfl
  | q :: r, hr, k, v, h => by
    unfold hasL getL at h
    unfold putL' posL
    by_cases h2 : q.1 = k
    · rw [if_pos h2] at h; cases h
    · rw [if_neg h2] at h
      by_cases h1 : q.1 < k
      · rw [if_pos h1, if_pos h1, List.take_succ_cons, List.drop_succ_cons, put_new hr.tail k v h]
        rfl
      · rw [if_neg h1, if_neg h2, if_neg h1]
        rfl
theorem put_old : ∀ {m : List (Nat × α)} (hr : Rise m) (k : Nat) (v : α), hasL m k = true → putL' m k v = m.set (posL m k) (k, v)
  | [], _, _, _, h => by cases h
  | q :: r, hr, k, v, h => by
    unfold hasL getL at h
    unfold putL' posL
    by_cases h2 : q.1 = k
    · rw [if_neg (by omega), if_pos h2, if_neg (by omega)]
      rfl
    · rw [if_neg h2] at h
      have h3 : q.1 < k := by
        obtain ⟨u, hu⟩ := Option.isSome_iff_exists.1 h
        exact hr.head _ (getL_mem hu)
      rw [if_pos h3, if_pos h3, put_old hr.tail k v h]
      rfl
theorem del_old : ∀ {m : List (Nat × α)} (hr : Rise m) (k : Nat), hasL m k = true → delL m k = m.eraseIdx (posL m k)
  | [], _, _, h => by cases h
  | q :: r, hr, k, h => by
    unfold hasL getL at h
    rw [delL_cons]
    unfold posL
    by_cases h2 : q.1 = k
    · rw [if_pos h2, if_neg (by omega), List.eraseIdx_cons_zero]
      unfold delL
      exact List.filter_eq_self.2 fun x hx => decide_eq_true (by have := hr.head x hx; omega)
    · rw [if_neg h2] at h ⊢
      have h3 : q.1 < k := by
        obtain ⟨u, hu⟩ := Option.isSome_iff_exists.1 h
        exact hr.head _ (getL_mem hu)
      rw [if_pos h3, List.eraseIdx_cons_succ, del_old hr.tail k h]
end
/-- A row of parents. -/
def PLies (w : World) (B : Nat) (A : Option Addr) (l : List (Nat × Nat)) : Prop := ∀ (i : Nat) (p : Nat × Nat), l[i]? = some p → ∃ ad, A = some ad ∧ ad.block < B ∧ w.cell? (ad.add (i * 2)) = some (.int .u64 (p.1 : Int)) ∧ w.cell? (ad.add (i * 2 + 1)) = some (.int .i64 (p.2 : Int))
theorem PLies.below {w w' : World} {B : Nat} {A : Option Addr} {l : List (Nat × Nat)} (h : PLies w B A l) (hb : Below B w w') : PLies w' B A l := fun i p hp => by
  obtain ⟨ad, e, h1, h2, h3⟩ := h i p hp
  exact ⟨ad, e, h1, (hb.cell (by rw [addr_add_block]; exact h1)).trans h2, (hb.cell (by rw [addr_add_block]; exact h1)).trans h3⟩
theorem PLies.up {w : World} {B B' : Nat} {A : Option Addr} {l : List (Nat × Nat)} (h : PLies w B A l) (hB : B ≤ B') : PLies w B' A l := fun i p hp => by
  obtain ⟨ad, e, h1, h2, h3⟩ := h i p hp
  exact ⟨ad, e, by omega, h2, h3⟩
theorem addr_in (ad : Addr) (m j : Nat) (hj : j ≠ 0) : (⟨(ad.add m).block, (ad.add m).off + j, none⟩ : Addr) = ad.add (m + j) := ((if_neg hj).symm : _ = (ad.add m).add j).trans (addr_add_add ad m j)
def FindI (w : World) (n pos : Nat) (i j : Value) (wr : World) : Prop := ∃ a b : Nat, a ≤ pos ∧ pos ≤ b ∧ b ≤ n ∧ i = .int .i64 (a : Int) ∧ j = .int .i64 (b : Int) ∧ Below w.heap.size w wr
def intV : Value → Int
  | .int _ x => x
  | _ => 0
set_option maxHeartbeats 4000000 in
theorem find_any (w : World) (A : Option Addr) (n c : Nat) (l : List (Nat × Nat)) (k : Nat) (hl : PLies w w.heap.size A l) (hn : l.length = n) (hr : Rise l) (hn2 : n ≤ 1000000000) :
    Calls Try.prog 84 #[.slice A n c, .int .u64 (k : Int), .func (.func 85) #[] #[]] w fun e w' => e = .returned (.tuple #[.int .i64 ((posL l k : Nat) : Int), .bool (hasL l k)]) ∧ Below w.heap.size w w' := by
  go_enter Try.func84, Try.ntmps84
  go_wp2_with fail
  go_loopw [9, 10] (fun i j wr => FindI w n (posL l k) i j wr) (fun i j _ => (intV j - intV i).toNat)
  case atStart => exact ⟨0, n, Nat.zero_le _, by rw [← hn]; exact posL_le l k, Nat.le_refl _, rfl, rfl, Below.refl _ _⟩
  case round =>
    obtain ⟨a, b, ha, hb, hbn, rfl, rfl, hB⟩ := hrel
    by_cases hlt : a < b
    · obtain ⟨h, hh⟩ : ∃ h, h = (a + b) / 2 := ⟨_, rfl⟩
      have hhb : a ≤ h ∧ h < b := by omega
      obtain ⟨p, hp⟩ : ∃ p, l[h]? = some p := ⟨_, List.getElem?_eq_getElem (by omega)⟩
      obtain ⟨ad, hA, hbk, c0, c1⟩ := hl h p hp
      subst hA
      have q0 : wr.cell? (ad.add (h * 2)) = some (.int .u64 (p.1 : Int)) := (hB.cell (by rw [addr_add_block]; exact hbk)).trans c0
      have q1 : wr.cell? ⟨(ad.add (h * 2)).block, (ad.add (h * 2)).off + 1, none⟩ = some (.int .i64 (p.2 : Int)) := by
        rw [addr_in _ _ _ (by decide)]
        exact (hB.cell (by rw [addr_add_block]; exact hbk)).trans c1
      obtain ⟨p1, p2⟩ := p
      dsimp only at q0 q1
      have hiff := posL_iff hr k h _ hp
      have hcmp : (cmpN p1 k < 0) ↔ h < posL l k := by
        rw [← hiff]
        show cmpN p1 k < 0 ↔ p1 < k
        unfold cmpN
        split
        · rename_i h1; exact ⟨fun _ => h1, fun _ => by omega⟩
        · rename_i h1
          refine ⟨fun h2 => ?_, fun h2 => absurd h2 h1⟩
          split at h2 <;> omega
      have HCL : Hid (∀ y, Calls Try.prog 85 #[.agg #[.int .u64 (p1 : Int), .int .i64 (p2 : Int)], .int .u64 (k : Int)] y fun e w' => e = .returned (.int .i64 (cmpN p1 k)) ∧ Below y.heap.size y w') := Lib.hid fun y => closure_any y p1 p2 k
      have HB := Lib.hid hB
      have HH := Lib.hid hh
      have hh2 : ((a : Int) + (b : Int)) / 2 = (h : Int) := by omega
      have HH2 := Lib.hid hh2
      rw [hh] at q0 q1
      obtain ⟨r, hr2⟩ : ∃ r, r = cmpN p1 k := ⟨_, rfl⟩
      rw [← hr2] at HCL hcmp
      clear hB hh hh2 hiff hp hr2 c0 c1
      by_cases hr0 : r < 0
      · have HQ := Lib.hid (hcmp.1 hr0)
        clear hcmp
        go_wp2_with (go_at_call 85; (with_reducible refine (HCL.out _).mono ?_); rintro e w1 ⟨rfl, hb1⟩)
        go_roundw
        case rel => exact ⟨h + 1, b, HQ.out, hb, hbn, by rw [HH2.out]; rfl, rfl, HB.out.trans (hb1.mono HB.out.size)⟩
        case measure => simp [intV]; omega
      · have HQ : Hid (¬ h < posL l k) := Lib.hid fun h2 => hr0 (hcmp.2 h2)
        clear hcmp
        go_wp2_with (go_at_call 85; (with_reducible refine (HCL.out _).mono ?_); rintro e w1 ⟨rfl, hb1⟩)
        go_roundw
        case rel => exact ⟨a, h, ha, Nat.not_lt.1 HQ.out, by omega, rfl, by rw [HH2.out], HB.out.trans (hb1.mono HB.out.size)⟩
        case measure => simp [intV]; omega
    · obtain rfl : a = b := by omega
      obtain rfl : a = posL l k := by omega
      have HB := Lib.hid hB
      have hhas := hasL_pos hr k
      obtain ⟨q, hq⟩ : ∃ q, q = posL l k := ⟨_, rfl⟩
      rw [← hq] at hhas
      try rw [← hq]
      by_cases hlt2 : q < n
      · obtain ⟨p, hp⟩ : ∃ p, l[q]? = some p := ⟨_, List.getElem?_eq_getElem (by omega)⟩
        obtain ⟨ad, hA, hbk, c0, c1⟩ := hl q p hp
        subst hA
        have q0 : wr.cell? (ad.add (q * 2)) = some (.int .u64 (p.1 : Int)) := (hB.cell (by rw [addr_add_block]; exact hbk)).trans c0
        have q1 : wr.cell? ⟨(ad.add (q * 2)).block, (ad.add (q * 2)).off + 1, none⟩ = some (.int .i64 (p.2 : Int)) := by
          rw [addr_in _ _ _ (by decide)]
          exact (hB.cell (by rw [addr_add_block]; exact hbk)).trans c1
        obtain ⟨p1, p2⟩ := p
        dsimp only at q0 q1
        rw [hp] at hhas
        have hhas2 : hasL l k = (cmpN p1 k == 0) := by
          rw [hhas]
          show decide (p1 = k) = _
          unfold cmpN
          rcases Nat.lt_trichotomy p1 k with h | h | h
          · rw [decide_eq_false (by omega), if_pos h]; rfl
          · rw [decide_eq_true h, if_neg (by omega), if_neg (by omega)]; rfl
          · rw [decide_eq_false (by omega), if_neg (by omega), if_pos h]; rfl
        have HCL : Hid (∀ y, Calls Try.prog 85 #[.agg #[.int .u64 (p1 : Int), .int .i64 (p2 : Int)], .int .u64 (k : Int)] y fun e w' => e = .returned (.int .i64 (cmpN p1 k)) ∧ Below y.heap.size y w') := Lib.hid fun y => closure_any y p1 p2 k
        obtain ⟨r, hr2⟩ : ∃ r, r = cmpN p1 k := ⟨_, rfl⟩
        rw [← hr2] at HCL hhas2
        have HHAS := Lib.hid hhas2
        have HQQ := Lib.hid hq
        clear hB hhas hhas2 hp hr2 c0 c1 hq hlt
        go_wp2_with (go_at_call 85; (with_reducible refine (HCL.out _).mono ?_); rintro e w1 ⟨rfl, hb1⟩)
        go_ret2
        have hfin : Ending.returned (.tuple #[.int .i64 (q : Int), .bool (r == 0)]) = .returned (.tuple #[.int .i64 ((posL l k : Nat) : Int), .bool (hasL l k)]) := by rw [HHAS.out, ← HQQ.out]
        exact ⟨hfin, HB.out.trans (hb1.mono HB.out.size)⟩
      · rw [List.getElem?_eq_none (by omega)] at hhas
        have HHAS := Lib.hid hhas
        have HQQ := Lib.hid hq
        clear hB hhas hq hlt
        go_wp2_with fail
        go_ret2
        have hfin : Ending.returned (.tuple #[.int .i64 (q : Int), .bool false]) = .returned (.tuple #[.int .i64 ((posL l k : Nat) : Int), .bool (hasL l k)]) := by rw [HHAS.out, ← HQQ.out]
        exact ⟨hfin, HB.out⟩
end Go.Proofs.Ytdphpjlhkamadaa
namespace Go.Proofs.Ytdphpjlhkamadaa
open Go.RowKit
set_option linter.unusedSimpArgs false
set_option linter.unusedVariables false
set_option maxRecDepth 100000
def prow (l : List (Nat × Nat)) : List Value := l.flatMap fun p => [Value.int .u64 (p.1 : Int), Value.int .i64 (p.2 : Int)]
theorem prow_nil : prow [] = [] := rfl
theorem prow_cons (p : Nat × Nat) (l : List (Nat × Nat)) : prow (p :: l) = Value.int .u64 (p.1 : Int) :: Value.int .i64 (p.2 : Int) :: prow l := rfl
theorem prow_append (l m : List (Nat × Nat)) : prow (l ++ m) = prow l ++ prow m := by unfold prow; rw [List.flatMap_append]
theorem prow_length : ∀ l : List (Nat × Nat), (prow l).length = l.length * 2
  | [] => rfl
  | p :: l => by rw [prow_cons, List.length_cons, List.length_cons, prow_length l, List.length_cons]; omega
theorem prow_take : ∀ (l : List (Nat × Nat)) (k : Nat), (prow l).take (k * 2) = prow (l.take k)
  | [], k => by simp [prow_nil]
  | p :: l, 0 => by simp [prow_nil]
  | p :: l, k + 1 => by rw [prow_cons, show (k + 1) * 2 = k * 2 + 2 by omega, List.take_succ_cons, List.take_succ_cons, prow_take l k, List.take_succ_cons, prow_cons]
theorem prow_drop : ∀ (l : List (Nat × Nat)) (k : Nat), (prow l).drop (k * 2) = prow (l.drop k)
  | [], k => by simp [prow_nil]
  | p :: l, 0 => by simp
  | p :: l, k + 1 => by rw [prow_cons, show (k + 1) * 2 = k * 2 + 2 by omega, List.drop_succ_cons, List.drop_succ_cons, prow_drop l k, List.drop_succ_cons]
theorem prow_one {l : List (Nat × Nat)} : ∀ v ∈ prow l, v.oneCell' = true := fun v hv => by
  unfold prow at hv
  obtain ⟨p, _, hp⟩ := List.mem_flatMap.1 hv
  simp at hp
  rcases hp with rfl | rfl <;> rfl
theorem prow_at : ∀ {l : List (Nat × Nat)} {i : Nat} {p : Nat × Nat}, l[i]? = some p → (prow l)[i * 2]? = some (Value.int .u64 (p.1 : Int)) ∧ (prow l)[i * 2 + 1]? = some (Value.int .i64 (p.2 : Int))
  | [], i, p, h => by simp at h
  | q :: l, 0, p, h => by simp at h; subst h; exact ⟨rfl, rfl⟩
  | q :: l, i + 1, p, h => by
    have h2 := prow_at (l := l) (i := i) (p := p) (by simpa using h)
    rw [prow_cons, show (i + 1) * 2 = i * 2 + 2 by omega]
    exact h2
theorem infoPar : (Try.prog.info? 129).map (fun i => (i.zero, i.size, i.bytes)) = some (some (.agg #[.int .u64 0, .int .i64 0]), 2, 16) := by kernel_rfl
/-- A row of parents of one's own. -/
def POwn (w : World) (base : Nat) (v : Value) (l : List (Nat × Nat)) : Prop := w.ownsRow base 129 2 v l.length (prow l)
theorem POwn.nil (w : World) (base : Nat) : POwn w base (.slice none 0 0) [] := World.ownsRow_nil _ _ _ _
theorem POwn.form {w : World} {base : Nat} {v : Value} {l : List (Nat × Nat)} (h : POwn w base v l) : ∃ A c, v = .slice A l.length c := by
  rcases h.2 with ⟨rfl, h0⟩ | ⟨g, cap, cur, rfl, _⟩
  · exact ⟨_, _, by rw [h0]⟩
  · exact ⟨_, _, rfl⟩
theorem POwn.block {w : World} {base : Nat} {v : Value} {l : List (Nat × Nat)} (h : POwn w base v l) {g : Nat} (hg : v.ownBlock = some g) : base ≤ g ∧ g < w.heap.size := World.ownsRow.lt h g hg
theorem POwn.at_ {w w' : World} {base : Nat} {v : Value} {l : List (Nat × Nat)} (h : POwn w base v l) (hk : ∀ g, v.ownBlock = some g → w'.heap[g]? = w.heap[g]?) : POwn w' base v l := by
  refine ⟨h.1, ?_⟩
  rcases h.2 with h0 | ⟨g, cap, cur, rfl, h1, h2, h3⟩
  · exact .inl h0
  · exact .inr ⟨g, cap, cur, rfl, h1, (hk g rfl).trans h2, h3⟩
theorem POwn.lies {w : World} {base n c : Nat} {A : Option Addr} {l : List (Nat × Nat)} (h : POwn w base (.slice A n c) l) : PLies w w.heap.size A l := fun i p hp => by
  obtain ⟨h1, h2⟩ := prow_at hp
  rcases h.2 with ⟨h0, _⟩ | ⟨g, cap, cur, e, h3, h4, _⟩
  · injection h0 with hA hn0 _
    obtain ⟨A', c', e⟩ := POwn.form h
    injection e with _ e2 _
    have hn : l = [] := List.eq_nil_of_length_eq_zero (by omega)
    rw [hn] at hp
    cases hp
  · injection e with hA _ _
    subst hA
    exact ⟨_, rfl, (Array.getElem?_eq_some_iff.1 h4).1, World.ownsRow.cells h (g := g) rfl _ _ h1, World.ownsRow.cells h (g := g) rfl _ _ h2⟩
theorem run_copy2 (w : World) (ty : TypeId) (g o dLen dCap : Nat) (ad : Addr) (sLen sCap : Nat) (cur : Array Value) (cs : List Value)
    (hg : w.heap[g]? = some (.cells cur 129 (0, 0))) (hn : cs.length = Nat.min sLen dLen * 2) (hsrc : ∀ (j : Nat) (v : Value), cs[j]? = some v → w.cell? (ad.add j) = some v) (hfit : o + cs.length ≤ cur.size) (h1 : ∀ v ∈ cs, v.oneCell' = true) :
    (Builtin.copy_ #[127, 127] ty #[.slice (some ⟨g, o, none⟩) dLen dCap, .slice (some ad) sLen sCap]).run Try.prog w =
      .ok (goInt (Nat.min sLen dLen)) (w.setRow g (cur.toList.take o ++ cs ++ cur.toList.drop (o + cs.length)).toArray) := by
  have hl := run_loadCells_list (P := Try.prog) w ad cs hsrc
  have hst := run_storeCells_at Try.prog g o 129 cs 0 cur w hg (by simpa using hfit) h1
  obtain ⟨i, hi, _, hs, _⟩ := info_parts infoPar
  simp [Builtin.copy_, run_underlying Try.underlying127, Builtin.lenOf, Builtin.firstCells, sizeOf, typeInfo, hi, hs, ← hn, hl, hst]
section
variable {P : Program} {ops : Array Oper} {rest : List Oper} {o : Oper} {a : Act} {Q : Exit → Act → World → Prop}
theorem wpList_copy_r (w : World) (hgd : o.guard = none) (d s : Operand) (t t' : TypeId) (ho : o.op = .call { callee := .builtin .copy, args := #[d, s], argTypes := #[t, t'] }) (v u : Value) (hd : a.eval d = v) (hs : a.eval s = u) {v' : Value} {w' : World}
    (hr : (Builtin.copy_ #[t, t'] o.type #[v, u]).run P w = .ok v' w') (h : wpList P ops Q rest (a.put o.dst v') w') : wpList P ops Q (o :: rest) a w := by
  refine wpList_plain hgd fun _ hK => ?_
  unfold Oper.wp execOp
  simp only [ho, resolve, invoke, builtin, Sem.run_bind, Sem.run_pure, Result.andThen_ok, List.map_toArray, List.map_cons, List.map_nil, hd, hs, hr]
  exact hK _ _ h
theorem step_copy_r {w : World} {K : Act → World → Prop} {E : Prop} (hg : o.guard = none) (d x : Operand) (dT sT : TypeId) (hop : o.op = Op.call { callee := Callee.builtin Builtin.copy, args := #[d, x], argTypes := #[dT, sT] })
    (v u : Value) (hd : a.eval d = v) (hx : a.eval x = u) {v' : Value} {w' : World} (hr : (Builtin.copy_ #[dT, sT] o.type #[v, u]).run P w = .ok v' w') (hK : K (a.put o.dst v') w') :
    if Region.wanted o (yielded ops a.tmps) = true then Oper.wp P o a w K Q else E := by
  have hw : Region.wanted o (yielded ops a.tmps) = true := by simp [Region.wanted, hg]
  rw [if_pos hw]
  unfold Oper.wp
  simp [execOp, hop, resolve, invoke, builtin, hd, hx, hr, Result.andThen]
  exact hK
end
end Go.Proofs.Ytdphpjlhkamadaa
