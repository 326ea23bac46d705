/- ARangeR, AWalk: joined by program (tools/merge.py). -/
import Derived.RangeFuncOwn
import Derived.RangeFuncBox
import Derived.RangeFuncCalls
import Derived.RangeFuncWrites
import Derived.RangeFuncNested
import Derived.Test.YtdphpjlhkamadaaZ12
import Derived.Stop.RegionWithIn
import Derived.Test.YtdphpjlhkamadaaAFindW
namespace Go.Proofs.Ytdphpjlhkamadaa
open Go.RowKit Go.Shelf
set_option linter.unusedSimpArgs false
set_option linter.unusedVariables false
/-- What such an iterator owes: at each yield 'Ok' holds of what it hands over. -/
def SeqTells {α : Type} (n : Nat) (P : Program) (g : Nat) (lb : Array Value) (encs : α → Array Value) (Ok : List α → α → World → Prop) (Kp : World → World → Prop) (S Sp : List α → Prop) (N : Nat) (w : World) : Prop :=
  ∀ (l : Nat) (J Jx : List α → World → Prop) (W : World), Below w.heap.size w W → AbidesFrom W.heap.size J → AbidesFrom W.heap.size Jx →
    (∀ pre x W1, J pre W1 → Ok pre x W1 → pre.length < N → YieldAt Fence.wide (n - 1) P l (encs x) W1 fun e W' =>
      (e = .returned (.bool true) ∧ J (pre ++ [x]) W' ∧ Kp W1 W') ∨ (e = .returned (.bool false) ∧ Jx (pre ++ [x]) W')) →
    J [] W →
    CallsIn Fence.wide n P g (#[.func (.yield l) #[] #[]] ++ lb) W fun e W' => (∃ v, e = .returned v) ∧ ((∃ xs, S xs ∧ J xs W') ∨ (∃ pre, Sp pre ∧ Jx pre W'))
section
variable {P : Program}
theorem range_tells {α : Type} {ps : Array Tmp} {g : Operand} {assign body : Code} {Q : Exit → Act → World → Prop} {T : Array Value} {ds : List Deferred} {w : World} {m : Nat} (h1 : 1 ≤ m) (gf : Nat) (lb : Array Value) (hg : ({ tmps := T, defers := ds } : Act).eval g = .func (.func gf) #[] lb)
    (eg : ∀ args w, (callFunc gf args).run P w = .ok (.enter gf args) w) {encs : α → Array Value} {Ok : List α → α → World → Prop} {Kp : World → World → Prop} {S Sp : List α → Prop} {N : Nat} (hseq : SeqTells (m - 1) P gf lb encs Ok Kp S Sp N w)
    (hps : ∀ x, (encs x).size = ps.size) (hKt : ∀ {A B C : World}, Kp A B → Kp B C → Kp A C) (hKb : ∀ (W : World) (l : Nat) (o' : Obj), w.heap.size ≤ l → Kp W (W.putObj l o'))
    (I : List α → World → Prop) (Ix : Code → List α → World → Prop) (hI : OwnFrom w.heap.size I) (hIx : ∀ c, OwnFrom w.heap.size (Ix c)) (h0 : I [] w) (Ax : Array Value → List α → α → Act → World → Prop) (hAx : ∀ pre x a', OwnFrom w.heap.size (fun (_ : Unit) W => Ax T pre x a' W))
    (hassign : ∀ (l : Nat) (pre : List α) (x : α) (W : World) (K : Act → World → Prop), I pre W → Ok pre x W → (∀ a' W', KeepsFrom w.heap.size W W' → Kp W W' → I pre W' → Ax T pre x a' W' → K a' W') →
      assign.wpIn (Fence.wide.inRound l) (m - 1 - 1) P (Exit.then K (fun _ _ _ => False)) { tmps := (ps.zip (encs x)).foldl (fun t (p, v) => t.setIfInBounds p v) T, defers := [] } W)
    (hbody : ∀ (l : Nat) (pre : List α) (x : α) (a' : Act) (W : World), w.heap.size ≤ l → I pre W → Ax T pre x a' W → pre.length < N → body.wpIn (Fence.wide.inRound l) (m - 1 - 1) P (ownPostG w.heap.size Kp I Ix (pre ++ [x]) W) a' W)
    (hdone : ∀ (D : Nat) (xs : List α) (W : World), w.heap.size ≤ D → S xs → I xs W → W.heap[D]? = some (.deferred (some [])) → Q .normal { tmps := T, defers := { target := .collected D, args := #[] } :: ds } W)
    (hstop : ∀ (D : Nat) (c : Code) (pre : List α) (W : World), w.heap.size ≤ D → Sp pre → Ix c pre W → W.heap[D]? = some (.deferred (some [])) → c.wpIn Fence.wide m P Q { tmps := T, defers := { target := .collected D, args := #[] } :: ds } W) :
    (Code.rangeFunc g ps assign body).wpIn Fence.wide m P Q { tmps := T, defers := ds } w := by
  refine wpIn_rangeFunc fun fn hfn => ?_
  rw [show Fence.wide.round = none from rfl]
  obtain ⟨D, hD⟩ : ∃ D, D = w.heap.size := ⟨_, rfl⟩
  obtain ⟨L, hL⟩ : ∃ L, L = w.heap.size + 1 := ⟨_, rfl⟩
  obtain ⟨rec, hrec⟩ : ∃ rec : LoopState → Option Code → Loop, rec = fun st pe => { state := st, pending := pe, fn, tmps := T, params := ps, assign, body, defers := D } := ⟨_, rfl⟩
  obtain ⟨W1, hW1⟩ : ∃ W1, W1 = (w.alloc (.deferred (some []))).alloc (.loop (rec .ready none)) := ⟨_, rfl⟩
  -- the book-keeping of the loop: its record and the block of its mark
  let Bk : Option (Option Code) → World → Prop := fun c W => W.heap[L]? = some (.loop (match c with | none => rec .ready none | some c => rec .done c)) ∧ W.heap[D]? = some (.deferred (some []))
  have hB1 : Bk none W1 := by
    refine ⟨?_, ?_⟩
    · rw [hW1, hL]
      have := World.alloc_heap_new (w.alloc (.deferred (some []))) (.loop (rec .ready none))
      rwa [World.size_alloc] at this
    · rw [hW1, hD]
      exact (Below.heap_alloc _ _ _ (by simp)).trans (World.alloc_heap_new w _)
  have hI1 : I [] W1 := by rw [hW1]; exact hI.alloc _ (hI.alloc _ h0)
  have hbl : Below w.heap.size w W1 := by rw [hW1]; exact ((Below.refl _ w).alloc (Nat.le_refl _) _).alloc (by simp) _
  have hsz : W1.heap.size = w.heap.size + 2 := by rw [hW1]; simp
  have hrow : ∀ {A : World} {row : Option Nat}, (∀ r, row = some r → W1.heap.size ≤ r ∧ ∃ o : Obj, A.heap[r]? = some o ∧ o.isWalk = true) → ∀ r, row = some r → w.heap.size ≤ r ∧ ∃ o : Obj, A.heap[r]? = some o ∧ o.isCells = false := fun h r e => by
    obtain ⟨h2, o, ho, hw⟩ := h r e
    exact ⟨by omega, o, ho, Obj.not_cells_of_walk hw⟩
  have hBk : ∀ {c : Option (Option Code)} {A B : World} {row : Option Nat}, Bk c A → A.grownBy B row → (∀ r, row = some r → W1.heap.size ≤ r ∧ ∃ o : Obj, A.heap[r]? = some o ∧ o.isWalk = true) → Bk c B := fun h hg hr =>
    ⟨(grownBy_keeps hg (fun r e => (hr r e).2) h.1 rfl).trans h.1, (grownBy_keeps hg (fun r e => (hr r e).2) h.2 rfl).trans h.2⟩
  refine ⟨L, [{ target := .collected D, args := #[] }], W1, { target := .fn (.func gf) lb, args := #[.func (.yield L) #[] #[]] }, W1, gf, #[.func (.yield L) #[] #[]] ++ lb, W1, ?_, ?_, ?_, ?_, fun _ => h1, ?_⟩
  · rw [hW1, hrec, hL, hD]; exact run_enterLoop_outer _ _ _ _ _
  · simp only [resolve, hg]; simp [go_sem]
  · intro f' _; trivial
  · simp [invoke, go_sem, eg]
  refine (hseq L (fun pre W => I pre W ∧ Bk none W) (fun pre W => ∃ c, Ix c pre W ∧ Bk (some (some c)) W) W1 hbl (fun s A B row hs hg' hr => ⟨hI s A B row hs.1 hg' (hrow hr), hBk (c := none) hs.2 hg' hr⟩)
    (fun s A B row hs hg' hr => by obtain ⟨c, hc, hk⟩ := hs; exact ⟨c, hIx c s A B row hc hg' (hrow hr), hBk (c := some (some c)) hk hg' hr⟩) ?_ ⟨hI1, hB1⟩).mono ?_
  · rintro pre x W ⟨hi, hb⟩ hok hlen
    have hy := run_yield (P := P) (args := encs x) hb.1 (by simp only [hrec]; exact hps x)
    simp only [hrec] at hy
    refine ⟨fn, _, assign, body, hy, roundIn_of_wpIn hfn (hassign _ pre x W _ hi hok ?_)⟩
    intro a' W' k1 k2 k3 k4
    have b1 := k1.same _ _ (by omega) hb.1 rfl
    have b2 := k1.same _ _ (by omega) hb.2 rfl
    have blt : L < W'.heap.size := (Array.getElem?_eq_some_iff.1 b1).1
    refine ⟨_, run_beginRound b1 (by simp only [hrec]), ?_⟩
    obtain ⟨Wb, hWb⟩ : ∃ Wb, Wb = W'.putObj L (.loop { rec .ready none with state := .busy }) := ⟨_, rfl⟩
    have c1 : Wb.heap[L]? = some (.loop { rec .ready none with state := .busy }) := by rw [hWb]; exact World.putObj_heap_same blt
    have c2 : Wb.heap[D]? = some (.deferred (some [])) := by rw [hWb]; exact (World.putObj_heap_other (by omega)).trans b2
    have hKp : Kp W Wb := by rw [hWb]; exact hKt k2 (hKb _ _ _ (by omega))
    have hIb : I pre Wb := by rw [hWb]; exact hI.putObj _ k3 (by omega) b1 rfl
    have hAb : Ax T pre x a' Wb := by rw [hWb]; exact (hAx pre x a').putObj (s := ()) _ k4 (by omega) b1 rfl
    show body.wpIn _ _ _ _ a' (W'.putObj L (.loop { rec .ready none with state := .busy }))
    rw [← hWb]
    refine wpIn_mono (hbody _ pre x a' Wb (by omega) hIb hAb hlen) ?_
    have fin : ∀ (j : Option Code) (W3 : World), KeepsFrom w.heap.size Wb W3 → (Instr.endRound L j).run P W3 = .ok (.bool j.isNone) (W3.putObj L (.loop (rec (if j.isNone then .ready else .done) j))) ∧ (∃ r, W3.heap[L]? = some (.loop r)) ∧
        (W3.putObj L (.loop (rec (if j.isNone then .ready else .done) j))).heap[L]? = some (.loop (rec (if j.isNone then .ready else .done) j)) ∧ (W3.putObj L (.loop (rec (if j.isNone then .ready else .done) j))).heap[D]? = some (.deferred (some [])) := fun j W3 k => by
      have d1 := k.same _ _ (by omega) c1 rfl
      have d2 := k.same _ _ (by omega) c2 rfl
      have d3 := run_endRound (P := P) j d1
      simp only [hrec] at d3 ⊢
      exact ⟨d3, ⟨_, d1⟩, World.putObj_heap_same (Array.getElem?_eq_some_iff.1 d1).1, (World.putObj_heap_other (by omega)).trans d2⟩
    rintro e a3 W3 hp
    cases e with
    | normal =>
      obtain ⟨p1, p2, p3⟩ := hp
      obtain ⟨f1, ⟨r, f2⟩, f3, f4⟩ := fin none W3 p1
      exact ⟨_, _, f1, .inl ⟨rfl, ⟨hI.putObj _ p3 (by omega) f2 rfl, f3, f4⟩, hKt (hKt hKp p2) (hKb _ _ _ (by omega))⟩⟩
    | ret =>
      obtain ⟨f1, ⟨r, f2⟩, f3, f4⟩ := fin (some .ret) W3 hp.1
      exact ⟨_, _, f1, .inr ⟨rfl, .ret, (hIx _).putObj _ hp.2 (by omega) f2 rfl, f3, f4⟩⟩
    | exit id =>
      obtain ⟨f1, ⟨r, f2⟩, f3, f4⟩ := fin (some (.exit id)) W3 hp.1
      exact ⟨_, _, f1, .inr ⟨rfl, .exit id, (hIx _).putObj _ hp.2 (by omega) f2 rfl, f3, f4⟩⟩
    | goto t =>
      obtain ⟨f1, ⟨r, f2⟩, f3, f4⟩ := fin (some (.goto t)) W3 hp.1
      exact ⟨_, _, f1, .inr ⟨rfl, .goto t, (hIx _).putObj _ hp.2 (by omega) f2 rfl, f3, f4⟩⟩
    | panic ch => exact hp.elim
    | outgrown => exact hp.elim
  · rintro e W2 ⟨⟨v, rfl⟩, (⟨xs, hS, hi, hb⟩ | ⟨pre, hSp, c, hi, hb⟩)⟩
    · have d1 := run_endLoop (P := P) hb.1 (by simp only [hrec]; simp)
      simp only [hrec] at d1
      exact ⟨none, _, d1, hdone D xs _ (by omega) hS (hI.putObj _ hi (by omega) hb.1 rfl) ((World.putObj_heap_other (by omega)).trans hb.2)⟩
    · have d1 := run_endLoop (P := P) hb.1 (by simp only [hrec]; simp)
      simp only [hrec] at d1
      exact ⟨some c, _, d1, hstop D c pre _ (by omega) hSp ((hIx c).putObj _ hi (by omega) hb.1 rfl) ((World.putObj_heap_other (by omega)).trans hb.2)⟩
end
end Go.Proofs.Ytdphpjlhkamadaa
namespace Go.Proofs.Ytdphpjlhkamadaa
open Go.RowKit Go.Shelf
set_option linter.unusedSimpArgs false
set_option linter.unusedVariables false
set_option maxRecDepth 100000
attribute [local go_sem] Oper.semAt_some
/-- What Walk tells: its iterator, which holds what was found. -/
def WalkR (w : World) (vs : List (Nat × Value)) (L : List Nat) (e : Ending) (w' : World) : Prop :=
  ∃ B A c, e = .returned (.func (.func 63) #[] #[.pointer (some ⟨B, 0, none⟩)]) ∧ w.heap.size ≤ B ∧ w'.heap[B]? = some (.cells #[.slice A L.length c] 108 (0, 0)) ∧ w'.ownsRow w.heap.size 112 7 (.slice A L.length c) L.length (fCells vs L) ∧ Below w.heap.size w w'
theorem walk_nil (w : World) (x : Value) (vs : List (Nat × Value)) : Calls Try.prog 41 #[.pointer none, x] w (WalkR w vs []) := by
  have HF := Lib.hid (find_nil w x)
  go_enter Try.func41, Try.ntmps41
  go_wp2_with (go_at_call 62; (with_reducible refine (HF.out).mono ?_); rintro e w1 ⟨rfl, hb1⟩; go_loud (have HB1 := Lib.hid hb1; clear hb1))
  go_ret
  exact ⟨_, none, 0, rfl, HB1.out.size, Go.heap_alloc_new _ _, World.ownsRow_nil _ _ _ _, HB1.out.alloc HB1.out.size _⟩
theorem row_form {w : World} {base n size : Nat} {t : TypeId} {v : Value} {xs : List Value} (h : w.ownsRow base t size v n xs) : ∃ A c, v = .slice A n c := by
  rcases h.2 with ⟨e, h0⟩ | ⟨g, cap, cur, e, _⟩
  · exact ⟨none, 0, by rw [e, h0]⟩
  · exact ⟨_, _, e⟩
theorem walk_any (w : World) (base ga gm gp id N : Nat) (F : PF) (vs : List (Nat × Value)) (ns : List (Nat × Nd)) (h : AR w base ga gm gp F vs ns N) (hid : id < 18446744073709551616) (hfew : sumU ns [] ≤ 900000000) (hns : ns.length ≤ 1000000) :
    Calls Try.prog 41 #[.pointer (some ⟨ga, 0, none⟩), .int .u64 (id : Int)] w (WalkR w vs (walkL ns id)) := by
  have HF := Lib.hid (found_any w base ga gm gp id N F vs ns h hid hfew hns)
  obtain ⟨L, hL⟩ : ∃ L, L = walkL ns id := ⟨_, rfl⟩
  rw [← hL] at HF ⊢
  clear h hL
  go_enter Try.func41, Try.ntmps41
  go_wp2_with (go_at_call 62; (with_reducible refine (HF.out).mono ?_); rintro e w1 ⟨v, rfl, hr, hb1⟩; go_loud (
    obtain ⟨A, c, rfl⟩ := row_form hr;
    have HB1 := Lib.hid hb1;
    have HR := Lib.hid hr;
    clear hb1 hr))
  go_ret
  exact ⟨_, A, c, rfl, HB1.out.size, Go.heap_alloc_new _ _, ownsRow_at HR.out fun g cs hg => heap_alloc_lt _ _ (lt_of_heap2 hg), HB1.out.alloc HB1.out.size _⟩
/-- What a consumer of the walk may not touch. -/
def KpW (B0 : Nat) (W W' : World) : Prop := W.heap.size ≤ W'.heap.size ∧ ∀ (k : Nat) (cs : Array Value) (t : TypeId) (z : Nat × Nat), k < B0 → (t = 108 ∨ t = 112 ∨ t = 24) → W.heap[k]? = some (.cells cs t z) → W'.heap[k]? = some (.cells cs t z)
theorem KpW.refl (B0 : Nat) (W : World) : KpW B0 W W := ⟨Nat.le_refl _, fun _ _ _ _ _ _ h => h⟩
theorem KpW.trans {B0 : Nat} {a b c : World} (h : KpW B0 a b) (k : KpW B0 b c) : KpW B0 a c := ⟨Nat.le_trans h.1 k.1, fun j cs t z hj ht hk => k.2 j cs t z hj ht (h.2 j cs t z hj ht hk)⟩
theorem KpW.below {B0 : Nat} {a b : World} (h : Below B0 a b) : KpW B0 a b := ⟨h.size, fun j cs t z hj _ hk => (h.block j hj).trans hk⟩
theorem KpW.putObj {B0 : Nat} (W : World) (l : Nat) (o : Obj) (h : B0 ≤ l) : KpW B0 W (W.putObj l o) := .below (putObj_below h o)
/-- The node of a number. -/
def ndOf (ns : List (Nat × Nd)) (x : Nat) : Nd := (getL ns x).getD zeroNd
def valOf (vs : List (Nat × Value)) (x : Nat) : Value := (getL vs x).getD (ndV zeroNd (.slice none 0 0))
/-- What was found, as it lies. -/
structure WRow (w : World) (B0 B : Nat) (A : Option Addr) (c : Nat) (vs : List (Nat × Value)) (ns : List (Nat × Nd)) (L : List Nat) : Prop where
  box : w.heap[B]? = some (.cells #[.slice A L.length c] 108 (0, 0))
  lt : B < B0
  size : B0 ≤ w.heap.size
  row : L = [] ∨ ∃ g cur, A = some ⟨g, 0, none⟩ ∧ g < B0 ∧ w.heap[g]? = some (.cells cur 112 (0, 0)) ∧ cur.toList.take (L.length * 7) = fCells vs L
  kids : ∀ x ∈ L, ∃ A c, valOf vs x = ndV (ndOf ns x) (.slice A (ndOf ns x).kids.length c) ∧ IdSl w B0 (.slice A (ndOf ns x).kids.length c) (ndOf ns x).kids ∧ NdOk (ndOf ns x)
  long : L.length ≤ 1000000
theorem WRow.keep {w w' : World} {B0 B c : Nat} {A : Option Addr} {vs : List (Nat × Value)} {ns : List (Nat × Nd)} {L : List Nat} (h : WRow w B0 B A c vs ns L) (hk : KpW B0 w w') : WRow w' B0 B A c vs ns L := by
  refine ⟨hk.2 _ _ _ _ h.lt (.inl rfl) h.box, h.lt, Nat.le_trans h.size hk.1, ?_, fun x hx => ?_, h.long⟩
  · rcases h.row with e | ⟨g, cur, e, hg, hc, ht⟩
    · exact .inl e
    · exact .inr ⟨g, cur, e, hg, hk.2 _ _ _ _ hg (.inr (.inl rfl)) hc, ht⟩
  · obtain ⟨A, c, e, h1, h2⟩ := h.kids x hx
    exact ⟨A, c, e, h1.keep fun j cs z hj hc => (hk.2 _ _ _ _ hj (.inr (.inr rfl)) hc).trans hc.symm, h2⟩
theorem WRow.start {w w' : World} {base ga gm gp N B c : Nat} {A : Option Addr} {F : PF} {vs : List (Nat × Value)} {ns : List (Nat × Nd)} {L : List Nat} (h : AR w base ga gm gp F vs ns N) (hB : w'.heap[B]? = some (.cells #[.slice A L.length c] 108 (0, 0)))
    (hr : w'.ownsRow w.heap.size 112 7 (.slice A L.length c) L.length (fCells vs L)) (hb : Below w.heap.size w w') (hl : L.length ≤ 1000000) : WRow w' w'.heap.size B A c vs ns L := by
  refine ⟨hB, lt_of_heap2 hB, Nat.le_refl _, ?_, fun x hx => ?_, hl⟩
  · rcases hr.2 with ⟨e, h0⟩ | ⟨g, cap, cur, e, _, hg, _, _, _, ht⟩
    · exact .inl (List.eq_nil_of_length_eq_zero h0)
    · injection e with e1 e2 e3
      exact .inr ⟨g, cur, e1, lt_of_heap2 hg, hg, ht⟩
  · obtain ⟨A, c, e, h1, h2, _⟩ := (h.below hb).nodes.get x
    exact ⟨A, c, e, h1, h2⟩
theorem fCells_at {vs : List (Nat × Value)} : ∀ {L : List Nat} {k x j : Nat}, (∀ y ∈ L, (ndCells (valOf vs y)).length = 6) → L[k]? = some x → j < 7 → (fCells vs L)[k * 7 + j]? = (Value.int .u64 (x : Int) :: ndCells (valOf vs x))[j]?
  | [], k, x, j, _, h, _ => by cases h
  | y :: L, k, x, j, h6, h, hj => by
    have h1 := h6 y (by simp)
    have hc : fCells vs (y :: L) = (Value.int .u64 (y : Int) :: ndCells (valOf vs y)) ++ fCells vs L := by unfold fCells; rw [List.flatMap_cons]; rfl
    rw [hc]
    cases k with
    | zero =>
      injection h with h
      subst h
      rw [Nat.zero_mul, Nat.zero_add, List.getElem?_append_left (by rw [List.length_cons, h1]; omega)]
    | succ k =>
      rw [List.getElem?_append_right (by rw [List.length_cons, h1]; omega), List.length_cons, h1, show (k + 1) * 7 + j - (6 + 1) = k * 7 + j by omega]
      exact fCells_at (fun z hz => h6 z (by simp [hz])) h hj
end Go.Proofs.Ytdphpjlhkamadaa
