/- LRound, LExtA: joined by program (tools/merge.py). -/
import Derived.Test.YtalpippeelomjaaZ26
namespace Go.Proofs.Ytalpippeelomjaa
open Go.RowKit Go.Shelf
set_option linter.unusedSimpArgs false
set_option linter.unusedVariables false
section
variable {P : Program} {ops : Array Oper} {Q : Exit → Act → World → Prop} {md : Region.Mode} {n l : Nat}
theorem rowsIn_round {row : String} {args : Array Value} {w : World} {R : Value → World → Prop} (h : Rows P row args w R) : RowsIn (Fence.wide.inRound l) n P row args w R := fun c cs _ =>
  let ⟨v, w', r, s⟩ := h c cs
  ⟨v, w', r, (stepsIn_wide (P := P)).2 s⟩
theorem oper_round {o : Oper} {a : Act} {w : World} {K : Act → World → Prop} (hno : ∀ c, o.op ≠ .defer c) (h : o.wp P a w K Q) : o.wpIn (Fence.wide.inRound l) n P a w K Q := by
  refine ⟨fun _ _ => trivial, ?_⟩
  rw [Oper.semAt_eq _ _ _ hno]
  unfold Oper.wp at h
  generalize (execOp a.eval o).run P w = r at h ⊢
  cases r with
  | ok x w' =>
    cases x with
    | value v => exact h
    | skip => exact h
    | defer d => exact h
    | enter f args => exact ⟨fun e => (by cases e), CallsIn.inRound l (callsIn_wide.2 h)⟩
    | row r args => exact ⟨fun e => (by cases e), rowsIn_round h⟩
    | round l2 f tmps assign body => exact (h : False).elim
    | _ => exact (h : False).elim
  | halt x w' =>
    cases x with
    | panic v => exact h
    | _ => exact (h : False).elim
def noDefer (ops : Array Oper) : Bool := ops.all fun o => match o.op with | .defer _ => false | _ => true
theorem noDefer_at (h : noDefer ops = true) {i : Nat} {o : Oper} (hi : ops[i]? = some o) : ∀ c, o.op ≠ .defer c := fun c e => by
  unfold noDefer at h
  rw [Array.all_eq_true] at h
  obtain ⟨hlt, hx⟩ := Array.getElem?_eq_some_iff.1 hi
  have h1 := h i hlt
  rw [hx, e] at h1
  cases h1
theorem any_round (hno : noDefer ops = true) (hQ : ¬ LetsOut Q) : ∀ (fuel : Nat) (listed : Array Bool) (a : Act) (w : World), wpAny P md ops Q fuel listed a w → wpAnyIn (Fence.wide.inRound l) n P md ops Q fuel listed a w
  | 0, _, _, _, h => h
  | fuel + 1, listed, a, w, h => by
    refine ⟨h.1, fun i hi => ?_⟩
    have h2 := h.2 i hi
    unfold wpOp at h2
    unfold wpOpIn
    cases ho : ops[i]? with
    | none =>
      rw [ho] at h2
      exact any_round hno hQ fuel _ _ _ h2
    | some o =>
      rw [ho] at h2
      dsimp only at h2 ⊢
      by_cases hw : Region.wanted o (yielded ops a.tmps) = true
      · rw [if_pos hw] at h2 ⊢
        rcases h2 with h2 | h2
        · exact Oper.wpIn_mono (fun a' w' h3 => any_round hno hQ fuel _ _ _ h3) (oper_round (noDefer_at hno ho) h2)
        · exact absurd h2.2 hQ
      · rw [if_neg hw] at h2 ⊢
        exact ⟨fun _ _ => trivial, any_round hno hQ fuel _ _ _ h2⟩
/-- A way out that goes on. -/
def GoesOn (Q : Exit → Act → World → Prop) : Exit → Act → World → Prop
  | .normal, a, w => Q .normal a w
  | _, _, _ => False
theorem GoesOn.normal {a : Act} {w : World} (h : Q .normal a w) : GoesOn Q .normal a w := h
theorem GoesOn.imp : ∀ (e : Exit) (a : Act) (w : World), GoesOn Q e a w → Q e a w := fun e a w h => by
  cases e <;> first | exact h | exact (h : False).elim
theorem goesOn_out : ¬ LetsOut (GoesOn Q) := fun ⟨_, _, h⟩ => h
theorem region_round {id : Nat} {a : Act} {w : World} {S : World → Prop} (hno : noDefer ops = true) (hm : P.follows .mixedOrders = true) (hS : S w.drew)
    (h : S w.drew → wpAnyH P .any ops (GoesOn Q) S ops.size (Array.replicate ops.size false) a w.drew) : (Code.region id ops true).wpIn (Fence.wide.inRound l) n P Q a w :=
  wpIn_mono (wpIn_region_any hm (any_round hno goesOn_out _ _ _ _ (wpAny_of_held _ _ _ _ (h hS)))) GoesOn.imp
/-- The law of a loop over an iterator, for one variable that is told in slot p and kept in slot q: the frame of a round out of the goal's own. -/
theorem range_one {α : Type} {p q : Tmp} {g : Operand} {assign body : Code} {Q : Exit → Act → World → Prop} {T : Array Value} {w : World} {m : Nat} (h1 : 1 ≤ m) (gf : Nat) (lb : Array Value) (hg : ({ tmps := T, defers := [] } : Act).eval g = .func (.func gf) #[] lb)
    (eg : ∀ args w, (callFunc gf args).run P w = .ok (.enter gf args) w) {enc : α → Value} {Kp : World → World → Prop} {S Sp : List α → Prop} {N : Nat} (hseq : SeqStopsK Fence.wide (m - 1) P gf lb (fun x => #[enc x]) Kp S Sp N w)
    (hKt : ∀ {A B C : World}, Kp A B → Kp B C → Kp A C) (hKb : ∀ (W : World) (l : Nat) (o' : Obj), w.heap.size ≤ l → Kp W (W.putObj l o'))
    (I : List α → World → Prop) (hI : OwnFrom w.heap.size I) (h0 : I [] w)
    (hassign : ∀ (l : Nat) (x : α) (W : World) (K : Act → World → Prop), K { tmps := (T.setIfInBounds p (enc x)).setIfInBounds q (enc x), defers := [] } W →
      assign.wpIn (Fence.wide.inRound l) (m - 1 - 1) P (Exit.then K (fun _ _ _ => False)) { tmps := T.setIfInBounds p (enc x), defers := [] } W)
    (hbody : ∀ (l : Nat) (pre : List α) (x : α) (W : World), I pre W → pre.length < N → body.wpIn (Fence.wide.inRound l) (m - 1 - 1) P (ownPostG w.heap.size Kp I (fun _ _ _ => False) (pre ++ [x]) W) { tmps := (T.setIfInBounds p (enc x)).setIfInBounds q (enc x), defers := [] } W)
    (hdone : ∀ (D : Nat) (xs : List α) (W : World), w.heap.size ≤ D → S xs → I xs W → W.heap[D]? = some (.deferred (some [])) → Q .normal { tmps := T, defers := [{ target := .collected D, args := #[] }] } W) :
    (Code.rangeFunc g #[p] assign body).wpIn Fence.wide m P Q { tmps := T, defers := [] } w :=
  wpIn_rangeFunc_ownG (F := Fence.wide) rfl h1 hg trivial eg hseq (fun h k => hKt h k) (fun W l _ o' hl _ _ _ => hKb W l o' hl) (Below.refl _ _) (fun _ => rfl) I (fun _ _ _ => False) hI (fun _ _ _ _ _ hs _ _ => hs) h0 (fun x => { tmps := (T.setIfInBounds p (enc x)).setIfInBounds q (enc x), defers := [] }) (fun l x W K hK => by simpa using hassign l x W K hK) hbody hdone (fun _ _ _ _ _ _ h _ => h.elim)
/-- A frame with other values in some slots. -/
def putL (T : Array Value) : List Nat → List Value → Array Value
  | s :: ss, v :: vs => putL (T.setIfInBounds s v) ss vs
  | _, _ => T
/-- What is told behind a piece: it goes on; but for these slots the frame is as it was; and R of slot q and of the world. -/
def CutQ (T : Array Value) (slots : List Nat) (q : Nat) (R : Value → World → Prop) : Exit → Act → World → Prop
  | .normal, a, x => a.defers = [] ∧ a.tmps = putL T slots (slots.map fun s => a.tmps.getD s undef) ∧ R (a.tmps.getD q undef) x
  | _, _, _ => False
theorem piece_cut {c : Code} {F : Fence} {T : Array Value} {w : World} (slots : List Nat) (q : Nat) (R : Value → World → Prop) (h : c.wpIn F n P (CutQ T slots q R) { tmps := T, defers := [] } w)
    (hk : ∀ (a : Act) (x : World), a.defers = [] → a.tmps = putL T slots (slots.map fun s => a.tmps.getD s undef) → R (a.tmps.getD q undef) x → Q .normal { tmps := putL T slots (slots.map fun s => a.tmps.getD s undef), defers := [] } x) : c.wpIn F n P Q { tmps := T, defers := [] } w :=
  wpIn_mono h fun e a x hq => by
    cases e with
    | normal =>
      obtain ⟨h1, h2, h3⟩ := hq
      have h4 := hk a x h1 h2 h3
      rw [← h2] at h4
      cases a
      dsimp only at h1 h4
      subst h1
      exact h4
    | _ => exact (hq : False).elim
end
end Go.Proofs.Ytalpippeelomjaa
namespace Go.Proofs.Ytalpippeelomjaa
open Go.RowKit
set_option linter.unusedSimpArgs false
set_option linter.unusedVariables false
/-- A row in parts of 487 bytes. -/
def partK (row : List Nat) (k : Nat) : List Nat := (row.drop (487 * k)).take 487
def partsL (row : List Nat) : List (List Nat) := (List.range (chunkM row.length)).map (partK row)
/-- The page at a place, with these bytes behind its link; where it is as it was, the old one. -/
def mkP (gen ser : Nat) (qs : List Pg) (i bf : Nat) (part : List Nat) : Pg :=
  match qs[i]? with
  | some q => if q.data = be4 bf ++ part then q else ⟨gen, ser, i, 1, be4 bf ++ part⟩
  | none => ⟨gen, ser, i, 1, be4 bf ++ part⟩
/-- The serial of the last one, or what came ahead. -/
def lastS (bf : Nat) (l : List Pg) : Nat := (l.getLast?.map Pg.ser).getD bf
def extF (gen ser : Nat) (qs : List Pg) : Nat → Nat → List (List Nat) → List Pg
  | _, _, [] => []
  | i, bf, p :: r => mkP gen ser qs i bf p :: extF gen ser qs (i + 1) (mkP gen ser qs i bf p).ser r
theorem extF_length (gen ser : Nat) (qs : List Pg) : ∀ (ps : List (List Nat)) (i bf : Nat), (extF gen ser qs i bf ps).length = ps.length
  | [], _, _ => rfl
  | p :: r, i, bf => by
    unfold extF
    rw [List.length_cons, List.length_cons, extF_length gen ser qs r]
theorem lastS_cons (bf : Nat) (q : Pg) (l : List Pg) : lastS bf (q :: l) = lastS q.ser l := by
  unfold lastS
  cases l with
  | nil => rfl
  | cons a l => simp [List.getLast?_cons_cons, List.getLast?_cons]
theorem extF_snoc (gen ser : Nat) (qs : List Pg) (p : List Nat) : ∀ (ps : List (List Nat)) (i bf : Nat), extF gen ser qs i bf (ps ++ [p]) = extF gen ser qs i bf ps ++ [mkP gen ser qs (i + ps.length) (lastS bf (extF gen ser qs i bf ps)) p]
  | [], i, bf => by simp [extF, lastS]
  | a :: r, i, bf => by
    rw [List.cons_append]
    unfold extF
    rw [extF_snoc gen ser qs p r, lastS_cons, List.cons_append, List.length_cons, show i + 1 + r.length = i + (r.length + 1) by omega]
theorem lastS_snoc (bf : Nat) (l : List Pg) (q : Pg) : lastS bf (l ++ [q]) = q.ser := by
  unfold lastS
  simp
theorem parts_next (row : List Nat) {k : Nat} (h : k < chunkM row.length) : (partsL row).take (k + 1) = (partsL row).take k ++ [partK row k] := by
  unfold partsL
  rw [List.take_add_one, List.getElem?_map, List.getElem?_range h]
  rfl
theorem parts_length (row : List Nat) : (partsL row).length = chunkM row.length := by
  unfold partsL
  rw [List.length_map, List.length_range]
theorem part_length (row : List Nat) (k : Nat) : (partK row k).length = chunkE row.length k - 487 * k := by
  unfold partK chunkE
  rw [List.length_take, List.length_drop]
  omega
theorem chunk_bytes {w : World} {B N c k : Nat} {A : Option Addr} {l : List Nat} (h : Bytes w B (.slice A N c) l) (hk : k < chunkM N) : Bytes w B (chunkV A N k) (partK l k) := by
  obtain ⟨⟨A', c', hv, hl, hc, hn⟩, hs, hm⟩ := h
  injection hv with h1 h2 h3
  subst h1 h2 h3
  have hlt : 487 * k < l.length := by unfold chunkM at hk; omega
  have hE : chunkE l.length k ≤ l.length ∧ 487 * k < chunkE l.length k := by unfold chunkE; omega
  have e : (partK l k).length = chunkE l.length k - 487 * k := part_length l k
  have e2 : (l.take (chunkE l.length k)).drop (487 * k) = partK l k := by
    unfold partK chunkE
    rw [List.drop_take]
    by_cases hh : 487 * k + 487 ≤ l.length
    · rw [Nat.min_eq_left hh, show 487 * k + 487 - 487 * k = 487 by omega]
    · rw [Nat.min_eq_right (by omega), List.take_of_length_le (by rw [List.length_drop]; omega), List.take_of_length_le (by rw [List.length_drop]; omega)]
  refine ⟨⟨A.map (fun x => x.add (487 * k)), chunkE l.length k - 487 * k, ?_, ?_, by rw [e]; omega, ?_⟩, fun b hb => hs b (List.mem_of_mem_drop (List.mem_of_mem_take hb)), by rw [e]; unfold maxLen at hm ⊢; omega⟩
  · rw [e]; rfl
  · rw [← e2, byt_drop, byt_take]
    have h4 := (hl.first (chunkE l.length k)).rest (k := 487 * k) (n := chunkE l.length k) (cap := chunkE l.length k) (by rw [List.length_take, byt_length]; omega) (by omega) (Nat.le_refl _)
    rw [if_neg (by omega)] at h4
    exact h4
  · intro hA
    rw [Option.map_eq_none_iff] at hA
    have := hn hA
    omega
/-- What lies in cells is as it was. -/
def Kc (w w' : World) : Prop := ∀ (k : Nat) (cs : Array Value) (t : TypeId) (fr : Nat × Nat), w.heap[k]? = some (.cells cs t fr) → w'.heap[k]? = some (.cells cs t fr)
theorem Kc.own {w w' : World} {base n size : Nat} {t : TypeId} {v : Value} {xs : List Value} (hk : Kc w w') (h : w.ownsRow base t size v n xs) : w'.ownsRow base t size v n xs :=
  ownsRow_keep h fun k e => by
    obtain ⟨cs, hcs⟩ := row_heap h e
    rw [hk k cs t (0, 0) hcs, hcs]
theorem Kc.mine {w w' : World} {base m c : Nat} {A : Option Addr} {l : List Nat} (hk : Kc w w') (h : Mine w base A m c l) : Mine w' base A m c l := ⟨hk.own h.own, h.len, h.small⟩
theorem Kc.pok {w w' : World} {p : PV} (hk : Kc w w') (h : POk w p) : POk w' p := ⟨hk.mine h.mine, h.gen, h.ser, h.num, h.kind, h.few⟩
theorem Kc.pages {w w' : World} {base : Nat} {v : Value} {ps : List PV} (hk : Kc w w') (h : Pages w base v ps) : Pages w' base v ps := ⟨hk.own h.own, fun p hp => hk.pok (h.ok p hp)⟩
theorem Kc.of_grown {w w' : World} {row : Option Nat} (hg : w.grownBy w' row) (hr : ∀ r, row = some r → ∃ o : Obj, w.heap[r]? = some o ∧ o.isCells = false) : Kc w w' := fun k cs t fr h =>
  (hg.block k (lt_of_heap h) (fun e => by
    obtain ⟨o, ho, hc⟩ := hr k e.symm
    rw [h] at ho
    injection ho with ho
    subst ho
    cases hc)).trans h
end Go.Proofs.Ytalpippeelomjaa
