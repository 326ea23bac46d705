/- A sector laid into the durable row: what the disk is then. -/
import Derived.Test.YtmhhcblgeellnaaWrite
import Derived.Deep.MidRow
import Derived.Deep.Upon
namespace Go.Proofs.Ytmhhcblgeellnaa
open Go.RowKit

/-- A list with other cells from a place on. -/
def laid (xs : List Value) : Nat → List Value → List Value
  | _, [] => xs
  | o, v :: r => laid (xs.set o v) (o + 1) r
theorem laid_eq : ∀ (vs xs : List Value) (o : Nat), o + vs.length ≤ xs.length → laid xs o vs = xs.take o ++ vs ++ xs.drop (o + vs.length)
  | [], xs, o, _ => by simp [laid]
  | v :: r, xs, o, h => by
    rw [List.length_cons] at h
    rw [laid, laid_eq r (xs.set o v) (o + 1) (by rw [List.length_set]; omega)]
    have h1 : (xs.set o v).take (o + 1) = xs.take o ++ [v] := by
      rw [List.take_add_one, List.take_set_of_le (Nat.le_refl _), List.getElem?_set_self (by omega)]
      rfl
    have h2 : (xs.set o v).drop (o + 1 + r.length) = xs.drop (o + (v :: r).length) := by
      rw [List.drop_set_of_lt (by omega), List.length_cons]
      congr 1
      omega
    rw [h1, h2]
    simp
theorem stored_many {g : Nat} : ∀ (vs : List Value) {w : World} {n size cap : Nat} {t : TypeId} {xs : List Value} (o : Nat), w.ownsRow 0 t size (.slice (some ⟨g, 0, none⟩) n cap) n xs →
    (w.setCells g o vs).ownsRow 0 t size (.slice (some ⟨g, 0, none⟩) n cap) n (laid xs o vs)
  | [], _, _, _, _, _, _, _, h => h
  | v :: r, _, _, _, _, _, _, o, h => stored_many r (o + 1) (h.stored o v).1
theorem scells_set {dur : List (List Nat)} {i : Nat} {s : List Nat} (hd : ∀ x ∈ dur, IsSec x) (hi : i < dur.length) (hs : IsSec s) : laid (scells dur) (i * 512) (byt s) = scells (dur.set i s) := by
  have fl : ∀ {l : List (List Nat)}, (∀ x ∈ l, IsSec x) → l.flatten.length = l.length * 512 := by
    intro l
    induction l with
    | nil => intro _; rfl
    | cons x r ih =>
      intro h
      rw [List.flatten_cons, List.length_append, ih (fun y hy => h y (List.mem_cons_of_mem _ hy)), (h x (List.mem_cons_self ..)).1, List.length_cons]
      omega
  have e1 : dur = dur.take i ++ dur[i] :: dur.drop (i + 1) := by
    rw [List.getElem_cons_drop, List.take_append_drop]
  have e2 : dur.set i s = dur.take i ++ s :: dur.drop (i + 1) := List.set_eq_take_append_cons_drop.trans (if_pos hi)
  have l1 : (dur.take i).flatten.length = i * 512 := by
    rw [fl (fun x hx => hd x (List.mem_of_mem_take hx)), List.length_take, Nat.min_eq_left (Nat.le_of_lt hi)]
  have l2 : (dur[i]).length = 512 := (hd _ (List.getElem_mem hi)).1
  have l3 : (scells dur).length = dur.length * 512 := by unfold scells; rw [byt_length, fl hd]
  have lb : (byt s).length = 512 := by rw [byt_length, hs.1]
  rw [laid_eq _ _ _ (by rw [l3, lb]; omega), e2, lb]
  unfold scells
  rw [← byt_take, ← byt_drop, ← byt_append, ← byt_append]
  congr 1
  have e3 : dur.flatten = (dur.take i).flatten ++ (dur[i] ++ (dur.drop (i + 1)).flatten) := by
    conv => lhs; rw [e1]
    rw [List.flatten_append, List.flatten_cons]
  rw [e3, List.flatten_append, List.flatten_cons, List.take_append_of_le_length (by omega), List.take_of_length_le (by omega), List.append_assoc]
  congr 2
  rw [← List.append_assoc, List.drop_append_of_le_length (by rw [List.length_append]; omega), List.drop_of_length_le (by rw [List.length_append]; omega), List.nil_append]
theorem keptBut_only (w : World) (g o : Nat) (vs : List Value) : OnlyAt w (w.setCells g o vs) (fun k => k = g) := by
  have h : ∀ (vs : List Value) (o : Nat) (w : World), OnlyAt w (w.setCells g o vs) (fun k => k = g) := by
    intro vs
    induction vs with
    | nil => intro o w; exact OnlyAt.refl _ _
    | cons v r ih => intro o w; exact (OnlyAt.setCell w g o v).trans (ih (o + 1) _)
  exact h vs o w
theorem sec_set {dur : List (List Nat)} {i : Nat} {s : List Nat} (hd : ∀ x ∈ dur, IsSec x) (hs : IsSec s) : ∀ x ∈ dur.set i s, IsSec x := fun x hx => by
  rcases List.mem_or_eq_of_mem_set hx with h | h
  · exact hd x h
  · rw [h]; exact hs
theorem row_of {w : World} {t : TypeId} {size n cap g : Nat} {xs : List Value} (h : w.ownsRow 0 t size (.slice (some ⟨g, 0, none⟩) n cap) n xs) : ∃ cur, w.heap[g]? = some (.cells cur t (0, 0)) := by
  rcases h.2 with ⟨h1, _⟩ | ⟨g2, cap2, cur, h1, _, h2, _⟩
  · cases h1
  · injection h1 with h1
    injection h1 with h1
    injection h1 with h1
    exact ⟨cur, by rw [h1]; exact h2⟩
theorem Disk.apart {w : World} {gs : Nat} {b : DB} {dur : List (List Nat)} {pend : List (Nat × List Nat)} {wr bud : Int} (h : Disk w gs b dur pend wr bud) : gs ≠ b.gd := by
  obtain ⟨cur, hcur⟩ := row_of h.du
  intro e
  have h1 := h.st
  rw [e, hcur] at h1
  injection h1 with h1
  injection h1 with _ h3
  exact absurd h3 (by decide)
/-- A sector laid into the durable row. -/
theorem Disk.put {w : World} {gs i : Nat} {b : DB} {dur : List (List Nat)} {pend : List (Nat × List Nat)} {wr bud : Int} {s : List Nat} (h : Disk w gs b dur pend wr bud) (hi : i < dur.length) (hs : IsSec s) :
    Disk (w.setCells b.gd (i * 512) (byt s)) gs b (dur.set i s) pend wr bud := by
  obtain ⟨cur, hcur⟩ := row_of h.du
  have hk := (keptBut_only w b.gd (i * 512) (byt s)).block
  have hne : gs ≠ b.gd := by
    intro e
    have h1 := h.st
    rw [e, hcur] at h1
    injection h1 with h1
    injection h1 with _ h3
    exact absurd h3 (by decide)
  have hl : (dur.set i s).length = dur.length := List.length_set
  refine ⟨?_, ?_, ?_, ?_, sec_set h.sec hs, ?_, by rw [hl]; exact h.few, h.many⟩
  · rw [hk gs h.lt hne, hl]
    exact h.st
  · rw [← scells_set h.sec hi hs, hl]
    exact stored_many _ _ h.du
  · exact row_kept h.pe hcur (by decide) hk
  · rw [hl]
    exact row_kept h.la hcur (by decide) hk
  · rw [hl]
    exact h.wri
/-- A sector's cells are there, and may be written. -/
theorem Disk.sector {w : World} {gs i : Nat} {b : DB} {dur : List (List Nat)} {pend : List (Nat × List Nat)} {wr bud : Int} {n : Nat} (h : Disk w gs b dur pend wr bud) (hi : i < dur.length) (hn : n = 512) : w.there b.gd (i * 512) n := fun j hj => by
  have hlen : (scells dur).length = dur.length * 512 := h.du.1
  refine ⟨?_, h.du.frozenAt _⟩
  rw [h.du.cellAt _ (by omega), List.getElem?_eq_getElem (by omega)]
  rfl
/-- A pending write's cells: where, and its bytes. -/
theorem Disk.write_at {w : World} {gs k g cp : Nat} {b : DB} {dur : List (List Nat)} {pend : List (Nat × List Nat)} {wr bud : Int} {p : Nat × List Nat} (h : Disk w gs b dur pend wr bud) (hk : pend[k]? = some p) (hp : b.pv = .slice (some ⟨g, 0, none⟩) pend.length cp) : w.rangeAt g (k * 513) (wcell p) := fun j v hj => by
  have hlt : k < pend.length := (List.getElem?_eq_some_iff.1 hk).1
  have wl : ∀ q ∈ pend, (wcell q).length = 513 := fun q hq => wcell_length q (h.wri q hq).2
  have hj2 : j < 513 := by
    have h1 := (List.getElem?_eq_some_iff.1 hj).1
    rw [wl p (List.mem_of_getElem? hk)] at h1
    exact h1
  have hpe := h.pe
  rw [hp] at hpe
  rw [hpe.cellAt _ (by omega)]
  have e1 : pend = pend.take k ++ p :: pend.drop (k + 1) := by
    have e0 : p = pend[k] := ((List.getElem?_eq_some_iff.1 hk).2).symm
    rw [e0, List.getElem_cons_drop, List.take_append_drop]
  have fl : ∀ {l : List (Nat × List Nat)}, (∀ x ∈ l, (wcell x).length = 513) → (wcells l).length = l.length * 513 := by
    intro l
    induction l with
    | nil => intro _; rfl
    | cons x r ih =>
      intro h
      have h2 : wcells (x :: r) = wcell x ++ wcells r := by unfold wcells; rw [List.map_cons, List.flatten_cons]
      rw [h2, List.length_append, ih (fun y hy => h y (List.mem_cons_of_mem _ hy)), h x (List.mem_cons_self ..), List.length_cons]
      omega
  have l1 : (wcells (pend.take k)).length = k * 513 := by
    rw [fl (fun x hx => wl x (List.mem_of_mem_take hx)), List.length_take, Nat.min_eq_left (Nat.le_of_lt hlt)]
  have e3 : wcells pend = wcells (pend.take k) ++ (wcell p ++ wcells (pend.drop (k + 1))) := by
    conv => lhs; rw [e1]
    unfold wcells
    rw [List.map_append, List.flatten_append, List.map_cons, List.flatten_cons]
  rw [e3, List.getElem?_append_right (by omega), l1, Nat.add_sub_cancel_left, List.getElem?_append_left (by rw [wl p (List.mem_of_getElem? hk)]; exact hj2)]
  exact hj
end Go.Proofs.Ytmhhcblgeellnaa
