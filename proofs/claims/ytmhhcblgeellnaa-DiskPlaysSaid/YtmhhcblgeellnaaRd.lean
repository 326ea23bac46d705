/- The reference's disk in memory: a row of safe sectors, a row of places, a row of waiting sectors, a limit. -/
import Derived.Test.YtmhhcblgeellnaaRot
import Derived.Test.YtmhhcblgeellnaaApart
import Derived.Test.YtmhhcblgeellnaaTill
namespace Go.Proofs.Ytmhhcblgeellnaa
open Go.RowKit
set_option linter.unusedVariables false

/-- A row of sectors: each in memory of one's own. -/
structure Secs (w : World) (base : Nat) (v : Value) (ls : List (List Nat)) (vs : List Value) : Prop where
  row : w.ownsRow base 30 1 v ls.length vs
  each : ∀ (i : Nat) (u : Value) (l : List Nat), vs[i]? = some u → ls[i]? = some l → ∃ A c, u = .slice A 512 c ∧ Mine w base A 512 c l
theorem Secs.len {w : World} {base : Nat} {v : Value} {ls : List (List Nat)} {vs : List Value} (h : Secs w base v ls vs) : vs.length = ls.length := by
  have := h.row.1
  omega
structure RD (w : World) (base gx : Nat) (sv av wv : Value) (ss ws : List Value) (dur : List (List Nat)) (pend : List (Nat × List Nat)) (left : Int) : Prop where
  st : w.heap[gx]? = some (.cells #[sv, av, wv, .int .i64 left] 63 (0, 0))
  le : base ≤ gx
  safe : Secs w base sv dur ss
  at_ : w.ownsRow base 3 1 av pend.length (ints (pend.map (·.1)))
  wait : Secs w base wv (pend.map (·.2)) ws
  ne : ∀ g, sv.ownBlock = some g → wv.ownBlock ≠ some g
theorem OnlyAt.grown {a b : World} {row : Option Nat} (h : a.grownBy b row) : OnlyAt a b (fun k => some k = row) := ⟨h.os, h.tape, h.output, h.size, fun k hk hn => h.block k hk hn⟩
theorem mine_only {w w' : World} {base m c : Nat} {A : Option Addr} {l : List Nat} {p : Nat → Prop} (h : Mine w base A m c l) (ho : OnlyAt w w' p) (hp : ∀ g cur, w.heap[g]? = some (.cells cur 5 (0, 0)) → ¬ p g) : Mine w' base A m c l :=
  ⟨row_only h.own ho (fun g cur hg _ => hp g cur hg), h.len, h.small⟩
theorem Secs.only {w w' : World} {base : Nat} {v : Value} {ls : List (List Nat)} {vs : List Value} {p : Nat → Prop} (h : Secs w base v ls vs) (ho : OnlyAt w w' p) (hp : ∀ g cur, w.heap[g]? = some (.cells cur 5 (0, 0)) → ¬ p g) (hr : ∀ g, v.ownBlock = some g → ¬ p g) : Secs w' base v ls vs :=
  ⟨row_only h.row ho (fun g cur _ hg => hr g hg), fun i u l h1 h2 => by
    obtain ⟨A, c, e, hm⟩ := h.each i u l h1 h2
    exact ⟨A, c, e, mine_only hm ho hp⟩⟩
theorem Secs.below {w w' : World} {base : Nat} {v : Value} {ls : List (List Nat)} {vs : List Value} (h : Secs w base v ls vs) (hb : Below w.heap.size w w') : Secs w' base v ls vs :=
  ⟨ownsRow_below h.row hb, fun i u l h1 h2 => by
    obtain ⟨A, c, e, hm⟩ := h.each i u l h1 h2
    exact ⟨A, c, e, hm.below hb⟩⟩
theorem Secs.lower {w : World} {base base' : Nat} {v : Value} {ls : List (List Nat)} {vs : List Value} (h : Secs w base v ls vs) (hb : base' ≤ base) : Secs w base' v ls vs :=
  ⟨own_lower h.row hb, fun i u l h1 h2 => by
    obtain ⟨A, c, e, hm⟩ := h.each i u l h1 h2
    exact ⟨A, c, e, hm.lower hb⟩⟩
theorem RD.below {w w' : World} {base gx : Nat} {sv av wv : Value} {ss ws : List Value} {dur : List (List Nat)} {pend : List (Nat × List Nat)} {left : Int} (h : RD w base gx sv av wv ss ws dur pend left) (hb : Below w.heap.size w w') : RD w' base gx sv av wv ss ws dur pend left :=
  ⟨(hb.block _ (Array.getElem?_eq_some_iff.1 h.st).1).trans h.st, h.le, h.safe.below hb, ownsRow_below h.at_ hb, h.wait.below hb, h.ne⟩
theorem RD.lower {w : World} {base base' gx : Nat} {sv av wv : Value} {ss ws : List Value} {dur : List (List Nat)} {pend : List (Nat × List Nat)} {left : Int} (h : RD w base gx sv av wv ss ws dur pend left) (hb : base' ≤ base) : RD w base' gx sv av wv ss ws dur pend left :=
  ⟨h.st, Nat.le_trans hb h.le, h.safe.lower hb, own_lower h.at_ hb, h.wait.lower hb, h.ne⟩
section
variable {w : World} {base gx : Nat} {sv av wv : Value} {ss ws : List Value} {dur : List (List Nat)} {pend : List (Nat × List Nat)} {left : Int}
theorem RD.c0 (h : RD w base gx sv av wv ss ws dur pend left) : w.cell? ⟨gx, 0, none⟩ = some sv := by rw [cell_of_row w gx 0 _ _ _ h.st]; rfl
theorem RD.c1 (h : RD w base gx sv av wv ss ws dur pend left) : w.cell? ⟨gx, 1, none⟩ = some av := by rw [cell_of_row w gx 1 _ _ _ h.st]; rfl
theorem RD.c2 (h : RD w base gx sv av wv ss ws dur pend left) : w.cell? ⟨gx, 2, none⟩ = some wv := by rw [cell_of_row w gx 2 _ _ _ h.st]; rfl
theorem RD.c3 (h : RD w base gx sv av wv ss ws dur pend left) : w.cell? ⟨gx, 3, none⟩ = some (.int .i64 left) := by rw [cell_of_row w gx 3 _ _ _ h.st]; rfl
theorem RD.fz (h : RD w base gx sv av wv ss ws dur pend left) (i : Nat) : w.frozen? ⟨gx, i, none⟩ = false := frozen_of_row w gx i _ _ h.st
theorem RD.lt (h : RD w base gx sv av wv ss ws dur pend left) : gx < w.heap.size := (Array.getElem?_eq_some_iff.1 h.st).1
end
/-- Where a row that is not empty lies. -/
theorem row_place {w : World} {base n size : Nat} {t : TypeId} {v : Value} {xs : List Value} (h : w.ownsRow base t size v n xs) (hn : 0 < n) : ∃ g cap cur, v = .slice (some ⟨g, 0, none⟩) n cap ∧ base ≤ g ∧ n ≤ cap ∧ w.heap[g]? = some (.cells cur t (0, 0)) := by
  rcases h.2 with ⟨_, h0⟩ | ⟨g, cap, cur, h1, h2, h3, h4, _⟩
  · omega
  · exact ⟨g, cap, cur, h1, h2, h4, h3⟩
theorem row_cell {w : World} {base n g cap i : Nat} {t : TypeId} {xs : List Value} {u : Value} (h : w.ownsRow base t 1 (.slice (some ⟨g, 0, none⟩) n cap) n xs) (hi : xs[i]? = some u) : w.cell? ⟨g, i, none⟩ = some u ∧ w.frozen? ⟨g, i, none⟩ = false := by
  have hc := h.cells (g := g) rfl i u hi
  have e : (⟨g, 0, none⟩ : Addr).add i = ⟨g, i, none⟩ := by
    unfold Addr.add
    split
    · rename_i h0; subst h0; rfl
    · simp
  obtain ⟨cur, hcur⟩ : ∃ cur, w.heap[g]? = some (.cells cur t (0, 0)) := row_of (own_lower h (Nat.zero_le _))
  exact ⟨by rw [← e]; exact hc, frozen_of_row w g i _ _ hcur⟩
theorem infoRow : (Try.prog.info? 30).map (fun i => (i.zero, i.size, i.bytes)) = some (some (.slice none 0 0), 1, 24) := by kernel_rfl
end Go.Proofs.Ytmhhcblgeellnaa
