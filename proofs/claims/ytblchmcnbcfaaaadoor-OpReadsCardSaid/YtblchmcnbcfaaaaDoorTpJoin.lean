/- Contracts: what the reference's Join answers: all parts behind one another, in memory of its own. Of parts that have together at most a million bytes. -/
import Derived.Test.YtblchmcnbcfaaaaDoorTpCut
import Derived.Laws.AppendOwnNone
namespace Go.Proofs.YtblchmcnbcfaaaaDoor
open Go.RowKit

def JoinR (W : World) (n : Nat) (ls : List (List Nat)) (out i : Value) (wr : World) : Prop :=
  ∃ k : Nat, k ≤ n ∧ i = .int .i64 (k : Int) ∧ Own wr W.heap.size out (ls.take k).flatten ∧ Below W.heap.size W wr
theorem flatten_take_le (ls : List (List Nat)) (k : Nat) : (ls.take k).flatten.length ≤ ls.flatten.length := by
  have h : ls.flatten = (ls.take k).flatten ++ (ls.drop k).flatten := by rw [← List.flatten_append, List.take_append_drop]
  rw [h, List.length_append]
  omega
theorem flatten_next {ls : List (List Nat)} {k : Nat} {l : List Nat} (h : ls[k]? = some l) : (ls.take (k + 1)).flatten = (ls.take k).flatten ++ l := by
  rw [List.take_add_one, h, List.flatten_append]
  simp
theorem one_byt (l : List Nat) : ∀ u ∈ byt l, u.oneCell' = true := by
  intro u hu
  unfold byt at hu
  obtain ⟨b, _, rfl⟩ := List.mem_map.1 hu
  rfl
theorem Lies.cells {w : World} {B : Nat} {ad : Addr} {vs : List Value} (h : Lies w B (some ad) vs) (j : Nat) (u : Value) (hj : vs[j]? = some u) : w.cell? (ad.add j) = some u := by
  obtain ⟨ad', e, _, hc⟩ := h j u hj
  injection e with e
  rw [e]
  exact hc
theorem Lies.empty {w : World} {B : Nat} {vs : List Value} (h : Lies w B none vs) : vs = [] := by
  rcases vs with _ | ⟨v, r⟩
  · rfl
  · obtain ⟨ad, e, _⟩ := h 0 v rfl
    cases e
theorem own_of_row {w : World} {base N : Nat} {v : Value} {l : List Nat} (h : w.ownsRow base 5 1 v N (byt l)) : Own w base v l := by
  have h1 := h.1
  rw [byt_length] at h1
  obtain rfl : N = l.length := by omega
  exact h
theorem own_more {w : World} {base k N : Nat} {v : Value} {ls : List (List Nat)} {l : List Nat} (hl : ls[k]? = some l)
    (h : w.ownsRow base 5 1 v N (byt (ls.take k).flatten ++ byt l)) : Own w base v (ls.take (k + 1)).flatten := by
  rw [← byt_append, ← flatten_next hl] at h
  exact own_of_row h

end Go.Proofs.YtblchmcnbcfaaaaDoor
