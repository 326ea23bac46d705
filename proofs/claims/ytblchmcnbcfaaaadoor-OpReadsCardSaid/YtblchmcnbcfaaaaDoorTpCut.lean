/- Contracts: what the reference's Cut answers: the first bytes, in memory of its own. -/
import Derived.Test.YtblchmcnbcfaaaaDoorTpStep
import Derived.Test.YtblchmcnbcfaaaaDoorWords
import Derived.OwnWalk
namespace Go.Proofs.YtblchmcnbcfaaaaDoor
open Go.RowKit

theorem infoByte : (Tryd.prog.info? 5).map (fun i => (i.zero, i.size, i.bytes)) = some (some (.int .u8 0), 1, 1) := by kernel_rfl

/-- The slice value v owns, in blocks from base on, just the bytes l. -/
def Own (w : World) (base : Nat) (v : Value) (l : List Nat) : Prop := w.ownsRow base 5 1 v l.length (byt l)
theorem Own.form {w : World} {base : Nat} {v : Value} {l : List Nat} (h : Own w base v l) : ∃ A c, v = .slice A l.length c ∧ l.length ≤ c ∧ (A = none → c = 0) ∧ l.length ≤ maxLen ∧ w.ownsRow base 5 1 (.slice A l.length c) l.length (byt l) := by
  obtain ⟨hl, ⟨rfl, h0⟩ | ⟨g, cap, cur, rfl, h1, h2, h3, h4, h5⟩⟩ := id h
  · rw [h0]
    refine ⟨none, 0, rfl, by omega, fun _ => rfl, by simp, ?_⟩
    unfold Own at h
    rw [h0] at h
    exact h
  · exact ⟨_, _, rfl, h3, fun h => (by cases h), by omega, h⟩
theorem Own.bytes {w : World} {base : Nat} {v : Value} {l : List Nat} (h : Own w base v l) (hs : ∀ b ∈ l, b < 256) : Bytes w w.heap.size v l := by
  obtain ⟨A, c, rfl, hc, hn, hm, ho⟩ := h.form
  exact ⟨⟨A, c, rfl, Lies.of_own ho, hc, hn⟩, hs, hm⟩

theorem own_nil (w : World) (base : Nat) : Own w base (.slice none 0 0) [] := World.ownsRow_nil _ _ _ _

def CutR (W : World) (n most : Nat) (l : List Nat) (out i : Value) (wr : World) : Prop :=
  ∃ k : Nat, k ≤ n ∧ i = .int .i64 (k : Int) ∧ Own wr W.heap.size out (l.take (min k most)) ∧ Below W.heap.size W wr

theorem own_snoc {w : World} {base k most b : Nat} {v : Value} {l : List Nat} (hk : k < l.length) (hm : k < most) (hb : l[k]? = some b)
    (h : w.ownsRow base 5 1 v (min k (min most l.length) + 1) (byt (l.take (min k most)) ++ [.int .u8 (b : Int)])) : Own w base v (l.take (min (k + 1) most)) := by
  have e1 : min k (min most l.length) = k := by omega
  have e2 : min k most = k := by omega
  have e3 : min (k + 1) most = k + 1 := by omega
  rw [e1, e2] at h
  rw [e3]
  unfold Own
  have e4 : l.take (k + 1) = l.take k ++ [b] := by rw [List.take_add_one, hb]; rfl
  rw [show (l.take (k + 1)).length = k + 1 by rw [List.length_take]; omega, e4, byt_append]
  exact h
theorem cell_one_new {w : World} (x : Value) (t : TypeId) (j : Nat) (u : Value) (h : [x][j]? = some u) : (w.alloc (.cells #[x] t)).cell? ((⟨w.heap.size, 0, none⟩ : Addr).add j) = some u := by
  rcases j with _ | j
  · rw [show (⟨w.heap.size, 0, none⟩ : Addr).add 0 = ⟨w.heap.size, 0, none⟩ from rfl, World.cell?_alloc_at _ _ _ _ rfl]
    simpa using h
  · simp at h

end Go.Proofs.YtblchmcnbcfaaaaDoor
