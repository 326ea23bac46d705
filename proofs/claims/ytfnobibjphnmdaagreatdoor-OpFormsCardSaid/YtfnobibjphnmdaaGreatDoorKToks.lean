/- Rows of tokens of the call's own. -/
import Derived.Test.YtfnobibjphnmdaaGreatDoorKFirst
import Derived.Maps.AppendAt
import Derived.OwnWalk
namespace Go.Proofs.YtfnobibjphnmdaaGreatDoor
open Go.RowKit
set_option linter.unusedSimpArgs false
set_option linter.unusedVariables false
/-- A list of bytes as a string. -/
def ba (l : List Nat) : ByteArray := ⟨(l.map UInt8.ofNat).toArray⟩
theorem str_ba {l : List Nat} (h : ∀ b ∈ l, b < 256) : str (ba l) = l := by
  unfold str ba
  rw [List.map_map]
  refine (List.map_congr_left fun b hb => ?_).trans (List.map_id l)
  have := h b hb
  simp
  omega
theorem ba_str (s : ByteArray) : ba (str s) = s := str_inj (str_ba (str_small s))
def tokC (t : Tok) : List Value := [.int .u8 (t.kind : Int), .string (ba t.text), .int .i64 (t.at_ : Int)]
def toksC (ts : List Tok) : List Value := ts.flatMap tokC
theorem toksC_append (a b : List Tok) : toksC (a ++ b) = toksC a ++ toksC b := List.flatMap_append
theorem toksC_length (ts : List Tok) : (toksC ts).length = ts.length * 3 := by
  induction ts with
  | nil => rfl
  | cons t ts ih => rw [show toksC (t :: ts) = tokC t ++ toksC ts from rfl, List.length_append, ih]; simp [tokC]; omega
/-- v is a row of these tokens, of type ty, in blocks from base on. -/
def TRow (w : World) (base : Nat) (ty : TypeId) (v : Value) (ts : List Tok) : Prop := w.ownsRow base ty 3 v ts.length (toksC ts)
theorem TRow.nil (w : World) (base : Nat) (ty : TypeId) : TRow w base ty (.slice none 0 0) [] := ⟨rfl, .inl ⟨rfl, rfl⟩⟩
theorem ownsRow_keep {w w' : World} {base n size : Nat} {t : TypeId} {v : Value} {xs : List Value} (h : w.ownsRow base t size v n xs) (hk : ∀ k, v.ownBlock = some k → w'.heap[k]? = w.heap[k]?) : w'.ownsRow base t size v n xs := by
  obtain ⟨hl, hv⟩ := id h
  refine ⟨hl, ?_⟩
  rcases hv with hv | ⟨g, cap, cur, rfl, h1, h2, h3⟩
  · exact .inl hv
  · exact .inr ⟨g, cap, cur, rfl, h1, (hk g rfl).trans h2, h3⟩
theorem own_block_lt {w : World} {base n size : Nat} {t : TypeId} {v : Value} {xs : List Value} (h : w.ownsRow base t size v n xs) {k : Nat} (hk : v.ownBlock = some k) : base ≤ k ∧ k < w.heap.size := by
  rcases h.2 with ⟨rfl, _⟩ | ⟨g, cap, cur, rfl, h1, h2, _⟩
  · cases hk
  · simp [Value.ownBlock] at hk
    subst hk
    exact ⟨h1, lt_of_heap h2⟩
theorem ownsRow_below {w w' : World} {base n size : Nat} {t : TypeId} {v : Value} {xs : List Value} (h : w.ownsRow base t size v n xs) (hb : Below w.heap.size w w') : w'.ownsRow base t size v n xs :=
  ownsRow_keep h fun k hk => hb.block k (own_block_lt h hk).2
theorem TRow.below {w w' : World} {base : Nat} {ty : TypeId} {v : Value} {ts : List Tok} (h : TRow w base ty v ts) (hb : Below w.heap.size w w') : TRow w' base ty v ts := ownsRow_below h hb
theorem cell_three_new {w : World} (x y z : Value) (t : TypeId) (j : Nat) (u : Value) (h : [x, y, z][j]? = some u) : (w.alloc (.cells #[x, y, z] t)).cell? ((⟨w.heap.size, 0, none⟩ : Addr).add j) = some u := by
  rcases j with _ | _ | _ | j
  · rw [show (⟨w.heap.size, 0, none⟩ : Addr).add 0 = ⟨w.heap.size, 0, none⟩ from rfl, World.cell?_alloc_at _ _ _ _ rfl]
    simpa using h
  · rw [show (⟨w.heap.size, 0, none⟩ : Addr).add (0 + 1) = ⟨w.heap.size, 1, none⟩ from rfl, World.cell?_alloc_at _ _ _ _ rfl]
    simpa using h
  · rw [show (⟨w.heap.size, 0, none⟩ : Addr).add (0 + 1 + 1) = ⟨w.heap.size, 2, none⟩ from rfl, World.cell?_alloc_at _ _ _ _ rfl]
    simpa using h
  · simp at h
theorem info_tok {P : Program} {t : TypeId} {z : Value} {s b : Nat} (h : (P.info? t).map (fun i => (i.zero, i.size, i.bytes)) = some (some z, s, b)) : ∃ i, P.info? t = some i ∧ i.zero = some z ∧ i.size = s ∧ i.bytes = b := by
  rcases hi : P.info? t with _ | i
  · rw [hi] at h; cases h
  · rw [hi] at h
    simp at h
    exact ⟨i, rfl, h.1, h.2.1, h.2.2⟩
/-- The piece of a string at a place. -/
theorem ba_piece (s : ByteArray) (a n : Nat) : ba (((str s).drop a).take n) = s.extract a (a + n) := by
  apply str_inj
  rw [str_ba (fun b hb => str_small s b (List.mem_of_mem_drop (List.mem_of_mem_take hb))), str_extract, Nat.add_sub_cancel_left]
theorem str_rest (s : ByteArray) (a : Nat) : str (s.extract a s.size) = (str s).drop a := by
  rw [str_extract, List.take_of_length_le]
  rw [List.length_drop, str_length]
  exact Nat.le_refl _
theorem all_next {l : List Nat} {p : Nat} {acc : List Tok} (hp : p ≤ l.length) (h : scan l 0 = (scan (l.drop p) p).map (acc ++ ·)) (hlt : p + gapL (l.drop p) < l.length) (hk : (firstL (l.drop (p + gapL (l.drop p)))).1 ≠ 0) :
    scan l 0 = (scan (l.drop (p + gapL (l.drop p) + (firstL (l.drop (p + gapL (l.drop p)))).2)) (p + gapL (l.drop p) + (firstL (l.drop (p + gapL (l.drop p)))).2)).map
      ((acc ++ [⟨(firstL (l.drop (p + gapL (l.drop p)))).1, (l.drop (p + gapL (l.drop p))).take (firstL (l.drop (p + gapL (l.drop p)))).2, p + gapL (l.drop p)⟩]) ++ ·) := by
  have e : (l.drop p).drop (gapL (l.drop p)) = l.drop (p + gapL (l.drop p)) := List.drop_drop
  rw [h, scan_next (l := l.drop p) (by rw [List.length_drop]; omega) (by rw [e]; exact hk), e, List.drop_drop, Option.map_map, Nat.add_assoc]
  congr 1
  funext x
  simp
end Go.Proofs.YtfnobibjphnmdaaGreatDoor
