/- TpRefLay, LTyped: joined by program (tools/merge.py). -/
import Derived.Test.YtalpippeelomjaaZ38
namespace Go.Proofs.Ytalpippeelomjaa
open Go.RowKit
set_option linter.unusedSimpArgs false
set_option linter.unusedVariables false

set_option maxHeartbeats 1000000 in
theorem refZag_any (w : World) (n : Nat) (hn : n < 18446744073709551616) :
    Calls Try.prog 88 #[.int .u64 (n : Int)] w fun e w' => e = .returned (.int .i64 (zag n)) ∧ w = w' := by
  by_cases ho : n % 2 = 1
  · have h1 : ((n : Int) % 2 == 1) = true := by rw [beq_iff_eq]; omega
    have HZ : Hid (-((n : Int) / 2) - 1 = zag n) := by
      show -((n : Int) / 2) - 1 = zag n
      unfold zag
      rw [if_pos ho]
      omega
    have HO := Lib.hid ho
    clear ho
    go_enter Try.func88, Try.ntmps88
    go_wp2
    go_ret
    exact ⟨congrArg (fun z => Ending.returned (Value.int .i64 z)) HZ.out, rfl⟩
  · have h1 : ((n : Int) % 2 == 1) = false := by rw [beq_eq_false_iff_ne]; omega
    have HZ := Lib.hid (zag_even ho)
    have HO := Lib.hid ho
    clear ho
    go_enter Try.func88, Try.ntmps88
    go_wp2
    go_ret
    exact ⟨congrArg (fun z => Ending.returned (Value.int .i64 z)) HZ.out, rfl⟩
/-- The document's bytes of a field. -/
def layF (k N : Nat) (s : List Nat) : List Nat :=
  if k % 5 = 1 then num (zig (wrap64 (N : Int))) else if k % 5 = 2 then num s.length ++ s else if k % 5 = 3 then [N % 256] else if k % 5 = 4 then [N % 2] else num N
/-- A field as it is handed over. -/
def fld (k N : Nat) (s : ByteArray) (M : Nat) : Value := .agg #[.int .u8 (k : Int), .int .u64 (N : Int), .string s, .int .u64 (M : Int)]
def fcells (k N : Nat) (s : ByteArray) (M : Nat) : Array Value := #[.int .u8 (k : Int), .int .u64 (N : Int), .string s, .int .u64 (M : Int)]
theorem field_facts {w : World} {g : Nat} {v0 v1 v2 v3 : Value} (h : w.heap[g]? = some (.cells #[v0, v1, v2, v3] 118 (0, 0))) :
    w.cell? ⟨g, 0, none⟩ = some v0 ∧ w.cell? ⟨g, 1, none⟩ = some v1 ∧ w.cell? ⟨g, 2, none⟩ = some v2 ∧ w.cell? ⟨g, 3, none⟩ = some v3 ∧
    w.frozen? ⟨g, 0, none⟩ = false ∧ w.frozen? ⟨g, 1, none⟩ = false ∧ w.frozen? ⟨g, 2, none⟩ = false ∧ w.frozen? ⟨g, 3, none⟩ = false :=
  ⟨cell_of_row w g 0 _ _ _ h, cell_of_row w g 1 _ _ _ h, cell_of_row w g 2 _ _ _ h, cell_of_row w g 3 _ _ _ h, frozen_of_row w g 0 _ _ h, frozen_of_row w g 1 _ _ h, frozen_of_row w g 2 _ _ h, frozen_of_row w g 3 _ _ h⟩
theorem mine_one (w : World) (b : Nat) (hb : b < 256) : Mine (w.alloc (.cells #[.int .u8 (b : Int)] 5)) w.heap.size (some ⟨w.heap.size, 0, none⟩) 1 1 [b] :=
  ⟨⟨by simp [byt], .inr ⟨_, _, _, rfl, Nat.le_refl _, Go.heap_alloc_new w _, Nat.le_refl _, by unfold maxLen; omega, rfl, rfl⟩⟩, rfl, by simpa using hb⟩
def LayR (w : World) (l : List Nat) (e : Ending) (w' : World) : Prop := ∃ A m c, e = .returned (.slice A m c) ∧ Mine w' w.heap.size A m c l ∧ Below w.heap.size w w'
/-- What []byte(s) leaves, read as bytes. -/
theorem bytes_of_string (w : World) (s : ByteArray) (hs : s.size ≤ 1048576) : (convert 9 43 (.string s)).run Try.prog w = .ok (.slice (some ⟨w.heap.size, 0, none⟩) s.size (grownCap w s.size 0 5)) (w.drew.alloc (.cells (bytesRow s (grownCap w s.size 0 5)) 5 ((bytesRow s (grownCap w s.size 0 5)).size, (bytesRow s (grownCap w s.size 0 5)).size + 1))) :=
  run_bytes_of_string w 9 43 5 s Try.underlying9 Try.underlying43 Try.underlying5
/-- A block that holds a string's bytes, read as bytes. -/
theorem str_block {x : World} {g c : Nat} {s : ByteArray} {z : Nat × Nat} (h : x.heap[g]? = some (.cells (bytesRow s c) 5 z)) (hc : s.size ≤ c) (hs : s.size ≤ 1048576) : Bytes x (g + 1) (.slice (some ⟨g, 0, none⟩) s.size c) (str s) := by
  refine ⟨⟨_, _, by rw [str_length], fun j v hj => ⟨_, rfl, by simp, ?_⟩, by rw [str_length]; exact hc, fun h => by cases h⟩, str_small s, by rw [str_length]; unfold maxLen; omega⟩
  have hplain : (⟨g, 0, none⟩ : Addr).add j = ⟨g, j, none⟩ := by unfold Addr.add; split <;> simp_all
  rw [hplain]
  have hjl : j < s.data.size := by
    have := (List.getElem?_eq_some_iff.1 hj).1
    rw [byt_length, str_length] at this
    exact this
  have h2 := bytesRow_at s c j hjl
  unfold World.cell?
  rw [h]
  rw [byt_at] at hj
  unfold str at hj
  rw [List.getElem?_map, List.getElem?_eq_getElem (by simpa using hjl)] at hj
  simp only [Option.map_some, Option.some.injEq] at hj
  rw [← hj]
  simpa using h2
/-- Join of two slices, behind a draw. -/
theorem join_drew (w : World) (g : Nat) (hg : g = w.heap.size) (v u : Value) (l1 l2 : List Nat) (h1 : Bytes w w.heap.size v l1) (h2 : Bytes w w.heap.size u l2) (hl : l1.length + l2.length ≤ 1048576) :
    Calls Try.prog 57 #[.slice (some ⟨g, 0, none⟩) 2 2] (w.alloc (.cells #[v, u] 43)).drew fun e w' => ∃ A n c, e = .returned (.slice A n c) ∧ Mine w' w.heap.size A n c (l1 ++ l2) ∧ Below w.heap.size w w' := by
  subst hg
  exact join_two w.drew v u l1 l2 (h1.of_cells fun _ _ => rfl) (h2.of_cells fun _ _ => rfl) hl |>.mono fun e w' ⟨A, n, c, he, hM, hB⟩ => ⟨A, n, c, he, hM, (Below.refl _ _).drew.trans hB⟩
def strRow (w : World) (s : ByteArray) : Obj := .cells (bytesRow s (grownCap w s.size 0 5)) 5 ((bytesRow s (grownCap w s.size 0 5)).size, (bytesRow s (grownCap w s.size 0 5)).size + 1)
end Go.Proofs.Ytalpippeelomjaa
namespace Go.Proofs.Ytalpippeelomjaa
open Go.RowKit Go.Shelf
set_option linter.unusedSimpArgs false
set_option linter.unusedVariables false
def TBytes (w : World) (v : Value) (l : List Nat) : Prop := Bytes w w.heap.size v l ∧ ∀ k, v.ownBlock = some k → ∃ cs z, w.heap[k]? = some (.cells cs 5 z)
def KeepsBytes (w w' : World) : Prop := w.heap.size ≤ w'.heap.size ∧ ∀ (k : Nat) (cs : Array Value) (z : Nat × Nat), w.heap[k]? = some (.cells cs 5 z) → w'.heap[k]? = some (.cells cs 5 z)
theorem KeepsBytes.of_below {w w' : World} (h : Below w.heap.size w w') : KeepsBytes w w' := ⟨h.size, fun k cs z hk => (h.block k (lt_of_heap hk)).trans hk⟩
theorem KeepsBytes.trans {a b c : World} (h : KeepsBytes a b) (k : KeepsBytes b c) : KeepsBytes a c := ⟨Nat.le_trans h.1 k.1, fun j cs z hj => k.2 j cs z (h.2 j cs z hj)⟩
theorem KeepsBytes.of_grown {w w' : World} {base n size : Nat} {t : TypeId} {v : Value} {xs : List Value} (hg : w.grownBy w' v.ownBlock) (ho : w.ownsRow base t size v n xs) (ht : 5 ≠ t) : KeepsBytes w w' := ⟨hg.size, fun k cs z hk => keep_ty hg ho hk ht⟩
theorem KeepsBytes.of_kept {base : Nat} {w w' : World} (h : Kept base w w') : KeepsBytes w w' := ⟨h.below.size, fun k cs z hk => h.ty k _ hk noLog_bytes⟩
theorem KeepsBytes.setCell {w : World} {g i : Nat} {v : Value} {cs : Array Value} {t : TypeId} {z : Nat × Nat} (hg : w.heap[g]? = some (.cells cs t z)) (ht : t ≠ 5) : KeepsBytes w (w.setCell ⟨g, i, none⟩ v) := ⟨by simp [World.setCell], fun k cs' z' hk => by
  rw [heap_setCell_other _ ⟨g, i, none⟩ k _ (fun e => ?_)]
  · exact hk
  · have e' : k = g := e
    rw [e', hg] at hk
    injection hk with hk
    injection hk with _ hk _
    exact ht hk⟩
theorem TBytes.keep {w w' : World} {v : Value} {l : List Nat} (h : TBytes w v l) (hk : KeepsBytes w w') : TBytes w' v l := by
  obtain ⟨⟨⟨A, c, rfl, hl, hc, hn⟩, hs, hm⟩, ht⟩ := h
  refine ⟨⟨⟨A, c, rfl, fun j u hj => ?_, hc, hn⟩, hs, hm⟩, fun k e => ?_⟩
  · obtain ⟨ad, rfl, hb, hcell⟩ := hl j u hj
    obtain ⟨cs, z, hcs⟩ := ht ad.block rfl
    refine ⟨ad, rfl, Nat.lt_of_lt_of_le hb hk.1, ?_⟩
    rw [← hcell]
    refine World.cell?_of_block ?_
    rw [addr_add_block, hcs]
    exact hk.2 _ _ _ hcs
  · obtain ⟨cs, z, hcs⟩ := ht k e
    exact ⟨cs, z, hk.2 _ _ _ hcs⟩
theorem TBytes.of_own {w : World} {base : Nat} {v : Value} {l : List Nat} (h : Own w base v l) (hs : ∀ b ∈ l, b < 256) : TBytes w v l := ⟨h.bytes hs, fun k e => by
  obtain ⟨cs, hcs⟩ := row_heap h e
  exact ⟨cs, _, hcs⟩⟩
theorem TBytes.of_mine {w : World} {base m c : Nat} {A : Option Addr} {l : List Nat} (h : Mine w base A m c l) : TBytes w (.slice A m c) l := ⟨h.bytes, fun k e => by
  obtain ⟨cs, hcs⟩ := row_heap h.own e
  exact ⟨cs, _, hcs⟩⟩
/-- v is a row of the call's own of slices that hold these bytes. -/
def Rows3 (w : World) (base : Nat) (v : Value) (ls : List (List Nat)) : Prop :=
  ∃ vs : List Value, vs.length = ls.length ∧ w.ownsRow base 43 1 v ls.length vs ∧ ∀ (j : Nat) (u : Value) (l : List Nat), vs[j]? = some u → ls[j]? = some l → TBytes w u l
theorem Rows3.nil (w : World) (base : Nat) : Rows3 w base (.slice none 0 0) [] := ⟨[], rfl, World.ownsRow_nil _ _ _ _, fun j u l h => by simp at h⟩
theorem Rows3.two {w : World} {base : Nat} {v : Value} {ls : List (List Nat)} (h : Rows3 w base v ls) : Rows2 w base w.heap.size v ls := by
  obtain ⟨vs, h1, h2, h3⟩ := h
  exact ⟨vs, h1, h2, fun j u l hj hl => (h3 j u l hj hl).1⟩
theorem Rows3.len {w : World} {base : Nat} {v : Value} {ls : List (List Nat)} (h : Rows3 w base v ls) : ∃ A c, v = .slice A ls.length c := h.two.len
theorem Rows3.keep {w w' : World} {base : Nat} {v : Value} {ls : List (List Nat)} (h : Rows3 w base v ls) (hk : KeepsBytes w w') (hr : ∀ (k : Nat) (cs : Array Value), w.heap[k]? = some (.cells cs 43 (0, 0)) → w'.heap[k]? = some (.cells cs 43 (0, 0))) : Rows3 w' base v ls := by
  obtain ⟨vs, h1, h2, h3⟩ := h
  exact ⟨vs, h1, own_kty h2 hr, fun j u l hj hl => (h3 j u l hj hl).keep hk⟩
theorem Rows3.below {w w' : World} {base : Nat} {v : Value} {ls : List (List Nat)} (h : Rows3 w base v ls) (hb : Below w.heap.size w w') : Rows3 w' base v ls := h.keep (.of_below hb) fun k cs hk => (hb.block k (lt_of_heap hk)).trans hk
theorem Rows3.kept {b : Nat} {w w' : World} {base : Nat} {v : Value} {ls : List (List Nat)} (h : Rows3 w base v ls) (hb : Kept b w w') : Rows3 w' base v ls := h.keep (.of_kept hb) fun k cs hk => hb.ty k _ hk noLog_rows
theorem Rows3.lower {w : World} {base base' : Nat} {v : Value} {ls : List (List Nat)} (h : Rows3 w base v ls) (hb : base' ≤ base) : Rows3 w base' v ls := by
  obtain ⟨vs, h1, h2, h3⟩ := h
  exact ⟨vs, h1, own_up h2 fun k hk => Nat.le_trans hb (own_block_lt h2 hk).1, h3⟩
/-- Behind an append of one slice. -/
theorem Rows3.snoc {w w' : World} {base : Nat} {v v' u : Value} {ls : List (List Nat)} {vs : List Value} {l : List Nat} (hl : vs.length = ls.length) (ho : w.ownsRow base 43 1 v ls.length vs)
    (hb : ∀ (j : Nat) (u : Value) (l : List Nat), vs[j]? = some u → ls[j]? = some l → TBytes w u l) (hu : TBytes w u l) (hg : w.grownBy w' v.ownBlock) (h : w'.ownsRow base 43 1 v' (ls.length + 1) (vs ++ [u])) : Rows3 w' base v' (ls ++ [l]) := by
  have hk := KeepsBytes.of_grown hg ho (by decide)
  refine ⟨vs ++ [u], by simp [hl], by rw [List.length_append]; exact h, fun j u' l' hj hl' => ?_⟩
  by_cases hj2 : j < vs.length
  · rw [List.getElem?_append_left hj2] at hj
    rw [List.getElem?_append_left (by omega)] at hl'
    exact (hb j u' l' hj hl').keep hk
  · rw [List.getElem?_append_right (by omega)] at hj
    rw [List.getElem?_append_right (by omega)] at hl'
    have h0 : j - vs.length = 0 := by
      have := (List.getElem?_eq_some_iff.1 hj).1
      simp at this
      omega
    rw [h0] at hj
    rw [show j - ls.length = 0 by omega] at hl'
    simp at hj hl'
    subst hj hl'
    exact hu.keep hk
/-- A block that holds a string's bytes. -/
theorem TBytes.of_txt {x : World} {g c n : Nat} {l : List Nat} {z : Nat × Nat} (h : x.heap[g]? = some (.cells (bytesRow (txt l) c) 5 z)) (hc : (txt l).size ≤ c) (hs : (txt l).size ≤ 1048576) (hb : ∀ b ∈ l, b < 256) (hn : n = (txt l).size) : TBytes x (.slice (some ⟨g, 0, none⟩) n c) l := by
  subst hn
  have h1 := str_block h hc hs
  rw [str_txt hb] at h1
  exact ⟨h1.up (lt_of_heap h), fun k e => by
    injection e with e
    rw [← e]
    exact ⟨_, _, h⟩⟩
end Go.Proofs.Ytalpippeelomjaa
