/- LPages, DFull: joined by program (tools/merge.py). -/
import Derived.Test.YtalpippeelomjaaZ10
import Derived.Test.YtalpippeelomjaaZ14
import Derived.Laws.OwnMore
import Derived.Test.YtalpippeelomjaaZ6
import Derived.Deep.WholeRow
import Derived.Deep.RegionHeld3
import Derived.Deep.MidRow
import Derived.OpenShut
namespace Go.Proofs.Ytalpippeelomjaa
open Go.RowKit
set_option linter.unusedSimpArgs false
set_option linter.unusedVariables false
/-- A page as it lies: its parts, and where its data lie. -/
structure PV where
  gen : Nat
  ser : Nat
  num : Nat
  kind : Nat
  A : Option Addr
  m : Nat
  c : Nat
  data : List Nat
def pcell (p : PV) : List Value := [.int .u32 (p.gen : Int), .int .u32 (p.ser : Int), .int .u32 (p.num : Int), .int .u8 (p.kind : Int), .slice p.A p.m p.c]
def pcells (ps : List PV) : List Value := (ps.map pcell).flatten
structure POk (w : World) (p : PV) : Prop where
  mine : Mine w 0 p.A p.m p.c p.data
  gen : p.gen < 4294967296
  ser : p.ser < 4294967296
  num : p.num < 4294967296
  kind : p.kind < 256
  few : p.data.length ≤ 491
structure Pages (w : World) (base : Nat) (v : Value) (ps : List PV) : Prop where
  own : w.ownsRow base 85 5 v ps.length (pcells ps)
  ok : ∀ p ∈ ps, POk w p
theorem infoPage : (Try.prog.info? 85).map (fun i => (i.zero, i.size, i.bytes)) = some (some (.agg #[.int .u32 0, .int .u32 0, .int .u32 0, .int .u8 0, .slice none 0 0]), 5, 40) := by kernel_rfl
theorem pcells_length (ps : List PV) : (pcells ps).length = ps.length * 5 := by
  induction ps with
  | nil => rfl
  | cons p ps ih =>
    unfold pcells at ih ⊢
    rw [List.map_cons, List.flatten_cons, List.length_append, ih, List.length_cons]
    show 5 + _ = _
    omega
theorem pcells_append (a b : List PV) : pcells (a ++ b) = pcells a ++ pcells b := by unfold pcells; rw [List.map_append, List.flatten_append]
theorem pcells_at : ∀ (ps : List PV) (k j : Nat) (p : PV), ps[k]? = some p → j < 5 → (pcells ps)[k * 5 + j]? = (pcell p)[j]?
  | [], k, j, p, h, _ => by simp at h
  | q :: ps, 0, j, p, h, hj => by
    simp at h
    subst h
    rw [show pcells (q :: ps) = pcell q ++ pcells ps from by unfold pcells; rw [List.map_cons, List.flatten_cons]]
    rw [Nat.zero_mul, Nat.zero_add, List.getElem?_append_left (by show j < 5; omega)]
  | q :: ps, k + 1, j, p, h, hj => by
    rw [show pcells (q :: ps) = pcell q ++ pcells ps from by unfold pcells; rw [List.map_cons, List.flatten_cons]]
    rw [List.getElem?_append_right (by show 5 ≤ _; omega)]
    rw [show (k + 1) * 5 + j - (pcell q).length = k * 5 + j by show (k + 1) * 5 + j - 5 = _; omega]
    exact pcells_at ps k j p (by simpa using h) hj
section
variable {w w' : World} {base : Nat} {v : Value} {ps : List PV}
theorem POk.keep {p : PV} (h : POk w p) (hk : ∀ k, (Value.slice p.A p.m p.c).ownBlock = some k → w'.heap[k]? = w.heap[k]?) : POk w' p := ⟨h.mine.keep hk, h.gen, h.ser, h.num, h.kind, h.few⟩
theorem POk.below {p : PV} (h : POk w p) (hb : Below w.heap.size w w') : POk w' p := ⟨h.mine.below hb, h.gen, h.ser, h.num, h.kind, h.few⟩
theorem Pages.below (h : Pages w base v ps) (hb : Below w.heap.size w w') : Pages w' base v ps := ⟨ownsRow_below h.own hb, fun p hp => (h.ok p hp).below hb⟩
theorem Pages.nil (w : World) (base : Nat) : Pages w base (.slice none 0 0) [] := ⟨World.ownsRow_nil _ _ _ _, fun p hp => by cases hp⟩
theorem Pages.form (h : Pages w base v ps) : ∃ A c, v = .slice A ps.length c := by
  rcases h.own.2 with ⟨rfl, hn⟩ | ⟨g, cap, cur, rfl, _⟩
  · exact ⟨none, 0, by rw [hn]⟩
  · exact ⟨_, _, rfl⟩
/-- A page's cells. -/
theorem Pages.at_ (h : Pages w base v ps) {k : Nat} {p : PV} (hp : ps[k]? = some p) : ∃ g c, v = .slice (some ⟨g, 0, none⟩) ps.length c ∧ w.cell? ⟨g, k * 5, none⟩ = some (.int .u32 (p.gen : Int)) ∧ w.cell? ⟨g, k * 5 + 1, none⟩ = some (.int .u32 (p.ser : Int)) ∧ w.cell? ⟨g, k * 5 + 2, none⟩ = some (.int .u32 (p.num : Int)) ∧
    w.cell? ⟨g, k * 5 + 3, none⟩ = some (.int .u8 (p.kind : Int)) ∧ w.cell? ⟨g, k * 5 + 4, none⟩ = some (.slice p.A p.m p.c) := by
  have hk : k < ps.length := (List.getElem?_eq_some_iff.1 hp).1
  rcases h.own.2 with ⟨hv, hn⟩ | ⟨g, cap, cur, rfl, _⟩
  · omega
  · have hc : ∀ j, j < 5 → w.cell? ⟨g, k * 5 + j, none⟩ = (pcell p)[j]? := fun j hj => by
      rw [h.own.cellAt _ (by omega), pcells_at ps k j p hp hj]
    exact ⟨g, cap, rfl, hc 0 (by omega), hc 1 (by omega), hc 2 (by omega), hc 3 (by omega), hc 4 (by omega)⟩
end
theorem mine_new (w : World) (cur : Array Value) (l : List Nat) (h : cur.toList = byt l) (hs : ∀ b ∈ l, b < 256) (hl : l.length ≤ 1048576) : Mine (w.alloc (.cells cur 5)) w.heap.size (some ⟨w.heap.size, 0, none⟩) l.length l.length l := by
  have hc : cur.size = l.length := by rw [← byt_length l, ← h, Array.length_toList]
  refine ⟨⟨by rw [byt_length]; omega, .inr ⟨w.heap.size, l.length, cur, rfl, Nat.le_refl _, Go.heap_alloc_new w _, Nat.le_refl _, by unfold maxLen; omega, by rw [hc]; omega, ?_⟩⟩, rfl, hs⟩
  rw [h, Nat.mul_one, List.take_of_length_le (by rw [byt_length]; omega)]
set_option maxRecDepth 100000 in
set_option maxHeartbeats 1000000 in
theorem link_any (w : World) (s : Nat) (hs : s < 4294967296) :
    Calls Try.prog 74 #[.int .u32 (s : Int)] w fun e w' => ∃ A n c, e = .returned (.slice A n c) ∧ Mine w' w.heap.size A n c (be4 s) ∧ Below w.heap.size w w' := by
  go_enter Try.func74, Try.ntmps74
  go_wp2
  go_ret
  refine ⟨_, _, _, rfl, mine_new w _ (be4 s) ?_ (fun b hb => ?_) (by rw [be4_length]; omega), (Below.refl _ _).alloc (Nat.le_refl _) _⟩
  · show [Value.int .u8 ((s : Int) / 16777216), Value.int .u8 ((s : Int) / 65536 % 256), Value.int .u8 ((s : Int) / 256 % 256), Value.int .u8 ((s : Int) % 256)] = [Value.int .u8 ((s / 16777216 % 256 : Nat) : Int), Value.int .u8 ((s / 65536 % 256 : Nat) : Int), Value.int .u8 ((s / 256 % 256 : Nat) : Int), Value.int .u8 ((s % 256 : Nat) : Int)]
    rw [show ((s / 16777216 % 256 : Nat) : Int) = (s : Int) / 16777216 by omega, show ((s / 65536 % 256 : Nat) : Int) = (s : Int) / 65536 % 256 by omega, show ((s / 256 % 256 : Nat) : Int) = (s : Int) / 256 % 256 by omega, show ((s % 256 : Nat) : Int) = (s : Int) % 256 by omega]
  · simp [be4] at hb
    omega
set_option maxRecDepth 100000 in
set_option maxHeartbeats 1000000 in
theorem before_any (w : World) (base i : Nat) (v : Value) (ps : List PV) (h : Pages w base v ps) (p : PV) (hp : ps[i]? = some p) (hl : ps.length ≤ 1048576) :
    Calls Try.prog 75 #[v, .int .i64 ((i + 1 : Nat) : Int)] w fun e w' => e = .returned (.int .u32 (p.ser : Int)) ∧ w = w' := by
  obtain ⟨g, c, rfl, c0, c1, c2, c3, c4⟩ := h.at_ hp
  have hi : i < ps.length := (List.getElem?_eq_some_iff.1 hp).1
  have h1 : (((i + 1 : Nat) : Int) == 0) = false := by rw [beq_eq_false_iff_ne]; omega
  have h2 : ((i + 1 : Nat) : Int) - 1 = (i : Int) := by omega
  obtain ⟨j, hj⟩ : ∃ j, j = i + 1 := ⟨_, rfl⟩
  rw [← hj] at h1 h2 ⊢
  have hj1 : 1 ≤ j := by omega
  have HJ := Lib.hid hj
  obtain ⟨n, hn⟩ : ∃ n, n = ps.length := ⟨_, rfl⟩
  rw [← hn] at hi hl ⊢
  clear hj h hp hn
  go_enter Try.func75, Try.ntmps75
  go_wp2
  go_ret
  exact ⟨rfl, rfl⟩
/-- A Reel's cells. -/
def rcells (gs gen ser first secs : Nat) (pv : Value) (size count : Nat) (rv : Value) : Array Value := #[.pointer (some ⟨gs, 0, none⟩), .int .u32 (gen : Int), .int .u32 (ser : Int), .int .i64 (first : Int), .int .i64 (secs : Int), pv, .int .i64 (size : Int), .int .i64 (count : Int), rv]
/-- What all pages have of the row. -/
def rowOf (ps : List PV) : List Nat := (ps.map fun p => p.data.drop 4).flatten
theorem rowOf_next {ps : List PV} {k : Nat} {p : PV} (h : ps[k]? = some p) : rowOf (ps.take (k + 1)) = rowOf (ps.take k) ++ p.data.drop 4 := by
  unfold rowOf
  rw [List.take_add_one, h, List.map_append, List.flatten_append]
  simp
theorem rowOf_le (ps : List PV) (h : ∀ p ∈ ps, p.data.length ≤ 491) : (rowOf ps).length ≤ ps.length * 487 := by
  induction ps with
  | nil => simp [rowOf]
  | cons p ps ih =>
    have h1 := ih (fun q hq => h q (by simp [hq]))
    have h2 := h p (by simp)
    unfold rowOf at h1 ⊢
    rw [List.map_cons, List.flatten_cons, List.length_append, List.length_drop, List.length_cons]
    omega
theorem Bytes.lies {w : World} {B n c : Nat} {A : Option Addr} {l : List Nat} (h : Bytes w B (.slice A n c) l) : Lies w B A (byt l) := by
  obtain ⟨⟨A', c', hv, hl, _, _⟩, _, _⟩ := h
  injection hv with h1 h2 h3
  rw [h1]
  exact hl
theorem addr_four (g : Nat) : (⟨g, 0, none⟩ : Addr).add 4 = ⟨g, 4, none⟩ := rfl
theorem row_more {w : World} {base n k : Nat} {v : Value} {ps : List PV} {d : List Nat} (hn : rowOf (ps.take (k + 1)) = rowOf (ps.take k) ++ d) (h : w.ownsRow base 5 1 v n (byt (rowOf (ps.take k)) ++ byt d)) : Own w base v (rowOf (ps.take (k + 1))) := by
  rw [← byt_append, ← hn] at h
  exact own_of_row h
def RowS (W : World) (n : Nat) (ps : List PV) (row i : Value) (wr : World) : Prop :=
  ∃ k : Nat, k ≤ n ∧ i = .int .i64 (k : Int) ∧ Own wr W.heap.size row (rowOf (ps.take k)) ∧ Below W.heap.size W wr
set_option maxRecDepth 100000 in
set_option maxHeartbeats 2000000 in
theorem row_any (w : World) (gr gs gen ser first secs size count : Nat) (pv rv : Value) (ps : List PV) (hst : w.heap[gr]? = some (.cells (rcells gs gen ser first secs pv size count rv) 84 (0, 0))) (hp : Pages w 0 pv ps) (h4 : ∀ p ∈ ps, 4 ≤ p.data.length) (hl : ps.length ≤ 2048) :
    Calls Try.prog 48 #[.pointer (some ⟨gr, 0, none⟩)] w fun e w' => ∃ A n c, e = .returned (.slice A n c) ∧ Mine w' w.heap.size A n c (rowOf ps) ∧ Below w.heap.size w w' := by
  obtain ⟨i0, hi0, hz0, hz1, hz2⟩ := info_parts infoByte
  have HI := Lib.hid hi0
  have H0 := Lib.hid hz0
  have H1 := Lib.hid hz1
  have H2 := Lib.hid hz2
  clear hi0 hz0 hz1 hz2
  obtain ⟨Ap, cp, rfl⟩ := hp.form
  obtain ⟨n, hn⟩ : ∃ n, n = ps.length := ⟨_, rfl⟩
  rw [← hn] at hl
  have hst' : w.heap[gr]? = some (.cells (rcells gs gen ser first secs (.slice Ap n cp) size count rv) 84 (0, 0)) := by rw [hn]; exact hst
  have c5 : w.cell? ⟨gr, 5, none⟩ = some (.slice Ap n cp) := by unfold World.cell?; rw [hst']; rfl
  have HN := Lib.hid hn
  have HP := Lib.hid hp
  have H4 := Lib.hid h4
  clear hst hst' hp h4 hn
  go_enter Try.func48, Try.ntmps48
  go_wp2
  go_loopw [3, 11] (fun r i wr => RowS w n ps r i wr) (fun _ i _ => n - (intOf i).toNat)
  case atStart => exact ⟨0, by omega, rfl, own_nil _ _, Below.refl _ _⟩
  case round =>
    obtain ⟨k, hk, rfl, hown, hb⟩ := hrel
    by_cases hlt : k < n
    · obtain ⟨p, hpk⟩ : ∃ p, ps[k]? = some p := ⟨_, List.getElem?_eq_getElem (by rw [← HN.out]; exact hlt)⟩
      obtain ⟨g, c, hv, c0, c1, c2, c3, c4⟩ := (HP.out.below hb).at_ hpk
      injection hv with hv1 _ _
      subst hv1
      have hok := ((HP.out.ok p (List.mem_of_getElem? hpk)).below hb).mine
      have hfew := (HP.out.ok p (List.mem_of_getElem? hpk)).few
      have h4 := H4.out p (List.mem_of_getElem? hpk)
      have hnext := rowOf_next hpk
      have hrl := rowOf_le (ps.take (k + 1)) (fun q hq => (HP.out.ok q (List.mem_of_mem_take hq)).few)
      rw [hnext, List.length_append, List.length_take] at hrl
      have hrl2 : (rowOf (ps.take k)).length + (p.data.drop 4).length ≤ 1048576 := by omega
      obtain ⟨pg, pser, pnum, pk, A, m, pc, dat⟩ := p
      dsimp only at hok hfew h4 hnext hrl2 c0 c1 c2 c3 c4
      have hml := hok.len
      have hmc := mine_cap hok
      have hrest := hok.bytes.rest (k := 4) (by omega)
      rw [← hml] at h4 hfew
      obtain ⟨gd, b0, rfl, _⟩ := hok.at_ (k := 0) (by omega)
      have HLN : Hid ((byt (dat.drop 4)).length = m - 4) := Lib.hid (by rw [byt_length, List.length_drop, hml])
      have HML := Lib.hid hml
      have HO := Lib.hid hown
      have HB := Lib.hid hb
      have HNX := Lib.hid hnext
      have HRL := Lib.hid hrl2
      clear hpk hok hml hown hb hnext hrl hrl2
      by_cases hc4 : pc = 4
      · obtain rfl : m = 4 := by omega
        subst hc4
        rw [if_pos rfl] at hrest
        have HCL : Hid (∀ o (j : Nat) (u : Value), (byt (dat.drop 4))[j]? = some u → (wr.alloc o).cell? ((⟨gd, 0, none⟩ : Addr).add j) = some u) := Lib.hid (fun o => (Lies.alloc hrest.lies (Nat.le_refl _) o).cells)
        clear hrest
        go_wp2_with (at_builtin; go_loud (refine wpList_append_own _ rfl _ _ 43 rfl w.heap.size 5 i0 (.int .u8 0) 1 1 Try.underlying43 HI.out H0.out H1.out H2.out rfl (by decide) _ _ _ rfl (World.ownsRow.alloc HO.out _) ⟨gd, 0, none⟩ (4 - 4) (4 - 4) (byt (dat.drop 4)) rfl (HLN.out.trans (Nat.mul_one _).symm) (HCL.out _) (one_byt _) (by have := HRL.out; unfold maxLen; omega) (by have := HRL.out; omega) (by have := HB.out.size; simp; omega) ?_); intro v' w1 hown1 hg1 hx1)
        have hbel := (HB.out.alloc HB.out.size (.cells #[.int .u32 (pg : Int), .int .u32 (pser : Int), .int .u32 (pnum : Int), .int .u8 (pk : Int), .slice (some ⟨gd, 0, none⟩) 4 4] 85)).grown hg1 (by have := HB.out.size; simp; omega) (fun g hg => (own_block_lt HO.out hg).1)
        have HO2 := Lib.hid (row_more HNX.out hown1)
        have HB2 := Lib.hid hbel
        clear hown1 hg1 hx1 hbel
        go_roundw
        case rel => exact ⟨v', _, .int .i64 ((k : Int) + 1), ⟨k + 1, by omega, by go_num, HO2.out, HB2.out⟩, rfl, rfl, rfl⟩
        case measure => simp [intOf]; omega
      · rw [if_neg hc4, Option.map_some, addr_four] at hrest
        have HCL : Hid (∀ o (j : Nat) (u : Value), (byt (dat.drop 4))[j]? = some u → (wr.alloc o).cell? ((⟨gd, 4, none⟩ : Addr).add j) = some u) := Lib.hid (fun o => (Lies.alloc hrest.lies (Nat.le_refl _) o).cells)
        clear hrest
        go_wp2_with (at_builtin; go_loud (refine wpList_append_own _ rfl _ _ 43 rfl w.heap.size 5 i0 (.int .u8 0) 1 1 Try.underlying43 HI.out H0.out H1.out H2.out rfl (by decide) _ _ _ rfl (World.ownsRow.alloc HO.out _) ⟨gd, 4, none⟩ (m - 4) (pc - 4) (byt (dat.drop 4)) rfl (HLN.out.trans (Nat.mul_one _).symm) (HCL.out _) (one_byt _) (by have := HRL.out; unfold maxLen; omega) (by have := HRL.out; omega) (by have := HB.out.size; simp; omega) ?_); intro v' w1 hown1 hg1 hx1)
        have hbel := (HB.out.alloc HB.out.size (.cells #[.int .u32 (pg : Int), .int .u32 (pser : Int), .int .u32 (pnum : Int), .int .u8 (pk : Int), .slice (some ⟨gd, 0, none⟩) m pc] 85)).grown hg1 (by have := HB.out.size; simp; omega) (fun g hg => (own_block_lt HO.out hg).1)
        have HO2 := Lib.hid (row_more HNX.out hown1)
        have HB2 := Lib.hid hbel
        clear hown1 hg1 hx1 hbel
        go_roundw
        case rel => exact ⟨v', _, .int .i64 ((k : Int) + 1), ⟨k + 1, by omega, by go_num, HO2.out, HB2.out⟩, rfl, rfl, rfl⟩
        case measure => simp [intOf]; omega
    · obtain rfl : k = n := by omega
      have he : ps.take k = ps := List.take_of_length_le (by rw [← HN.out]; omega)
      rw [he] at hown
      have hsm : ∀ b ∈ rowOf ps, b < 256 := fun b hb => by
        unfold rowOf at hb
        obtain ⟨l, hl, hb⟩ := List.mem_flatten.1 hb
        obtain ⟨q, hq, rfl⟩ := List.mem_map.1 hl
        exact (HP.out.ok q hq).mine.small b (List.mem_of_mem_drop hb)
      obtain ⟨A2, n2, c2, rfl, hM⟩ := Mine.of_own hown hsm
      have HM := Lib.hid hM
      clear hown he hsm hM
      go_wp2
      go_ret
      exact ⟨A2, n2, c2, rfl, HM.out, hb⟩
end Go.Proofs.Ytalpippeelomjaa
namespace Go.Proofs.Ytalpippeelomjaa
open Go.RowKit
set_option linter.unusedSimpArgs false

theorem down_lower {w : World} {base base' N : Nat} {t : TypeId} {size : Nat} {v : Value} {xs : List Value} (h : w.ownsRow base t size v N xs) (hb : base' ≤ base) : w.ownsRow base' t size v N xs := by
  obtain ⟨hl, hv⟩ := id h
  refine ⟨hl, ?_⟩
  rcases hv with hv | ⟨g, cap, cur, rfl, h1, h2⟩
  · exact .inl hv
  · exact .inr ⟨g, cap, cur, rfl, Nat.le_trans hb h1, h2⟩
theorem new_past {w : World} {g : Nat} {x : Obj} (o : Obj) (h : w.heap[g]? = some x) : (w.alloc o).heap[g]? = some x := by
  have hlt : g < w.heap.size := by
    rcases Nat.lt_or_ge g w.heap.size with h1 | h1
    · exact h1
    · rw [Array.getElem?_eq_none h1] at h; cases h
  exact (Below.heap_alloc w o g hlt).trans h
theorem own_apart {w : World} {b b' n n' s s' : Nat} {e e' : TypeId} {v v' : Value} {xs xs' : List Value} (h : w.ownsRow b e s v n xs) (h' : w.ownsRow b' e' s' v' n' xs') (hne : e ≠ e') : v.ownBlock = none ∨ v.ownBlock ≠ v'.ownBlock := by
  rcases h.2 with ⟨rfl, _⟩ | ⟨g, cap, cur, rfl, _, h1, _⟩
  · exact .inl rfl
  · rcases h'.2 with ⟨rfl, _⟩ | ⟨g', cap', cur', rfl, _, h2, _⟩
    · exact .inr (by simp [Value.ownBlock])
    · refine .inr (fun he => ?_)
      have hg : g = g' := by simpa [Value.ownBlock] using he
      subst hg
      rw [h1] at h2
      injection h2 with h2
      injection h2 with _ h3
      exact hne h3
/-- A whole row stored into a block that has just been made. -/
theorem fold_set_at (L : List Value) : ∀ (k : Nat) (base : Array Value) (i : Nat), i < base.size →
    ((L.zipIdx k).foldl (fun (cs : Array Value) x => cs.setIfInBounds (0 + x.2) x.1) base)[i]? = if k ≤ i ∧ i < k + L.length then L[i - k]? else base[i]? := by
  induction L with
  | nil => intro k base i hi; rw [if_neg (by intro h; have := h.2; simp at this; omega)]; rfl
  | cons v L ih =>
    intro k base i hi
    rw [List.zipIdx_cons, List.foldl_cons, ih (k + 1) _ i (by simpa using hi)]
    by_cases h1 : k = i
    · subst h1
      rw [if_neg (by omega), if_pos (by simp), Nat.sub_self, Nat.zero_add, Array.getElem?_setIfInBounds, if_pos rfl, if_pos hi]
      rfl
    · by_cases h2 : k + 1 ≤ i ∧ i < k + 1 + L.length
      · rw [if_pos h2, if_pos (by simp; omega)]
        obtain ⟨m, hm⟩ : ∃ m, i - k = m + 1 := ⟨i - k - 1, by omega⟩
        rw [hm, List.getElem?_cons_succ]
        congr 1
        omega
      · rw [if_neg h2, if_neg (by simp; omega), Nat.zero_add, Array.getElem?_setIfInBounds, if_neg h1]
theorem fold_set_size (L : List (Value × Nat)) : ∀ (base : Array Value), (L.foldl (fun (cs : Array Value) x => cs.setIfInBounds (0 + x.2) x.1) base).size = base.size := by
  induction L with
  | nil => intro base; rfl
  | cons x L ih => intro base; rw [List.foldl_cons, ih]; simp
theorem fold_set (L : List Value) (base : Array Value) (h : base.size = L.length) : (L.toArray.zipIdx.foldl (fun (cs : Array Value) x => cs.setIfInBounds (0 + x.2) x.1) base) = L.toArray := by
  have e : L.toArray.zipIdx.foldl (fun (cs : Array Value) x => cs.setIfInBounds (0 + x.2) x.1) base = (L.zipIdx).foldl (fun (cs : Array Value) x => cs.setIfInBounds (0 + x.2) x.1) base := by
    rw [← Array.foldl_toList, Array.toList_zipIdx]
  rw [e]
  apply Array.ext_getElem?
  intro i
  rcases Nat.lt_or_ge i base.size with hi | hi
  · rw [fold_set_at L 0 base i hi, if_pos (by omega)]
    simp
  · rw [Array.getElem?_eq_none (by rw [fold_set_size]; exact hi), Array.getElem?_eq_none (by simp; omega)]
theorem run_buildSlice_one {P : Program} (w : World) (t e : TypeId) (i : TypeInfo) (z : Value) (C : List Value) (ht : P.underlying t = some (.slice e)) (hi : P.info? e = some i) (hz : i.zero = some z) (hs : i.size = C.length) (h0 : 0 < C.length) (hb : C.length ≤ 16777216) :
    (Instr.buildSlice t 1 #[(0, .agg C.toArray)]).run P w = .ok (.slice (some ⟨w.heap.size, 0, none⟩) 1 1) (w.alloc (.cells C.toArray e)) := by
  have hf : Instr.fill (fun j => some (j * C.length, C.length)) ((Array.range (1 * C.length)).map (z.cells[· % z.cells.size]!)) [(0, .agg C.toArray)] = some C.toArray := by
    unfold Instr.fill
    have e1 : (Value.agg C.toArray).cells = C.toArray := rfl
    simp only [e1, Nat.zero_mul]
    rw [if_neg (by simp)]
    unfold Instr.fill
    rw [fold_set C _ (by simp)]
  simp only [Instr.buildSlice, Sem.run_bind, run_underlying ht, Result.andThen_ok, sizeOf, typeInfo]
  simp [zeroValue, typeInfo, hi, hz]
  rw [Nat.one_mul] at hf
  rw [if_neg (by omega), if_neg (by omega), hs, hf]
  rfl

def full (l : List Nat) : List Nat := (l.take 512 ++ List.replicate 512 0).take 512
theorem full_length (l : List Nat) : (full l).length = 512 := by
  unfold full
  rw [List.length_take, List.length_append, List.length_replicate]
  omega
theorem full_small {l : List Nat} (h : ∀ b ∈ l, b < 256) : ∀ b ∈ full l, b < 256 := by
  intro b hb
  rcases List.mem_append.1 (List.mem_of_mem_take hb) with h1 | h1
  · exact h b (List.mem_of_mem_take h1)
  · rw [List.eq_of_mem_replicate h1]; omega
def noughts : List Nat := List.replicate 512 0
theorem noughts_length : noughts.length = 512 := List.length_replicate
theorem noughts_small : ∀ b ∈ noughts, b < 256 := by
  intro b hb
  rw [List.eq_of_mem_replicate hb]
  omega
theorem run_make512 (w : World) : (Instr.makeSlice 43 (.int .i64 512) (.int .i64 512)).run Try.prog w = .ok (.slice (some ⟨w.heap.size, 0, none⟩) 512 512) (w.alloc (.cells (byt noughts).toArray 5)) := by
  obtain ⟨i0, hi0, hz0, hz1, hz2⟩ := info_parts infoByte
  have h := run_make (P := Try.prog) w 43 5 i0 (.int .u8 0) Try.underlying43 hi0 hz0 .i64 .i64 512 512 (by omega) (by omega) (by rw [hz2]; decide) (by omega)
  rw [hz1] at h
  have e : madeCells (Value.cells (.int .u8 0)) ((512 : Int).toNat * 1) = (byt noughts).toArray := by
    have e2 := toList_madeCells_one (.int .u8 0) 512
    have e3 : (byt noughts).toArray = (madeCells #[Value.int .u8 0] 512).toList.toArray := by
      rw [e2]
      unfold byt noughts
      rw [List.map_replicate]
      rfl
    rw [e3, Array.toArray_toList]
    rfl
  rw [e] at h
  exact h

theorem new_at (w : World) (o : Obj) (g : Nat) (hg : g = w.heap.size) : (w.alloc o).heap[g]? = some o := by
  rw [hg]
  exact Go.heap_alloc_new w o
theorem cut_noughts_small {l : List Nat} (h : ∀ b ∈ l.take 512, b < 256) : ∀ b ∈ l.take 512 ++ noughts, b < 256 := fun b hb => by
  rcases List.mem_append.1 hb with h1 | h1
  · exact h b h1
  · exact noughts_small b h1

set_option maxRecDepth 100000 in
set_option maxHeartbeats 4000000 in
theorem full_any (w : World) (v : Value) (l : List Nat) (hp : Bytes w w.heap.size v l) :
    Calls Try.prog 31 #[v] w fun e w' => ∃ A n c, e = .returned (.slice A n c) ∧ Mine w' w.heap.size A n c (full l) ∧ Below w.heap.size w w' := by
  have hmk := run_make512
  have HP : Hid (Bytes w.drew w.drew.heap.size v l) := hp.of_cells fun _ _ => rfl
  have HZ : Hid (Bytes (w.alloc (.cells (byt noughts).toArray 5)).drew (w.heap.size + 1) (.slice (some ⟨w.heap.size, 0, none⟩) 512 512) noughts) :=
    (bytes_block (Go.heap_alloc_new w _) (by omega) noughts_length.symm (by omega) noughts_small (by rw [noughts_length]; unfold maxLen; omega) : Bytes (w.alloc (.cells (byt noughts).toArray 5)) _ _ _).of_cells fun _ _ => rfl
  have HP2 : Hid (Bytes (w.alloc (.cells (byt noughts).toArray 5)).drew (w.alloc (.cells (byt noughts).toArray 5)).drew.heap.size v l) :=
    (hp.along ((Below.refl _ _).alloc (Nat.le_refl _) _)).of_cells fun _ _ => rfl
  clear hp
  go_enter Try.func31, Try.ntmps31
  go_wp2
--R1
  refine wp_region_noPanic ?_
  refine wp_region_held_drew (S := (fun w' => Below w.heap.size w w')) (by kernel_rfl) (Below.refl _ _).drew (fun hHeld => ?_)
  refine take_at (i := 0) (v := ?_) (some 3) rfl rfl (by kernel_rfl) (by kernel_rfl) (by kernel_rfl) (fun _ _ _ h => h) (Or.inl ⟨by rfl, ?_⟩) (by assumption) ?_
  rotate_left
  · intro w hSw
    first | (go_simp; done) | (go_simp; with_reducible rfl)
  try simp only [Act.put, List.setIfInBounds_toArray, List.set_cons_zero, List.set_cons_succ]
  refine wpAnyH_ready (rs := [1, 2]) (by kernel_rfl) (by simp) ?_
  refine (AllReadyH.cons rfl (fun K hK => ?_) (AllReadyH.cons rfl (fun K hK => ?_) AllReadyH.nil))
  · go_simp
    with_reducible refine (cut_mine _ _ l 512 512 rfl HP.out (by omega)).mono ?_
    rintro e w1 ⟨A, m, c, rfl, hM, hb⟩
    have hMs := hM.small
    refine hK.out _ _ ?_ (fun hHeld2 => ?_)
    · exact (below_on hHeld hb)
    clear hK K hHeld
    have hHeld := hHeld2
    clear hHeld2
    try simp only [Act.put, List.setIfInBounds_toArray, List.set_cons_zero, List.set_cons_succ]
    refine wpAnyH_ready (rs := [2]) (by kernel_rfl) (by simp) ?_
    refine AllReadyH.cons rfl (fun K hK => ?_) AllReadyH.nil
    go_simp
    refine hK.out _ _ ?_ (fun hHeld2 => ?_)
    · exact (hHeld.alloc hHeld.size _)
    clear hK K hHeld
    have hHeld := hHeld2
    clear hHeld2
    try simp only [Act.put, List.setIfInBounds_toArray, List.set_cons_zero, List.set_cons_succ]
    refine wpAnyH_ready (rs := [3]) (by kernel_rfl) (by simp) ?_
    refine AllReadyH.cons rfl (fun K hK => ?_) AllReadyH.nil
    go_simp
    refine hK.out _ _ ?_ (fun hHeld2 => ?_)
    · exact (hHeld.alloc hHeld.size _)
    clear hK K hHeld
    have hHeld := hHeld2
    clear hHeld2
    try simp only [Act.put, List.setIfInBounds_toArray, List.set_cons_zero, List.set_cons_succ]
    refine wpAnyH_ready (rs := [4]) (by kernel_rfl) (by simp) ?_
    refine AllReadyH.cons rfl (fun K hK => ?_) AllReadyH.nil
    go_simp
    have hPP : Parts ((w1.alloc (.cells (byt noughts).toArray 5)).alloc (.cells #[.slice A m c, .slice (some ⟨w1.heap.size, 0, none⟩) 512 512] 43)) ((w1.alloc (.cells (byt noughts).toArray 5)).alloc (.cells #[.slice A m c, .slice (some ⟨w1.heap.size, 0, none⟩) 512 512] 43)).heap.size (.slice (some ⟨w1.heap.size + 1, 0, none⟩) 2 2) [l.take 512, noughts] := parts_two (B := ((w1.alloc (.cells (byt noughts).toArray 5)).alloc (.cells #[.slice A m c, .slice (some ⟨w1.heap.size, 0, none⟩) 512 512] 43)).heap.size) (new_at _ _ _ (by simp)) ((hM.bytes.along ((Below.refl _ _).alloc (Nat.le_refl _) _)).along ((Below.refl _ _).alloc (Nat.le_refl _) _)) ((bytes_block (Go.heap_alloc_new w1 _) (by simp) noughts_length.symm (by omega) noughts_small (by rw [noughts_length]; unfold maxLen; omega) : Bytes (w1.alloc (.cells (byt noughts).toArray 5)) (w1.alloc (.cells (byt noughts).toArray 5)).heap.size _ noughts).along ((Below.refl _ _).alloc (Nat.le_refl _) _)) (Nat.le_refl _)
    have e : [l.take 512, noughts].flatten = l.take 512 ++ noughts := by simp
    have hJ := join_mine _ _ _ hPP (by rw [e]; exact cut_noughts_small hMs) (by rw [e, List.length_append, noughts_length, List.length_take]; omega)
    rw [e] at hJ
    with_reducible refine hJ.mono ?_
    rintro e3 w5 ⟨A5, m5, c5, rfl, hM5, hb5⟩
    refine hK.out _ _ ?_ (fun hHeld2 => ?_)
    · exact (below_on hHeld hb5)
    clear hK K hHeld
    have hHeld := hHeld2
    clear hHeld2
    try simp only [Act.put, List.setIfInBounds_toArray, List.set_cons_zero, List.set_cons_succ]
    refine wpAnyH_ready (rs := [5]) (by kernel_rfl) (by simp) ?_
    refine AllReadyH.cons rfl (fun K hK => ?_) AllReadyH.nil
    go_simp
    with_reducible refine (cut_mine w5 _ (l.take 512 ++ noughts) 512 512 rfl hM5.bytes (by omega)).mono ?_
    rintro e4 w6 ⟨A6, m6, c6, rfl, hM6, hb6⟩
    refine hK.out _ _ ?_ (fun hHeld2 => ?_)
    · exact (below_on hHeld hb6)
    clear hK K hHeld
    have hHeld := hHeld2
    clear hHeld2
    try simp only [Act.put, List.setIfInBounds_toArray, List.set_cons_zero, List.set_cons_succ]
    refine take_at (i := 6) (v := ?_) (some 2) rfl rfl (by kernel_rfl) (by kernel_rfl) (by kernel_rfl) (fun _ _ _ h => h) (Or.inl ⟨by rfl, ?_⟩) (by assumption) ?_
    rotate_left
    · intro w hSw
      first | (go_simp; done) | (go_simp; with_reducible rfl)
    try simp only [Act.put, List.setIfInBounds_toArray, List.set_cons_zero, List.set_cons_succ]
    refine wpAnyH_done (by kernel_rfl) ?_ _
    refine NoPanic.normal ?_
    have hfin := hM6.lower (base' := w.heap.size) (by have h1 := hb6.size; have h4 : w.heap.size ≤ w1.heap.size := (by first | exact hb.size | exact Nat.le_trans (by simp [World.drew]) hb.size); have h2 := hb5.size; have h3 := hHeld.size; first | omega | (simp at h1 h2 h3 ⊢; omega))
    have hHeld3 := hHeld
    go_wp2
    go_ret
    exact ⟨A6, m6, c6, rfl, hfin, hHeld3⟩
  · go_simp
    refine hK.out _ _ ?_ (fun hHeld2 => ?_)
    · exact (((Below.refl _ _).alloc (Nat.le_refl _) _).drew)
    clear hK K hHeld
    have hHeld := hHeld2
    clear hHeld2
    try simp only [Act.put, List.setIfInBounds_toArray, List.set_cons_zero, List.set_cons_succ]
    refine wpAnyH_ready (rs := [1]) (by kernel_rfl) (by simp) ?_
    refine AllReadyH.cons rfl (fun K hK => ?_) AllReadyH.nil
    go_simp
    with_reducible refine (cut_mine _ _ l 512 512 rfl HP2.out (by omega)).mono ?_
    rintro e w1 ⟨A, m, c, rfl, hM, hb⟩
    have hMs := hM.small
    refine hK.out _ _ ?_ (fun hHeld2 => ?_)
    · exact (below_on hHeld hb)
    clear hK K hHeld
    have hHeld := hHeld2
    clear hHeld2
    try simp only [Act.put, List.setIfInBounds_toArray, List.set_cons_zero, List.set_cons_succ]
    refine wpAnyH_ready (rs := [3]) (by kernel_rfl) (by simp) ?_
    refine AllReadyH.cons rfl (fun K hK => ?_) AllReadyH.nil
    go_simp
    refine hK.out _ _ ?_ (fun hHeld2 => ?_)
    · exact (hHeld.alloc hHeld.size _)
    clear hK K hHeld
    have hHeld := hHeld2
    clear hHeld2
    try simp only [Act.put, List.setIfInBounds_toArray, List.set_cons_zero, List.set_cons_succ]
    refine wpAnyH_ready (rs := [4]) (by kernel_rfl) (by simp) ?_
    refine AllReadyH.cons rfl (fun K hK => ?_) AllReadyH.nil
    go_simp
    have hPP : Parts (w1.alloc (.cells #[.slice A m c, .slice (some ⟨w.heap.size, 0, none⟩) 512 512] 43)) (w1.alloc (.cells #[.slice A m c, .slice (some ⟨w.heap.size, 0, none⟩) 512 512] 43)).heap.size (.slice (some ⟨w1.heap.size, 0, none⟩) 2 2) [l.take 512, noughts] := parts_two (B := (w1.alloc (.cells #[.slice A m c, .slice (some ⟨w.heap.size, 0, none⟩) 512 512] 43)).heap.size) (new_at _ _ _ (by simp)) (hM.bytes.along ((Below.refl _ _).alloc (Nat.le_refl _) _)) (((HZ.out.up (by simp [World.drew])).along hb).along ((Below.refl _ _).alloc (Nat.le_refl _) _)) (Nat.le_refl _)
    have e : [l.take 512, noughts].flatten = l.take 512 ++ noughts := by simp
    have hJ := join_mine _ _ _ hPP (by rw [e]; exact cut_noughts_small hMs) (by rw [e, List.length_append, noughts_length, List.length_take]; omega)
    rw [e] at hJ
    with_reducible refine hJ.mono ?_
    rintro e3 w5 ⟨A5, m5, c5, rfl, hM5, hb5⟩
    refine hK.out _ _ ?_ (fun hHeld2 => ?_)
    · exact (below_on hHeld hb5)
    clear hK K hHeld
    have hHeld := hHeld2
    clear hHeld2
    try simp only [Act.put, List.setIfInBounds_toArray, List.set_cons_zero, List.set_cons_succ]
    refine wpAnyH_ready (rs := [5]) (by kernel_rfl) (by simp) ?_
    refine AllReadyH.cons rfl (fun K hK => ?_) AllReadyH.nil
    go_simp
    with_reducible refine (cut_mine w5 _ (l.take 512 ++ noughts) 512 512 rfl hM5.bytes (by omega)).mono ?_
    rintro e4 w6 ⟨A6, m6, c6, rfl, hM6, hb6⟩
    refine hK.out _ _ ?_ (fun hHeld2 => ?_)
    · exact (below_on hHeld hb6)
    clear hK K hHeld
    have hHeld := hHeld2
    clear hHeld2
    try simp only [Act.put, List.setIfInBounds_toArray, List.set_cons_zero, List.set_cons_succ]
    refine take_at (i := 6) (v := ?_) (some 2) rfl rfl (by kernel_rfl) (by kernel_rfl) (by kernel_rfl) (fun _ _ _ h => h) (Or.inl ⟨by rfl, ?_⟩) (by assumption) ?_
    rotate_left
    · intro w hSw
      first | (go_simp; done) | (go_simp; with_reducible rfl)
    try simp only [Act.put, List.setIfInBounds_toArray, List.set_cons_zero, List.set_cons_succ]
    refine wpAnyH_done (by kernel_rfl) ?_ _
    refine NoPanic.normal ?_
    have hfin := hM6.lower (base' := w.heap.size) (by have h1 := hb6.size; have h4 : w.heap.size ≤ w1.heap.size := (by first | exact hb.size | exact Nat.le_trans (by simp [World.drew]) hb.size); have h2 := hb5.size; have h3 := hHeld.size; first | omega | (simp at h1 h2 h3 ⊢; omega))
    have hHeld3 := hHeld
    go_wp2
    go_ret
    exact ⟨A6, m6, c6, rfl, hfin, hHeld3⟩
--R1E
end Go.Proofs.Ytalpippeelomjaa
