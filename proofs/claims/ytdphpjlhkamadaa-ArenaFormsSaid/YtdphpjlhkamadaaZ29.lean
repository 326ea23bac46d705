/- AKeys, SBase: joined by program (tools/merge.py). -/
import Derived.RangeFuncBox
import Derived.RangeFuncNested
import Derived.RangeFuncCalls
import Derived.RangeFuncLeaves
import Derived.RangeFuncWrites
import Derived.RangeFuncFrom
import Derived.RangeFuncKeeps
import Derived.Sort.MapsRangeIn
import Derived.Shelf.Abstract
import Derived.Shelf.RegionOpen
import Derived.WalkKit
import Derived.OwnWalkIn
import Derived.TacticsInMore
import Derived.LoopNIn
import Derived.LoopIn
import Derived.Maps.AppendAt
import Derived.Test.YtdphpjlhkamadaaZ20
import Derived.Test.YtdphpjlhkamadaaChecked
import Derived.Sort.Walk13a
import Derived.Sort.LotA
import Derived.Sort.LotB
import Derived.Sort.LotC
import Derived.BigGuard
import Derived.BigCall
import Derived.BigQuiet
import Derived.CellFam
import Derived.Deep.Draws
import Derived.Deep.QuietTactic
import Derived.Deep.LoopGhost
import Derived.Lib.Hide
namespace Go.Proofs.Ytdphpjlhkamadaa
open Go.RowKit Go.Shelf
set_option linter.unusedSimpArgs false
set_option linter.unusedVariables false
attribute [local go_sem] Oper.semAt_some
/-- What a round keeps: all that lay below, and the walks of maps. -/
def KpK (n0 : Nat) (A B : World) : Prop := Below n0 A B ∧ KeepsWalks A B
theorem KpK.trans {n0 : Nat} {A B C : World} (h : KpK n0 A B) (k : KpK n0 B C) : KpK n0 A C := ⟨h.1.trans k.1, h.2.trans k.2⟩
theorem kpK_b {n0 : Nat} {w : World} (hn : n0 ≤ w.heap.size) (W : World) (l : Nat) (o o' : Obj) (hl : w.heap.size ≤ l) (h : W.heap[l]? = some o) (h1 : o.isCells = false) (h2 : o.isWalk = false) : KpK n0 W (W.putObj l o') :=
  ⟨belowK_b hn W l o o' hl h h1 h2, KeepsWalks.putObj _ h h2⟩
/-- How far the numbers have been told. -/
structure KeysI (vs : List (Nat × Value)) (left : Lit → Bool) (cnt : Nat) (ys : List Nat) : Prop where
  once : ys.Nodup
  node : ∀ x ∈ ys, hasL vs x = true
  left_ : ∀ k, hasL vs k = true → left (keyL k) = !decide (k ∈ ys)
  few : ys.length + cnt ≤ vs.length
theorem hasL_mem {α : Type} : ∀ (vs : List (Nat × α)) (k : Nat), hasL vs k = true ↔ k ∈ vs.map (·.1)
  | [], k => by simp [hasL, getL]
  | p :: r, k => by
    have ih := hasL_mem r k
    unfold hasL at ih ⊢
    unfold getL
    by_cases h : p.1 = k
    · rw [if_pos h]; simp [h]
    · rw [if_neg h, ih, List.map_cons, List.mem_cons]
      exact ⟨fun h1 => .inr h1, fun h1 => h1.resolve_left (fun e => h e.symm)⟩
theorem rise_nodup {α : Type} {vs : List (Nat × α)} (h : Rise vs) : (vs.map (·.1)).Nodup := by
  unfold Rise at h
  rw [List.Nodup, List.pairwise_map]
  exact h.imp fun hlt e => by omega
theorem KeysI.start {vs : List (Nat × Value)} : KeysI vs (Maps.has (mapD vs)) (Maps.size (mapD vs)) [] :=
  ⟨List.nodup_nil, by simp, fun k hk => by rw [mapD_has]; unfold hasL at hk; rw [hk]; simp, by rw [mapD_size]; simp⟩
theorem KeysI.end_ {vs : List (Nat × Value)} {left : Lit → Bool} {cnt : Nat} {ys : List Nat} (hr : Rise vs) (h : KeysI vs left cnt ys) (hl : ∀ kl, left kl = false) : ys.Perm (vs.map (·.1)) := by
  refine (List.perm_ext_iff_of_nodup h.once (rise_nodup hr)).2 fun k => ⟨fun hk => (hasL_mem vs k).1 (h.node k hk), fun hk => ?_⟩
  have h1 := h.left_ k ((hasL_mem vs k).2 hk)
  rw [hl] at h1
  by_cases hm : k ∈ ys
  · exact hm
  · rw [decide_eq_false hm] at h1; cases h1
theorem KeysI.next {vs : List (Nat × Value)} {left : Lit → Bool} {cnt cnt' x : Nat} {ys : List Nat} (h : KeysI vs left cnt ys) (hx : hasL vs x = true) (hlk : left (keyL x) = true) (hlt : cnt' < cnt) :
    KeysI vs (fun z => left z && !z.sameKey (keyL x)) cnt' (ys ++ [x]) := by
  have hnx : x ∉ ys := fun hm => by
    have h1 := h.left_ x hx
    rw [hlk, decide_eq_true hm] at h1
    cases h1
  refine ⟨?_, ?_, fun k hk => ?_, by have := h.few; simp; omega⟩
  · rw [List.nodup_append]
    exact ⟨h.once, by simp, fun a ha b hb e => by simp at hb; subst hb; subst e; exact hnx ha⟩
  · intro y hy
    rcases List.mem_append.1 hy with hy | hy
    · exact h.node y hy
    · simp at hy; subst hy; exact hx
  · show (left (keyL k) && !(keyL k).sameKey (keyL x)) = _
    rw [h.left_ k hk, key_same]
    by_cases hk1 : k = x
    · subst hk1
      simp
    · by_cases hk2 : k ∈ ys <;> simp [hk1, hk2]
set_option maxRecDepth 100000 in
set_option maxHeartbeats 2000000 in
theorem keys1_in (n : Nat) (hn : 1 ≤ n) (l Bm b n0 : Nat) (vs : List (Nat × Value)) (J Jx : List Nat → World → Prop) (W : World) (hJ : AbidesFrom W.heap.size J) (hn0 : n0 ≤ W.heap.size) (hb0 : b < n0)
    (hY : ∀ (pre : List Nat) (x : Nat) (W : World), J pre W → pre.length < vs.length → YieldAt Fence.wide (n - 1) Try.prog l #[.int .u64 (x : Int)] W fun e W' =>
      (e = .returned (.bool true) ∧ J (pre ++ [x]) W' ∧ KpK n0 W W') ∨ (e = .returned (.bool false) ∧ Jx (pre ++ [x]) W'))
    (hm : W.cell? ⟨Bm, 0, none⟩ = some (.map (some b))) (hM : MapV W b vs) (h0 : J [] W) :
    CallsIn Fence.wide n Try.prog 78 #[.func (.yield l) #[] #[], .pointer (some ⟨Bm, 0, none⟩)] W fun e W' => (∃ v, e = .returned v) ∧
      ((∃ ys : List Nat, ys.Perm (vs.map (·.1)) ∧ J ys W') ∨ (∃ pre : List Nat, True ∧ Jx pre W')) := by
  have hown := hM.own
  have HR := Lib.hid hM.rise
  clear hM
  refine callsIn_of_wp Try.func78 rfl trivial ?_ rfl
  simp only [Try.ntmps78, List.size_toArray, List.length_cons, List.length_nil, Nat.reduceAdd, Nat.reduceSub, Array.replicate_succ, Array.replicate_zero, List.push_toArray, List.append_toArray, List.nil_append, List.cons_append]
  gi_wp2_with (first
    | (gi_at_range; refine wpListIn_range_own _ rfl _ 70 rfl 24 33 idKeyed Try.underlying70 heldE b vs.length _ rfl hown ?_; intro w0 hrg0 hg0 hs0)
    | fail)
  go_frame
  gi_loopw [3] (fun _ wr => ∃ (left : Lit → Bool) (cnt : Nat) (ys : List Nat), RangesV wr b W.heap.size vs.length vs left cnt ∧ KeysI vs left cnt ys ∧ J ys wr)
    (fun _ wr => wr.rangeLeft b W.heap.size)
  case atStart => exact ⟨_, _, [], hrg0, KeysI.start, hJ [] W w0 none h0 hg0 (fun r e => by cases e)⟩
  case round =>
    obtain ⟨left, cnt, ys, hrg, hC, hJs⟩ := hrel
    gi_wp2_with (first
      | (gi_at_next; refine wpListIn_next_ranges _ rfl _ rfl 24 idKeyed heldE (fun x : Nat => Value.int .u64 (x : Int)) id keyInv (fun v y h => ⟨v, rfl⟩) b W.heap.size vs.length _ _ _ rfl hrg ?_ ?_)
      | fail)
    · intro hc0 hl0
      gi_wp2
      go_end0
      exact ⟨⟨_, rfl⟩, .inl ⟨ys, hC.end_ HR.out hl0, hJs⟩⟩
    · intro x c kl yd yp w2 cnt2 hkey hlk hv hat hrg2 hlt hg2 hs2 hen
      obtain ⟨rfl, hx64⟩ := keyIs hkey
      have hgx := valIs hv hat
      have hhx : hasL vs x = true := by unfold hasL; rw [hgx]; rfl
      have hJ2 : J ys w2 := hJ ys wr w2 (some W.heap.size) hJs hg2 (fun r e => by cases e; exact ⟨Nat.le_refl _, hrg.iter_walk⟩)
      obtain ⟨fn, tmps, assign, body, hy, hRn⟩ := hY ys x w2 hJ2 (by have := hC.few; omega)
      clear hs2
      gi_wp2
      refine hRn.mono ?_
      have hC2 := hC.next hhx hlk hlt
      rintro e W3 (⟨rfl, hJ3, hk3⟩ | ⟨rfl, hJx3⟩)
      · gi_wp2
        obtain ⟨mm, since, seen, c0, hi⟩ := ranges_iter hrg2
        have hrg3 : RangesV W3 b W.heap.size vs.length vs _ cnt2 := ranges_at hrg2 (hk3.1.block b hb0) (by rw [hi]; exact hk3.2.same _ _ hi rfl)
        go_roundw
        case rel => exact ⟨_, cnt2, ys ++ [x], hrg3, hC2, hJ3⟩
        case measure => rw [hrg3.left_eq, hrg.left_eq]; exact hlt
      · gi_wp2
        refine bodyPost_ret (results_none rfl _ _ _) rfl ?_
        exact ⟨⟨_, rfl⟩, .inr ⟨_, trivial, hJx3⟩⟩
theorem keys_stops (n : Nat) (hn : 1 ≤ n) (Bm b n0 : Nat) (vs : List (Nat × Value)) (w : World) (h1 : Bm < w.heap.size) (hn0 : n0 ≤ w.heap.size) (hb0 : b < n0) (hm : w.cell? ⟨Bm, 0, none⟩ = some (.map (some b))) (hM : MapV w b vs) :
    SeqStopsK Fence.wide n Try.prog 78 #[.pointer (some ⟨Bm, 0, none⟩)] (fun x : Nat => #[Value.int .u64 (x : Int)]) (KpK n0) (fun ys => ys.Perm (vs.map (·.1))) (fun _ => True) vs.length w := fun l J Jx W hW hJ hJx hY h0 =>
  keys1_in n hn l Bm b n0 vs J Jx W hJ (Nat.le_trans hn0 hW.size) hb0 hY ((hW.cell (p := ⟨Bm, 0, none⟩) h1).trans hm) (hM.at_ (hW.block b (Nat.lt_of_lt_of_le hb0 hn0))) h0
set_option maxHeartbeats 1000000 in
theorem keys_any (w : World) (m : Option Nat) :
    Calls Try.prog 59 #[.map m] w fun e w' => e = .returned (.func (.func 78) #[] #[.pointer (some ⟨w.heap.size, 0, none⟩)]) ∧ w' = w.alloc (.cells #[.map m] 70) := by
  go_enter Try.func59, Try.ntmps59
  go_wp2_with fail
  go_ret
  exact ⟨rfl, rfl⟩
theorem infoIdK : (Try.prog.info? 24).map (fun i => (i.zero, i.size, i.bytes)) = some (some (.int .u64 0), 1, 8) := by kernel_rfl
set_option maxRecDepth 100000 in
set_option maxHeartbeats 4000000 in
theorem appendSeq_any (Bm b : Nat) (vs : List (Nat × Value)) (w : World) (hBm : Bm < w.heap.size) (hm : w.cell? ⟨Bm, 0, none⟩ = some (.map (some b))) (hM : MapV w b vs) (hlen : vs.length ≤ 1000000000) :
    Calls Try.prog 81 #[.slice none 0 0, .func (.func 78) #[] #[.pointer (some ⟨Bm, 0, none⟩)]] w fun e w' =>
      ∃ (v : Value) (ys : List Nat), e = .returned v ∧ ys.Perm (vs.map (·.1)) ∧ w'.ownsRow w.heap.size 24 1 v ys.length (ids ys) ∧ Below w.heap.size w w' := by
  obtain ⟨i0, hi, hz0, hz1, hz2⟩ := info_parts infoIdK
  refine callsIn_wide.1 (?_ : CallsIn Fence.wide 5 Try.prog _ _ _ _)
  refine callsIn_of_wp_marks Try.func81 rfl trivial ?_ rfl
  simp only [Try.ntmps81, List.size_toArray, List.length_cons, List.length_nil, Nat.reduceAdd, Nat.reduceSub, Array.replicate_succ, Array.replicate_zero, List.push_toArray, List.append_toArray, List.nil_append, List.cons_append]
  gi_wp2
  have bO := Boxed.new w 30 (.slice none 0 0)
  have hB0 : Below w.heap.size w (w.alloc (.cells #[.slice none 0 0] 30)) := (Below.refl _ w).alloc (Nat.le_refl _) _
  have hne : 30 ≠ 24 := by decide
  refine wpIn_rangeFunc_ownG rfl (by omega) (gf := 78) (lb := #[.pointer (some ⟨Bm, 0, none⟩)]) rfl trivial (enters_of Try.func78 (by kernel_rfl) rfl)
    (keys_stops (5 - 1) (by omega) Bm b w.heap.size vs _ (by simp; omega) (by simp) hM.lt ((hB0.cell (p := ⟨Bm, 0, none⟩) hBm).trans hm) (hM.at_ (hB0.block b hM.lt))) (fun h k => KpK.trans h k) (kpK_b (by simp)) (Below.refl _ _) (fun _ => rfl)
    (fun pre W => (∃ v, Boxed W w.heap.size 30 v ∧ W.ownsRow w.heap.size 24 1 v pre.length (ids pre) ∧ True) ∧ Below w.heap.size w W)
    (fun _ _ _ => False)
    (OwnFrom.and (Own.from (holdsRow_own w.heap.size w.heap.size 30 24 1 (fun pre => pre.length) (fun pre => ids pre) (fun pre v => True)) _) (ownFrom_below (Nat.le_refl _) (by simp)))
    (fun _ _ _ _ _ hs _ _ => hs)
    ⟨⟨_, bO, World.ownsRow_nil _ _ _ _, trivial⟩, hB0⟩
    (fun x => { tmps := #[.slice none 0 0, .func (.func 78) #[] #[.pointer (some ⟨Bm, 0, none⟩)], .pointer (some ⟨w.heap.size, 0, none⟩), undef, .slice none 0 0, .int .u64 (x : Int), .func (.func 78) #[] #[.pointer (some ⟨Bm, 0, none⟩)], .int .u64 (x : Int), undef, undef, undef, undef, undef], defers := [] }) ?assign ?body ?done ?stop
  case assign =>
    intro l x W K hK
    gi_wp2
    exact hK
  case body =>
    rintro l pre x W ⟨⟨v, hv, hrow, -⟩, hB⟩ hlt
    have hc := hv.cell
    gi_wp2_with (gi_at_builtin; refine wpListIn_append_own _ rfl _ _ 30 rfl w.heap.size 24 i0 (.int .u64 0) 1 8 Try.underlying30 hi hz0 hz1 hz2 rfl (by decide) _ _ _ rfl (hrow.alloc _) ⟨W.heap.size, 0, none⟩ 1 1 [.int .u64 (x : Int)] rfl rfl (cell_one_new _ _ _) (by simp [Value.oneCell']) (by unfold maxLen; omega) (by omega) (by have := hB.size; simp; omega) ?_; intro v' w1 hown' hgrow _; obtain ⟨g', cap', rfl⟩ := ownsRow_succ hown'; obtain ⟨hv1, hv2, hr2, hk2, hb2⟩ := hv.appended hne hrow hB.size (Nat.le_refl _) hown' hgrow; have hc1 := hv1.cell; have hf1 := hv1.frozen)
    refine ⟨hk2.from _, ⟨hb2, hk2.walks⟩, ⟨_, hv2, ?_, trivial⟩, hB.trans hb2⟩
    have e : ids (pre ++ [x]) = ids pre ++ [.int .u64 (x : Int)] := by unfold ids; rw [List.map_append]; rfl
    rw [e]
    simpa using hr2
  case done =>
    rintro D ys W hD hS ⟨⟨v, hv, hrow, -⟩, hB⟩ hK
    have hc := hv.cell
    gi_wp2
    refine ⟨by simp, .inl ⟨_, _, rfl, run_takeDeferred hK, ?_⟩⟩
    exact ⟨_, results_tmp rfl _ _ _, v, ys, rfl, hS, ownsRow_putObj hrow _ hK rfl, hB.trans (belowK_b (w := w) (Nat.le_refl _) W D _ _ (by simp at hD; omega) hK rfl rfl)⟩
  case stop =>
    rintro D c pre W _ _ h _
    exact h.elim
end Go.Proofs.Ytdphpjlhkamadaa
namespace Go.Proofs.Ytdphpjlhkamadaa
open Go.RowKit
open Go.Sort (PermIn SortedIn SWO swp Holds putRow grow At mapBlock setCell_eq mapBlock_grow putRow_swp size_swp)
set_option linter.unusedSimpArgs false
set_option linter.unusedVariables false
set_option maxRecDepth 100000
/-- A number in its cell; the order. -/
def eU (n : Nat) : Value := .int .u64 (n : Int)
def ltU (x y : Nat) : Bool := decide (x < y)
theorem ltU_true {x y : Nat} : ltU x y = true ↔ x < y := by unfold ltU; exact decide_eq_true_iff
theorem ltU_false {x y : Nat} : ltU x y = false ↔ y ≤ x := by unfold ltU; rw [decide_eq_false_iff_not]; omega
theorem swoU : SWO ltU where
  irrefl x := ltU_false.2 (Nat.le_refl _)
  trans x y z h1 h2 := ltU_true.2 (Nat.lt_trans (ltU_true.1 h1) (ltU_true.1 h2))
  ntrans x y z h1 h2 := ltU_false.2 (Nat.le_trans (ltU_false.1 h2) (ltU_false.1 h1))
def sInt : Value → Int | .int _ q => q | _ => 0
section
variable {w wr : World} {blk off : Nat} {d d0 : Array Nat}
/-- What a walk asks of the row: its cells, under a name of their own. -/
theorem row_fam (h : At eU w blk off d wr) (h0 : Holds eU w blk off d0) (hb : blk < w.heap.size) (hs : d.size = d0.size) :
    ∃ G : Nat → Nat, (∀ t, G t = d[t]!) ∧ (∀ t, t < d0.size → wr.cell? ⟨blk, off + t, none⟩ = some (.int .u64 (G t : Int))) ∧ (∀ t, t < d0.size → wr.frozen? ⟨blk, off + t, none⟩ = false) := by
  have hh := (h.holds h0 hs hb).1
  exact ⟨fun t => d[t]!, fun _ => rfl, fun t ht => (hh t (by omega)).1, fun t ht => (hh t (by omega)).2⟩
theorem at_drewN (h : At eU w blk off d wr) (m : Nat) : At eU w blk off d (wr.drewN m) := h.ahead m
theorem at_drew (h : At eU w blk off d wr) : At eU w blk off d wr.drew := h.ahead 1
theorem at_store (h : At eU w blk off d wr) (hb : blk < w.heap.size) {j k : Nat} (hj : j < d.size) (hk : k < d.size) {x y : Value} (hx : x = eU d[k]!) (hy : y = eU d[j]!) :
    At eU w blk off (swp d j k) ((wr.setCell ⟨blk, off + j, none⟩ x).setCell ⟨blk, off + k, none⟩ y) := by
  obtain ⟨n, os, rfl⟩ := h
  subst hx hy
  refine ⟨n, os, ?_⟩
  rw [setCell_eq, setCell_eq, mapBlock_grow _ _ _ _ (by simpa using hb), mapBlock_grow _ _ _ _ (by simpa [mapBlock] using hb), ← setCell_eq, ← setCell_eq, putRow_swp eU _ blk off d j k hj hk]
/-- Two cells change places; the region has drawn its order, ahead or behind. -/
theorem at_swap1 (h : At eU w blk off d wr) (hb : blk < w.heap.size) {j k : Nat} (hj : j < d.size) (hk : k < d.size) {x y : Nat} (hx : x = d[k]!) (hy : y = d[j]!) :
    At eU w blk off (swp d j k) ((wr.drew.setCell ⟨blk, off + j, none⟩ (.int .u64 (x : Int))).setCell ⟨blk, off + k, none⟩ (.int .u64 (y : Int))) :=
  at_store (at_drew h) hb hj hk (by rw [hx]; rfl) (by rw [hy]; rfl)
theorem at_swap2 (h : At eU w blk off d wr) (hb : blk < w.heap.size) {j k : Nat} (hj : j < d.size) (hk : k < d.size) {x y : Nat} (hx : x = d[k]!) (hy : y = d[j]!) :
    At eU w blk off (swp d j k) ((wr.setCell ⟨blk, off + j, none⟩ (.int .u64 (x : Int))).setCell ⟨blk, off + k, none⟩ (.int .u64 (y : Int))).drew :=
  at_drew (at_store h hb hj hk (by rw [hx]; rfl) (by rw [hy]; rfl))
end
theorem sNaN_any (w : World) (x : Nat) : Calls Try.prog 101 #[.int .u64 (x : Int)] w fun e w' => e = .returned (.bool false) ∧ w' = w := by
  go_enter Try.func101, Try.ntmps101
  go_wp2
  go_ret
  exact ⟨by simp, rfl⟩
theorem less_any (x y : Nat) (w : World) : Calls Try.prog 96 #[.int .u64 (x : Int), .int .u64 (y : Int)] w fun e w' => e = .returned (.bool (ltU x y)) ∧ w' = w := by
  go_enter Try.func96, Try.ntmps96
  go_wp2_with (go_at_call 101; refine (sNaN_any _ _).mono ?_; rintro e w' ⟨rfl, rfl⟩)
  go_ret
  refine ⟨?_, rfl⟩
  unfold ltU
  simp
end Go.Proofs.Ytdphpjlhkamadaa
