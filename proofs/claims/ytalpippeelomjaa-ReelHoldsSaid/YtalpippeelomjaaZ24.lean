/- LPure, DNils, LFrom: joined by program (tools/merge.py). -/
import Derived.Test.YtalpippeelomjaaZ23
import Derived.Test.YtalpippeelomjaaZ16
import Derived.Deep.RegionHeld3
namespace Go.Proofs.Ytalpippeelomjaa
open Go.RowKit
set_option linter.unusedSimpArgs false
set_option linter.unusedVariables false
/-- A page by its parts. -/
structure Pg where
  gen : Nat
  ser : Nat
  num : Nat
  kind : Nat
  data : List Nat
def PV.pg (p : PV) : Pg := ⟨p.gen, p.ser, p.num, p.kind, p.data⟩
/-- What a sector parses as. -/
def pgOf (s : List Nat) : Pg := ⟨genOf s, serOf s, numbOf s, kinOf s, dataOf s⟩
def pgs (ps : List PV) : List Pg := ps.map PV.pg
theorem pgs_length (ps : List PV) : (pgs ps).length = ps.length := by unfold pgs; rw [List.length_map]
theorem pgs_append (a b : List PV) : pgs (a ++ b) = pgs a ++ pgs b := by unfold pgs; rw [List.map_append]
/-- The serial of the page ahead of a place. -/
def serP (qs : List Pg) : Nat → Nat
  | 0 => 0
  | i + 1 => (qs[i]?.map Pg.ser).getD 0
theorem serB_pgs (ps : List PV) (i : Nat) : serB ps i = serP (pgs ps) i := by
  cases i with
  | zero => rfl
  | succ i =>
    show (ps[i]?.map PV.ser).getD 0 = ((pgs ps)[i]?.map Pg.ser).getD 0
    unfold pgs
    rw [List.getElem?_map]
    cases ps[i]? <;> rfl
/-- Is it the log's next page? -/
def nextP (gen : Nat) (qs : List Pg) (q : Pg) : Bool := decide (q.gen = gen) && decide (q.kind = 1) && decide (q.num = qs.length) && decide (q.data.take 4 = be4 (serP qs qs.length))
theorem nextIs_pgs (gen : Nat) (ps : List PV) (q : Pg) : nextIs gen ps q.gen q.num q.kind q.data = nextP gen (pgs ps) q := by
  unfold nextIs nextP
  rw [serB_pgs, pgs_length]
/-- What all pages have of the row. -/
def rowP (qs : List Pg) : List Nat := (qs.map fun q => q.data.drop 4).flatten
theorem rowOf_pgs (ps : List PV) : rowOf ps = rowP (pgs ps) := by
  unfold rowOf rowP pgs
  rw [List.map_map]
  rfl
theorem rowP_append (a b : List Pg) : rowP (a ++ b) = rowP a ++ rowP b := by unfold rowP; rw [List.map_append, List.flatten_append]
/-- Where Open stands: the greatest serial, the pages of the log, whether it looks on. -/
structure OS where
  ser : Nat
  qs : List Pg
  look : Bool
def OS.bad (o : OS) (s : List Nat) : Bool := o.look && decide (errOf s ≠ 0) && decide (errOf s ≠ 3)
def OS.next (o : OS) (gen : Nat) (s : List Nat) : Bool := o.look && decide (errOf s = 0) && nextP gen o.qs (pgOf s)
def OS.top (o : OS) (gen : Nat) (s : List Nat) : Nat := if errOf s = 0 ∧ genOf s = gen then max o.ser (serOf s) else o.ser
def OS.step (o : OS) (gen : Nat) (s : List Nat) : OS := if o.next gen s then ⟨o.top gen s, o.qs ++ [pgOf s], decide ((dataOf s).length = 491)⟩ else ⟨o.top gen s, o.qs, false⟩
/-- What becomes of the sectors from place i on: where it ends, or the place that is corrupt. -/
def openF (gen : Nat) : OS → List (List Nat) → Nat → Sum OS Nat
  | o, [], _ => .inl o
  | o, s :: r, i => if o.bad s then .inr i else openF gen (o.step gen s) r (i + 1)
theorem openF_nil (gen : Nat) (o : OS) (i : Nat) : openF gen o [] i = .inl o := rfl
theorem openF_bad {gen : Nat} {o : OS} {s : List Nat} {r : List (List Nat)} {i : Nat} (h : o.bad s = true) : openF gen o (s :: r) i = .inr i := if_pos h
theorem openF_step {gen : Nat} {o : OS} {s : List Nat} {r : List (List Nat)} {i : Nat} (h : o.bad s = false) : openF gen o (s :: r) i = openF gen (o.step gen s) r (i + 1) := if_neg (by rw [h]; simp)
def openX (gen ser : Nat) (X : List (List Nat)) : Sum OS Nat := openF gen ⟨ser, [], true⟩ X 0
end Go.Proofs.Ytalpippeelomjaa
namespace Go.Proofs.Ytalpippeelomjaa
open Go.RowKit
set_option linter.unusedSimpArgs false

theorem read_nil (w : World) (n : Int) : Calls Try.prog 37 #[.pointer none, .int .i64 n] w fun e w' => e = .returned (.tuple #[.slice none 0 0, .int .i64 3]) ∧ w = w' := by
  go_enter Try.func37, Try.ntmps37
  go_wp2
  go_ret2
  exact ⟨rfl, rfl⟩
theorem crash_nil (w : World) (v : Value) : Calls Try.prog 14 #[.pointer none, v] w fun e w' => e = .returned (.tuple #[.pointer none, .int .i64 3]) ∧ w = w' := by
  go_enter Try.func14, Try.ntmps14
  go_wp2
  go_ret2
  exact ⟨rfl, rfl⟩
theorem write_nil (w : World) (n : Int) (v : Value) : Calls Try.prog 32 #[.pointer none, .int .i64 n, v] w fun e w' => e = .returned (.int .i64 3) ∧ w = w' := by
  go_enter Try.func32, Try.ntmps32
  go_wp2
  go_ret
  exact ⟨rfl, rfl⟩
theorem sync_nil (w : World) : Calls Try.prog 33 #[.pointer none] w fun e w' => e = .returned (.int .i64 3) ∧ w = w' := by
  go_enter Try.func33, Try.ntmps33
  go_wp2
  go_ret
  exact ⟨rfl, rfl⟩
theorem rot_nil (w : World) (a b c m : Int) : Calls Try.prog 38 #[.pointer none, .int .i64 a, .int .i64 b, .int .i64 c, .int .u32 m] w fun e w' => e = .returned (.int .i64 3) ∧ w = w' := by
  go_enter Try.func38, Try.ntmps38
  go_wp2
  go_ret
  exact ⟨rfl, rfl⟩
theorem sectors_nil (w : World) : Calls Try.prog 28 #[.pointer none] w fun e w' => e = .returned (.int .i64 0) ∧ w = w' := by
  go_enter Try.func28, Try.ntmps28
  go_wp2
  go_ret
  exact ⟨rfl, rfl⟩
theorem writes_nil (w : World) : Calls Try.prog 19 #[.pointer none] w fun e w' => e = .returned (.int .i64 0) ∧ w = w' := by
  go_enter Try.func19, Try.ntmps19
  go_wp2
  go_ret
  exact ⟨rfl, rfl⟩
theorem waiting_nil (w : World) : Calls Try.prog 36 #[.pointer none] w fun e w' => e = .returned (.slice none 0 0) ∧ w = w' := by
  go_enter Try.func36, Try.ntmps36
  go_wp2
  go_ret
  exact ⟨rfl, rfl⟩
end Go.Proofs.Ytalpippeelomjaa
namespace Go.Proofs.Ytalpippeelomjaa
open Go.RowKit
set_option linter.unusedSimpArgs false
set_option linter.unusedVariables false
theorem sectors_any {w : World} {gs : Nat} {b : DB} {dur : List (List Nat)} {pend : List (Nat × List Nat)} {nw bud : Int} (h : Disk w gs b dur pend nw bud) :
    Calls Try.prog 28 #[.pointer (some ⟨gs, 0, none⟩)] w fun e w' => e = .returned (.int .i64 (dur.length : Int)) ∧ w = w' := by
  have c0 := h.c0
  clear h
  go_enter Try.func28, Try.ntmps28
  go_wp2
  go_ret
  exact ⟨rfl, rfl⟩
theorem writes_any {w : World} {gs : Nat} {b : DB} {dur : List (List Nat)} {pend : List (Nat × List Nat)} {nw bud : Int} (h : Disk w gs b dur pend nw bud) :
    Calls Try.prog 19 #[.pointer (some ⟨gs, 0, none⟩)] w fun e w' => e = .returned (.int .i64 nw) ∧ w = w' := by
  have c0 := h.c3
  clear h
  go_enter Try.func19, Try.ntmps19
  go_wp2
  go_ret
  exact ⟨rfl, rfl⟩
/-- How many sectors a half has, and where it begins. -/
def halfK (n h : Nat) : Nat := if n < 4 ∨ 1 < h then 0 else (n - 2) / 2
def halfN (n h : Nat) : Nat := if n < 4 ∨ 1 < h then 0 else 2 + h * ((n - 2) / 2)
set_option maxRecDepth 100000 in
set_option maxHeartbeats 1000000 in
theorem from_few (w : World) (g s h : Int) (n : Nat) (hn : n < 4) : Calls Try.prog 27 #[.agg #[.int .u32 g, .int .u8 h, .int .u32 s], .int .i64 (n : Int)] w fun e w' => e = .returned (.tuple #[.int .i64 0, .int .i64 0]) ∧ Below w.heap.size w w' := by
  have hn1 : (n : Int) < 4 := by omega
  go_enter Try.func27, Try.ntmps27
  go_wp2
  go_ret2
  exact ⟨rfl, (Below.refl _ _).alloc (Nat.le_refl _) _⟩
set_option maxRecDepth 100000 in
set_option maxHeartbeats 1000000 in
theorem from_far (w : World) (g s : Int) (h n : Nat) (hn : ¬ n < 4) (hh : 1 < h) : Calls Try.prog 27 #[.agg #[.int .u32 g, .int .u8 (h : Int), .int .u32 s], .int .i64 (n : Int)] w fun e w' => e = .returned (.tuple #[.int .i64 0, .int .i64 0]) ∧ Below w.heap.size w w' := by
  have hn1 : ¬ (n : Int) < 4 := by omega
  have hh1 : (h : Int) > 1 := by omega
  go_enter Try.func27, Try.ntmps27
  go_wp2
  go_ret2
  exact ⟨rfl, (Below.refl _ _).alloc (Nat.le_refl _) _⟩
set_option maxRecDepth 100000 in
set_option maxHeartbeats 1000000 in
theorem from_zero (w : World) (g s : Int) (n k : Nat) (hn : 4 ≤ n) (hn2 : n < 65536) (hk : k = (n - 2) / 2) : Calls Try.prog 27 #[.agg #[.int .u32 g, .int .u8 0, .int .u32 s], .int .i64 (n : Int)] w fun e w' => e = .returned (.tuple #[.int .i64 2, .int .i64 (k : Int)]) ∧ Below w.heap.size w w' := by
  have hn1 : ¬ (n : Int) < 4 := by omega
  have hd : ((n : Int) - 2).tdiv 2 = (k : Int) := by rw [Int.tdiv_eq_ediv_of_nonneg (by omega)]; omega
  have hd2 : ((n : Int) - 2) / 2 = (k : Int) := by omega
  clear hk
  go_enter Try.func27, Try.ntmps27
  go_wp2
  go_ret2
  exact ⟨rfl, (Below.refl _ _).alloc (Nat.le_refl _) _⟩
set_option maxRecDepth 100000 in
set_option maxHeartbeats 1000000 in
theorem from_one (w : World) (g s : Int) (n k q : Nat) (hn : 4 ≤ n) (hn2 : n < 65536) (hk : k = (n - 2) / 2) (hq : q = 2 + k) : Calls Try.prog 27 #[.agg #[.int .u32 g, .int .u8 1, .int .u32 s], .int .i64 (n : Int)] w fun e w' => e = .returned (.tuple #[.int .i64 (q : Int), .int .i64 (k : Int)]) ∧ Below w.heap.size w w' := by
  have hn1 : ¬ (n : Int) < 4 := by omega
  have hd : ((n : Int) - 2).tdiv 2 = (k : Int) := by rw [Int.tdiv_eq_ediv_of_nonneg (by omega)]; omega
  have hd2 : ((n : Int) - 2) / 2 = (k : Int) := by omega
  have hk2 : k < 65536 := by omega
  have HQ : Hid ((2 : Int) + (k : Int) = (q : Int)) := Lib.hid (by omega)
  clear hk hq
  go_enter Try.func27, Try.ntmps27
  go_wp2
  go_ret2
  exact ⟨by rw [← HQ.out]; rfl, (Below.refl _ _).alloc (Nat.le_refl _) _⟩
theorem from_any (w : World) (g s : Int) (h n : Nat) (hn2 : n < 65536) : Calls Try.prog 27 #[.agg #[.int .u32 g, .int .u8 (h : Int), .int .u32 s], .int .i64 (n : Int)] w fun e w' => e = .returned (.tuple #[.int .i64 (halfN n h : Int), .int .i64 (halfK n h : Int)]) ∧ Below w.heap.size w w' := by
  unfold halfN halfK
  by_cases h4 : n < 4
  · rw [if_pos (.inl h4), if_pos (.inl h4)]
    exact from_few w g s h n h4
  · by_cases hh : 1 < h
    · rw [if_pos (.inr hh), if_pos (.inr hh)]
      exact from_far w g s h n h4 hh
    · rw [if_neg (by omega), if_neg (by omega)]
      rcases (show h = 0 ∨ h = 1 by omega) with rfl | rfl
      · rw [Nat.zero_mul]
        exact from_zero w g s n _ (by omega) hn2 rfl
      · rw [Nat.one_mul]
        exact from_one w g s n _ _ (by omega) hn2 rfl rfl
theorem crownInfo : (Try.prog.info? 24).map (·.size) = some 3 := by kernel_rfl
set_option maxRecDepth 100000 in
set_option maxHeartbeats 1000000 in
theorem first_any (w : World) : Calls Try.prog 43 #[] w fun e w' => e = .returned (.agg #[.int .u32 1, .int .u8 0, .int .u32 0]) ∧ Below w.heap.size w w' := by
  go_enter Try.func43, Try.ntmps43
  go_wp2
  exact bodyPost_ret_by (results_cell_row rfl _ _ _ _ _ _ _ rfl (Go.heap_alloc_new w _) Try.underlying24 rfl crownInfo) rfl ⟨rfl, (Below.refl _ _).alloc (Nat.le_refl _) _⟩
/-- Where Open answers that its arguments aren't right. -/
def ArgR (w : World) (e : Ending) (w' : World) : Prop := e = .returned (.tuple #[.pointer none, .int .i64 0, .int .i64 1]) ∧ Below w.heap.size w w'
set_option maxRecDepth 100000 in
set_option maxHeartbeats 2000000 in
theorem open_arg (w : World) (dv : Value) (n h : Nat) (g s : Int) (hS : ∀ x, Below w.heap.size w x → Calls Try.prog 28 #[dv] x fun e w' => e = .returned (.int .i64 (n : Int)) ∧ x = w') (hn2 : n < 65536) (hb : n < 4 ∨ 1 < h) :
    Calls Try.prog 12 #[dv, .agg #[.int .u32 g, .int .u8 (h : Int), .int .u32 s]] w (ArgR w) := by
  have hf := fun x => from_any x g s h n hn2
  unfold halfN halfK at hf
  simp only [if_pos hb] at hf
  have HF := Lib.hid hf
  have HS := Lib.hid hS
  clear hf hS
  have HW : Hid (∀ o, Below w.heap.size w (w.alloc o)) := Lib.hid fun o => (Below.refl _ _).alloc (Nat.le_refl _) o
  obtain ⟨W, hW⟩ : ∃ W, W = w.alloc (.cells #[.int .u32 g, .int .u8 (h : Int), .int .u32 s] 24) := ⟨_, rfl⟩
  have hWb : Below w.heap.size w W := by rw [hW]; exact HW.out _
  have h0 : W.heap[w.heap.size]? = some (.cells #[.int .u32 g, .int .u8 (h : Int), .int .u32 s] 24 (0, 0)) := by rw [hW]; exact Go.heap_alloc_new w _
  have HC : Hid (∀ x, Below W.heap.size W x → x.cell? ⟨w.heap.size, 0, none⟩ = some (.int .u32 g) ∧ x.cell? ⟨w.heap.size, 1, none⟩ = some (.int .u8 (h : Int)) ∧ x.cell? ⟨w.heap.size, 2, none⟩ = some (.int .u32 s)) := Lib.hid fun x hx => by
    have h3 := (hx.block w.heap.size (lt_of_heap h0)).trans h0
    exact ⟨by unfold World.cell?; rw [h3]; rfl, by unfold World.cell?; rw [h3]; rfl, by unfold World.cell?; rw [h3]; rfl⟩
  have HS2 : Hid (∀ x, Below W.heap.size W x → Calls Try.prog 28 #[dv] x fun e w' => e = .returned (.int .i64 (n : Int)) ∧ x = w') := Lib.hid fun x hx => HS.out x (hWb.trans (hx.mono hWb.size))
  have HWE := Lib.hid hW
  have HWB := Lib.hid hWb
  clear hW hWb h0
  go_enter Try.func12, Try.ntmps12
  go_wp2
  rw [← HWE.out]
  go_region_held3 (fun x => Below W.heap.size W x ∧ x.cell? ⟨w.heap.size, 0, none⟩ = some (.int .u32 g) ∧ x.cell? ⟨w.heap.size, 1, none⟩ = some (.int .u8 (h : Int)) ∧ x.cell? ⟨w.heap.size, 2, none⟩ = some (.int .u32 s))
    ((refine (fun h => ⟨h, HC.out _ h⟩) ?_; repeat (with_reducible (first | exact Below.refl _ _ | assumption | refine ride_alloc ?_ _ | refine ride_drew ?_ | refine below_drewN ?_ _ | refine ride_call (by assumption) ?_))))
    (first
      | (go_at_call 28; (with_reducible refine (HS2.out _ (by repeat (with_reducible (first | exact Below.refl _ _ | assumption | refine ride_alloc ?_ _ | refine ride_drew ?_ | refine below_drewN ?_ _ | refine ride_call (by assumption) ?_)))).mono ?_); rintro e w1 ⟨rfl, rfl⟩)
      | (go_at_call 27; (with_reducible refine (HF.out _).mono ?_); rintro e w2 ⟨rfl, hb2⟩))
  have hz : Below W.heap.size W w2 := (by repeat (with_reducible (first | exact Below.refl _ _ | assumption | refine ride_alloc ?_ _ | refine ride_drew ?_ | refine below_drewN ?_ _ | refine ride_call (by assumption) ?_)))
  obtain ⟨c0, c1, c2⟩ := HC.out w2 hz
  have HZ := Lib.hid hz
  clear hz hb2
  by_cases hh : 1 < h
  · have h1 : (h : Int) > 1 := by omega
    go_wp2
    go_ret3
    exact ⟨rfl, HWB.out.trans (HZ.out.mono HWB.out.size)⟩
  · have h1 : ¬ (h : Int) > 1 := by omega
    go_wp2
    go_ret3
    exact ⟨rfl, HWB.out.trans (HZ.out.mono HWB.out.size)⟩
end Go.Proofs.Ytalpippeelomjaa
