/- Contracts: an operation as the reference has it; which operations are equal; a result that is one. -/
import Derived.Test.YtblchmcnbcfaaaaDoorORefB
import Derived.Laws.StructEq
namespace Go.Proofs.YtblchmcnbcfaaaaDoor
open Go.RowKit
set_option linter.unusedVariables false
set_option linter.unusedSimpArgs false
theorem rOpSize : (Tryd.prog.info? 40).map (·.size) = some 4 := by kernel_rfl
theorem opSize : (Tryd.prog.info? 33).map (·.size) = some 4 := by kernel_rfl
theorem op_results_one {fn : Func} {p : Tmp} {ty : TypeId} (h : fn.results = #[.cell p ty]) (tmps : Array Value) (P : Program) (w : World) :
    (results fn tmps).run P w = ((asAddr (tmps.getD p undef)).run P w).andThen fun a w₁ => (loadVar ty a).run P w₁ := by
  simp only [results, h]
  simp [Sem.run_bind, Result.andThen]
theorem op_results_two {fn : Func} {p u : Tmp} {ty : TypeId} (h : fn.results = #[.cell p ty, .tmp u]) (tmps : Array Value) (P : Program) (w : World) :
    (results fn tmps).run P w = ((asAddr (tmps.getD p undef)).run P w).andThen fun a w₁ => ((loadVar ty a).run P w₁).andThen fun x w₂ => .ok (.tuple #[x, tmps.getD u undef]) w₂ := by
  simp only [results, h]
  simp [Sem.run_bind, Result.andThen]
theorem rop_ret {fn : Func} {p : Tmp} {a : Act} {w : World} {R : Ending → World → Prop} {g : Nat} {cs : Array Value} (hf : fn.results = #[.cell p 40]) (hd : a.defers = []) (h2 : a.tmps.getD p undef = .pointer (some ⟨g, 0, none⟩))
    (hg : w.heap[g]? = some (.cells cs 40 (0, 0))) (hs : cs.size = 4) (hR : R (.returned (.agg cs)) w) : bodyPost Tryd.prog fn R .ret a w := by
  refine bodyPost_ret_by (v := .agg cs) ?_ hd hR
  have hl := run_loadVar_row (P := Tryd.prog) w g 40 40 cs (0, 0) _ hg Tryd.underlying40 rfl (by rw [rOpSize, hs])
  rw [op_results_one hf, h2]
  simp [asAddr, Result.andThen, hl]
theorem op_ret2 {fn : Func} {p u : Tmp} {a : Act} {w : World} {R : Ending → World → Prop} {g : Nat} {cs : Array Value} {v : Value} (hf : fn.results = #[.cell p 33, .tmp u]) (hd : a.defers = []) (h2 : a.tmps.getD p undef = .pointer (some ⟨g, 0, none⟩)) (h3 : a.tmps.getD u undef = v)
    (hg : w.heap[g]? = some (.cells cs 33 (0, 0))) (hs : cs.size = 4) (hR : R (.returned (.tuple #[.agg cs, v])) w) : bodyPost Tryd.prog fn R .ret a w := by
  refine bodyPost_ret_by (v := .tuple #[.agg cs, v]) ?_ hd hR
  have hl := run_loadVar_row (P := Tryd.prog) w g 33 33 cs (0, 0) _ hg Tryd.underlying33 rfl (by rw [opSize, hs])
  rw [op_results_two hf, h2, h3]
  simp [asAddr, Result.andThen, hl]
set_option maxRecDepth 100000 in
set_option maxHeartbeats 4000000 in
theorem own_any (w : World) (k a b : Nat) (s : ByteArray) :
    Calls Tryd.prog 15 #[opV k a b s] w fun e w' => e = .returned (opV k a b s) ∧ Below w.heap.size w w' := by
  unfold opV
  go_enter Tryd.func15, Tryd.ntmps15
  go_wp2
  refine rop_ret (p := 2) (g := w.heap.size + 1) (cs := #[.int .u8 (k : Int), .int .u64 (a : Int), .int .u64 (b : Int), .string s]) rfl rfl rfl ?_ rfl ?_
  · show ((w.heap.push _).push _)[_]? = _
    rw [Array.getElem?_push, if_pos (by simp)]
  · exact ⟨rfl, ((Below.refl _ _).alloc (Nat.le_refl _) _).alloc (by simp) _⟩
/-- Are two operations equal? -/
def opEq (k a b : Nat) (s : ByteArray) (k2 a2 b2 : Nat) (s2 : ByteArray) : Bool := decide (k = k2) && decide (a = a2) && decide (b = b2) && (s.toList == s2.toList)
set_option maxRecDepth 100000 in
set_option maxHeartbeats 4000000 in
theorem eql_op (W : World) (k a b : Nat) (s : ByteArray) (k2 a2 b2 : Nat) (s2 : ByteArray) :
    (binOp .eql 33 (opV k a b s) (opV k2 a2 b2 s2)).run Tryd.prog W = .ok (.bool (opEq k a b s k2 a2 b2 s2)) W := by
  unfold opV opEq
  have i1 : ∀ x y : Nat, ((x : Int) == (y : Int)) = decide (x = y) := fun x y => by
    rw [Bool.beq_eq_decide_eq]
    exact decide_eq_decide.2 (by omega)
  rcases h1 : decide (k = k2) with _ | _
  · have e1 : ((k : Int) == (k2 : Int)) = false := by rw [i1, h1]
    go_simp
  · have e1 : ((k : Int) == (k2 : Int)) = true := by rw [i1, h1]
    rcases h2 : decide (a = a2) with _ | _
    · have e2 : ((a : Int) == (a2 : Int)) = false := by rw [i1, h2]
      go_simp
    · have e2 : ((a : Int) == (a2 : Int)) = true := by rw [i1, h2]
      rcases h3 : decide (b = b2) with _ | _
      · have e3 : ((b : Int) == (b2 : Int)) = false := by rw [i1, h3]
        go_simp
      · have e3 : ((b : Int) == (b2 : Int)) = true := by rw [i1, h3]
        rcases h4 : (s.toList == s2.toList) with _ | _
        · go_simp
        · go_simp
theorem opEq_iff {k a b : Nat} {s : ByteArray} {k2 a2 b2 : Nat} {s2 : ByteArray} : opEq k a b s k2 a2 b2 s2 = true ↔ k = k2 ∧ a = a2 ∧ b = b2 ∧ s = s2 := by
  unfold opEq
  simp only [Bool.and_eq_true, decide_eq_true_eq]
  constructor
  · rintro ⟨⟨⟨h1, h2⟩, h3⟩, h4⟩
    refine ⟨h1, h2, h3, ?_⟩
    by_cases h : s = s2
    · exact h
    · rw [toL_ne h] at h4; cases h4
  · rintro ⟨rfl, rfl, rfl, rfl⟩
    exact ⟨⟨⟨rfl, rfl⟩, rfl⟩, beq_self_eq_true _⟩
end Go.Proofs.YtblchmcnbcfaaaaDoor
