/- The parents of all children, by how often they are. -/
import Derived.Test.YtogkeoainejfcaaAAddB
namespace Go.Proofs.Ytogkeoainejfcaa
open Go.RowKit
set_option linter.unusedSimpArgs false
set_option linter.unusedVariables false
set_option maxRecDepth 100000
/-- How often a node (second) is a parent of a child (first). -/
abbrev Cnt := Nat → Nat → Nat
structure ParC (w : World) (base gp : Nat) (F : PF) (C : Cnt) (N : Nat) : Prop where
  par : ParW w base gp F
  cnt : ∀ k i, getL (rowP F k) i = if C k i = 0 then none else some (C k i)
  rows : ∀ k, (rowP F k).length ≤ N
  keys : F.length ≤ N
  few : ∀ k i, C k i ≤ N
def addC (C : Cnt) (kid id : Nat) (t : Int) : Cnt := fun k i => if k = kid ∧ i = id then ((C k i : Int) + t).toNat else C k i
def AddC (w : World) (base gp : Nat) (F : PF) (C : Cnt) (N : Nat) (e : Ending) (w' : World) : Prop :=
  e = .returned (.tuple #[]) ∧ ∃ F' : PF, ParC w' base gp F' C N ∧ Touch w w' (fun j => j = gp ∨ OwnsF F j) ∧ (∀ j, OwnsF F' j → OwnsF F j ∨ w.heap.size ≤ j)
theorem ParC.below {w w' : World} {base gp : Nat} {F : PF} {C : Cnt} {N : Nat} (h : ParC w base gp F C N) (hb : Below w.heap.size w w') : ParC w' base gp F C N := ⟨h.par.below hb, h.cnt, h.rows, h.keys, h.few⟩
theorem addC_mono {w : World} {base gp kid id N : Nat} {F : PF} {C : Cnt} {t : Int} {l' : List (Nat × Nat)} (hP : ParC w base gp F C N) (hl : l'.length ≤ N + 1) (hat : ∀ i, getL l' i = if addC C kid id t kid i = 0 then none else some (addC C kid id t kid i)) (hm : addC C kid id t kid id ≤ N + 1) (e : Ending) (w' : World) (h : AddR w base gp kid F l' e w') : AddC w base gp F (addC C kid id t) (N + 1) e w' := by
  obtain ⟨h1, F', h2, h3, h4, h5, h6⟩ := h
  have hk := hP.keys
  refine ⟨h1, F', ⟨h2, fun k i => ?_, fun k => ?_, by omega, fun k i => ?_⟩, h5, h6⟩
  · rw [h3 k]
    by_cases e : k = kid
    · rw [if_pos e, e]; exact hat i
    · have e2 : addC C kid id t k i = C k i := by unfold addC; rw [if_neg (fun h => e h.1)]
      rw [if_neg e, hP.cnt k i, e2]
  · rw [h3 k]
    by_cases e : k = kid
    · rw [if_pos e]; exact hl
    · rw [if_neg e]; exact Nat.le_succ_of_le (hP.rows k)
  · by_cases e : k = kid ∧ i = id
    · rw [e.1, e.2]; exact hm
    · unfold addC
      rw [if_neg e]
      exact Nat.le_succ_of_le (hP.few k i)
theorem add_any (w : World) (base gp : Nat) (F : PF) (C : Cnt) (N kid id : Nat) (t : Int) (hP : ParC w base gp F C N) (hk : kid < 18446744073709551616) (hid : id < 18446744073709551616) (ht : t = 1 ∨ (t = -1 ∧ 0 < C kid id)) (hN : N ≤ 999999990) (hbase : base ≤ w.heap.size) :
    Calls Try.prog 79 #[.map (some gp), .int .u64 (kid : Int), .int .u64 (id : Int), .int .i64 t] w (AddC w base gp F (addC C kid id t) (N + 1)) := by
  have hr := (hP.par.row kid).2
  have hlen := hP.rows kid
  have hcn := hP.cnt kid id
  have hfew := hP.few kid id
  have hkeys := hP.keys
  have hval : addC C kid id t kid id = ((C kid id : Int) + t).toNat := by unfold addC; rw [if_pos ⟨rfl, rfl⟩]
  have hoth : ∀ i, i ≠ id → addC C kid id t kid i = C kid i := fun i h => by unfold addC; rw [if_neg (fun e => h e.2)]
  -- what a row with another number says
  have hput : ∀ c', c' ≠ 0 → addC C kid id t kid id = c' → ∀ i, getL (putL' (rowP F kid) id c') i = if addC C kid id t kid i = 0 then none else some (addC C kid id t kid i) := fun c' h0 h1 i => by
    rw [getL_put hr]
    by_cases e : i = id
    · rw [if_pos e, e, h1, if_neg h0]
    · rw [if_neg e, hoth i e, hP.cnt kid i]
  by_cases h0 : C kid id = 0
  · rcases ht with rfl | ⟨_, h⟩
    · rw [if_pos h0] at hcn
      have hno : hasL (rowP F kid) id = false := by unfold hasL; rw [hcn]; rfl
      have hv : addC C kid id 1 kid id = 1 := by rw [hval, h0]; rfl
      refine (add_new w base gp F kid id hP.par hk hid hno (by omega) (by omega) hbase).mono fun e w' h => addC_mono hP ?_ (hput 1 (by omega) hv) (by omega) e w' h
      rw [putL_length _ _ hr]
      split <;> omega
    · omega
  · rw [if_neg h0] at hcn
    by_cases h1 : ((C kid id : Int) + t).toNat = 0
    · have h2 : t = -1 ∧ C kid id = 1 := by omega
      obtain ⟨rfl, h2⟩ := h2
      rw [h2] at hcn
      refine (add_gone w base gp F kid id hP.par hk hid hcn (by omega) (by omega)).mono fun e w' h => addC_mono hP ?_ (fun i => ?_) (by omega) e w' h
      · have := (del_at hr hcn).2
        omega
      · rw [getL_del]
        by_cases e : i = id
        · rw [if_pos e, e, hval, h1, if_pos rfl]
        · rw [if_neg e, hoth i e, hP.cnt kid i]
    · obtain ⟨c', hc'⟩ : ∃ c', c' = ((C kid id : Int) + t).toNat := ⟨_, rfl⟩
      rw [← hc'] at hval h1
      refine (add_old w base gp F kid id (C kid id) c' t hP.par hk hid hcn (by omega) (by omega) h1 (by omega) (by omega) (by omega)).mono fun e w' h => addC_mono hP ?_ (hput c' h1 hval) (by omega) e w' h
      rw [putL_length _ _ hr]
      split <;> omega
end Go.Proofs.Ytogkeoainejfcaa
