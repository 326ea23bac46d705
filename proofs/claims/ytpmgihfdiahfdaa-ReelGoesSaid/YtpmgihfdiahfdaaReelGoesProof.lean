/-
  For every input the law ReelGoes answers true and leaves its arguments as they were. No conditions.
-/
import Derived.Test.YtpmgihfdiahfdaaRows
import Derived.Test.YtpmgihfdiahfdaaReelGoesWalk
import Derived.Test.YtpmgihfdiahfdaaOpenPage
import Derived.WalkKit
import Derived.ProofKit
import Derived.OpenShut
import Derived.ShutString
import Derived.ChangeOld
import Derived.Below
import Derived.Deep.Matrix
import Derived.Deep.Grids
namespace Go.Proofs.Ytpmgihfdiahfdaa.reelGoes
open Go.ChangeShapes Go.WideShapes Go.ChangeAt Go.RowKit
open Go.ChangeMaps (open_string shut_string)
open Go.Deep
set_option linter.unusedVariables false
open Go.Proofs.Ytpmgihfdiahfdaa

theorem own : ownKnob Try.prog.godebug = none := by kernel_rfl
theorem laidOut : laidOutB Try.prog = true := by kernel_rfl

theorem bytes_at {W : World} {A : Option Addr} {L C : Nat} {zs : List Int} (hl : L ≤ C) (hm : C ≤ maxLen) (hz : zs.length = C) (hw : ∀ n ∈ zs, (Lit.int .u8 n).wf = true) (h0 : A = none → C = 0)
    (hc : ∀ a', A = some a' → ∀ c, c < C → W.cell? (a'.add c) = some (.int .u8 (zs.getD c 0))) : ∃ l, Bytes W W.heap.size (.slice A L C) l := by
  rcases A with _ | x
  · have hC := h0 rfl
    subst hC
    obtain rfl : L = 0 := by omega
    exact ⟨[], Bytes.none_ _ _⟩
  · obtain ⟨l, hb, _⟩ := bytes_of_row (w := W) (a := some x) (len := L) (cap := C) (zs := zs) (.inr ⟨x, rfl, hl, hm, hz, fun i hi => hc x rfl i (by omega), hw⟩)
    exact ⟨l, hb⟩

set_option maxRecDepth 100000 in
theorem lifted (os : Os) (started : os.Started) (H : Type) (enc : TypeId × Value → H) :
    ReturnsInHanded {} Try.checked os 8 .any (Rows.reelGoesSpec.pre6 enc Try.prog Try.f8 Rows.reelGoesRow.domain false) (Rows.reelGoesSpec.post enc Try.prog Try.f8 false true false false) := by
  refine returnsInHanded_of_change (C := Try.checked) own started (by kernel_rfl) Try.func8
    (ChangeSpec.witness6 (enc := enc) (C := Try.checked) false ⟨#[], #[.agg #[.int .u32 0, .int .u8 0, .int .u32 0], .slice none 0 0, .int .u8 0], []⟩ 8 (by kernel_rfl) (by kernel_rfl) (by kernel_rfl) (by kernel_rfl)) ?_
  intro W base args ds gs before hval0 hW hcnd _
  have hval : ∀ (j : Nat) t v, Try.f8.params[j]? = some t → args[j]? = some v → Value.okWide Try.prog W .any base t v := hval0
  have hW' := hW
  obtain ⟨p, q, hA0, hV, rfl, hfz, hnd⟩ := hW
  have hA : DataW.TrodAll enc Try.prog W 0 (fun _ => true) true Try.f8.params.toList args.toList ds p := hA0
  rw [Try.params8] at hA hval
  obtain ⟨v0, vs0, d0, ds0, p0, q0, hargs, rfl, rfl, h0, r0⟩ := trodAll_cons hA
  obtain ⟨v1, vs1, d1, ds1, p1, q1, rfl, rfl, rfl, h1, r1⟩ := trodAll_cons r0
  obtain ⟨v2, vs2, d2, ds2, p2, q2, rfl, rfl, rfl, h2, r2⟩ := trodAll_cons r1
  obtain ⟨rfl, rfl, rfl⟩ := trodAll_nil r2
  obtain rfl : args = #[v0, v1, v2] := by cases args; simp_all
  obtain ⟨rfl, rfl⟩ := trodVars_none hV
  have k0 := h0
  have lt0 : ∀ x ∈ p0, x.block < W.heap.size := by obtain ⟨m, hm⟩ := k0; exact DataW.trod_lt m _ _ _ hm
  obtain ⟨x00, x01, x02, rfl, b00, b01, b02⟩ := open_crown (hval 0 24 v0 rfl rfl) h0
  have k1 := h1
  have lt1 : ∀ x ∈ p1, x.block < W.heap.size := by obtain ⟨m, hm⟩ := k1; exact DataW.trod_lt m _ _ _ hm
  obtain ⟨A1, n1, c1, rfl⟩ := okWide_slice Try.underlying34 (hval 1 34 v1 rfl rfl)
  obtain ⟨ls1, hp1⟩ : ∃ ls, Parts W W.heap.size (.slice A1 n1 c1) ls := by
    obtain ⟨fuel, hf⟩ := h1
    rcases open_int_rows Try.underlying34 Try.underlying43 Try.underlying5 (by kernel_rfl) (by kernel_rfl) hf with ⟨hcs, _⟩ | ⟨x, len, cap, A, L, C, Z, hcs, _, hl, hm, _, hrow⟩
    · simp [Value.cells] at hcs
      obtain ⟨rfl, rfl, rfl⟩ := hcs
      exact ⟨[], Parts.none_ _ _⟩
    · simp [Value.cells] at hcs
      obtain ⟨rfl, rfl, rfl⟩ := hcs
      have each : ∀ r, r < c1 → ∃ l, Bytes W W.heap.size (.slice (A r) (L r) (C r)) l := fun r hr => by
        obtain ⟨_, h2, h3, h4, h5, h6, h7⟩ := hrow r hr
        exact bytes_at h2 h3 h4 h5 h6 fun a' ha c hc => (h7 a' ha).2 c hc
      obtain ⟨f, hf2⟩ := choose_lt each
      refine ⟨(List.range n1).map f, ⟨some x, c1, (List.range n1).map fun r => .slice (A r) (L r) (C r), by simp, by simp, ?_, ?_⟩, by simp; omega⟩
      · intro j v hj
        have hjl : j < n1 := by
          rcases Nat.lt_or_ge j n1 with h | h
          · exact h
          · rw [List.getElem?_eq_none (by simp; exact h)] at hj; cases hj
        rw [List.getElem?_map, List.getElem?_range hjl] at hj
        simp only [Option.map_some, Option.some.injEq] at hj
        have hc := (hrow j (by omega)).1
        have hb := World.block_lt_of_cell? W _ hc
        rw [addr_add_block] at hb
        exact ⟨x, rfl, hb, by rw [hc, hj]⟩
      · intro j u l h1 h2
        have hjl : j < n1 := by
          rcases Nat.lt_or_ge j n1 with h | h
          · exact h
          · rw [List.getElem?_eq_none (by simp; exact h)] at h1; cases h1
        rw [List.getElem?_map, List.getElem?_range hjl] at h1 h2
        simp only [Option.map_some, Option.some.injEq] at h1 h2
        rw [← h1, ← h2]
        exact hf2 j (by omega)
  obtain ⟨a2, rfl, rfl, rfl, w2⟩ := open_int Try.underlying5 (hval 2 5 v2 rfl rfl) h2
  clear hA0 hval0
  have b2 := bounds_u8 w2
  obtain ⟨m2, rfl⟩ := Int.eq_ofNat_of_zero_le b2.1
  refine (reelGoes_walk x00 x01 x02 A1 n1 c1 ls1 m2 W b00 b01 b02 hp1 (by omega)).mono fun e W' ⟨he, bel⟩ => ?_
  subst he
  exact ⟨_, rfl, _, _, _, [], _, [], hW', trodAll_mk1 (shut_bool Try.underlying4 _), (trodAll_cons_mk (Below.trod laidOut (by kernel_rfl) (of_decide_eq_true (by kernel_rfl)) k0 bel lt0) (trodAll_cons_mk (Below.trod laidOut (by kernel_rfl) (of_decide_eq_true (by kernel_rfl)) k1 bel lt1) (trodAll_cons_mk (shut_int Try.underlying5 w2) trodAll_mk0))), rfl, bel.frame _, fun h => by cases h⟩

theorem over : Rows.reelGoesRow.holds Try.pinned (OpenSpec.ofChange Rows.reelGoesSpec) :=
  OpenClaim.holds_of_wide 8 Try.f8 rfl rfl rfl rfl rfl rfl rfl ⟨rfl, rfl, rfl, rfl, rfl⟩ rfl rfl rfl rfl rfl (by kernel_rfl) Try.func8 (by kernel_rfl)
    (of_decide_eq_true (by kernel_rfl)) (by unfold Func.isWrapper; first | (rw [if_pos (by decide +kernel)]; kernel_rfl) | (rw [if_neg (by decide +kernel)]; exact ⟨rfl, rfl⟩))
    (fun os started H enc _ => lifted os started H enc)

theorem proved : Rows.ReelGoesSaid := over
#print axioms proved
end Go.Proofs.Ytpmgihfdiahfdaa.reelGoes
