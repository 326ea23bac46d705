/- Contracts: the first parent. -/
import Derived.Test.YtogkeoainejfcaaANew
namespace Go.Proofs.Ytogkeoainejfcaa
open Go.RowKit
set_option linter.unusedSimpArgs false
set_option linter.unusedVariables false
set_option maxRecDepth 100000
def firstP (l : List (Nat × Nat)) : Nat := (l.head?.map Prod.fst).getD 0
theorem first_any (w : World) (base gp kid : Nat) (F : PF) (hP : ParW w base gp F) (hk : kid < 18446744073709551616) :
    Calls Try.prog 55 #[.map (some gp), .int .u64 (kid : Int)] w (fun e w' => e = .returned (.int .u64 (firstP (rowP F kid) : Int)) ∧ Below w.heap.size w w') := by
  obtain ⟨ho, hr⟩ := hP.row kid
  obtain ⟨l, hL⟩ : ∃ l, l = rowP F kid := ⟨_, rfl⟩
  rw [← hL] at ho ⊢
  have HM := Lib.hid hP.map
  cases l with
  | nil =>
    have hlook : (getL (mapL Prod.fst F) kid).getD (.slice none 0 0) = .slice none 0 0 := by
      rw [valP_look]
      unfold valP rowP at *
      cases hg : getL F kid with
      | none => rfl
      | some x => exact absurd (by rw [hg] at hL; exact hL.symm) (hP.own kid x hg).2.1
    have HLK := Lib.hid hlook
    clear hP ho hr hL hlook
    go_enter Try.func55, Try.ntmps55
    go_wp2_with (at_lookup; go_loud (
        refine wpList_look _ rfl _ _ 72 127 rfl Try.underlying72 (.slice none 0 0) (zeroRow _) gp (mapL Prod.fst F) rfl HM.out kid hk rfl ?_;
        rw [HLK.out]))
    go_ret
    exact ⟨rfl, Below.refl _ _⟩
  | cons p r =>
    obtain ⟨g, cp, hv, hgb, hgl⟩ := ho.some_ (by simp)
    have hlook : (getL (mapL Prod.fst F) kid).getD (.slice none 0 0) = .slice (some ⟨g, 0, none⟩) (r.length + 1) cp := by rw [valP_look, hv]; rfl
    rw [hv] at ho
    obtain ⟨ad, e1, _, hc, _⟩ := POwn.lies ho 0 p rfl
    injection e1 with e1
    subst e1
    have hc2 : w.cell? ⟨g, 0, none⟩ = some (.int .u64 (p.1 : Int)) := hc
    have hf : (firstP (p :: r) : Int) = p.1 := rfl
    rw [hf]
    obtain ⟨q, hq⟩ : ∃ q : Int, q = p.1 := ⟨_, rfl⟩
    rw [← hq] at hc2 ⊢
    obtain ⟨n, hn⟩ : ∃ n, n = r.length := ⟨_, rfl⟩
    rw [← hn] at hlook
    have hn0 : ¬ ((n : Int) + 1 = 0) := by omega
    have hn1 : (((n : Int) + 1) == 0) = false := by rw [beq_eq_false_iff_ne]; exact hn0
    have hn2 : (0 : Int) < (n : Int) + 1 := by omega
    have HLK := Lib.hid hlook
    clear hP ho hr hL hlook hc hv hq hn hf
    go_enter Try.func55, Try.ntmps55
    go_wp2_with (at_lookup; go_loud (
        refine wpList_look _ rfl _ _ 72 127 rfl Try.underlying72 (.slice none 0 0) (zeroRow _) gp (mapL Prod.fst F) rfl HM.out kid hk rfl ?_;
        rw [HLK.out]))
    go_ret
    exact ⟨rfl, Below.refl _ _⟩
end Go.Proofs.Ytogkeoainejfcaa
