/- ANew, AFirst: joined by program (tools/merge.py). -/
import Derived.Test.YtdphpjlhkamadaaZ9
namespace Go.Proofs.Ytdphpjlhkamadaa
open Go.RowKit
set_option linter.unusedSimpArgs false
set_option linter.unusedVariables false
set_option maxRecDepth 100000
def EmptyR (w : World) (e : Ending) (w' : World) : Prop :=
  ∃ ga gm gp, e = .returned (.pointer (some ⟨ga, 0, none⟩)) ∧ AR w' w.heap.size ga gm gp [] [] [] 0 ∧ Below w.heap.size w w'
theorem empty_any (w : World) : Calls Try.prog 37 #[] w (EmptyR w) := by
  have hmm := @run_makeMap Try.prog
  go_enter Try.func37, Try.ntmps37
  go_wp2_with fail
  go_ret
  have s1 : (w.alloc (.map #[] 0)).heap.size = w.heap.size + 1 := by simp
  have s2 : ((w.alloc (.map #[] 0)).alloc (.map #[] 0)).heap.size = w.heap.size + 1 + 1 := by simp
  have hst := Go.heap_alloc_new ((w.alloc (.map #[] 0)).alloc (.map #[] 0)) (.cells #[.map (some w.heap.size), .map (some (w.heap.size + 1))] 74)
  have hgp := ParW.made (w.alloc (.map #[] 0)) w.heap.size
  rw [s1] at hgp
  rw [s2] at hst
  have hb1 : Below (w.alloc (.map #[] 0)).heap.size (w.alloc (.map #[] 0)) (((w.alloc (.map #[] 0)).alloc (.map #[] 0)).alloc (.cells #[.map (some w.heap.size), .map (some (w.heap.size + 1))] 74)) := ((Below.refl _ _).alloc (Nat.le_refl _) _).alloc (by simp) _
  have hb2 : Below ((w.alloc (.map #[] 0)).alloc (.map #[] 0)).heap.size ((w.alloc (.map #[] 0)).alloc (.map #[] 0)) (((w.alloc (.map #[] 0)).alloc (.map #[] 0)).alloc (.cells #[.map (some w.heap.size), .map (some (w.heap.size + 1))] 74)) := (Below.refl _ _).alloc (Nat.le_refl _) _
  refine ⟨_, _, _, rfl, ⟨hst, (MapV.made w).at_ (hb1.block _ (by rw [s1]; omega)), Rise.nil, fun k => trivial, ⟨hgp.below hb2, fun k i => ?_, fun k => Nat.le_refl _, Nat.le_refl _, fun k i => Nat.le_refl _⟩, by omega, by omega, by omega, by omega, by simp; omega⟩, (((Below.refl _ _).alloc (Nat.le_refl _) _).alloc (by simp) _).alloc (by simp; omega) _⟩
  rfl
def progNd : Nd := ⟨1, ⟨#[]⟩, 0, 0, 0, []⟩
def NewR (w : World) (e : Ending) (w' : World) : Prop :=
  ∃ ga gm gp F vs, e = .returned (.pointer (some ⟨ga, 0, none⟩)) ∧ AR w' w.heap.size ga gm gp F vs [(1, progNd)] 0 ∧ Below w.heap.size w w'
theorem new_any (w : World) : Calls Try.prog 36 #[] w (NewR w) := by
  have HE := Lib.hid (empty_any w)
  go_enter Try.func36, Try.ntmps36
  go_wp2_with (first
    | (go_at_call 37; (with_reducible refine (HE.out).mono ?_); rintro e w1 ⟨ga, gm, gp, rfl, hA, hb1⟩; go_loud (
        have HA := Lib.hid hA;
        have HB1 := Lib.hid hb1;
        clear hA hb1))
    | (go_at_call 38; (refine (set_any _ w.heap.size ga gm gp 1 0 [] [] [] (ndV progNd (.slice none 0 0)) progNd HA.out ⟨⟨none, 0, rfl, IdSl.nil _ _⟩, ⟨by decide, by decide, by decide, by decide, by decide⟩⟩ (by decide) (by decide) (by decide)).mono ?_); rintro e w2 ⟨rfl, F1, vs1, hA2, hT, hO⟩; go_loud (
        have HA2 := Lib.hid hA2;
        have HT := Lib.hid hT;
        clear hA2 hT hO)))
  go_ret
  exact ⟨ga, gm, gp, F1, vs1, rfl, HA2.out, HB1.out.trans (HT.out.below HB1.out.size fun j e => HA.out.low e)⟩
end Go.Proofs.Ytdphpjlhkamadaa
namespace Go.Proofs.Ytdphpjlhkamadaa
open Go.RowKit
set_option linter.unusedSimpArgs false
set_option linter.unusedVariables false
set_option maxRecDepth 100000
def firstP (l : List (Nat × Nat)) : Nat := (l.head?.map Prod.fst).getD 0
theorem first_any (w : World) (base gp kid : Nat) (F : PF) (hP : ParW w base gp F) (hk : kid < 18446744073709551616) :
    Calls Try.prog 55 #[.map (some gp), .int .u64 (kid : Int)] w (fun e w' => e = .returned (.int .u64 (firstP (rowP F kid) : Int)) ∧ Below w.heap.size w w') := by
  obtain ⟨ho, hr⟩ := hP.row kid
  obtain ⟨l, hL⟩ : ∃ l, l = rowP F kid := ⟨_, rfl⟩
  rw [← hL] at ho ⊢
  have HM := Lib.hid hP.map
  cases l with
  | nil =>
    have hlook : (getL (mapL Prod.fst F) kid).getD (.slice none 0 0) = .slice none 0 0 := by
      rw [valP_look]
      unfold valP rowP at *
      cases hg : getL F kid with
      | none => rfl
      | some x => exact absurd (by rw [hg] at hL; exact hL.symm) (hP.own kid x hg).2.1
    have HLK := Lib.hid hlook
    clear hP ho hr hL hlook
    go_enter Try.func55, Try.ntmps55
    go_wp2_with (at_lookup; go_loud (
        refine wpList_look _ rfl _ _ 72 127 rfl Try.underlying72 (.slice none 0 0) (zeroRow _) gp (mapL Prod.fst F) rfl HM.out kid hk rfl ?_;
        rw [HLK.out]))
    go_ret
    exact ⟨rfl, Below.refl _ _⟩
  | cons p r =>
    obtain ⟨g, cp, hv, hgb, hgl⟩ := ho.some_ (by simp)
    have hlook : (getL (mapL Prod.fst F) kid).getD (.slice none 0 0) = .slice (some ⟨g, 0, none⟩) (r.length + 1) cp := by rw [valP_look, hv]; rfl
    rw [hv] at ho
    obtain ⟨ad, e1, _, hc, _⟩ := POwn.lies ho 0 p rfl
    injection e1 with e1
    subst e1
    have hc2 : w.cell? ⟨g, 0, none⟩ = some (.int .u64 (p.1 : Int)) := hc
    have hf : (firstP (p :: r) : Int) = p.1 := rfl
    rw [hf]
    obtain ⟨q, hq⟩ : ∃ q : Int, q = p.1 := ⟨_, rfl⟩
    rw [← hq] at hc2 ⊢
    obtain ⟨n, hn⟩ : ∃ n, n = r.length := ⟨_, rfl⟩
    rw [← hn] at hlook
    have hn0 : ¬ ((n : Int) + 1 = 0) := by omega
    have hn1 : (((n : Int) + 1) == 0) = false := by rw [beq_eq_false_iff_ne]; exact hn0
    have hn2 : (0 : Int) < (n : Int) + 1 := by omega
    have HLK := Lib.hid hlook
    clear hP ho hr hL hlook hc hv hq hn hf
    go_enter Try.func55, Try.ntmps55
    go_wp2_with (at_lookup; go_loud (
        refine wpList_look _ rfl _ _ 72 127 rfl Try.underlying72 (.slice none 0 0) (zeroRow _) gp (mapL Prod.fst F) rfl HM.out kid hk rfl ?_;
        rw [HLK.out]))
    go_ret
    exact ⟨rfl, Below.refl _ _⟩
end Go.Proofs.Ytdphpjlhkamadaa
