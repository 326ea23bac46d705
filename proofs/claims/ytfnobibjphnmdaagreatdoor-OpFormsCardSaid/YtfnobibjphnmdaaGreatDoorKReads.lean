/- What the laws go by: the reference's row; the numbers among the tokens. -/
import Derived.Test.YtfnobibjphnmdaaGreatDoorKSpace
import Derived.Deep.RegionHeld3
namespace Go.Proofs.YtfnobibjphnmdaaGreatDoor
open Go.RowKit
set_option linter.unusedSimpArgs false
set_option linter.unusedVariables false
/-- A step of a drawn region, taken first; the slot that it writes is written out. -/
theorem take_at {P : Program} {ops : Array Oper} {Q : Exit → Act → World → Prop} {md : Region.Mode} {S : World → Prop} {i : Nat} {oi : Oper} {v : Value} {fuel : Nat} {listed : Array Bool} {a : Act} {w : World} (d : Option Tmp)
    (hi : ops[i]? = some oi) (hd : oi.dst = d) (hs : Region.noSelect ops = true) (hf : Region.free md ops listed i = true) (hr : (Region.ready md ops listed).contains i = true)
    (hQ : ∀ c a w, Q (.panic c) (a.put d v) w → Q (.panic c) a w) (hy : YieldsIf P ops S oi v a) (hS : S w)
    (h : wpAnyH P md ops Q S fuel (listed.setIfInBounds i true) (a.put d v) w) : wpAnyH P md ops Q S (fuel + 1) listed a w := by
  subst hd
  exact wpAnyH_take hi hs hf hr hQ hy hS h
theorem first_two_num {l : List Nat} (h : (firstL l).1 = 2) : (firstL l).2 = runL l ∧ numL (l.take (runL l)) = true := by
  revert h
  unfold firstL
  split
  · split <;> (intro h; cases h)
  · split
    · intro h; cases h
    · split
      · intro h; cases h
      · split
        · rename_i h; intro _; exact ⟨rfl, h⟩
        · intro h; cases h
/-- Numbers are numbers; each token's bytes are the text's. -/
theorem toks_num : ∀ (ts : List Tok) (m : List Nat) (a : Nat), (∀ b ∈ m, b < 256) → scan m a = some ts → ∀ t ∈ ts, (∀ b ∈ t.text, b < 256) ∧ t.text.length ≤ m.length ∧ (t.kind = 2 → numL t.text = true ∧ runL t.text = t.text.length)
  | [], _, _, _, _, t, ht => by simp at ht
  | u :: ts, m, a, hm, h, t, ht => by
    obtain ⟨h1, h2, h3, h4⟩ := scan_inv h
    have hle := firstL_le (m.drop (gapL m))
    rcases List.mem_cons.1 ht with rfl | ht
    · rw [h3]
      refine ⟨fun b hb => hm b (List.mem_of_mem_drop (List.mem_of_mem_take hb)), ?_, fun hk => ?_⟩
      · show (List.take _ _).length ≤ _
        rw [List.length_take, List.length_drop]
        omega
      · obtain ⟨q1, q2⟩ := first_two_num hk
        show numL (List.take _ _) = true ∧ runL (List.take _ _) = (List.take _ _).length
        rw [q1]
        refine ⟨q2, ?_⟩
        have := runL_le (m.drop (gapL m))
        rw [runL_take, List.length_take]
        omega
    · obtain ⟨q1, q2, q3⟩ := toks_num ts _ _ (fun b hb => hm b (List.mem_of_mem_drop hb)) h4 t ht
      refine ⟨q1, ?_, q3⟩
      rw [List.length_drop] at q2
      omega
end Go.Proofs.YtfnobibjphnmdaaGreatDoor
