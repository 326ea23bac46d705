/- Contracts: a Reader's Text and Bool; a nil Reader. -/
import Derived.Test.YtfnobibjphnmdaaGreatDoorTpRead
namespace Go.Proofs.YtfnobibjphnmdaaGreatDoor
open Go.RowKit
set_option linter.unusedSimpArgs false
set_option linter.unusedVariables false

def takeBool (l : List Nat) : Bool × List Nat × Bool := if 1 < (takeByte l).1 then (false, [], false) else ((takeByte l).1 == 1, (takeByte l).2.1, (takeByte l).2.2)
/-- The text that is taken, and what is left. -/
def takeText (l : List Nat) (most : Nat) : List Nat × List Nat × Bool :=
  if (takeNum l most).2.1.length < (takeNum l most).1 then ([], [], false) else ((takeNum l most).2.1.take (takeNum l most).1, (takeNum l most).2.1.drop (takeNum l most).1, (takeNum l most).2.2)
theorem Rdr.texts {w : World} {B g n c k : Nat} {A : Option Addr} {bad : Bool} {l : List Nat} (h : Rdr w B g (.slice A n c) bad l) (hk : k ≤ n) :
    (convert 26 9 (.slice A k c)).run Tryz.prog w = .ok (.string (txt (l.take k))) w ∧ Bytes w B (.slice (if c = k then A else A.map (·.add k)) (n - k) (c - k)) (l.drop k) ∧ (bad = true → l.drop k = []) :=
  ⟨convert_bytes (h.by_.first hk), h.by_.rest hk, fun e => by rw [h.dead e]; simp⟩
set_option maxRecDepth 100000 in
set_option maxHeartbeats 2000000 in
theorem rtext_any (w : World) (B g most : Nat) (v : Value) (bad : Bool) (l : List Nat) (h : Rdr w B g v bad l) (hm : most < 9223372036854775808) :
    Calls Tryz.prog 35 #[.pointer (some ⟨g, 0, none⟩), .int .i64 (most : Int)] w fun e w' => e = .returned (.string (txt (takeText l most).1)) ∧ Took w B g (bad || !(takeText l most).2.2) (takeText l most).2.1 w' := by
  have HC := hide (rnum_any w B g most v bad l h (by omega))
  have hlong := h.by_.long
  unfold maxLen at hlong
  have hlen : (takeNum l most).2.1.length ≤ l.length := by
    unfold takeNum
    split
    · simp
    · simp
  clear h
  unfold takeText
  obtain ⟨a, ha⟩ : ∃ n, n = (takeNum l most).1 := ⟨_, rfl⟩
  obtain ⟨b2, hb2⟩ : ∃ n, n = (bad || !(takeNum l most).2.2) := ⟨_, rfl⟩
  obtain ⟨l2, hl2⟩ : ∃ n, n = (takeNum l most).2.1 := ⟨_, rfl⟩
  obtain ⟨o2, ho2⟩ : ∃ n, n = (takeNum l most).2.2 := ⟨_, rfl⟩
  rw [← ha, ← hb2, ← hl2] at HC
  rw [← hl2] at hlen
  rw [← ha, ← hl2, ← ho2]
  have hmx : (if (most : Int) < 0 then (0 : Int) else (most : Int)) = (most : Int) := by rw [if_neg (by omega)]
  by_cases h1 : l2.length < a
  · rw [if_pos h1]
    show Calls _ _ _ _ fun e w' => e = .returned (.string (txt [])) ∧ Took w B g (bad || true) [] w'
    rw [Bool.or_true]
    have hx : decide ((l2.length : Int) < (a : Int)) = true := decide_eq_true (by omega)
    have hx' : decide (l2.length < a) = true := decide_eq_true h1
    have HF := fun (w1 : World) (v1 : Value) (h : Rdr w1 B g v1 b2 l2) => hide (rfail_any w1 B g v1 b2 l2 h)
    have H1 := Lib.hid h1
    clear ha hb2 hl2 ho2 h1
    go_enter Tryz.func35, Tryz.ntmps35
    go_wp2_with (first
      | (go_at_call 34; (with_reducible refine (unhide HC).mono ?_); rintro e w1 ⟨rfl, v1, hR1, hC1⟩; go_loud (
          have HC1 := Lib.hid hC1;
          have HF1 := HF w1 v1 hR1;
          obtain ⟨c0, c1, f0, f1⟩ := hR1.cells;
          obtain ⟨A, c, rfl, hc⟩ := hR1.slice;
          clear hR1 hC1))
      | (go_at_call 56; (with_reducible refine (unhide HF1).mono ?_); rintro e w2 ⟨⟨u, rfl⟩, v2, hR2, hC2⟩))
    go_ret
    exact ⟨rfl, v2, hR2, HC1.out.trans (Goes.refl _ _) hC2⟩
  · rw [if_neg h1]
    show Calls _ _ _ _ fun e w' => e = .returned (.string (txt (l2.take a))) ∧ Took w B g (bad || !o2) (l2.drop a) w'
    rw [show (bad || !o2) = b2 by rw [hb2, ho2]]
    obtain ⟨n, hn⟩ : ∃ n, n = l2.length := ⟨_, rfl⟩
    rw [← hn] at h1 hlen
    have hx : decide ((n : Int) < (a : Int)) = false := decide_eq_false (by omega)
    have hx' : decide (n < a) = false := decide_eq_false h1
    have HN := Lib.hid hn
    clear ha hb2 hl2 ho2 hn
    go_enter Tryz.func35, Tryz.ntmps35
    go_wp2_with (first
      | (go_at_call 34; (with_reducible refine (unhide HC).mono ?_); rintro e w1 ⟨rfl, v1, hR1, hC1⟩; go_loud (
          have HC1 := Lib.hid hC1;
          obtain ⟨c0, c1, f0, f1⟩ := hR1.cells;
          obtain ⟨A, c, rfl, hc⟩ := hR1.slice;
          rw [← HN.out] at hR1 c0 hc;
          obtain ⟨hcv, hrest, hd⟩ := hR1.texts (k := a) (by omega);
          have HR := Lib.hid hR1;
          have HX := Lib.hid hrest;
          have HD := Lib.hid hd;
          clear hR1 hC1 hrest hd)))
    · have hca : c = a := by assumption
      have hX := HX.out
      rw [if_pos hca, hca, Nat.sub_self] at hX
      go_ret
      exact ⟨rfl, _, HR.out.move hX HD.out, HC1.out.trans (Goes.refl _ _) (Chg.set _ _ _ _ _)⟩
    · have hca : ¬ c = a := by assumption
      have hX := HX.out
      rw [if_neg hca] at hX
      go_ret
      exact ⟨rfl, _, HR.out.move hX HD.out, HC1.out.trans (Goes.refl _ _) (Chg.set _ _ _ _ _)⟩
/-- A nil Reader. -/
theorem rnum_nil (w : World) (n : Int) : Calls Tryz.prog 34 #[.pointer none, .int .u64 n] w fun e w' => e = .returned (.int .u64 0) ∧ w = w' := by
  go_enter Tryz.func34, Tryz.ntmps34
  go_wp2
  go_ret
  exact ⟨rfl, rfl⟩
theorem rtext_nil (w : World) (n : Int) : Calls Tryz.prog 35 #[.pointer none, .int .i64 n] w fun e w' => e = .returned (.string ⟨#[]⟩) ∧ w = w' := by
  go_enter Tryz.func35, Tryz.ntmps35
  go_wp2
  go_ret
  exact ⟨rfl, rfl⟩
theorem rbyte_nil (w : World) : Calls Tryz.prog 33 #[.pointer none] w fun e w' => e = .returned (.int .u8 0) ∧ w = w' := by
  go_enter Tryz.func33, Tryz.ntmps33
  go_wp2
  go_ret
  exact ⟨rfl, rfl⟩
theorem rdone_nil (w : World) : Calls Tryz.prog 36 #[.pointer none] w fun e w' => e = .returned (.int .i64 2) ∧ w = w' := by
  go_enter Tryz.func36, Tryz.ntmps36
  go_wp2
  go_ret
  exact ⟨rfl, rfl⟩
end Go.Proofs.YtfnobibjphnmdaaGreatDoor
