/- The walk of the law CrownFormats where the disk has one sector. -/
import Derived.Test.YtckekmhbfdeaoaaCNil
import Derived.Test.YtckekmhbfdeaoaaCAwake
import Derived.Test.YtckekmhbfdeaoaaCFormat
import Derived.Test.YtckekmhbfdeaoaaCHalf
namespace Go.Proofs.Ytckekmhbfdeaoaa
open Go.RowKit
set_option linter.unusedSimpArgs false
set_option linter.unusedVariables false

theorem own_far {x y : World} {B gs : Nat} {b : DB} (ho : OnlyAt x y (fun k => k = gs ∨ k = b.gl ∨ some k = b.pv.ownBlock)) (h1 : B ≤ gs) (h2 : B ≤ b.gl) (h3 : ∀ g, b.pv.ownBlock = some g → B ≤ g) (hB : B ≤ x.heap.size) : Below B x y :=
  ho.below (fun k hk => by
    rcases hk with h | h | h
    · omega
    · omega
    · exact h3 k h.symm) hB
set_option maxRecDepth 100000 in
set_option maxHeartbeats 4000000 in
theorem formats_one (w : World) (m : Nat) (hm : m < 256) (hm9 : m % 9 = 0) (v v2 : Value) (l : List Nat) (hp : Bytes w w.heap.size v l) :
    Calls Try.prog 6 #[v, v2, .int .u8 (m : Int)] w fun e w' => e = .returned (.bool true) ∧ Below w.heap.size w w' := by
  obtain ⟨P, hP⟩ : ∃ P, P = full l := ⟨_, rfl⟩
  have hsP : IsSec P := by rw [hP]; exact full_sec hp.small
  have HP := Lib.hid hP
  have HSP := Lib.hid hsP
  have HB := Lib.hid hp
  have HA := hide (awake_true w)
  have HN0 := fun x : World => hide (new_good x 1 (by omega) (by omega))
  rw [show ((1 : Nat) : Int) = 1 from rfl] at HN0
  have hk1 : (m : Int).tmod 9 = 0 := by rw [Int.tmod_eq_emod_of_nonneg (by omega)]; omega
  clear hP hsP hp hm9
  go_enter Try.func6, Try.ntmps6
  go_wp2_with (first
    | (go_at_call 8; (with_reducible refine (unhide HA).mono ?_); rintro e w1 ⟨rfl, hw1⟩; go_loud (
       have HN := HN0 w1))
    | (go_at_call 9; (with_reducible refine (unhide HN).mono ?_); rintro e w2 ⟨gs, b, rfl, hD2, hgs, hgd, hgl, hpv, hw2⟩; go_loud (
       have hb2 := hw1.trans (hw2.mono hw1.size);
       have HF1 := hide (full_any w2 v l (HB.out.along hb2)); rw [← HP.out] at HF1))
    | (go_at_call 11; (with_reducible refine (unhide HF1).mono ?_); rintro e w3 ⟨A3, n3, c3, rfl, hM3, hw3⟩; go_loud (
       obtain rfl : n3 = 512 := hM3.len.trans HSP.out.1;
       have hD3 := hD2.below hw3;
       have HW1 := hide (write_good hD3 (by decide) (by decide) (by decide) (by simp) 0 (by simp) A3 c3 P hM3.bytes HSP.out);
       rw [show ((0 : Nat) : Int) = 0 from rfl] at HW1))
    | (go_at_call 13; (with_reducible refine (unhide HW1).mono ?_); rintro e w4 ⟨rfl, b4, hD4, i1, i2, i3, i4, i5, hO4⟩; go_loud (
       have HF := hide (cformat_few hD4 (by simp))))
    | (go_at_call 16; (with_reducible refine (unhide HF).mono ?_); rintro e w5 ⟨rfl, rfl⟩)
    | (go_at_call 14; (with_reducible refine (cread_nil _).mono ?_); rintro e w6 ⟨rfl, hb6⟩)
    | (go_at_call 16; (with_reducible refine (cformat_nil _).mono ?_); rintro e w7 ⟨rfl, rfl⟩)
    | (go_at_call 17; (with_reducible refine (first_any _).mono ?_); rintro e w8 ⟨rfl, hb8⟩; go_loud (
       have HWN := hide (cwrite_nil w8 1 0 0 (by decide) (by decide) (by decide));
       rw [show ((1 : Nat) : Int) = 1 from rfl, show ((0 : Nat) : Int) = 0 from rfl] at HWN))
    | (go_at_call 19; (with_reducible refine (unhide HWN).mono ?_); rintro e w9 ⟨rfl, hb9⟩; go_loud (
       have hba := (Below.refl w6.heap.size w6).alloc (Nat.le_refl _) (.cells #[.int .u32 0, .int .u8 0, .int .u32 0] 24);
       have hb69 := below_on (hba.trans (hb8.mono hba.size)) hb9;
       have hD9 := hD4.below (hb6.trans (hb69.mono hb6.size));
       have HR := hide (cread_few hD9 (by simp))))
    | (go_at_call 14; (with_reducible refine (unhide HR).mono ?_); rintro e w10 ⟨rfl, hb10⟩))
  go_ret
  have s1 := hw1.size
  have z3 := hb2.trans (hw3.mono hb2.size)
  have z4 := z3.trans (own_far hO4 (by omega) (by omega) (fun g hg => by rw [hpv] at hg; cases hg) z3.size)
  have z6 := z4.trans (hb6.mono z4.size)
  have z9 := z6.trans (hb69.mono z6.size)
  have z10 := z9.trans (hb10.mono z9.size)
  exact ⟨rfl, z10.alloc z10.size _⟩
end Go.Proofs.Ytckekmhbfdeaoaa
