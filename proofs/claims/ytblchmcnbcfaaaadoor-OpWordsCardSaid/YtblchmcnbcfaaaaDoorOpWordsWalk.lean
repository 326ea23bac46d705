/- The walk of OpWords. -/
import Derived.Test.YtblchmcnbcfaaaaDoorORef
namespace Go.Proofs.YtblchmcnbcfaaaaDoor
open Go.RowKit
set_option linter.unusedVariables false
set_option linter.unusedSimpArgs false
set_option maxRecDepth 100000 in
theorem words_core (w : World) (k : Nat) (hk : k < 256) (hv : Vo w) :
    Calls Tryd.prog 3 #[.int .u8 (k : Int)] w fun e w' => e = .returned (.bool true) ∧ Below w.heap.size w w' := by
  have HAW := hide (opawake w hv)
  have HP := fun (x : World) => hide (parts_any x k hk)
  have HW := fun (x : World) (h : Below w.heap.size w x) => hide (word_any x k hk (hv.below h))
  have hq : ((ba (wordK k)).toList == (ba (wordK k)).toList) = true := beq_self_eq_true _
  clear hv
  go_enter Tryd.func3, Tryd.ntmps3
  go_wp2_with (first
    | (go_at_call 7; (with_reducible refine (unhide HAW).mono ?_); rintro e w1 ⟨rfl, hb1⟩; go_loud (
        have HB1 := Lib.hid hb1;
        clear hb1))
    | (go_at_call 8; (with_reducible refine (unhide (HP _)).mono ?_); rintro e w2 ⟨rfl, hb2⟩; go_loud (
        have HB2 := Lib.hid (ridec hb2 HB1.out);
        clear hb2))
    | (go_at_call 9; (with_reducible refine (unhide (HW _ HB2.out)).mono ?_); rintro e w3 ⟨rfl, rfl⟩))
  go_ret
  exact ⟨rfl, HB2.out⟩
end Go.Proofs.YtblchmcnbcfaaaaDoor
