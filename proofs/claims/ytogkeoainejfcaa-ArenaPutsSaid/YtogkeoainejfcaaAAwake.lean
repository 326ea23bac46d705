/- Contracts: the document's example. -/
import Derived.Test.YtogkeoainejfcaaACopy
namespace Go.Proofs.Ytogkeoainejfcaa
open Go.RowKit Go.Shelf
set_option linter.unusedSimpArgs false
set_option linter.unusedVariables false
set_option maxRecDepth 100000
attribute [local go_sem] Oper.semAt_some undef
def modNd : Nd := ⟨2, ⟨#[]⟩, 0, 0, 0, []⟩
theorem tree_new : treeB [(1, progNd)] = true := by rfl
theorem tree_two : treeB (putL' [(1, progNd)] 2 modNd) = false := by rfl
set_option maxHeartbeats 2000000 in
theorem awake_true (w : World) : Calls Try.prog 8 #[] w (fun e w' => e = .returned (.bool true) ∧ Below w.heap.size w w') := by
  have HN := Lib.hid (new_any w)
  go_enter Try.func8, Try.ntmps8
  go_wp2_with (first
    | (go_at_call 36; (with_reducible refine (HN.out).mono ?_); rintro e w1 ⟨ga, gm, gp, F, vs, rfl, hA, hb1⟩; go_loud (
        have HA := Lib.hid hA;
        have HB1 := Lib.hid hb1;
        have HRT := Lib.hid (root_any w1 ⟨ga, 0, none⟩);
        clear hA hb1))
    | (go_at_call 26; (with_reducible refine (HRT.out).mono ?_); rintro e w2 ⟨rfl, hb2⟩; go_loud (
        have HB2 := Lib.hid (HB1.out.trans (hb2.mono HB1.out.size));
        have HA2 := Lib.hid (HA.out.below hb2);
        have ht := tree_any w2 _ ga gm gp 0 F vs [(1, progNd)] HA2.out (by decide) (by decide);
        rw [tree_new] at ht;
        have HT := Lib.hid ht;
        clear hb2 ht))
    | (go_at_call 32; (with_reducible refine (HT2.out).mono ?_); rintro e w6 ⟨rfl, hb6⟩; go_loud (
        have HB6 := Lib.hid (HB5.out.trans (hb6.mono HB5.out.size));
        have hl := len_any w6 _ ga gm gp _ F5 vs5 _ (HA5.out.below hb6);
        have HL := Lib.hid hl;
        clear hb6 hl))
    | (go_at_call 32; (with_reducible refine (HT.out).mono ?_); rintro e w3 ⟨rfl, hb3⟩; go_loud (
        have HB3 := Lib.hid (HB2.out.trans (hb3.mono HB2.out.size));
        have HA3 := Lib.hid (HA2.out.below hb3);
        have hput : Calls Try.prog 27 #[.pointer (some ⟨ga, 0, none⟩), .int .u64 2, .agg #[.int .u8 2, .string ⟨#[]⟩, .int .i64 0, .int .u8 0, .int .u64 0, .slice none 0 0]] w3 (PutR w3 w.heap.size ga gm gp F 0 (putL' [(1, progNd)] 2 modNd) 0) := put_good w3 _ ga gm gp 2 0 F vs [(1, progNd)] modNd none 0 HA3.out (by decide) (by decide) (.inr (by decide)) ⟨⟨none, 0, rfl, IdSl.nil _ _⟩, ⟨by decide, by decide, by decide, by decide, by decide⟩⟩ (IdSl.nil _ _) (by decide) (by decide);
        have HP := Lib.hid hput;
        clear hb3 hput))
    | (go_at_call 27; (with_reducible refine (HP.out).mono ?_); rintro e w5 ⟨rfl, F5, vs5, hA5, hT5, hO5⟩; go_loud (
        have HA5 := Lib.hid hA5;
        have HB5 := Lib.hid (HB3.out.trans (hT5.below HB3.out.size fun j hj => HA3.out.low hj));
        have ht2 := tree_any w5 _ ga gm gp 0 F5 vs5 _ hA5 (by decide) (by decide);
        rw [tree_two] at ht2;
        have HT2 := Lib.hid ht2;
        clear hA5 hT5 hO5 ht2))
    | (go_at_call 28; (with_reducible refine (HL.out).mono ?_); rintro e w7 ⟨rfl, hb7⟩; go_loud (
        rw [show (((putL' [(1, progNd)] 2 modNd).length : Nat) : Int) = 2 from rfl];
        have HB7 := Lib.hid (HB6.out.trans (hb7.mono HB6.out.size));
        clear hb7)))
  go_ret
  exact ⟨rfl, HB7.out⟩
end Go.Proofs.Ytogkeoainejfcaa
