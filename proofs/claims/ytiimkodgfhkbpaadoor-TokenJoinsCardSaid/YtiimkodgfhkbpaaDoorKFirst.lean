/- Contracts: what the token at the front is, and how long. -/
import Derived.Test.YtiimkodgfhkbpaaDoorKNumb
import Derived.Test.YtiimkodgfhkbpaaDoorKSign
namespace Go.Proofs.YtiimkodgfhkbpaaDoor
open Go.RowKit
set_option linter.unusedSimpArgs false
set_option linter.unusedVariables false
theorem runL_take : ∀ l : List Nat, runL (l.take (runL l)) = runL l
  | [] => rfl
  | b :: l => by
    simp only [runL]
    split
    · rename_i h
      rw [List.take_succ_cons]
      simp only [runL]
      rw [if_pos h, runL_take l]
    · rfl
theorem first_sign {l : List Nat} (h : runL l = 0) : ((firstL l).1 : Int) = sgnK (signL l) ∧ (firstL l).2 = signL l := by
  unfold firstL sgnK
  rw [if_pos h]
  split
  · rename_i h2; rw [h2]; exact ⟨rfl, rfl⟩
  · exact ⟨rfl, rfl⟩
theorem first_word {l : List Nat} (h : runL l ≠ 0) (h2 : inL (l.take (runL l)) wordsL = true) : firstL l = (3, runL l) := by
  unfold firstL
  rw [if_neg h, if_pos (of_decide_eq_true h2)]
theorem first_name {l : List Nat} (h : runL l ≠ 0) (h2 : inL (l.take (runL l)) wordsL = false) (h3 : nameL (l.take (runL l)) = true) : firstL l = (1, runL l) := by
  unfold firstL
  rw [if_neg h, if_neg (of_decide_eq_false h2), if_pos h3]
theorem first_num {l : List Nat} (h : runL l ≠ 0) (h2 : inL (l.take (runL l)) wordsL = false) (h3 : nameL (l.take (runL l)) = false) (h4 : numL (l.take (runL l)) = true) : firstL l = (2, runL l) := by
  unfold firstL
  rw [if_neg h, if_neg (of_decide_eq_false h2), if_neg (by rw [h3]; simp), if_pos h4]
theorem first_bad {l : List Nat} (h : runL l ≠ 0) (h2 : inL (l.take (runL l)) wordsL = false) (h3 : nameL (l.take (runL l)) = false) (h4 : numL (l.take (runL l)) = false) : firstL l = (0, 0) := by
  unfold firstL
  rw [if_neg h, if_neg (of_decide_eq_false h2), if_neg (by rw [h3]; simp), if_neg (by rw [h4]; simp)]
set_option maxRecDepth 100000 in
set_option maxHeartbeats 1000000 in
theorem first_any (w : World) (s : ByteArray) (hs : s.size ≤ 140737488355328) (hv : Vr w) :
    Calls Tryd.prog 26 #[.string s] w fun e w' => e = .returned (.tuple #[.int .u8 ((firstL (str s)).1 : Int), .int .i64 ((firstL (str s)).2 : Int)]) ∧ Below w.heap.size w w' := by
  have HR := fun (x : World) => hide (run_any x s hs)
  have HV := hide hv
  have hle : runL (str s) ≤ s.size := by rw [← str_length]; exact runL_le _
  by_cases h0 : runL (str s) = 0
  · obtain ⟨h1, h2⟩ := first_sign h0
    have HS := fun (x : World) => hide (sign_any x s)
    have H1 := hide h1
    have H2 := hide h2
    have e0 : ((runL (str s) : Nat) : Int) = 0 := by omega
    have hnil : s.extract 0 0 = ⟨#[]⟩ := str_inj (by rw [str_extract]; rfl)
    have HR0 : ∀ x : World, Hid (Calls Tryd.prog 35 #[.string s] x fun e w' => e = .returned (.int .i64 0) ∧ x = w') := fun x => hide ((unhide (HR x)).mono fun e w' ⟨h, h'⟩ => ⟨by rw [h, e0], h'⟩)
    clear h1 h2 e0 hle h0
    go_enter Tryd.func26, Tryd.ntmps26
    go_wp2_with (first
      | (go_at_call 35; (with_reducible refine (unhide (HR0 _)).mono ?_); rintro e w1 ⟨rfl, rfl⟩)
      | (go_at_call 38; (with_reducible refine (unhide (HS _)).mono ?_); rintro e w1 ⟨rfl, hb⟩; have HB := Lib.hid hb; clear hb))
    go_ret2
    refine ⟨?_, HB.out⟩
    rw [unhide H1, unhide H2]
    rfl
  · obtain ⟨n, hn⟩ : ∃ n, n = runL (str s) := ⟨_, rfl⟩
    have hstr : str (s.extract 0 n) = (str s).take n := by rw [str_extract, List.drop_zero, Nat.sub_zero]
    have hsz : (s.extract 0 n).size = n := by rw [← str_length, hstr, List.length_take, str_length]; omega
    have hld : runL (str (s.extract 0 n)) = (s.extract 0 n).size := by rw [hsz, hstr, hn, runL_take]
    have hne := not_nil_of (s := s.extract 0 n) (by rw [hsz]; omega)
    have HW := fun (x : World) => hide (isword_any x (s.extract 0 n))
    have HN := fun (x : World) => hide (isname_any x (s.extract 0 n) (by rw [hsz]; omega))
    have HM := fun (x : World) (hx : Vr x) => hide (isnum_any x (s.extract 0 n) (by rw [hsz]; omega) hx hld)
    have hfw := first_word (l := str s) (by omega)
    have hfn := first_name (l := str s) (by omega)
    have hfm := first_num (l := str s) (by omega)
    have hfb := first_bad (l := str s) (by omega)
    rw [← hn, ← hstr] at hfw hfn hfm hfb
    rw [← hn] at HR hle
    clear hn hstr hld h0
    rcases hw : inL (str (s.extract 0 n)) wordsL with _ | _
    · rcases hnm : nameL (str (s.extract 0 n)) with _ | _
      · rcases hnu : numL (str (s.extract 0 n)) with _ | _
        · rw [hfb hw hnm hnu]
          rw [hw, hnm] at HN
          rw [hw] at HW
          rw [hnu] at HM
          clear hfw hfn hfm hfb hw hnm hnu
          go_enter Tryd.func26, Tryd.ntmps26
          go_wp2_with (first
            | (go_at_call 35; (with_reducible refine (unhide (HR _)).mono ?_); rintro e w1 ⟨rfl, rfl⟩)
            | (go_at_call 17; (with_reducible refine (unhide (HW _)).mono ?_); rintro e w1 ⟨rfl, hb⟩; go_loud (
                have HB1 := hide hb;
                clear hb))
            | (go_at_call 18; (with_reducible refine (unhide (HN _)).mono ?_); rintro e w2 ⟨rfl, hb⟩; go_loud (
                have HB2 := hide (below_on (unhide HB1) hb);
                clear hb))
            | (go_at_call 30; (with_reducible refine (unhide (HM _ ((unhide HV).below (unhide HB2)))).mono ?_); rintro e w3 ⟨rfl, hb⟩; go_loud (
                have HB3 := hide (below_on (unhide HB2) hb);
                clear hb)))
          go_ret2
          exact ⟨rfl, unhide HB3⟩
        · rw [hfm hw hnm hnu]
          rw [hw, hnm] at HN
          rw [hw] at HW
          rw [hnu] at HM
          clear hfw hfn hfm hfb hw hnm hnu
          go_enter Tryd.func26, Tryd.ntmps26
          go_wp2_with (first
            | (go_at_call 35; (with_reducible refine (unhide (HR _)).mono ?_); rintro e w1 ⟨rfl, rfl⟩)
            | (go_at_call 17; (with_reducible refine (unhide (HW _)).mono ?_); rintro e w1 ⟨rfl, hb⟩; go_loud (
                have HB1 := hide hb;
                clear hb))
            | (go_at_call 18; (with_reducible refine (unhide (HN _)).mono ?_); rintro e w2 ⟨rfl, hb⟩; go_loud (
                have HB2 := hide (below_on (unhide HB1) hb);
                clear hb))
            | (go_at_call 30; (with_reducible refine (unhide (HM _ ((unhide HV).below (unhide HB2)))).mono ?_); rintro e w3 ⟨rfl, hb⟩; go_loud (
                have HB3 := hide (below_on (unhide HB2) hb);
                clear hb)))
          go_ret2
          exact ⟨rfl, unhide HB3⟩
      · rw [hfn hw hnm]
        rw [hw, hnm] at HN
        rw [hw] at HW
        clear hfw hfn hfm hfb hw hnm HM
        go_enter Tryd.func26, Tryd.ntmps26
        go_wp2_with (first
          | (go_at_call 35; (with_reducible refine (unhide (HR _)).mono ?_); rintro e w1 ⟨rfl, rfl⟩)
          | (go_at_call 17; (with_reducible refine (unhide (HW _)).mono ?_); rintro e w1 ⟨rfl, hb⟩; go_loud (
              have HB1 := hide hb;
              clear hb))
          | (go_at_call 18; (with_reducible refine (unhide (HN _)).mono ?_); rintro e w2 ⟨rfl, hb⟩; go_loud (
              have HB2 := hide (below_on (unhide HB1) hb);
              clear hb)))
        go_ret2
        exact ⟨rfl, unhide HB2⟩
    · rw [hfw hw]
      rw [hw] at HW
      clear hfw hfn hfm hfb hw HN HM
      go_enter Tryd.func26, Tryd.ntmps26
      go_wp2_with (first
        | (go_at_call 35; (with_reducible refine (unhide (HR _)).mono ?_); rintro e w1 ⟨rfl, rfl⟩)
        | (go_at_call 17; (with_reducible refine (unhide (HW _)).mono ?_); rintro e w1 ⟨rfl, hb⟩; go_loud (
            have HB1 := hide hb;
            clear hb)))
      go_ret2
      exact ⟨rfl, unhide HB1⟩
end Go.Proofs.YtiimkodgfhkbpaaDoor
