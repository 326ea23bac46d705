/- KNumb, KSign, KFirst, KToks: joined by program (tools/merge.py). -/
import Derived.Test.YtecbaceinifjiaaGreatDoorZ18
import Derived.Test.YtecbaceinifjiaaGreatDoorZ0
import Derived.Maps.AppendAt
import Derived.OwnWalk
namespace Go.Proofs.YtecbaceinifjiaaGreatDoor
open Go.RowKit
set_option linter.unusedSimpArgs false
set_option linter.unusedVariables false
theorem parse_good (w : World) (s : ByteArray) (v : Int) (hs : s.size ≤ 281474976710656) (hv : Vr w) (h : Lib.parseIntB 64 s.data.toList = .ok v) :
    Calls Tryz.prog 63 #[.string s, .int .i64 10, .int .i64 64] w fun e w' => e = .returned (.tuple #[.int .i64 v, .nilIface]) ∧ Below w.heap.size w w' :=
  (tk_parse_any w s hs hv).mono fun e w' ⟨h1, hb⟩ => by
    rcases h1 with ⟨u, hu, he⟩ | ⟨hno, _⟩
    · rw [h] at hu
      injection hu with hu
      exact ⟨by rw [he, hu], hb⟩
    · exact absurd h (hno v)
theorem parse_bad (w : World) (s : ByteArray) (hs : s.size ≤ 281474976710656) (hv : Vr w) (h : ∀ v, Lib.parseIntB 64 s.data.toList ≠ .ok v) :
    Calls Tryz.prog 63 #[.string s, .int .i64 10, .int .i64 64] w fun e w' => (∃ v t p, e = .returned (.tuple #[.int .i64 v, .iface t p])) ∧ Below w.heap.size w w' :=
  (tk_parse_any w s hs hv).mono fun e w' ⟨h1, hb⟩ => by
    rcases h1 with ⟨u, hu, he⟩ | ⟨_, he⟩
    · exact absurd hu (h u)
    · exact ⟨he, hb⟩
set_option maxRecDepth 100000 in
set_option maxHeartbeats 1000000 in
theorem isnum_any (w : World) (s : ByteArray) (hs : s.size ≤ 140737488355328) (hv : Vr w) (hld : runL (str s) = s.size) :
    Calls Tryz.prog 43 #[.string s] w fun e w' => e = .returned (.bool (numL (str s))) ∧ Below w.heap.size w w' := by
  obtain ⟨hok, hbad⟩ := is_num hld
  by_cases hp : ∃ v, Lib.parseIntB 64 s.data.toList = .ok v
  · obtain ⟨v, hp⟩ := hp
    obtain ⟨he, _, h0, h1⟩ := hok v hp
    rw [ByteArray.toList_mk (Lib.itoa v)] at he
    have HP := fun (x : World) (hx : Vr x) => hide (parse_good x s v (by omega) hx hp)
    have HF := fun (x : World) (hx : Vr x) => hide (format_any x v (by omega) h1 hx)
    have HV := hide hv
    have HE := hide he
    clear hok hbad he h0 h1 hp
    go_enter Tryz.func43, Tryz.ntmps43
    go_wp2_with (first
      | (go_at_call 63; (with_reducible refine (unhide (HP _ (unhide HV))).mono ?_); rintro e w1 ⟨rfl, hb⟩; go_loud (
          have HB := hide hb;
          have HF1 := HF w1 ((unhide HV).below hb);
          clear hb))
      | (go_at_call 64; (with_reducible refine (unhide HF1).mono ?_); rintro e w2 ⟨rfl, hb2⟩; go_loud (
          have HB2 := hide (below_on (unhide HB) hb2);
          clear hb2)))
    go_ret
    refine ⟨?_, unhide HB2⟩
    rw [← unhide HE]
    rfl
  · have hp2 : ∀ v, Lib.parseIntB 64 s.data.toList ≠ .ok v := fun v h => hp ⟨v, h⟩
    rw [hbad hp2]
    have HP := fun (x : World) (hx : Vr x) => hide (parse_bad x s (by omega) hx hp2)
    have HV := hide hv
    clear hok hbad hp hp2
    go_enter Tryz.func43, Tryz.ntmps43
    go_wp2_with (go_at_call 63; (with_reducible refine (unhide (HP _ (unhide HV))).mono ?_); rintro e w1 ⟨⟨v, t, p, rfl⟩, hb⟩; go_loud (
          have HB := hide hb;
          clear hb))
    go_ret
    exact ⟨rfl, unhide HB⟩
/-- The value of a number; below 0: it is none. -/
def numV (l : List Nat) : Int := if numL l then (valL l : Int) else -1
theorem numV_bad {l : List Nat} (h : numL l = false) : numV l = -1 := by unfold numV; rw [h]; rfl
theorem cls_two {c : Nat} : clsL c = 2 ↔ isDig c = true := by
  unfold clsL
  split
  · rename_i h
    simp [let_not_dig h]
  · split
    · simp [*]
    · split <;> simp [*]
theorem valA_take {l : List Nat} {k b : Nat} (h : l[k]? = some b) : valA 0 (l.take (k + 1)) = 10 * valA 0 (l.take k) + (b - 48) := by
  rw [List.take_add_one, h]
  exact valA_append _ _ _
theorem digL_bad {l : List Nat} {k b : Nat} (h : l[k]? = some b) (hb : isDig b = false) : digL l = false := by
  unfold digL
  rcases ha : l.all isDig with _ | _
  · rfl
  · rw [List.all_eq_true] at ha
    rw [ha b (List.mem_of_getElem? h)] at hb
    cases hb
theorem digL_good {l : List Nat} (h : ∀ (j b : Nat), l[j]? = some b → isDig b = true) : digL l = true := by
  unfold digL
  rw [List.all_eq_true]
  intro b hb
  obtain ⟨j, hj⟩ := List.mem_iff_getElem?.1 hb
  exact h j b hj
def NumR (l : List Nat) (n i : Value) : Prop := ∃ k v : Nat, i = .int .i64 (k : Int) ∧ n = .int .u64 (v : Int) ∧ k ≤ l.length ∧ v = valA 0 (l.take k) ∧ v < 10 ^ k ∧ ∀ (j b : Nat), j < k → l[j]? = some b → isDig b = true
end Go.Proofs.YtecbaceinifjiaaGreatDoor
namespace Go.Proofs.YtecbaceinifjiaaGreatDoor
open Go.RowKit
set_option linter.unusedSimpArgs false
set_option linter.unusedVariables false
/-- Does l begin with p? -/
def pfxL (l p : List Nat) : Bool := decide (l.take p.length = p)
theorem pfx_str (s p : ByteArray) : Lib.hasPrefix s.data.toList p.data.toList = pfxL (str s) (str p) := by
  rw [← Lib.hasPrefix_raw, Bool.eq_iff_iff]
  unfold pfxL
  rw [Bool.and_eq_true, decide_eq_true_eq, decide_eq_true_eq, Lib.bytes_beq_iff, str_length]
  constructor
  · rintro ⟨_, h⟩
    have h2 := congrArg str h
    rw [str_extract, List.drop_zero, Nat.sub_zero] at h2
    exact h2
  · intro h
    have hl := congrArg List.length h
    rw [List.length_take, str_length, str_length] at hl
    refine ⟨by omega, str_inj ?_⟩
    rw [str_extract, List.drop_zero, Nat.sub_zero]
    exact h
theorem signsL_len : ∀ s ∈ signsL, s.length = 1 ∨ s.length = 2 := by decide
theorem signL_of {l : List Nat} {m : Nat} (h1 : ∀ s ∈ signsL, pfxL l s = true → s.length ≤ m) (h2 : m = 0 ∨ ∃ s ∈ signsL, pfxL l s = true ∧ s.length = m) : signL l = m := by
  unfold pfxL at h1 h2
  have hm : m ≤ 2 := by
    rcases h2 with h | ⟨s, hs, _, h⟩
    · omega
    · have := signsL_len s hs; omega
  unfold signL
  split
  · rename_i h
    have := h1 _ h.1 (decide_eq_true (by rw [List.length_take, Nat.min_eq_left h.2]))
    rw [List.length_take] at this
    omega
  · rename_i h
    split
    · rename_i h3
      have hl : 1 ≤ l.length := by
        rcases l with _ | ⟨b, l⟩
        · simp [signsL] at h3
        · simp
      have := h1 _ h3 (decide_eq_true (by rw [List.length_take, Nat.min_eq_left hl]))
      rw [List.length_take] at this
      rcases h2 with h4 | ⟨s, hs, hp, h4⟩
      · omega
      · rcases signsL_len s hs with h5 | h5
        · omega
        · have e := of_decide_eq_true hp
          rw [h5] at e
          have hl2 := congrArg List.length e
          rw [List.length_take] at hl2
          exact absurd ⟨e.symm ▸ hs, by omega⟩ h
    · rename_i h3
      rcases h2 with h4 | ⟨s, hs, hp, h4⟩
      · exact h4.symm
      · have e := of_decide_eq_true hp
        have hl2 := congrArg List.length e
        rw [List.length_take] at hl2
        rcases signsL_len s hs with h5 | h5
        · rw [h5] at e
          exact absurd (e.symm ▸ hs) h3
        · rw [h5] at e
          exact absurd ⟨e.symm ▸ hs, by omega⟩ h
/-- The kind of a sign this long. -/
def sgnK (n : Nat) : Int := if n = 0 then 0 else 4
def SignR (l : List Nat) (m i : Value) : Prop := ∃ k n : Nat, i = .int .i64 (k : Int) ∧ m = .int .i64 (n : Int) ∧ k ≤ 22 ∧ n ≤ 2 ∧ (∀ j s, j < k → signsL[j]? = some s → pfxL l s = true → s.length ≤ n) ∧ (n = 0 ∨ ∃ s ∈ signsL, pfxL l s = true ∧ s.length = n)
theorem signs_lie (w : World) : Calls Tryz.prog 59 #[] w fun e w' => ∃ b, e = .returned (.slice (some ⟨b, 0, none⟩) 22 22) ∧ (∀ j x, signsB[j]? = some x → w'.cell? ⟨b, j, none⟩ = some (.string x)) ∧ Below w.heap.size w w' :=
  (signs_any w).mono fun e w' ⟨v, he, b, hv, _, _, hc, hb⟩ => ⟨b, by rw [he, hv]; rfl, hc, hb⟩
set_option maxRecDepth 100000 in
set_option maxHeartbeats 1000000 in
theorem sign_any (w : World) (s : ByteArray) :
    Calls Tryz.prog 40 #[.string s] w fun e w' => e = .returned (.tuple #[.int .u8 (sgnK (signL (str s))), .int .i64 (signL (str s) : Int)]) ∧ Below w.heap.size w w' := by
  have HW := fun (x : World) => hide (signs_lie x)
  have HP := fun (x : World) (p : ByteArray) => hide (prefix_any x s p)
  go_enter Tryz.func40, Tryz.ntmps40
  go_wp2_with (go_at_call 59; (with_reducible refine (unhide (HW _)).mono ?_); rintro e w1 ⟨b, rfl, hc, hb⟩; go_loud (
        have HB := Lib.hid hb;
        have HC := Lib.hid hc;
        clear hb hc))
  go_loop [4, 9] (fun m i => SignR (str s) m i) (fun _ i => 22 - (intOf i).toNat)
  case atStart => exact ⟨0, 0, rfl, rfl, by omega, by omega, fun j s h => by omega, .inl rfl⟩
  case round =>
    obtain ⟨k, n, rfl, rfl, hk, hn, hr, hr2⟩ := hrel
    have HR := hide hr
    have HR2 := hide hr2
    clear hr hr2
    have hlen : signsB.length = 22 := rfl
    by_cases hlt : k < 22
    · obtain ⟨y, hy⟩ : ∃ y, signsB[k]? = some y := ⟨_, List.getElem?_eq_getElem (by rw [hlen]; exact hlt)⟩
      have hcell := HC.out k y hy
      have hy2 : signsL[k]? = some (str y) := by rw [← signsB_str, List.getElem?_map, hy]; rfl
      have hys : y.size ≤ 2 := by
        have := signsL_len _ (List.mem_of_getElem? hy2)
        rw [str_length] at this
        omega
      have HY := Lib.hid hy2
      have hx := pfx_str s y
      clear hy hy2
      rcases hp : pfxL (str s) (str y) with _ | _
      · rw [hp] at hx
        have HP2 := Lib.hid hp
        clear hp
        go_wp2_with (go_at_call 60; (with_reducible refine (unhide (HP _ _)).mono ?_); rintro e w2 ⟨rfl, rfl⟩)
        go_round
        case rel =>
          refine ⟨k + 1, n, by go_num, rfl, by omega, hn, fun j z hj hz hq => ?_, unhide HR2⟩
          rcases Nat.lt_or_ge j k with h | h
          · exact unhide HR j z h hz hq
          · obtain rfl : j = k := by omega
            rw [HY.out] at hz
            injection hz with hz
            rw [← hz, HP2.out] at hq
            cases hq
        case measure => simp [intOf]; omega
      · rw [hp] at hx
        have HP2 := Lib.hid hp
        clear hp
        go_wp2_with (go_at_call 60; (with_reducible refine (unhide (HP _ _)).mono ?_); rintro e w2 ⟨rfl, rfl⟩)
        go_round
        case rel =>
          refine ⟨k + 1, max n y.size, by go_num, congrArg (Value.int .i64) (by omega), by omega, by omega, fun j z hj hz hq => ?_, ?_⟩
          · rcases Nat.lt_or_ge j k with h | h
            · have := unhide HR j z h hz hq
              omega
            · obtain rfl : j = k := by omega
              rw [HY.out] at hz
              injection hz with hz
              rw [← hz, str_length]
              omega
          · rcases Nat.le_total n y.size with h | h
            · exact .inr ⟨str y, List.mem_of_getElem? HY.out, HP2.out, by rw [str_length]; omega⟩
            · rw [Nat.max_eq_left h]
              exact unhide HR2
        case measure => simp [intOf]; omega
    · have hs : signL (str s) = n := signL_of (fun z hz hq => by
        obtain ⟨j, hj⟩ := List.mem_iff_getElem?.1 hz
        refine unhide HR j z ?_ hj hq
        have hj2 : j < signsL.length := by
          rcases Nat.lt_or_ge j signsL.length with h1 | h1
          · exact h1
          · rw [List.getElem?_eq_none h1] at hj; cases hj
        have : signsL.length = 22 := rfl
        omega) (unhide HR2)
      have HS := Lib.hid hs
      clear hs
      by_cases hn0 : n = 0
      · subst hn0
        go_wp2
        go_ret2
        exact ⟨by rw [HS.out]; rfl, HB.out⟩
      · have h0 : ((n : Int) == 0) = false := by rw [beq_eq_false_iff_ne]; omega
        go_wp2
        go_ret2
        refine ⟨?_, HB.out⟩
        rw [HS.out]
        unfold sgnK
        rw [if_neg hn0]
        rfl
end Go.Proofs.YtecbaceinifjiaaGreatDoor
namespace Go.Proofs.YtecbaceinifjiaaGreatDoor
open Go.RowKit
set_option linter.unusedSimpArgs false
set_option linter.unusedVariables false
theorem runL_take : ∀ l : List Nat, runL (l.take (runL l)) = runL l
  | [] => rfl
  | b :: l => by
    simp only [runL]
    split
    · rename_i h
      rw [List.take_succ_cons]
      simp only [runL]
      rw [if_pos h, runL_take l]
    · rfl
theorem first_sign {l : List Nat} (h : runL l = 0) : ((firstL l).1 : Int) = sgnK (signL l) ∧ (firstL l).2 = signL l := by
  unfold firstL sgnK
  rw [if_pos h]
  split
  · rename_i h2; rw [h2]; exact ⟨rfl, rfl⟩
  · exact ⟨rfl, rfl⟩
theorem first_word {l : List Nat} (h : runL l ≠ 0) (h2 : inL (l.take (runL l)) wordsL = true) : firstL l = (3, runL l) := by
  unfold firstL
  rw [if_neg h, if_pos (of_decide_eq_true h2)]
theorem first_name {l : List Nat} (h : runL l ≠ 0) (h2 : inL (l.take (runL l)) wordsL = false) (h3 : nameL (l.take (runL l)) = true) : firstL l = (1, runL l) := by
  unfold firstL
  rw [if_neg h, if_neg (of_decide_eq_false h2), if_pos h3]
theorem first_num {l : List Nat} (h : runL l ≠ 0) (h2 : inL (l.take (runL l)) wordsL = false) (h3 : nameL (l.take (runL l)) = false) (h4 : numL (l.take (runL l)) = true) : firstL l = (2, runL l) := by
  unfold firstL
  rw [if_neg h, if_neg (of_decide_eq_false h2), if_neg (by rw [h3]; simp), if_pos h4]
theorem first_bad {l : List Nat} (h : runL l ≠ 0) (h2 : inL (l.take (runL l)) wordsL = false) (h3 : nameL (l.take (runL l)) = false) (h4 : numL (l.take (runL l)) = false) : firstL l = (0, 0) := by
  unfold firstL
  rw [if_neg h, if_neg (of_decide_eq_false h2), if_neg (by rw [h3]; simp), if_neg (by rw [h4]; simp)]
set_option maxRecDepth 100000 in
set_option maxHeartbeats 1000000 in
theorem tk_first_any (w : World) (s : ByteArray) (hs : s.size ≤ 140737488355328) (hv : Vr w) :
    Calls Tryz.prog 28 #[.string s] w fun e w' => e = .returned (.tuple #[.int .u8 ((firstL (str s)).1 : Int), .int .i64 ((firstL (str s)).2 : Int)]) ∧ Below w.heap.size w w' := by
  have HR := fun (x : World) => hide (run_any x s hs)
  have HV := hide hv
  have hle : runL (str s) ≤ s.size := by rw [← str_length]; exact runL_le _
  by_cases h0 : runL (str s) = 0
  · obtain ⟨h1, h2⟩ := first_sign h0
    have HS := fun (x : World) => hide (sign_any x s)
    have H1 := hide h1
    have H2 := hide h2
    have e0 : ((runL (str s) : Nat) : Int) = 0 := by omega
    have hnil : s.extract 0 0 = ⟨#[]⟩ := str_inj (by rw [str_extract]; rfl)
    have HR0 : ∀ x : World, Hid (Calls Tryz.prog 39 #[.string s] x fun e w' => e = .returned (.int .i64 0) ∧ x = w') := fun x => hide ((unhide (HR x)).mono fun e w' ⟨h, h'⟩ => ⟨by rw [h, e0], h'⟩)
    clear h1 h2 e0 hle h0
    go_enter Tryz.func28, Tryz.ntmps28
    go_wp2_with (first
      | (go_at_call 39; (with_reducible refine (unhide (HR0 _)).mono ?_); rintro e w1 ⟨rfl, rfl⟩)
      | (go_at_call 40; (with_reducible refine (unhide (HS _)).mono ?_); rintro e w1 ⟨rfl, hb⟩; have HB := Lib.hid hb; clear hb))
    go_ret2
    refine ⟨?_, HB.out⟩
    rw [unhide H1, unhide H2]
    rfl
  · obtain ⟨n, hn⟩ : ∃ n, n = runL (str s) := ⟨_, rfl⟩
    have hstr : str (s.extract 0 n) = (str s).take n := by rw [str_extract, List.drop_zero, Nat.sub_zero]
    have hsz : (s.extract 0 n).size = n := by rw [← str_length, hstr, List.length_take, str_length]; omega
    have hld : runL (str (s.extract 0 n)) = (s.extract 0 n).size := by rw [hsz, hstr, hn, runL_take]
    have hne := not_nil_of (s := s.extract 0 n) (by rw [hsz]; omega)
    have HW := fun (x : World) => hide (isword_any x (s.extract 0 n))
    have HN := fun (x : World) => hide (isname_any x (s.extract 0 n) (by rw [hsz]; omega))
    have HM := fun (x : World) (hx : Vr x) => hide (isnum_any x (s.extract 0 n) (by rw [hsz]; omega) hx hld)
    have hfw := first_word (l := str s) (by omega)
    have hfn := first_name (l := str s) (by omega)
    have hfm := first_num (l := str s) (by omega)
    have hfb := first_bad (l := str s) (by omega)
    rw [← hn, ← hstr] at hfw hfn hfm hfb
    rw [← hn] at HR hle
    clear hn hstr hld h0
    rcases hw : inL (str (s.extract 0 n)) wordsL with _ | _
    · rcases hnm : nameL (str (s.extract 0 n)) with _ | _
      · rcases hnu : numL (str (s.extract 0 n)) with _ | _
        · rw [hfb hw hnm hnu]
          rw [hw, hnm] at HN
          rw [hw] at HW
          rw [hnu] at HM
          clear hfw hfn hfm hfb hw hnm hnu
          go_enter Tryz.func28, Tryz.ntmps28
          go_wp2_with (first
            | (go_at_call 39; (with_reducible refine (unhide (HR _)).mono ?_); rintro e w1 ⟨rfl, rfl⟩)
            | (go_at_call 41; (with_reducible refine (unhide (HW _)).mono ?_); rintro e w1 ⟨rfl, hb⟩; go_loud (
                have HB1 := hide hb;
                clear hb))
            | (go_at_call 42; (with_reducible refine (unhide (HN _)).mono ?_); rintro e w2 ⟨rfl, hb⟩; go_loud (
                have HB2 := hide (below_on (unhide HB1) hb);
                clear hb))
            | (go_at_call 43; (with_reducible refine (unhide (HM _ ((unhide HV).below (unhide HB2)))).mono ?_); rintro e w3 ⟨rfl, hb⟩; go_loud (
                have HB3 := hide (below_on (unhide HB2) hb);
                clear hb)))
          go_ret2
          exact ⟨rfl, unhide HB3⟩
        · rw [hfm hw hnm hnu]
          rw [hw, hnm] at HN
          rw [hw] at HW
          rw [hnu] at HM
          clear hfw hfn hfm hfb hw hnm hnu
          go_enter Tryz.func28, Tryz.ntmps28
          go_wp2_with (first
            | (go_at_call 39; (with_reducible refine (unhide (HR _)).mono ?_); rintro e w1 ⟨rfl, rfl⟩)
            | (go_at_call 41; (with_reducible refine (unhide (HW _)).mono ?_); rintro e w1 ⟨rfl, hb⟩; go_loud (
                have HB1 := hide hb;
                clear hb))
            | (go_at_call 42; (with_reducible refine (unhide (HN _)).mono ?_); rintro e w2 ⟨rfl, hb⟩; go_loud (
                have HB2 := hide (below_on (unhide HB1) hb);
                clear hb))
            | (go_at_call 43; (with_reducible refine (unhide (HM _ ((unhide HV).below (unhide HB2)))).mono ?_); rintro e w3 ⟨rfl, hb⟩; go_loud (
                have HB3 := hide (below_on (unhide HB2) hb);
                clear hb)))
          go_ret2
          exact ⟨rfl, unhide HB3⟩
      · rw [hfn hw hnm]
        rw [hw, hnm] at HN
        rw [hw] at HW
        clear hfw hfn hfm hfb hw hnm HM
        go_enter Tryz.func28, Tryz.ntmps28
        go_wp2_with (first
          | (go_at_call 39; (with_reducible refine (unhide (HR _)).mono ?_); rintro e w1 ⟨rfl, rfl⟩)
          | (go_at_call 41; (with_reducible refine (unhide (HW _)).mono ?_); rintro e w1 ⟨rfl, hb⟩; go_loud (
              have HB1 := hide hb;
              clear hb))
          | (go_at_call 42; (with_reducible refine (unhide (HN _)).mono ?_); rintro e w2 ⟨rfl, hb⟩; go_loud (
              have HB2 := hide (below_on (unhide HB1) hb);
              clear hb)))
        go_ret2
        exact ⟨rfl, unhide HB2⟩
    · rw [hfw hw]
      rw [hw] at HW
      clear hfw hfn hfm hfb hw HN HM
      go_enter Tryz.func28, Tryz.ntmps28
      go_wp2_with (first
        | (go_at_call 39; (with_reducible refine (unhide (HR _)).mono ?_); rintro e w1 ⟨rfl, rfl⟩)
        | (go_at_call 41; (with_reducible refine (unhide (HW _)).mono ?_); rintro e w1 ⟨rfl, hb⟩; go_loud (
            have HB1 := hide hb;
            clear hb)))
      go_ret2
      exact ⟨rfl, unhide HB1⟩
end Go.Proofs.YtecbaceinifjiaaGreatDoor
namespace Go.Proofs.YtecbaceinifjiaaGreatDoor
open Go.RowKit
set_option linter.unusedSimpArgs false
set_option linter.unusedVariables false
def tokC (t : Tok) : List Value := [.int .u8 (t.kind : Int), .string (ba t.text), .int .i64 (t.at_ : Int)]
def toksC (ts : List Tok) : List Value := ts.flatMap tokC
theorem toksC_append (a b : List Tok) : toksC (a ++ b) = toksC a ++ toksC b := List.flatMap_append
theorem toksC_length (ts : List Tok) : (toksC ts).length = ts.length * 3 := by
  induction ts with
  | nil => rfl
  | cons t ts ih => rw [show toksC (t :: ts) = tokC t ++ toksC ts from rfl, List.length_append, ih]; simp [tokC]; omega
/-- v is a row of these tokens, of type ty, in blocks from base on. -/
def TRow (w : World) (base : Nat) (ty : TypeId) (v : Value) (ts : List Tok) : Prop := w.ownsRow base ty 3 v ts.length (toksC ts)
theorem TRow.nil (w : World) (base : Nat) (ty : TypeId) : TRow w base ty (.slice none 0 0) [] := ⟨rfl, .inl ⟨rfl, rfl⟩⟩
theorem ownsRow_keep {w w' : World} {base n size : Nat} {t : TypeId} {v : Value} {xs : List Value} (h : w.ownsRow base t size v n xs) (hk : ∀ k, v.ownBlock = some k → w'.heap[k]? = w.heap[k]?) : w'.ownsRow base t size v n xs := by
  obtain ⟨hl, hv⟩ := id h
  refine ⟨hl, ?_⟩
  rcases hv with hv | ⟨g, cap, cur, rfl, h1, h2, h3⟩
  · exact .inl hv
  · exact .inr ⟨g, cap, cur, rfl, h1, (hk g rfl).trans h2, h3⟩
theorem own_block_lt {w : World} {base n size : Nat} {t : TypeId} {v : Value} {xs : List Value} (h : w.ownsRow base t size v n xs) {k : Nat} (hk : v.ownBlock = some k) : base ≤ k ∧ k < w.heap.size := by
  rcases h.2 with ⟨rfl, _⟩ | ⟨g, cap, cur, rfl, h1, h2, _⟩
  · cases hk
  · simp [Value.ownBlock] at hk
    subst hk
    exact ⟨h1, lt_of_heap h2⟩
theorem ownsRow_below {w w' : World} {base n size : Nat} {t : TypeId} {v : Value} {xs : List Value} (h : w.ownsRow base t size v n xs) (hb : Below w.heap.size w w') : w'.ownsRow base t size v n xs :=
  ownsRow_keep h fun k hk => hb.block k (own_block_lt h hk).2
theorem TRow.below {w w' : World} {base : Nat} {ty : TypeId} {v : Value} {ts : List Tok} (h : TRow w base ty v ts) (hb : Below w.heap.size w w') : TRow w' base ty v ts := ownsRow_below h hb
theorem cell_three_new {w : World} (x y z : Value) (t : TypeId) (j : Nat) (u : Value) (h : [x, y, z][j]? = some u) : (w.alloc (.cells #[x, y, z] t)).cell? ((⟨w.heap.size, 0, none⟩ : Addr).add j) = some u := by
  rcases j with _ | _ | _ | j
  · rw [show (⟨w.heap.size, 0, none⟩ : Addr).add 0 = ⟨w.heap.size, 0, none⟩ from rfl, World.cell?_alloc_at _ _ _ _ rfl]
    simpa using h
  · rw [show (⟨w.heap.size, 0, none⟩ : Addr).add (0 + 1) = ⟨w.heap.size, 1, none⟩ from rfl, World.cell?_alloc_at _ _ _ _ rfl]
    simpa using h
  · rw [show (⟨w.heap.size, 0, none⟩ : Addr).add (0 + 1 + 1) = ⟨w.heap.size, 2, none⟩ from rfl, World.cell?_alloc_at _ _ _ _ rfl]
    simpa using h
  · simp at h
theorem infoTok : (Tryz.prog.info? 74).map (fun i => (i.zero, i.size, i.bytes)) = some (some (.agg #[.int .u8 0, .string ⟨#[]⟩, .int .i64 0]), 3, 32) := by kernel_rfl
theorem info_tok {P : Program} {t : TypeId} {z : Value} {s b : Nat} (h : (P.info? t).map (fun i => (i.zero, i.size, i.bytes)) = some (some z, s, b)) : ∃ i, P.info? t = some i ∧ i.zero = some z ∧ i.size = s ∧ i.bytes = b := by
  rcases hi : P.info? t with _ | i
  · rw [hi] at h; cases h
  · rw [hi] at h
    simp at h
    exact ⟨i, rfl, h.1, h.2.1, h.2.2⟩
/-- The piece of a string at a place. -/
theorem ba_piece (s : ByteArray) (a n : Nat) : ba (((str s).drop a).take n) = s.extract a (a + n) := by
  apply str_inj
  rw [str_ba (fun b hb => str_small s b (List.mem_of_mem_drop (List.mem_of_mem_take hb))), str_extract, Nat.add_sub_cancel_left]
theorem str_rest (s : ByteArray) (a : Nat) : str (s.extract a s.size) = (str s).drop a := by
  rw [str_extract, List.take_of_length_le]
  rw [List.length_drop, str_length]
  exact Nat.le_refl _
def AllI (W : World) (s : ByteArray) (v i : Value) (w : World) : Prop :=
  ∃ (p : Nat) (acc : List Tok), p ≤ s.size ∧ i = .int .i64 ((p + gapL ((str s).drop p) : Nat) : Int) ∧ TRow w W.heap.size 74 v acc ∧ acc.length ≤ p ∧ Below W.heap.size W w ∧ scan (str s) 0 = (scan ((str s).drop p) p).map (acc ++ ·)
theorem all_next {l : List Nat} {p : Nat} {acc : List Tok} (hp : p ≤ l.length) (h : scan l 0 = (scan (l.drop p) p).map (acc ++ ·)) (hlt : p + gapL (l.drop p) < l.length) (hk : (firstL (l.drop (p + gapL (l.drop p)))).1 ≠ 0) :
    scan l 0 = (scan (l.drop (p + gapL (l.drop p) + (firstL (l.drop (p + gapL (l.drop p)))).2)) (p + gapL (l.drop p) + (firstL (l.drop (p + gapL (l.drop p)))).2)).map
      ((acc ++ [⟨(firstL (l.drop (p + gapL (l.drop p)))).1, (l.drop (p + gapL (l.drop p))).take (firstL (l.drop (p + gapL (l.drop p)))).2, p + gapL (l.drop p)⟩]) ++ ·) := by
  have e : (l.drop p).drop (gapL (l.drop p)) = l.drop (p + gapL (l.drop p)) := List.drop_drop
  rw [h, scan_next (l := l.drop p) (by rw [List.length_drop]; omega) (by rw [e]; exact hk), e, List.drop_drop, Option.map_map, Nat.add_assoc]
  congr 1
  funext x
  simp
end Go.Proofs.YtecbaceinifjiaaGreatDoor
