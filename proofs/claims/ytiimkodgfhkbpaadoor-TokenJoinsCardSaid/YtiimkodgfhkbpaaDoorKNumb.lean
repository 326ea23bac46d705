/- Contracts: is a run of letters and digits a number, to the program and to the reference; its value. -/
import Derived.Test.YtiimkodgfhkbpaaDoorKNum
namespace Go.Proofs.YtiimkodgfhkbpaaDoor
open Go.RowKit
set_option linter.unusedSimpArgs false
set_option linter.unusedVariables false
theorem parse_good (w : World) (s : ByteArray) (v : Int) (hs : s.size ≤ 281474976710656) (hv : Vr w) (h : Lib.parseIntB 64 s.data.toList = .ok v) :
    Calls Tryd.prog 31 #[.string s, .int .i64 10, .int .i64 64] w fun e w' => e = .returned (.tuple #[.int .i64 v, .nilIface]) ∧ Below w.heap.size w w' :=
  (parse_any w s hs hv).mono fun e w' ⟨h1, hb⟩ => by
    rcases h1 with ⟨u, hu, he⟩ | ⟨hno, _⟩
    · rw [h] at hu
      injection hu with hu
      exact ⟨by rw [he, hu], hb⟩
    · exact absurd h (hno v)
theorem parse_bad (w : World) (s : ByteArray) (hs : s.size ≤ 281474976710656) (hv : Vr w) (h : ∀ v, Lib.parseIntB 64 s.data.toList ≠ .ok v) :
    Calls Tryd.prog 31 #[.string s, .int .i64 10, .int .i64 64] w fun e w' => (∃ v t p, e = .returned (.tuple #[.int .i64 v, .iface t p])) ∧ Below w.heap.size w w' :=
  (parse_any w s hs hv).mono fun e w' ⟨h1, hb⟩ => by
    rcases h1 with ⟨u, hu, he⟩ | ⟨_, he⟩
    · exact absurd hu (h u)
    · exact ⟨he, hb⟩
set_option maxRecDepth 100000 in
set_option maxHeartbeats 1000000 in
theorem isnum_any (w : World) (s : ByteArray) (hs : s.size ≤ 140737488355328) (hv : Vr w) (hld : runL (str s) = s.size) :
    Calls Tryd.prog 30 #[.string s] w fun e w' => e = .returned (.bool (numL (str s))) ∧ Below w.heap.size w w' := by
  obtain ⟨hok, hbad⟩ := is_num hld
  by_cases hp : ∃ v, Lib.parseIntB 64 s.data.toList = .ok v
  · obtain ⟨v, hp⟩ := hp
    obtain ⟨he, _, h0, h1⟩ := hok v hp
    rw [ByteArray.toList_mk (Lib.itoa v)] at he
    have HP := fun (x : World) (hx : Vr x) => hide (parse_good x s v (by omega) hx hp)
    have HF := fun (x : World) (hx : Vr x) => hide (format_any x v (by omega) h1 hx)
    have HV := hide hv
    have HE := hide he
    clear hok hbad he h0 h1 hp
    go_enter Tryd.func30, Tryd.ntmps30
    go_wp2_with (first
      | (go_at_call 31; (with_reducible refine (unhide (HP _ (unhide HV))).mono ?_); rintro e w1 ⟨rfl, hb⟩; go_loud (
          have HB := hide hb;
          have HF1 := HF w1 ((unhide HV).below hb);
          clear hb))
      | (go_at_call 40; (with_reducible refine (unhide HF1).mono ?_); rintro e w2 ⟨rfl, hb2⟩; go_loud (
          have HB2 := hide (below_on (unhide HB) hb2);
          clear hb2)))
    go_ret
    refine ⟨?_, unhide HB2⟩
    rw [← unhide HE]
    rfl
  · have hp2 : ∀ v, Lib.parseIntB 64 s.data.toList ≠ .ok v := fun v h => hp ⟨v, h⟩
    rw [hbad hp2]
    have HP := fun (x : World) (hx : Vr x) => hide (parse_bad x s (by omega) hx hp2)
    have HV := hide hv
    clear hok hbad hp hp2
    go_enter Tryd.func30, Tryd.ntmps30
    go_wp2_with (go_at_call 31; (with_reducible refine (unhide (HP _ (unhide HV))).mono ?_); rintro e w1 ⟨⟨v, t, p, rfl⟩, hb⟩; go_loud (
          have HB := hide hb;
          clear hb))
    go_ret
    exact ⟨rfl, unhide HB⟩
/-- The value of a number; below 0: it is none. -/
def numV (l : List Nat) : Int := if numL l then (valL l : Int) else -1
theorem numV_bad {l : List Nat} (h : numL l = false) : numV l = -1 := by unfold numV; rw [h]; rfl
theorem cls_two {c : Nat} : clsL c = 2 ↔ isDig c = true := by
  unfold clsL
  split
  · rename_i h
    simp [let_not_dig h]
  · split
    · simp [*]
    · split <;> simp [*]
theorem valA_take {l : List Nat} {k b : Nat} (h : l[k]? = some b) : valA 0 (l.take (k + 1)) = 10 * valA 0 (l.take k) + (b - 48) := by
  rw [List.take_add_one, h]
  exact valA_append _ _ _
theorem digL_bad {l : List Nat} {k b : Nat} (h : l[k]? = some b) (hb : isDig b = false) : digL l = false := by
  unfold digL
  rcases ha : l.all isDig with _ | _
  · rfl
  · rw [List.all_eq_true] at ha
    rw [ha b (List.mem_of_getElem? h)] at hb
    cases hb
theorem digL_good {l : List Nat} (h : ∀ (j b : Nat), l[j]? = some b → isDig b = true) : digL l = true := by
  unfold digL
  rw [List.all_eq_true]
  intro b hb
  obtain ⟨j, hj⟩ := List.mem_iff_getElem?.1 hb
  exact h j b hj
def NumR (l : List Nat) (n i : Value) : Prop := ∃ k v : Nat, i = .int .i64 (k : Int) ∧ n = .int .u64 (v : Int) ∧ k ≤ l.length ∧ v = valA 0 (l.take k) ∧ v < 10 ^ k ∧ ∀ (j b : Nat), j < k → l[j]? = some b → isDig b = true
set_option maxRecDepth 100000 in
set_option maxHeartbeats 1000000 in
theorem number_any (w : World) (s : ByteArray) (hs : s.size ≤ 140737488355328) :
    Calls Tryd.prog 13 #[.string s] w fun e w' => e = .returned (.int .i64 (numV (str s))) ∧ w = w' := by
  have HC := fun (x : World) (c : Nat) (hc : c < 256) => hide (class_any x c hc)
  by_cases h0 : s.size < 1
  · have hr : numV (str s) = -1 := numV_bad (by unfold numL; rw [str_length, show decide (1 ≤ s.size) = false from decide_eq_false (by omega)]; rfl)
    rw [hr]
    have hx : decide ((s.size : Int) < 1) = true := decide_eq_true (by omega)
    clear hr
    go_enter Tryd.func13, Tryd.ntmps13
    go_wp2
    go_ret
    exact ⟨rfl, rfl⟩
  · have hx : decide ((s.size : Int) < 1) = false := decide_eq_false (by omega)
    have hpos : 0 < s.size := by omega
    by_cases h19 : 19 < s.size
    · have hr : numV (str s) = -1 := numV_bad (by unfold numL; rw [str_length, show decide (s.size ≤ 19) = false from decide_eq_false (by omega)]; simp)
      rw [hr]
      have hy : decide (19 < (s.size : Int)) = true := decide_eq_true (by omega)
      clear hr
      go_enter Tryd.func13, Tryd.ntmps13
      go_wp2
      go_ret
      exact ⟨rfl, rfl⟩
    · have hy : decide (19 < (s.size : Int)) = false := decide_eq_false (by omega)
      by_cases hz : (s[0]'hpos).toNat = 48 ∧ 1 < s.size
      · have hr : numV (str s) = -1 := numV_bad (by unfold numL; rw [str_length, str_head hpos, hz.1, show decide (1 < s.size) = true from decide_eq_true hz.2]; simp)
        rw [hr]
        have h48 : (((s[0]'hpos).toNat : Int) == 48) = true := by rw [beq_iff_eq]; omega
        have h1 : decide (1 < (s.size : Int)) = true := decide_eq_true (by omega)
        clear hr hz
        go_enter Tryd.func13, Tryd.ntmps13
        go_wp2
        go_ret
        exact ⟨rfl, rfl⟩
      · have hnum : numL (str s) = (digL (str s) && decide (valL (str s) ≤ 9223372036854775807)) := by
          unfold numL
          rw [str_length, str_head hpos, show decide (1 ≤ s.size) = true from decide_eq_true (by omega), show decide (s.size ≤ 19) = true from decide_eq_true (by omega), show (decide ((s[0]'hpos).toNat = 48) && decide (1 < s.size)) = false from by
            rw [Bool.and_eq_false_iff, decide_eq_false_iff_not, decide_eq_false_iff_not]
            rcases Nat.lt_or_ge 1 s.size with h | h
            · exact .inl fun e => hz ⟨e, h⟩
            · exact .inr (by omega)]
          simp
        have HN := hide hnum
        clear hnum
        rcases h48 : (((s[0]'hpos).toNat : Int) == 48) with _ | _
        · clear hz
          go_enter Tryd.func13, Tryd.ntmps13
          go_wp2
          clear h48 hy hx
          go_loop [3, 4] (fun n i => NumR (str s) n i) (fun _ i => s.size - (intOf i).toNat)
          case atStart => exact ⟨0, 0, rfl, rfl, by omega, rfl, by decide, fun j b h => by omega⟩
          case round =>
            obtain ⟨k, v, rfl, rfl, hk, hva, hvb, hrel⟩ := hrel
            rw [str_length] at hk
            have HREL := Lib.hid hrel
            have HVA := Lib.hid hva
            have HVB := Lib.hid hvb
            clear hrel hva hvb
            by_cases hlt : k < s.size
            · have HG := Lib.hid (str_get s k hlt)
              have HBK := Lib.hid (UInt8.toNat_lt (s[k]'hlt))
              rcases hld : isDig (s[k]'hlt).toNat with _ | _
              · have hno : ¬ clsL (s[k]'hlt).toNat = 2 := fun h => by rw [cls_two.1 h] at hld; cases hld
                have hc2 : ((clsL (s[k]'hlt).toNat : Int) == 2) = false := by rw [beq_eq_false_iff_ne]; omega
                have hc2n : ((clsL (s[k]'hlt).toNat : Int) != 2) = true := by rw [bne, hc2]; rfl
                have HLD := Lib.hid hld
                clear hno hld
                go_wp2_with (go_at_call 28; (with_reducible refine (unhide (HC _ _ HBK.out)).mono ?_); rintro e w1 ⟨rfl, rfl⟩)
                go_ret
                refine ⟨?_, rfl⟩
                rw [numV_bad]
                · rfl
                · rw [unhide HN]
                  rw [digL_bad HG.out HLD.out]
                  rfl
              · have hyes := cls_two.2 hld
                have hdd := dig_iff.1 hld
                have HLD := Lib.hid hld
                have hc2 : ((clsL (s[k]'hlt).toNat : Int) == 2) = true := by rw [beq_iff_eq]; omega
                have hc2n : ((clsL (s[k]'hlt).toNat : Int) != 2) = false := by rw [bne, hc2]; rfl
                clear hld hyes
                have hv19 : v < 10000000000000000000 := by
                  have h1 := Nat.pow_le_pow_right (show 0 < 10 by decide) (show k ≤ 18 by omega)
                  have h2 := HVB.out
                  have h3 : (10 : Nat) ^ 18 = 1000000000000000000 := by decide
                  omega
                have hv18 : v < 1000000000000000000 := by
                  have h1 := Nat.pow_le_pow_right (show 0 < 10 by decide) (show k ≤ 18 by omega)
                  have h2 := HVB.out
                  have h3 : (10 : Nat) ^ 18 = 1000000000000000000 := by decide
                  omega
                have HV := Lib.hid hv18
                clear hv18 hv19
                go_wp2_with (go_at_call 28; (with_reducible refine (unhide (HC _ _ HBK.out)).mono ?_); rintro e w1 ⟨rfl, rfl⟩)
                go_round
                case rel =>
                  refine ⟨k + 1, 10 * v + ((s[k]'hlt).toNat - 48), by go_num, ?_, by rw [str_length]; omega, ?_, ?_, ?_⟩
                  · have h := HV.out
                    congr 1
                    rw [IntKind.wrap_u64, IntKind.wrap_u64]
                    omega
                  · rw [valA_take HG.out, ← HVA.out]
                  · have h := HVB.out
                    rw [Nat.pow_succ]
                    omega
                  · intro j b hj hb
                    rcases Nat.lt_or_ge j k with h | h
                    · exact HREL.out j b h hb
                    · obtain rfl : j = k := by omega
                      rw [HG.out] at hb
                      injection hb with hb
                      rw [← hb]
                      exact HLD.out
                case measure => simp [intOf]; omega
            · have hall : digL (str s) = true := digL_good fun j b hb => HREL.out j b (by
                have hj2 : j < (str s).length := by
                  rcases Nat.lt_or_ge j (str s).length with h1 | h1
                  · exact h1
                  · rw [List.getElem?_eq_none h1] at hb; cases hb
                rw [str_length] at hj2
                omega) hb
              have hvl : v = valL (str s) := by rw [HVA.out, List.take_of_length_le (by rw [str_length]; omega)]; rfl
              have HX := Lib.hid (And.intro hall hvl)
              clear hall hvl
              by_cases hbig : v ≤ 9223372036854775807
              · have hb : decide (9223372036854775807 < (v : Int)) = false := decide_eq_false (by omega)
                have hr : numV (str s) = (v : Int) := by
                  unfold numV
                  rw [unhide HN, HX.out.1, ← HX.out.2, decide_eq_true hbig]
                  rfl
                have HR := Lib.hid hr
                clear hr
                go_wp2
                go_ret
                exact ⟨by rw [HR.out]; rfl, rfl⟩
              · have hb : decide (9223372036854775807 < (v : Int)) = true := decide_eq_true (by omega)
                have hr : numV (str s) = -1 := numV_bad (by rw [unhide HN, HX.out.1, ← HX.out.2, decide_eq_false hbig]; rfl)
                have HR := Lib.hid hr
                clear hr
                go_wp2
                go_ret
                exact ⟨by rw [HR.out]; rfl, rfl⟩
        · have h1 : decide (1 < (s.size : Int)) = false := decide_eq_false (by
            intro h
            rw [beq_iff_eq] at h48
            exact hz ⟨by omega, by omega⟩)
          clear hz
          go_enter Tryd.func13, Tryd.ntmps13
          go_wp2
          clear h1 h48 hy hx
          go_loop [3, 4] (fun n i => NumR (str s) n i) (fun _ i => s.size - (intOf i).toNat)
          case atStart => exact ⟨0, 0, rfl, rfl, by omega, rfl, by decide, fun j b h => by omega⟩
          case round =>
            obtain ⟨k, v, rfl, rfl, hk, hva, hvb, hrel⟩ := hrel
            rw [str_length] at hk
            have HREL := Lib.hid hrel
            have HVA := Lib.hid hva
            have HVB := Lib.hid hvb
            clear hrel hva hvb
            by_cases hlt : k < s.size
            · have HG := Lib.hid (str_get s k hlt)
              have HBK := Lib.hid (UInt8.toNat_lt (s[k]'hlt))
              rcases hld : isDig (s[k]'hlt).toNat with _ | _
              · have hno : ¬ clsL (s[k]'hlt).toNat = 2 := fun h => by rw [cls_two.1 h] at hld; cases hld
                have hc2 : ((clsL (s[k]'hlt).toNat : Int) == 2) = false := by rw [beq_eq_false_iff_ne]; omega
                have hc2n : ((clsL (s[k]'hlt).toNat : Int) != 2) = true := by rw [bne, hc2]; rfl
                have HLD := Lib.hid hld
                clear hno hld
                go_wp2_with (go_at_call 28; (with_reducible refine (unhide (HC _ _ HBK.out)).mono ?_); rintro e w1 ⟨rfl, rfl⟩)
                go_ret
                refine ⟨?_, rfl⟩
                rw [numV_bad]
                · rfl
                · rw [unhide HN]
                  rw [digL_bad HG.out HLD.out]
                  rfl
              · have hyes := cls_two.2 hld
                have hdd := dig_iff.1 hld
                have HLD := Lib.hid hld
                have hc2 : ((clsL (s[k]'hlt).toNat : Int) == 2) = true := by rw [beq_iff_eq]; omega
                have hc2n : ((clsL (s[k]'hlt).toNat : Int) != 2) = false := by rw [bne, hc2]; rfl
                clear hld hyes
                have hv19 : v < 10000000000000000000 := by
                  have h1 := Nat.pow_le_pow_right (show 0 < 10 by decide) (show k ≤ 18 by omega)
                  have h2 := HVB.out
                  have h3 : (10 : Nat) ^ 18 = 1000000000000000000 := by decide
                  omega
                have hv18 : v < 1000000000000000000 := by
                  have h1 := Nat.pow_le_pow_right (show 0 < 10 by decide) (show k ≤ 18 by omega)
                  have h2 := HVB.out
                  have h3 : (10 : Nat) ^ 18 = 1000000000000000000 := by decide
                  omega
                have HV := Lib.hid hv18
                clear hv18 hv19
                go_wp2_with (go_at_call 28; (with_reducible refine (unhide (HC _ _ HBK.out)).mono ?_); rintro e w1 ⟨rfl, rfl⟩)
                go_round
                case rel =>
                  refine ⟨k + 1, 10 * v + ((s[k]'hlt).toNat - 48), by go_num, ?_, by rw [str_length]; omega, ?_, ?_, ?_⟩
                  · have h := HV.out
                    congr 1
                    rw [IntKind.wrap_u64, IntKind.wrap_u64]
                    omega
                  · rw [valA_take HG.out, ← HVA.out]
                  · have h := HVB.out
                    rw [Nat.pow_succ]
                    omega
                  · intro j b hj hb
                    rcases Nat.lt_or_ge j k with h | h
                    · exact HREL.out j b h hb
                    · obtain rfl : j = k := by omega
                      rw [HG.out] at hb
                      injection hb with hb
                      rw [← hb]
                      exact HLD.out
                case measure => simp [intOf]; omega
            · have hall : digL (str s) = true := digL_good fun j b hb => HREL.out j b (by
                have hj2 : j < (str s).length := by
                  rcases Nat.lt_or_ge j (str s).length with h1 | h1
                  · exact h1
                  · rw [List.getElem?_eq_none h1] at hb; cases hb
                rw [str_length] at hj2
                omega) hb
              have hvl : v = valL (str s) := by rw [HVA.out, List.take_of_length_le (by rw [str_length]; omega)]; rfl
              have HX := Lib.hid (And.intro hall hvl)
              clear hall hvl
              by_cases hbig : v ≤ 9223372036854775807
              · have hb : decide (9223372036854775807 < (v : Int)) = false := decide_eq_false (by omega)
                have hr : numV (str s) = (v : Int) := by
                  unfold numV
                  rw [unhide HN, HX.out.1, ← HX.out.2, decide_eq_true hbig]
                  rfl
                have HR := Lib.hid hr
                clear hr
                go_wp2
                go_ret
                exact ⟨by rw [HR.out]; rfl, rfl⟩
              · have hb : decide (9223372036854775807 < (v : Int)) = true := decide_eq_true (by omega)
                have hr : numV (str s) = -1 := numV_bad (by rw [unhide HN, HX.out.1, ← HX.out.2, decide_eq_false hbig]; rfl)
                have HR := Lib.hid hr
                clear hr
                go_wp2
                go_ret
                exact ⟨by rw [HR.out]; rfl, rfl⟩
end Go.Proofs.YtiimkodgfhkbpaaDoor
