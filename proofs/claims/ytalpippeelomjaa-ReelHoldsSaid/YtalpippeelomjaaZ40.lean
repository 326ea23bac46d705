/- TpRefTake, TpRefTakeB: joined by program (tools/merge.py). -/
import Derived.Test.YtalpippeelomjaaZ39
import Derived.RegionTactic
import Derived.Laws.ResultCell
import Derived.IntWalk
namespace Go.Proofs.Ytalpippeelomjaa
theorem heapThreeZ40 (w : World) (o : Obj) {r : Nat} (h : r < w.heap.size) : (w.alloc o).heap[r]? = w.heap[r]? := by first | exact Go.heap_alloc_old _ _ h | exact Go.heap_alloc_old _ _ _ h
theorem heapFourZ40 (w : World) (o : Obj) (r : Nat) (h : r < w.heap.size) : (w.alloc o).heap[r]? = w.heap[r]? := heapThreeZ40 w o h
open Go.RowKit
set_option linter.unusedSimpArgs false
set_option linter.unusedVariables false

def RefNR (w : World) (n : Nat) (l : List Nat) (t y i : Value) : Prop :=
  ∃ k m z : Nat, i = .int .i64 (k : Int) ∧ t = .int .u64 (m : Int) ∧ y = .int .u64 (z : Int) ∧ m < 18446744073709551616 ∧ z < 18446744073709551616 ∧ ((k ≤ n ∧ k ≤ 9 ∧ m < 128 ^ k ∧ z = 128 ^ k ∧ scan (l.drop k) k m = numOf l) ∨ (k = 10 ∧ numOf l = (0, 0)))
theorem acc_at {k m z x : Nat} (hk : k ≤ 9) (hm : m < 128 ^ k) (hz : z = 128 ^ k) (hx : m + x * 128 ^ k < 18446744073709551616) : IntKind.u64.wrap ((m : Int) + IntKind.u64.wrap ((z : Int) * (x : Int))) = ((m + x * 128 ^ k : Nat) : Int) := by
  have e : (z : Int) * (x : Int) = ((x * 128 ^ k : Nat) : Int) := by rw [hz, Nat.mul_comm x]; simp
  rw [e, IntKind.wrap_u64, IntKind.wrap_u64]
  omega
set_option maxRecDepth 100000 in
set_option maxHeartbeats 4000000 in
theorem refNumber_any (w : World) (v : Value) (l : List Nat) (hp : Bytes w w.heap.size v l) :
    Calls Try.prog 87 #[v] w fun e w' => e = .returned (.tuple #[.int .u64 ((numOf l).1 : Int), .int .i64 ((numOf l).2 : Int)]) ∧ w = w' := by
  obtain ⟨⟨A, c, rfl, hlies, _⟩, hsm, hlong⟩ := hp
  unfold maxLen at hlong
  have HL := Lib.hid hlies
  have HS := Lib.hid hsm
  clear hlies hsm
  obtain ⟨n, hn⟩ : ∃ n, n = l.length := ⟨_, rfl⟩
  rw [← hn] at hlong ⊢
  have HN := Lib.hid hn
  clear hn
  go_enter Try.func87, Try.ntmps87
  go_wp2
  go_loop [4, 5, 6] (fun t y i => RefNR w n l t y i) (fun _ _ i => 10 - (intOf i).toNat)
  case atStart => exact ⟨0, 0, 1, rfl, rfl, rfl, by omega, by omega, .inl ⟨by omega, by omega, by simp, rfl, rfl⟩⟩
  case round =>
    obtain ⟨k, m, z, rfl, rfl, rfl, hm, hz, h | h⟩ := hrel
    · obtain ⟨hk, hk9, hm2, hz2, hsc⟩ := h
      have HSC := Lib.hid hsc
      have HM := Lib.hid hm2
      have HZ := Lib.hid hz2
      clear hsc hm2 hz2
      by_cases hlt : k < n
      · obtain ⟨b, hb1⟩ : ∃ b, l[k]? = some b := ⟨_, List.getElem?_eq_getElem (by rw [← HN.out]; exact hlt)⟩
        have hb2 : b < 256 := HS.out b (List.mem_of_getElem? hb1)
        obtain ⟨ad, hA, hbb, hc⟩ := HL.out k (.int .u8 (b : Int)) (by rw [byt_at, hb1]; rfl)
        subst hA
        have hsc := HSC.out
        rw [scan_cons hb1] at hsc
        have HE := Lib.hid hsc
        clear hb1 hbb hsc HSC
        have hk10 : (k : Int) < 10 := by omega
        by_cases h9 : k = 9
        · have hk9e : (k : Int) = 9 := by omega
          have hc9 := hc
          rw [h9] at hc9
          unfold Addr.add at hc9
          rw [if_neg (by decide)] at hc9
          have HH := Lib.hid h9
          clear h9
          by_cases hb : 1 < b % 128
          · have hx : decide (1 < (b : Int) % 128) = true := decide_eq_true (by omega)
            go_wp2
            go_ret2
            exact ⟨ret_num (y := (0, 0)) (HE.out.symm.trans (if_pos ⟨HH.out, by omega⟩)) rfl rfl, rfl⟩
          · have hx : decide (1 < (b : Int) % 128) = false := decide_eq_false (by omega)
            have hp : 128 ^ k = 9223372036854775808 := by rw [HH.out]
            have hacc := acc_at (k := k) (m := m) (z := z) (x := b % 128) (by omega) HM.out HZ.out (by have := HM.out; rw [hp] at this ⊢; omega)
            rw [show ((b % 128 : Nat) : Int) = (b : Int) % 128 by omega] at hacc
            have hsum : m + b % 128 * 128 ^ k < 18446744073709551616 := by have := HM.out; rw [hp] at this ⊢; omega
            have HA := Lib.hid hacc
            have HSU := Lib.hid hsum
            have HP := Lib.hid hp
            clear hacc hsum hp
            by_cases hb1 : 128 ≤ b
            · have hlt128 : ¬ (b : Int) < 128 := by omega
              go_wp2
              go_round
              case rel =>
                refine ⟨10, m + b % 128 * 128 ^ k, 0, rfl, ?_, ?_, HSU.out, by omega, .inr ⟨rfl, ?_⟩⟩
                · rw [← HA.out]
                · have h := HZ.out
                  rw [HP.out] at h
                  rw [h]
                  rfl
                · rw [← HE.out, if_pos ⟨HH.out, by omega⟩]
              case measure => simp [intOf]; omega
            · by_cases hb0 : b = 0
              · have hbe : (b : Int) = 0 := by omega
                have HB := Lib.hid hb0
                clear hb0
                go_wp2
                go_ret2
                refine ⟨ret_num (y := (0, 0)) (HE.out.symm.trans ?_) rfl rfl, rfl⟩
                rw [if_neg (by omega), if_neg (by omega), if_pos ⟨HB.out, by omega⟩]
              · have hbe : (b : Int) = 1 := by omega
                go_wp2
                go_ret2
                refine ⟨ret_num (y := (m + b % 128 * 128 ^ k, k + 1)) (HE.out.symm.trans ?_) ?_ ?_, rfl⟩
                · rw [if_neg (by omega), if_neg (by omega), if_neg (by omega)]
                · have h := HA.out
                  rw [hbe, show ((1 : Int) % 128) = 1 from rfl, Int.mul_one, show IntKind.u64.wrap (z : Int) = (z : Int) by (rw [IntKind.wrap_u64]; omega)] at h
                  exact h
                · show (10 : Int) = ((k + 1 : Nat) : Int)
                  have := HH.out
                  omega
        · have h9' : ((k : Int) == 9) = false := by rw [beq_eq_false_iff_ne]; omega
          have hp9 : 128 ^ (k + 1) ≤ 9223372036854775808 := pow128_le (by omega)
          have hnx : m + b % 128 * 128 ^ k < 128 ^ (k + 1) := by
            have h1 := HM.out
            have h2 : (b % 128 + 1) * 128 ^ k ≤ 128 * 128 ^ k := Nat.mul_le_mul_right _ (by omega)
            rw [Nat.add_mul] at h2
            rw [Nat.pow_succ, Nat.mul_comm (128 ^ k)]
            omega
          have hacc := acc_at (k := k) (m := m) (z := z) (x := b % 128) hk9 HM.out HZ.out (by omega)
          rw [show ((b % 128 : Nat) : Int) = (b : Int) % 128 by omega] at hacc
          have hby : IntKind.u64.wrap ((z : Int) * 128) = ((128 ^ (k + 1) : Nat) : Int) := by
            have e : (z : Int) * 128 = ((128 ^ (k + 1) : Nat) : Int) := by rw [HZ.out, Nat.pow_succ]; simp
            rw [e, IntKind.wrap_u64]
            omega
          have HX := Lib.hid hnx
          have HA := Lib.hid hacc
          have HBY := Lib.hid hby
          have HP9 := Lib.hid hp9
          clear hp9 hnx hacc hby
          by_cases hb : 128 ≤ b
          · have hlt128 : ¬ (b : Int) < 128 := by omega
            go_wp2
            go_round
            case rel =>
              refine ⟨k + 1, m + b % 128 * 128 ^ k, 128 ^ (k + 1), by go_num, by rw [← HA.out], by rw [← HBY.out], by have := HX.out; have := HP9.out; omega, by have := HP9.out; omega, .inl ⟨by omega, by omega, HX.out, rfl, ?_⟩⟩
              rw [← HE.out, if_neg (by omega), if_pos hb]
            case measure => simp [intOf]; omega
          · by_cases hz0 : b = 0 ∧ 0 < k
            · obtain ⟨hb0, h0⟩ := hz0
              have hbe : (b : Int) = 0 := by omega
              have HB := Lib.hid hb0
              clear hb0
              go_wp2
              go_ret2
              refine ⟨ret_num (y := (0, 0)) (HE.out.symm.trans ?_) rfl rfl, rfl⟩
              rw [if_neg (by omega), if_neg (by omega), if_pos ⟨HB.out, h0⟩]
            · have HZ0 := Lib.hid hz0
              clear hz0
              by_cases hk0 : 0 < k
              · have hk0' : decide (0 < (k : Int)) = true := decide_eq_true (by omega)
                have hk0'' : decide (0 < k) = true := decide_eq_true hk0
                have hb0 : ¬ b = 0 := fun e => HZ0.out ⟨e, hk0⟩
                have hb0' : ((b : Int) % 128 == 0) = false := by rw [beq_eq_false_iff_ne]; omega
                go_wp2
                go_ret2
                refine ⟨ret_num (y := (m + b % 128 * 128 ^ k, k + 1)) (HE.out.symm.trans ?_) HA.out (by simp), rfl⟩
                rw [if_neg (by omega), if_neg (by omega), if_neg HZ0.out]
              · have hk0' : decide (0 < (k : Int)) = false := decide_eq_false (by omega)
                have hk0'' : decide (0 < k) = false := decide_eq_false hk0
                go_wp2
                go_ret2
                refine ⟨ret_num (y := (m + b % 128 * 128 ^ k, k + 1)) (HE.out.symm.trans ?_) HA.out (by simp), rfl⟩
                rw [if_neg (by omega), if_neg (by omega), if_neg HZ0.out]
      · go_wp2
        go_ret2
        refine ⟨ret_num (y := (0, 0)) (HSC.out.symm.trans ?_) rfl rfl, rfl⟩
        rw [List.drop_of_length_le (by rw [← HN.out]; omega), scan]
    · obtain ⟨hk, hnum⟩ := h
      have HX := Lib.hid hnum
      have hk10 : ¬ (k : Int) < 10 := by omega
      clear hnum hk
      go_wp2
      all_goals
        go_ret2
        exact ⟨ret_num (y := (0, 0)) HX.out rfl rfl, rfl⟩
end Go.Proofs.Ytalpippeelomjaa
namespace Go.Proofs.Ytalpippeelomjaa
open Go.RowKit
set_option linter.unusedSimpArgs false
set_option linter.unusedVariables false

theorem refNumber_at (w : World) (v : Value) (l : List Nat) (a k : Nat) (he : numOf l = (a, k)) (hp : Bytes w w.heap.size v l) :
    Calls Try.prog 87 #[v] w fun e w' => e = .returned (.tuple #[.int .u64 (a : Int), .int .i64 (k : Int)]) ∧ w = w' := by
  have h := refNumber_any w v l hp
  rw [he] at h
  exact h
theorem fieldInfo : (Try.prog.info? 118).map (·.size) = some 4 := by kernel_rfl
theorem results_three {fn : Func} {p u v : Tmp} {ty : TypeId} (h : fn.results = #[.cell p ty, .tmp u, .tmp v]) (tmps : Array Value) (P : Program) (w : World) :
    (results fn tmps).run P w =
      ((asAddr (tmps.getD p undef)).run P w).andThen fun a w₁ => ((loadVar ty a).run P w₁).andThen fun x w₂ => .ok (.tuple #[x, tmps.getD u undef, tmps.getD v undef]) w₂ := by
  simp only [results, h]
  simp [Sem.run_bind, Result.andThen]
theorem taken_ret {a : Act} {w : World} {R : Ending → World → Prop} {g : Nat} {cs : Array Value} {v v2 : Value} (hd : a.defers = []) (h2 : a.tmps.getD 4 undef = .pointer (some ⟨g, 0, none⟩)) (h3 : a.tmps.getD 5 undef = v) (h4 : a.tmps.getD 6 undef = v2)
    (hg : w.heap[g]? = some (.cells cs 118 (0, 0))) (hs : cs.size = 4) (hR : R (.returned (.tuple #[.agg cs, v, v2])) w) : bodyPost Try.prog Try.f71 R .ret a w := by
  refine bodyPost_ret_by (v := .tuple #[.agg cs, v, v2]) ?_ hd hR
  have hl := run_loadVar_row (P := Try.prog) w g 118 118 cs (0, 0) _ hg Try.underlying118 rfl (by rw [fieldInfo, hs])
  rw [results_three (p := 4) (ty := 118) (u := 5) (v := 6) rfl, h2, h3, h4]
  simp [asAddr, Result.andThen, hl]
/-- What Take leaves. -/
def TakeR (w : World) (B k N M : Nat) (S : ByteArray) (rl : List Nat) (ok : Bool) (e : Ending) (w' : World) : Prop :=
  ∃ r, e = .returned (.tuple #[.agg #[.int .u8 (k : Int), .int .u64 (N : Int), .string S, .int .u64 (M : Int)], r, .bool ok]) ∧ Bytes w B r rl ∧ Below w.heap.size w w'
theorem three_at (w : World) (b o : Obj) (R : Array Value) : (((w.alloc b).alloc (.cells R 118)).alloc o).heap[w.heap.size + 1]? = some (.cells R 118 (0, 0)) := by
  rw [heapThreeZ40 _ _ (by simp)]
  have h := Go.heap_alloc_new (w.alloc b) (.cells R 118)
  simpa using h
theorem three_below (w : World) (a b c : Obj) : Below w.heap.size w (((w.alloc a).alloc b).alloc c) := (((Below.refl _ _).alloc (Nat.le_refl _) _).alloc (by simp) _).alloc (by simp; omega) _
theorem Bytes.nil_ {w : World} {B : Nat} : Bytes w B (.slice none 0 0) [] := Bytes.none_ w B
set_option maxRecDepth 100000 in
set_option maxHeartbeats 4000000 in
theorem refTake_num (w : World) (B k N M : Nat) (s : ByteArray) (v : Value) (l : List Nat) (hB : B ≤ w.heap.size) (hp : Bytes w B v l) (hk : k % 5 = 0) (hM : M < 18446744073709551616) :
    Calls Try.prog 71 #[v, .agg #[.int .u8 (k : Int), .int .u64 (N : Int), .string s, .int .u64 (M : Int)]] w (TakeR w B k (takeNum l M).1 M ⟨#[]⟩ (takeNum l M).2.1 (takeNum l M).2.2) := by
  obtain ⟨A, c, rfl, _, hc, _⟩ := hp.form
  have hk5 : (k : Int) % 5 = 0 := by omega
  obtain ⟨a, j, he⟩ : ∃ a j, numOf l = (a, j) := ⟨(numOf l).1, (numOf l).2, rfl⟩
  obtain ⟨h1, h2, h3⟩ := numOf_le hp.small he
  have HC := fun x (hx : Below w.heap.size w x) => hide (refNumber_at x _ l a j he ((hp.up hB).along hx))
  unfold takeNum
  rw [he]
  clear hk
  by_cases hj : j = 0
  · rw [if_pos (.inl hj)]
    have hj0 : ((j : Int) == 0) = true := by rw [beq_iff_eq]; omega
    have HJ := Lib.hid hj
    clear hj
    go_enter Try.func71, Try.ntmps71
    go_wp2_with (go_at_call 87; (with_reducible refine (unhide (HC _ ?_)).mono ?_); rotate_left 1; rintro e w1 ⟨rfl, rfl⟩)
    · exact taken_ret rfl rfl rfl rfl (three_at w _ _ _) rfl ⟨_, rfl, Bytes.nil_, three_below w _ _ _⟩
    · exact three_below w _ _ _
  · have hj0 : ((j : Int) == 0) = false := by rw [beq_eq_false_iff_ne]; omega
    by_cases ha : M < a
    · rw [if_pos (.inr ha)]
      have hx : decide ((M : Int) < (a : Int)) = true := decide_eq_true (by omega)
      have hx' : decide (M < a) = true := decide_eq_true ha
      clear hj
      go_enter Try.func71, Try.ntmps71
      go_wp2_with (go_at_call 87; (with_reducible refine (unhide (HC _ ?_)).mono ?_); rotate_left 1; rintro e w1 ⟨rfl, rfl⟩)
      · exact taken_ret rfl rfl rfl rfl (three_at w _ _ _) rfl ⟨_, rfl, Bytes.nil_, three_below w _ _ _⟩
      · exact three_below w _ _ _
    · rw [if_neg (by rintro (h | h); exact hj h; exact ha h)]
      have hx : decide ((M : Int) < (a : Int)) = false := decide_eq_false (by omega)
      have hx' : decide (M < a) = false := decide_eq_false ha
      have hrest := hp.rest h2
      have hlong := hp.long
      unfold maxLen at hlong
      obtain ⟨n, hn⟩ : ∃ n, n = l.length := ⟨_, rfl⟩
      rw [← hn] at hrest hc h2 hlong HC ⊢
      have HR := Lib.hid hrest
      have HN := Lib.hid hn
      clear hrest hn hp
      go_enter Try.func71, Try.ntmps71
      go_wp2_with (go_at_call 87; (with_reducible refine (unhide (HC _ ?_)).mono ?_); rotate_left 1; rintro e w1 ⟨rfl, rfl⟩)
      · go_region
        all_goals
          go_wp2
          · have hcj : c = j := by assumption
            have hX := HR.out
            rw [if_pos hcj, hcj, Nat.sub_self] at hX
            exact taken_ret rfl rfl rfl rfl (three_at w _ _ _) rfl ⟨_, rfl, hX, (three_below w _ _ _).drew⟩
          · have hcj : ¬ c = j := by assumption
            have hX := HR.out
            rw [if_neg hcj] at hX
            exact taken_ret rfl rfl rfl rfl (three_at w _ _ _) rfl ⟨_, rfl, hX, (three_below w _ _ _).drew⟩
      · exact three_below w _ _ _
/-- An int as the number with its bits. -/
def uz (z : Int) : Nat := (z % 18446744073709551616).toNat
theorem wrap_uz (z : Int) : IntKind.u64.wrap z = ((uz z : Nat) : Int) := by
  rw [IntKind.wrap_u64]
  unfold uz
  omega
theorem uz_lt (z : Int) : uz z < 18446744073709551616 := by unfold uz; omega
theorem uz_zero : uz (zag 0) = 0 := rfl
set_option maxRecDepth 100000 in
set_option maxHeartbeats 4000000 in
theorem refTake_int (w : World) (B k N M : Nat) (s : ByteArray) (v : Value) (l : List Nat) (hB : B ≤ w.heap.size) (hp : Bytes w B v l) (hk : k % 5 = 1) (hM : M < 18446744073709551616) :
    Calls Try.prog 71 #[v, .agg #[.int .u8 (k : Int), .int .u64 (N : Int), .string s, .int .u64 (M : Int)]] w (TakeR w B k (uz (zag (takeNum l 18446744073709551615).1)) M ⟨#[]⟩ (takeNum l 18446744073709551615).2.1 (takeNum l 18446744073709551615).2.2) := by
  obtain ⟨A, c, rfl, _, hc, _⟩ := hp.form
  have hk5 : (k : Int) % 5 = 1 := by omega
  obtain ⟨a, j, he⟩ : ∃ a j, numOf l = (a, j) := ⟨(numOf l).1, (numOf l).2, rfl⟩
  obtain ⟨h1, h2, h3⟩ := numOf_le hp.small he
  have HC := fun x (hx : Below w.heap.size w x) => hide (refNumber_at x _ l a j he ((hp.up hB).along hx))
  unfold takeNum
  rw [he]
  clear hk
  by_cases hj : j = 0
  · rw [if_pos (.inl hj)]
    show Calls _ _ _ _ (TakeR w B k 0 M ⟨#[]⟩ [] false)
    have hj0 : ((j : Int) == 0) = true := by rw [beq_iff_eq]; omega
    have HJ := Lib.hid hj
    clear hj
    go_enter Try.func71, Try.ntmps71
    go_wp2_with (go_at_call 87; (with_reducible refine (unhide (HC _ ?_)).mono ?_); rotate_left 1; rintro e w1 ⟨rfl, rfl⟩)
    · exact taken_ret rfl rfl rfl rfl (three_at w _ _ _) rfl ⟨_, rfl, Bytes.nil_, three_below w _ _ _⟩
    · exact three_below w _ _ _
  · have hj0 : ((j : Int) == 0) = false := by rw [beq_eq_false_iff_ne]; omega
    rw [if_neg (by rintro (h | h); exact hj h; exact absurd h (by show ¬ 18446744073709551615 < a; omega))]
    show Calls _ _ _ _ (TakeR w B k (uz (zag a)) M ⟨#[]⟩ (l.drop j) true)
    have hz := wrap_uz (zag a)
    have HZ := fun x => hide (refZag_any x a h1)
    have hrest := hp.rest h2
    have hlong := hp.long
    unfold maxLen at hlong
    obtain ⟨n, hn⟩ : ∃ n, n = l.length := ⟨_, rfl⟩
    rw [← hn] at hrest hc h2 hlong HC ⊢
    have HR := Lib.hid hrest
    have HN := Lib.hid hn
    obtain ⟨z, hzz⟩ : ∃ z, z = zag a := ⟨_, rfl⟩
    rw [← hzz] at hz HZ ⊢
    clear hrest hn hp hzz
    go_enter Try.func71, Try.ntmps71
    go_wp2_with (first
      | (go_at_call 87; (with_reducible refine (unhide (HC _ ?_)).mono ?_); rotate_left 1; rintro e w1 ⟨rfl, rfl⟩)
      | (go_at_call 88; (with_reducible refine (unhide (HZ _)).mono ?_); rintro e w1 ⟨rfl, rfl⟩))
    · go_region
      all_goals
        go_wp2
        · have hcj : c = j := by assumption
          have hX := HR.out
          rw [if_pos hcj, hcj, Nat.sub_self] at hX
          exact taken_ret rfl rfl rfl rfl (three_at w _ _ _) rfl ⟨_, rfl, hX, (three_below w _ _ _).drew⟩
        · have hcj : ¬ c = j := by assumption
          have hX := HR.out
          rw [if_neg hcj] at hX
          exact taken_ret rfl rfl rfl rfl (three_at w _ _ _) rfl ⟨_, rfl, hX, (three_below w _ _ _).drew⟩
    · exact three_below w _ _ _
set_option maxRecDepth 100000 in
set_option maxHeartbeats 4000000 in
theorem refTake_byte (w : World) (B k N M : Nat) (s : ByteArray) (v : Value) (l : List Nat) (hB : B ≤ w.heap.size) (hp : Bytes w B v l) (hk : k % 5 = 3) (hM : M < 18446744073709551616) :
    Calls Try.prog 71 #[v, .agg #[.int .u8 (k : Int), .int .u64 (N : Int), .string s, .int .u64 (M : Int)]] w (TakeR w B k (takeByte l).1 M ⟨#[]⟩ (takeByte l).2.1 (takeByte l).2.2) := by
  obtain ⟨A, c, rfl, hl, hc, _⟩ := hp.form
  have hk5 : (k : Int) % 5 = 3 := by omega
  clear hk
  rcases l with _ | ⟨b, r⟩
  · show Calls _ _ _ _ (TakeR w B k 0 M ⟨#[]⟩ [] false)
    simp only [List.length_nil]
    go_enter Try.func71, Try.ntmps71
    go_wp2
    exact taken_ret rfl rfl rfl rfl (three_at w _ _ _) rfl ⟨_, rfl, Bytes.nil_, three_below w _ _ _⟩
  · show Calls _ _ _ _ (TakeR w B k b M ⟨#[]⟩ r true)
    have hrest := hp.rest (k := 1) (by simp)
    obtain ⟨ad, hA, hbb, hc2⟩ := hl 0 (.int .u8 (b : Int)) rfl
    subst hA
    rw [Addr.add_zero'] at hc2
    have hc3 : ∀ x y z : Obj, (((w.alloc x).alloc y).alloc z).cell? ad = some (.int .u8 (b : Int)) := fun x y z => ((three_below w x y z).cell (Nat.lt_of_lt_of_le hbb hB)).trans hc2
    have hb := hp.small b (by simp)
    have hlong := hp.long
    unfold maxLen at hlong
    obtain ⟨n, hn⟩ : ∃ n, n = (b :: r).length := ⟨_, rfl⟩
    have hn1 : 1 ≤ n := by rw [hn]; simp
    rw [← hn] at hc hlong hrest ⊢
    have HR := Lib.hid hrest
    clear hn hp hl hrest
    have hn0 : ((n : Int) == 0) = false := by rw [beq_eq_false_iff_ne]; omega
    go_enter Try.func71, Try.ntmps71
    go_wp2
    go_region
    all_goals
      go_wp2
      · have hcj : c = 1 := by assumption
        have hX := HR.out
        rw [if_pos hcj, hcj, Nat.sub_self] at hX
        exact taken_ret rfl rfl rfl rfl (three_at w _ _ _) rfl ⟨_, rfl, hX, (three_below w _ _ _).drew⟩
      · have hcj : ¬ c = 1 := by assumption
        have hX := HR.out
        rw [if_neg hcj] at hX
        exact taken_ret rfl rfl rfl rfl (three_at w _ _ _) rfl ⟨_, rfl, hX, (three_below w _ _ _).drew⟩
set_option maxRecDepth 100000 in
set_option maxHeartbeats 4000000 in
theorem refTake_bool (w : World) (B k N M : Nat) (s : ByteArray) (v : Value) (l : List Nat) (hB : B ≤ w.heap.size) (hp : Bytes w B v l) (hk : k % 5 = 4) (hM : M < 18446744073709551616) :
    Calls Try.prog 71 #[v, .agg #[.int .u8 (k : Int), .int .u64 (N : Int), .string s, .int .u64 (M : Int)]] w (TakeR w B k (bit (takeBool l).1) M ⟨#[]⟩ (takeBool l).2.1 (takeBool l).2.2) := by
  obtain ⟨A, c, rfl, hl, hc, _⟩ := hp.form
  have hk5 : (k : Int) % 5 = 4 := by omega
  clear hk
  rcases l with _ | ⟨b, r⟩
  · show Calls _ _ _ _ (TakeR w B k 0 M ⟨#[]⟩ [] false)
    simp only [List.length_nil]
    go_enter Try.func71, Try.ntmps71
    go_wp2
    exact taken_ret rfl rfl rfl rfl (three_at w _ _ _) rfl ⟨_, rfl, Bytes.nil_, three_below w _ _ _⟩
  · have hrest := hp.rest (k := 1) (by simp)
    obtain ⟨ad, hA, hbb, hc2⟩ := hl 0 (.int .u8 (b : Int)) rfl
    subst hA
    rw [Addr.add_zero'] at hc2
    have hc3 : ∀ x y z : Obj, (((w.alloc x).alloc y).alloc z).cell? ad = some (.int .u8 (b : Int)) := fun x y z => ((three_below w x y z).cell (Nat.lt_of_lt_of_le hbb hB)).trans hc2
    have hb := hp.small b (by simp)
    have hlong := hp.long
    unfold maxLen at hlong
    obtain ⟨n, hn⟩ : ∃ n, n = (b :: r).length := ⟨_, rfl⟩
    have hn1 : 1 ≤ n := by rw [hn]; simp
    rw [← hn] at hc hlong hrest ⊢
    have HR := Lib.hid hrest
    clear hn hp hl hrest
    have hn0 : ((n : Int) == 0) = false := by rw [beq_eq_false_iff_ne]; omega
    by_cases h1 : 1 < b
    · have e : takeBool (b :: r) = (false, [], false) := if_pos h1
      rw [e]
      show Calls _ _ _ _ (TakeR w B k 0 M ⟨#[]⟩ [] false)
      have hx : decide (1 < (b : Int)) = true := decide_eq_true (by omega)
      clear e h1
      go_enter Try.func71, Try.ntmps71
      go_wp2
      exact taken_ret rfl rfl rfl rfl (three_at w _ _ _) rfl ⟨_, rfl, Bytes.nil_, three_below w _ _ _⟩
    · have e : takeBool (b :: r) = (b == 1, r, true) := if_neg h1
      rw [e]
      have e2 : bit (b == 1) = b := by
        rcases (show b = 0 ∨ b = 1 by omega) with rfl | rfl <;> rfl
      show Calls _ _ _ _ (TakeR w B k (bit (b == 1)) M ⟨#[]⟩ r true)
      rw [e2]
      have hx : decide (1 < (b : Int)) = false := decide_eq_false (by omega)
      clear e e2 h1
      go_enter Try.func71, Try.ntmps71
      go_wp2
      go_region
      all_goals
        go_wp2
        · have hcj : c = 1 := by assumption
          have hX := HR.out
          rw [if_pos hcj, hcj, Nat.sub_self] at hX
          exact taken_ret rfl rfl rfl rfl (three_at w _ _ _) rfl ⟨_, rfl, hX, (three_below w _ _ _).drew⟩
        · have hcj : ¬ c = 1 := by assumption
          have hX := HR.out
          rw [if_neg hcj] at hX
          exact taken_ret rfl rfl rfl rfl (three_at w _ _ _) rfl ⟨_, rfl, hX, (three_below w _ _ _).drew⟩
theorem takeText_none {l : List Nat} {M a j : Nat} (he : numOf l = (a, j)) (h : j = 0 ∨ M < a) : takeText l M = ([], [], false) := by
  have e : takeNum l M = (0, [], false) := by unfold takeNum; rw [he]; exact if_pos h
  unfold takeText
  rw [e]
  rfl
theorem takeText_some {l : List Nat} {M a j : Nat} (he : numOf l = (a, j)) (h : ¬ (j = 0 ∨ M < a)) : takeText l M = if (l.drop j).length < a then ([], [], false) else ((l.drop j).take a, (l.drop j).drop a, true) := by
  have e : takeNum l M = (a, l.drop j, true) := by unfold takeNum; rw [he]; exact if_neg h
  unfold takeText
  rw [e]
set_option maxRecDepth 100000 in
set_option maxHeartbeats 4000000 in
theorem refTake_text (w : World) (B k N M : Nat) (s : ByteArray) (v : Value) (l : List Nat) (hB : B ≤ w.heap.size) (hp : Bytes w B v l) (hk : k % 5 = 2) (hM : M < 18446744073709551616) :
    Calls Try.prog 71 #[v, .agg #[.int .u8 (k : Int), .int .u64 (N : Int), .string s, .int .u64 (M : Int)]] w (TakeR w B k 0 M (txt (takeText l M).1) (takeText l M).2.1 (takeText l M).2.2) := by
  obtain ⟨A, c, rfl, _, hc, _⟩ := hp.form
  have hk5 : (k : Int) % 5 = 2 := by omega
  obtain ⟨a, j, he⟩ : ∃ a j, numOf l = (a, j) := ⟨(numOf l).1, (numOf l).2, rfl⟩
  obtain ⟨h1, h2, h3⟩ := numOf_le hp.small he
  have HC := fun x (hx : Below w.heap.size w x) => hide (refNumber_at x _ l a j he ((hp.up hB).along hx))
  clear hk
  by_cases hj : j = 0
  · rw [takeText_none he (.inl hj)]
    show Calls _ _ _ _ (TakeR w B k 0 M ⟨#[]⟩ [] false)
    have hj0 : ((j : Int) == 0) = true := by rw [beq_iff_eq]; omega
    have HJ := Lib.hid hj
    clear hj
    go_enter Try.func71, Try.ntmps71
    go_wp2_with (go_at_call 87; (with_reducible refine (unhide (HC _ ?_)).mono ?_); rotate_left 1; rintro e w1 ⟨rfl, rfl⟩)
    · exact taken_ret rfl rfl rfl rfl (three_at w _ _ _) rfl ⟨_, rfl, Bytes.nil_, three_below w _ _ _⟩
    · exact three_below w _ _ _
  · have hj0 : ((j : Int) == 0) = false := by rw [beq_eq_false_iff_ne]; omega
    by_cases ha : M < a
    · rw [takeText_none he (.inr ha)]
      show Calls _ _ _ _ (TakeR w B k 0 M ⟨#[]⟩ [] false)
      have hx : decide ((M : Int) < (a : Int)) = true := decide_eq_true (by omega)
      have hx' : decide (M < a) = true := decide_eq_true ha
      clear hj
      go_enter Try.func71, Try.ntmps71
      go_wp2_with (go_at_call 87; (with_reducible refine (unhide (HC _ ?_)).mono ?_); rotate_left 1; rintro e w1 ⟨rfl, rfl⟩)
      · exact taken_ret rfl rfl rfl rfl (three_at w _ _ _) rfl ⟨_, rfl, Bytes.nil_, three_below w _ _ _⟩
      · exact three_below w _ _ _
    · rw [takeText_some he (by rintro (h | h); exact hj h; exact ha h)]
      have hx : decide ((M : Int) < (a : Int)) = false := decide_eq_false (by omega)
      have hx' : decide (M < a) = false := decide_eq_false ha
      have hrest := hp.rest h2
      have hlong := hp.long
      unfold maxLen at hlong
      by_cases hla : (l.drop j).length < a
      · rw [if_pos hla]
        show Calls _ _ _ _ (TakeR w B k 0 M ⟨#[]⟩ [] false)
        rw [List.length_drop] at hla
        obtain ⟨n, hn⟩ : ∃ n, n = l.length := ⟨_, rfl⟩
        rw [← hn] at hrest hc h2 hlong HC hla ⊢
        have hy : decide ((n : Int) - (j : Int) < (a : Int)) = true := decide_eq_true (by omega)
        clear hrest hn hp
        go_enter Try.func71, Try.ntmps71
        go_wp2_with (go_at_call 87; (with_reducible refine (unhide (HC _ ?_)).mono ?_); rotate_left 1; rintro e w1 ⟨rfl, rfl⟩)
        · exact taken_ret rfl rfl rfl rfl (three_at w _ _ _) rfl ⟨_, rfl, Bytes.nil_, three_below w _ _ _⟩
        · exact three_below w _ _ _
      · rw [if_neg hla]
        show Calls _ _ _ _ (TakeR w B k 0 M (txt ((l.drop j).take a)) ((l.drop j).drop a) true)
        rw [List.length_drop] at hla
        have hrest2 := hp.rest (k := j + a) (by omega)
        have hmid := hrest.first (k := a) (by omega)
        obtain ⟨n, hn⟩ : ∃ n, n = l.length := ⟨_, rfl⟩
        rw [← hn] at hrest hrest2 hc h2 hlong HC hla ⊢
        have hy : decide ((n : Int) - (j : Int) < (a : Int)) = false := decide_eq_false (by omega)
        rw [← List.drop_drop] at hrest2
        obtain ⟨rl, hrl⟩ : ∃ rl, rl = (l.drop j).drop a := ⟨_, rfl⟩
        obtain ⟨tl, htl⟩ : ∃ tl, tl = (l.drop j).take a := ⟨_, rfl⟩
        rw [← hrl, ← htl]
        rw [← hrl] at hrest2
        rw [← htl] at hmid
        have HR := Lib.hid hrest2
        clear hrl htl
        by_cases hcj : c = j
        · rw [if_pos hcj] at hmid
          subst hcj
          rw [Nat.sub_self] at hmid
          have hcv : ∀ x y z : Obj, (convert 43 9 (.slice A a 0)).run Try.prog (((w.alloc x).alloc y).alloc z) = .ok (.string (txt tl)) (((w.alloc x).alloc y).alloc z) := fun x y z => convert_bytes ((hmid.up hB).along (three_below w x y z))
          clear hrest hrest2 hmid hn hp
          go_enter Try.func71, Try.ntmps71
          go_wp2_with (go_at_call 87; (with_reducible refine (unhide (HC _ ?_)).mono ?_); rotate_left 1; rintro e w1 ⟨rfl, rfl⟩)
          · have hwa : IntKind.i64.wrap (a : Int) = (a : Int) := IntWalk.i64_in _ (by omega)
            have hws : IntKind.i64.wrap ((c : Int) + (a : Int)) = (c : Int) + (a : Int) := IntWalk.i64_in _ (by omega)
            have hn1 : 0 ≤ (c : Int) + (a : Int) := by omega
            have hn2 : ((c : Int) + (a : Int)).toNat = c + a := by omega
            have hn3 : (c : Int) + (a : Int) ≤ (n : Int) := by omega
            have hn4 : (c : Int) + (a : Int) ≤ (c : Int) := by omega
            go_region
            all_goals
              clear hwa hws hn1 hn2 hn3 hn4
              go_wp2
              have hX := HR.out
              rw [if_pos (by omega), show c - (c + a) = 0 by omega] at hX
              exact taken_ret rfl rfl rfl rfl (three_at w _ _ _) rfl ⟨_, rfl, hX, (three_below w _ _ _).drew⟩
          · exact three_below w _ _ _
        · rw [if_neg hcj] at hmid
          have hcv : ∀ x y z : Obj, (convert 43 9 (.slice (A.map (·.add j)) a (c - j))).run Try.prog (((w.alloc x).alloc y).alloc z) = .ok (.string (txt tl)) (((w.alloc x).alloc y).alloc z) := fun x y z => convert_bytes ((hmid.up hB).along (three_below w x y z))
          clear hrest hrest2 hmid hn hp
          go_enter Try.func71, Try.ntmps71
          go_wp2_with (go_at_call 87; (with_reducible refine (unhide (HC _ ?_)).mono ?_); rotate_left 1; rintro e w1 ⟨rfl, rfl⟩)
          · have hwa : IntKind.i64.wrap (a : Int) = (a : Int) := IntWalk.i64_in _ (by omega)
            have hws : IntKind.i64.wrap ((j : Int) + (a : Int)) = (j : Int) + (a : Int) := IntWalk.i64_in _ (by omega)
            have hn1 : 0 ≤ (j : Int) + (a : Int) := by omega
            have hn2 : ((j : Int) + (a : Int)).toNat = j + a := by omega
            have hn3 : (j : Int) + (a : Int) ≤ (n : Int) := by omega
            have hn4 : (j : Int) + (a : Int) ≤ (c : Int) := by omega
            go_region
            all_goals
              clear hwa hws hn1 hn2 hn3 hn4
              go_wp2
              · have hcj2 : c = j + a := by assumption
                have hX := HR.out
                rw [if_pos hcj2, hcj2, Nat.sub_self] at hX
                exact taken_ret rfl rfl rfl rfl (three_at w _ _ _) rfl ⟨_, rfl, hX, (three_below w _ _ _).drew⟩
              · have hcj2 : ¬ c = j + a := by assumption
                have hX := HR.out
                rw [if_neg hcj2] at hX
                exact taken_ret rfl rfl rfl rfl (three_at w _ _ _) rfl ⟨_, rfl, hX, (three_below w _ _ _).drew⟩
          · exact three_below w _ _ _
/-- What a field is read as: its number, its text, what is left, whether it is right. -/
def takeF (k M : Nat) (l : List Nat) : Nat × List Nat × List Nat × Bool :=
  if k % 5 = 1 then (uz (zag (takeNum l 18446744073709551615).1), [], (takeNum l 18446744073709551615).2.1, (takeNum l 18446744073709551615).2.2)
  else if k % 5 = 2 then (0, (takeText l M).1, (takeText l M).2.1, (takeText l M).2.2)
  else if k % 5 = 3 then ((takeByte l).1, [], (takeByte l).2.1, (takeByte l).2.2)
  else if k % 5 = 4 then (bit (takeBool l).1, [], (takeBool l).2.1, (takeBool l).2.2)
  else ((takeNum l M).1, [], (takeNum l M).2.1, (takeNum l M).2.2)
theorem refTake_any (w : World) (B k N M : Nat) (s : ByteArray) (v : Value) (l : List Nat) (hB : B ≤ w.heap.size) (hp : Bytes w B v l) (hM : M < 18446744073709551616) :
    Calls Try.prog 71 #[v, .agg #[.int .u8 (k : Int), .int .u64 (N : Int), .string s, .int .u64 (M : Int)]] w (TakeR w B k (takeF k M l).1 M (txt (takeF k M l).2.1) (takeF k M l).2.2.1 (takeF k M l).2.2.2) := by
  unfold takeF
  rcases (show k % 5 = 0 ∨ k % 5 = 1 ∨ k % 5 = 2 ∨ k % 5 = 3 ∨ k % 5 = 4 by omega) with h | h | h | h | h
  · rw [if_neg (by omega), if_neg (by omega), if_neg (by omega), if_neg (by omega)]
    exact refTake_num w B k N M s v l hB hp h hM
  · rw [if_pos h]
    exact refTake_int w B k N M s v l hB hp h hM
  · rw [if_neg (by omega), if_pos h]
    exact refTake_text w B k N M s v l hB hp h hM
  · rw [if_neg (by omega), if_neg (by omega), if_pos h]
    exact refTake_byte w B k N M s v l hB hp h hM
  · rw [if_neg (by omega), if_neg (by omega), if_neg (by omega), if_pos h]
    exact refTake_bool w B k N M s v l hB hp h hM
end Go.Proofs.Ytalpippeelomjaa
