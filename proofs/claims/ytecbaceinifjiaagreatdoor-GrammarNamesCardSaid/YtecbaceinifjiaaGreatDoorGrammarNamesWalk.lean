/- GrammarNames, walked. -/
import Derived.Test.YtecbaceinifjiaaGreatDoorZ30
namespace Go.Proofs.YtecbaceinifjiaaGreatDoor
open Go.RowKit
set_option linter.unusedSimpArgs false
set_option linter.unusedVariables false
set_option maxRecDepth 100000
attribute [local go_sem] Oper.semAt_some undef
/-- The three names. -/
def nmB (a : Nat) : ByteArray := ⟨#[UInt8.ofNat (97 + a)]⟩
theorem nmB_size (a : Nat) : (nmB a).size = 1 := rfl
theorem ba_appsize (a b : ByteArray) : (a ++ b).size = a.size + b.size := ByteArray.size_append
theorem names_fact0 : ∀ a, a < 3 → ∀ b, b < 3 → (parseG (str (((((⟨#[109, 111, 100, 117, 108, 101, 32]⟩ : ByteArray) ++ nmB a) ++ (⟨#[32, 123, 32, 125, 32, 109, 111, 100, 117, 108, 101, 32]⟩ : ByteArray)) ++ nmB b) ++ (⟨#[32, 123, 32, 125]⟩ : ByteArray)))).1 = (if a = b then 10 else 0) := by decide +kernel
set_option maxHeartbeats 8000000 in
theorem names_way0 (w : World) (i j kd a b : Nat) (ha : a < 3) (hb : b < 3) (hi : i < 256) (hj : j < 256) (hk : kd < 256) (ea : i % 3 = a) (eb : j % 3 = b) (ek : kd % 7 = 0) (hv : Vs w) (gb : GB w.heap.size) :
    Calls Tryz.prog 3 #[.int .u8 (i : Int), .int .u8 (j : Int), .int .u8 (kd : Int)] w fun e w' => e = .returned (.bool true) ∧ Below w.heap.size w w' := by
  have HAW := Lib.hid (gawake w hv gb)
  have HV := Lib.hid hv
  have HGB := Lib.hid gb
  have hfact := names_fact0 a ha b hb
  have r1 : (i : Int) % 3 = (a : Int) := by omega
  have r2 : (j : Int) % 3 = (b : Int) := by omega
  have r3 : (kd : Int) % 7 = 0 := by omega
  have t1 : (i : Int).tmod 3 = (a : Int) := by rw [Int.tmod_eq_emod_of_nonneg (by omega)]; exact r1
  have t2 : (j : Int).tmod 3 = (b : Int) := by rw [Int.tmod_eq_emod_of_nonneg (by omega)]; exact r2
  have t3 : (kd : Int).tmod 7 = 0 := by rw [Int.tmod_eq_emod_of_nonneg (by omega)]; exact r3
  have haI : (a : Int) < 3 := by omega
  have hbI : (b : Int) < 3 := by omega
  obtain ⟨x, hx⟩ : ∃ x, x = nmB a := ⟨_, rfl⟩
  obtain ⟨y, hy⟩ : ∃ y, y = nmB b := ⟨_, rfl⟩
  have hxs : x.size = 1 := by rw [hx]; rfl
  have hys : y.size = 1 := by rw [hy]; rfl
  rw [← hx, ← hy] at hfact
  obtain ⟨T1, hT1⟩ : ∃ T1, (⟨#[109, 111, 100, 117, 108, 101, 32]⟩ : ByteArray) ++ x = T1 := ⟨_, rfl⟩
  have s1 : T1.size = 8 := by rw [← hT1, ba_appsize, hxs]; rfl
  obtain ⟨T2, hT2⟩ : ∃ T2, T1 ++ (⟨#[32, 123, 32, 125, 32, 109, 111, 100, 117, 108, 101, 32]⟩ : ByteArray) = T2 := ⟨_, rfl⟩
  have s2 : T2.size = 20 := by rw [← hT2, ba_appsize, s1]; rfl
  obtain ⟨T3, hT3⟩ : ∃ T3, T2 ++ y = T3 := ⟨_, rfl⟩
  have s3 : T3.size = 21 := by rw [← hT3, ba_appsize, s2, hys]
  obtain ⟨T4, hT4⟩ : ∃ T4, T3 ++ (⟨#[32, 123, 32, 125]⟩ : ByteArray) = T4 := ⟨_, rfl⟩
  have s4 : T4.size = 25 := by rw [← hT4, ba_appsize, s3]; rfl
  rw [hT1, hT2, hT3, hT4] at hfact
  have z1 : ¬ 9223372036854775807 < 7 + x.size := by omega
  have z2 : ¬ 9223372036854775807 < T1.size + 12 := by omega
  have z3 : ¬ 9223372036854775807 < T2.size + y.size := by omega
  have z4 : ¬ 9223372036854775807 < T3.size + 4 := by omega
  have HP := Lib.hid (fun W (hW : Vs W) (gW : GB W.heap.size) => gparse_any W T4 (by omega) hW gW)
  have HF := Lib.hid hfact
  obtain ⟨g, hg⟩ : ∃ g, g = parseG (str T4) := ⟨_, rfl⟩
  rw [← hg] at HP HF
  have HX := Lib.hid hx
  have HY := Lib.hid hy
  have HA := Lib.hid ha
  have HB := Lib.hid hb
  clear hv gb hfact hx hy hg ha hb hi hj hk ea eb ek
  by_cases hab : a = b
  · have HR : Hid (g.1 = 10) := Lib.hid (by have := HF.out; rw [if_pos hab] at this; exact this)
    have hab2 : ((a : Int) == (b : Int)) = true := by rw [beq_iff_eq]; omega
    have hab4 : decide ((a : Int) = (b : Int)) = true := decide_eq_true (by omega)
    have hab5 : (a == b) = true := by rw [beq_iff_eq]; exact hab
    clear hab
    go_enter Tryz.func3, Tryz.ntmps3
    go_upto_region 4 with (go_at_call 6; (with_reducible refine (HAW.out).mono ?_); rintro e w1 ⟨rfl, hb1⟩; go_loud (have HB1 := Lib.hid hb1; clear hb1))
    obtain ⟨W2, hW2⟩ : ∃ W2, W2 = w1.alloc (.cells #[.string ⟨#[97]⟩, .string ⟨#[98]⟩, .string ⟨#[99]⟩] 9) := ⟨_, rfl⟩
    have hx2 : W2.heap[w1.heap.size]? = some (.cells #[.string ⟨#[97]⟩, .string ⟨#[98]⟩, .string ⟨#[99]⟩] 9 (0, 0)) := by rw [hW2]; exact Go.heap_alloc_new _ _
    have hb2 : Below w.heap.size w W2 := by rw [hW2]; exact HB1.out.alloc HB1.out.size _
    have hcell : ∀ c, c < 3 → W2.cell? ⟨w1.heap.size, c, none⟩ = some (.string (nmB c)) := fun c hc => by
      unfold World.cell?
      rw [hx2]
      rcases (show c = 0 ∨ c = 1 ∨ c = 2 by omega) with rfl | rfl | rfl <;> rfl
    have c1 := hcell a HA.out
    have c2 := hcell b HB.out
    rw [← HX.out] at c1
    rw [← HY.out] at c2
    have HB2 := Lib.hid hb2
    rw [← hW2]
    clear hW2 hx2 hb2 hcell
    go_quiet (fail)
    go_wp2_with (go_at_call 7; (with_reducible refine (HP.out _ (HV.out.on (below_drewN HB2.out _) HGB.out) ⟨Nat.lt_of_lt_of_le HGB.out.b1 (below_drewN HB2.out _).size, Nat.lt_of_lt_of_le HGB.out.b2 (below_drewN HB2.out _).size, Nat.lt_of_lt_of_le HGB.out.b3 (below_drewN HB2.out _).size, Nat.lt_of_lt_of_le HGB.out.b4 (below_drewN HB2.out _).size⟩).mono ?_); rintro e w5 ⟨h1, h2, hb5⟩; go_loud (obtain rfl := h2 (by rw [HR.out]; decide); rw [HR.out, show ((10 : Nat) : Int) = 10 from rfl]; have HB5 := Lib.hid ((below_drewN HB2.out _).trans (hb5.mono (below_drewN HB2.out _).size)); clear h1 h2 hb5))
    go_ret
    exact ⟨rfl, HB5.out⟩
  · have HR : Hid (g.1 = 0) := Lib.hid (by have := HF.out; rw [if_neg hab] at this; exact this)
    have hab2 : ((a : Int) == (b : Int)) = false := by rw [beq_eq_false_iff_ne]; omega
    have hab4 : decide ((a : Int) = (b : Int)) = false := decide_eq_false (by omega)
    have hab5 : (a == b) = false := by rw [beq_eq_false_iff_ne]; exact hab
    clear hab
    go_enter Tryz.func3, Tryz.ntmps3
    go_upto_region 4 with (go_at_call 6; (with_reducible refine (HAW.out).mono ?_); rintro e w1 ⟨rfl, hb1⟩; go_loud (have HB1 := Lib.hid hb1; clear hb1))
    obtain ⟨W2, hW2⟩ : ∃ W2, W2 = w1.alloc (.cells #[.string ⟨#[97]⟩, .string ⟨#[98]⟩, .string ⟨#[99]⟩] 9) := ⟨_, rfl⟩
    have hx2 : W2.heap[w1.heap.size]? = some (.cells #[.string ⟨#[97]⟩, .string ⟨#[98]⟩, .string ⟨#[99]⟩] 9 (0, 0)) := by rw [hW2]; exact Go.heap_alloc_new _ _
    have hb2 : Below w.heap.size w W2 := by rw [hW2]; exact HB1.out.alloc HB1.out.size _
    have hcell : ∀ c, c < 3 → W2.cell? ⟨w1.heap.size, c, none⟩ = some (.string (nmB c)) := fun c hc => by
      unfold World.cell?
      rw [hx2]
      rcases (show c = 0 ∨ c = 1 ∨ c = 2 by omega) with rfl | rfl | rfl <;> rfl
    have c1 := hcell a HA.out
    have c2 := hcell b HB.out
    rw [← HX.out] at c1
    rw [← HY.out] at c2
    have HB2 := Lib.hid hb2
    rw [← hW2]
    clear hW2 hx2 hb2 hcell
    go_quiet (fail)
    go_wp2_with (go_at_call 7; (with_reducible refine (HP.out _ (HV.out.on (below_drewN HB2.out _) HGB.out) ⟨Nat.lt_of_lt_of_le HGB.out.b1 (below_drewN HB2.out _).size, Nat.lt_of_lt_of_le HGB.out.b2 (below_drewN HB2.out _).size, Nat.lt_of_lt_of_le HGB.out.b3 (below_drewN HB2.out _).size, Nat.lt_of_lt_of_le HGB.out.b4 (below_drewN HB2.out _).size⟩).mono ?_); rintro e w5 ⟨h1, h2, hb5⟩; go_loud (obtain ⟨b0, ga, gm, gp, F, vs, N, _, rfl, _, _⟩ := h1 HR.out; have HB5 := Lib.hid ((below_drewN HB2.out _).trans (hb5.mono (below_drewN HB2.out _).size)); clear h1 h2 hb5))
    go_ret
    exact ⟨rfl, HB5.out⟩
theorem names_fact1 : ∀ a, a < 3 → ∀ b, b < 3 → (parseG (str (((((⟨#[109, 111, 100, 117, 108, 101, 32, 109, 32, 123, 32, 102, 117, 110, 99, 32]⟩ : ByteArray) ++ nmB a) ++ (⟨#[40, 41, 32, 105, 110, 116, 32, 123, 32, 114, 101, 116, 117, 114, 110, 32, 49, 59, 32, 125, 32, 102, 117, 110, 99, 32]⟩ : ByteArray)) ++ nmB b) ++ (⟨#[40, 41, 32, 105, 110, 116, 32, 123, 32, 114, 101, 116, 117, 114, 110, 32, 49, 59, 32, 125, 32, 125]⟩ : ByteArray)))).1 = (if a = b then 10 else 0) := by decide +kernel
set_option maxHeartbeats 8000000 in
theorem names_way1 (w : World) (i j kd a b : Nat) (ha : a < 3) (hb : b < 3) (hi : i < 256) (hj : j < 256) (hk : kd < 256) (ea : i % 3 = a) (eb : j % 3 = b) (ek : kd % 7 = 1) (hv : Vs w) (gb : GB w.heap.size) :
    Calls Tryz.prog 3 #[.int .u8 (i : Int), .int .u8 (j : Int), .int .u8 (kd : Int)] w fun e w' => e = .returned (.bool true) ∧ Below w.heap.size w w' := by
  have HAW := Lib.hid (gawake w hv gb)
  have HV := Lib.hid hv
  have HGB := Lib.hid gb
  have hfact := names_fact1 a ha b hb
  have r1 : (i : Int) % 3 = (a : Int) := by omega
  have r2 : (j : Int) % 3 = (b : Int) := by omega
  have r3 : (kd : Int) % 7 = 1 := by omega
  have t1 : (i : Int).tmod 3 = (a : Int) := by rw [Int.tmod_eq_emod_of_nonneg (by omega)]; exact r1
  have t2 : (j : Int).tmod 3 = (b : Int) := by rw [Int.tmod_eq_emod_of_nonneg (by omega)]; exact r2
  have t3 : (kd : Int).tmod 7 = 1 := by rw [Int.tmod_eq_emod_of_nonneg (by omega)]; exact r3
  have haI : (a : Int) < 3 := by omega
  have hbI : (b : Int) < 3 := by omega
  obtain ⟨x, hx⟩ : ∃ x, x = nmB a := ⟨_, rfl⟩
  obtain ⟨y, hy⟩ : ∃ y, y = nmB b := ⟨_, rfl⟩
  have hxs : x.size = 1 := by rw [hx]; rfl
  have hys : y.size = 1 := by rw [hy]; rfl
  rw [← hx, ← hy] at hfact
  obtain ⟨T1, hT1⟩ : ∃ T1, (⟨#[109, 111, 100, 117, 108, 101, 32, 109, 32, 123, 32, 102, 117, 110, 99, 32]⟩ : ByteArray) ++ x = T1 := ⟨_, rfl⟩
  have s1 : T1.size = 17 := by rw [← hT1, ba_appsize, hxs]; rfl
  obtain ⟨T2, hT2⟩ : ∃ T2, T1 ++ (⟨#[40, 41, 32, 105, 110, 116, 32, 123, 32, 114, 101, 116, 117, 114, 110, 32, 49, 59, 32, 125, 32, 102, 117, 110, 99, 32]⟩ : ByteArray) = T2 := ⟨_, rfl⟩
  have s2 : T2.size = 43 := by rw [← hT2, ba_appsize, s1]; rfl
  obtain ⟨T3, hT3⟩ : ∃ T3, T2 ++ y = T3 := ⟨_, rfl⟩
  have s3 : T3.size = 44 := by rw [← hT3, ba_appsize, s2, hys]
  obtain ⟨T4, hT4⟩ : ∃ T4, T3 ++ (⟨#[40, 41, 32, 105, 110, 116, 32, 123, 32, 114, 101, 116, 117, 114, 110, 32, 49, 59, 32, 125, 32, 125]⟩ : ByteArray) = T4 := ⟨_, rfl⟩
  have s4 : T4.size = 66 := by rw [← hT4, ba_appsize, s3]; rfl
  rw [hT1, hT2, hT3, hT4] at hfact
  have z1 : ¬ 9223372036854775807 < 16 + x.size := by omega
  have z2 : ¬ 9223372036854775807 < T1.size + 26 := by omega
  have z3 : ¬ 9223372036854775807 < T2.size + y.size := by omega
  have z4 : ¬ 9223372036854775807 < T3.size + 22 := by omega
  have HP := Lib.hid (fun W (hW : Vs W) (gW : GB W.heap.size) => gparse_any W T4 (by omega) hW gW)
  have HF := Lib.hid hfact
  obtain ⟨g, hg⟩ : ∃ g, g = parseG (str T4) := ⟨_, rfl⟩
  rw [← hg] at HP HF
  have HX := Lib.hid hx
  have HY := Lib.hid hy
  have HA := Lib.hid ha
  have HB := Lib.hid hb
  clear hv gb hfact hx hy hg ha hb hi hj hk ea eb ek
  by_cases hab : a = b
  · have HR : Hid (g.1 = 10) := Lib.hid (by have := HF.out; rw [if_pos hab] at this; exact this)
    have hab2 : ((a : Int) == (b : Int)) = true := by rw [beq_iff_eq]; omega
    have hab4 : decide ((a : Int) = (b : Int)) = true := decide_eq_true (by omega)
    have hab5 : (a == b) = true := by rw [beq_iff_eq]; exact hab
    clear hab
    go_enter Tryz.func3, Tryz.ntmps3
    go_upto_region 4 with (go_at_call 6; (with_reducible refine (HAW.out).mono ?_); rintro e w1 ⟨rfl, hb1⟩; go_loud (have HB1 := Lib.hid hb1; clear hb1))
    obtain ⟨W2, hW2⟩ : ∃ W2, W2 = w1.alloc (.cells #[.string ⟨#[97]⟩, .string ⟨#[98]⟩, .string ⟨#[99]⟩] 9) := ⟨_, rfl⟩
    have hx2 : W2.heap[w1.heap.size]? = some (.cells #[.string ⟨#[97]⟩, .string ⟨#[98]⟩, .string ⟨#[99]⟩] 9 (0, 0)) := by rw [hW2]; exact Go.heap_alloc_new _ _
    have hb2 : Below w.heap.size w W2 := by rw [hW2]; exact HB1.out.alloc HB1.out.size _
    have hcell : ∀ c, c < 3 → W2.cell? ⟨w1.heap.size, c, none⟩ = some (.string (nmB c)) := fun c hc => by
      unfold World.cell?
      rw [hx2]
      rcases (show c = 0 ∨ c = 1 ∨ c = 2 by omega) with rfl | rfl | rfl <;> rfl
    have c1 := hcell a HA.out
    have c2 := hcell b HB.out
    rw [← HX.out] at c1
    rw [← HY.out] at c2
    have HB2 := Lib.hid hb2
    rw [← hW2]
    clear hW2 hx2 hb2 hcell
    go_quiet (fail)
    go_wp2_with (go_at_call 7; (with_reducible refine (HP.out _ (HV.out.on (below_drewN HB2.out _) HGB.out) ⟨Nat.lt_of_lt_of_le HGB.out.b1 (below_drewN HB2.out _).size, Nat.lt_of_lt_of_le HGB.out.b2 (below_drewN HB2.out _).size, Nat.lt_of_lt_of_le HGB.out.b3 (below_drewN HB2.out _).size, Nat.lt_of_lt_of_le HGB.out.b4 (below_drewN HB2.out _).size⟩).mono ?_); rintro e w5 ⟨h1, h2, hb5⟩; go_loud (obtain rfl := h2 (by rw [HR.out]; decide); rw [HR.out, show ((10 : Nat) : Int) = 10 from rfl]; have HB5 := Lib.hid ((below_drewN HB2.out _).trans (hb5.mono (below_drewN HB2.out _).size)); clear h1 h2 hb5))
    go_ret
    exact ⟨rfl, HB5.out⟩
  · have HR : Hid (g.1 = 0) := Lib.hid (by have := HF.out; rw [if_neg hab] at this; exact this)
    have hab2 : ((a : Int) == (b : Int)) = false := by rw [beq_eq_false_iff_ne]; omega
    have hab4 : decide ((a : Int) = (b : Int)) = false := decide_eq_false (by omega)
    have hab5 : (a == b) = false := by rw [beq_eq_false_iff_ne]; exact hab
    clear hab
    go_enter Tryz.func3, Tryz.ntmps3
    go_upto_region 4 with (go_at_call 6; (with_reducible refine (HAW.out).mono ?_); rintro e w1 ⟨rfl, hb1⟩; go_loud (have HB1 := Lib.hid hb1; clear hb1))
    obtain ⟨W2, hW2⟩ : ∃ W2, W2 = w1.alloc (.cells #[.string ⟨#[97]⟩, .string ⟨#[98]⟩, .string ⟨#[99]⟩] 9) := ⟨_, rfl⟩
    have hx2 : W2.heap[w1.heap.size]? = some (.cells #[.string ⟨#[97]⟩, .string ⟨#[98]⟩, .string ⟨#[99]⟩] 9 (0, 0)) := by rw [hW2]; exact Go.heap_alloc_new _ _
    have hb2 : Below w.heap.size w W2 := by rw [hW2]; exact HB1.out.alloc HB1.out.size _
    have hcell : ∀ c, c < 3 → W2.cell? ⟨w1.heap.size, c, none⟩ = some (.string (nmB c)) := fun c hc => by
      unfold World.cell?
      rw [hx2]
      rcases (show c = 0 ∨ c = 1 ∨ c = 2 by omega) with rfl | rfl | rfl <;> rfl
    have c1 := hcell a HA.out
    have c2 := hcell b HB.out
    rw [← HX.out] at c1
    rw [← HY.out] at c2
    have HB2 := Lib.hid hb2
    rw [← hW2]
    clear hW2 hx2 hb2 hcell
    go_quiet (fail)
    go_wp2_with (go_at_call 7; (with_reducible refine (HP.out _ (HV.out.on (below_drewN HB2.out _) HGB.out) ⟨Nat.lt_of_lt_of_le HGB.out.b1 (below_drewN HB2.out _).size, Nat.lt_of_lt_of_le HGB.out.b2 (below_drewN HB2.out _).size, Nat.lt_of_lt_of_le HGB.out.b3 (below_drewN HB2.out _).size, Nat.lt_of_lt_of_le HGB.out.b4 (below_drewN HB2.out _).size⟩).mono ?_); rintro e w5 ⟨h1, h2, hb5⟩; go_loud (obtain ⟨b0, ga, gm, gp, F, vs, N, _, rfl, _, _⟩ := h1 HR.out; have HB5 := Lib.hid ((below_drewN HB2.out _).trans (hb5.mono (below_drewN HB2.out _).size)); clear h1 h2 hb5))
    go_ret
    exact ⟨rfl, HB5.out⟩
theorem names_fact2 : ∀ a, a < 3 → ∀ b, b < 3 → (parseG (str (((((⟨#[109, 111, 100, 117, 108, 101, 32, 109, 32, 123, 32, 102, 117, 110, 99, 32, 102, 40]⟩ : ByteArray) ++ nmB a) ++ (⟨#[32, 105, 110, 116, 44, 32]⟩ : ByteArray)) ++ nmB b) ++ (⟨#[32, 105, 110, 116, 41, 32, 105, 110, 116, 32, 123, 32, 114, 101, 116, 117, 114, 110, 32, 49, 59, 32, 125, 32, 125]⟩ : ByteArray)))).1 = (if a = b then 10 else 0) := by decide +kernel
set_option maxHeartbeats 8000000 in
theorem names_way2 (w : World) (i j kd a b : Nat) (ha : a < 3) (hb : b < 3) (hi : i < 256) (hj : j < 256) (hk : kd < 256) (ea : i % 3 = a) (eb : j % 3 = b) (ek : kd % 7 = 2) (hv : Vs w) (gb : GB w.heap.size) :
    Calls Tryz.prog 3 #[.int .u8 (i : Int), .int .u8 (j : Int), .int .u8 (kd : Int)] w fun e w' => e = .returned (.bool true) ∧ Below w.heap.size w w' := by
  have HAW := Lib.hid (gawake w hv gb)
  have HV := Lib.hid hv
  have HGB := Lib.hid gb
  have hfact := names_fact2 a ha b hb
  have r1 : (i : Int) % 3 = (a : Int) := by omega
  have r2 : (j : Int) % 3 = (b : Int) := by omega
  have r3 : (kd : Int) % 7 = 2 := by omega
  have t1 : (i : Int).tmod 3 = (a : Int) := by rw [Int.tmod_eq_emod_of_nonneg (by omega)]; exact r1
  have t2 : (j : Int).tmod 3 = (b : Int) := by rw [Int.tmod_eq_emod_of_nonneg (by omega)]; exact r2
  have t3 : (kd : Int).tmod 7 = 2 := by rw [Int.tmod_eq_emod_of_nonneg (by omega)]; exact r3
  have haI : (a : Int) < 3 := by omega
  have hbI : (b : Int) < 3 := by omega
  obtain ⟨x, hx⟩ : ∃ x, x = nmB a := ⟨_, rfl⟩
  obtain ⟨y, hy⟩ : ∃ y, y = nmB b := ⟨_, rfl⟩
  have hxs : x.size = 1 := by rw [hx]; rfl
  have hys : y.size = 1 := by rw [hy]; rfl
  rw [← hx, ← hy] at hfact
  obtain ⟨T1, hT1⟩ : ∃ T1, (⟨#[109, 111, 100, 117, 108, 101, 32, 109, 32, 123, 32, 102, 117, 110, 99, 32, 102, 40]⟩ : ByteArray) ++ x = T1 := ⟨_, rfl⟩
  have s1 : T1.size = 19 := by rw [← hT1, ba_appsize, hxs]; rfl
  obtain ⟨T2, hT2⟩ : ∃ T2, T1 ++ (⟨#[32, 105, 110, 116, 44, 32]⟩ : ByteArray) = T2 := ⟨_, rfl⟩
  have s2 : T2.size = 25 := by rw [← hT2, ba_appsize, s1]; rfl
  obtain ⟨T3, hT3⟩ : ∃ T3, T2 ++ y = T3 := ⟨_, rfl⟩
  have s3 : T3.size = 26 := by rw [← hT3, ba_appsize, s2, hys]
  obtain ⟨T4, hT4⟩ : ∃ T4, T3 ++ (⟨#[32, 105, 110, 116, 41, 32, 105, 110, 116, 32, 123, 32, 114, 101, 116, 117, 114, 110, 32, 49, 59, 32, 125, 32, 125]⟩ : ByteArray) = T4 := ⟨_, rfl⟩
  have s4 : T4.size = 51 := by rw [← hT4, ba_appsize, s3]; rfl
  rw [hT1, hT2, hT3, hT4] at hfact
  have z1 : ¬ 9223372036854775807 < 18 + x.size := by omega
  have z2 : ¬ 9223372036854775807 < T1.size + 6 := by omega
  have z3 : ¬ 9223372036854775807 < T2.size + y.size := by omega
  have z4 : ¬ 9223372036854775807 < T3.size + 25 := by omega
  have HP := Lib.hid (fun W (hW : Vs W) (gW : GB W.heap.size) => gparse_any W T4 (by omega) hW gW)
  have HF := Lib.hid hfact
  obtain ⟨g, hg⟩ : ∃ g, g = parseG (str T4) := ⟨_, rfl⟩
  rw [← hg] at HP HF
  have HX := Lib.hid hx
  have HY := Lib.hid hy
  have HA := Lib.hid ha
  have HB := Lib.hid hb
  clear hv gb hfact hx hy hg ha hb hi hj hk ea eb ek
  by_cases hab : a = b
  · have HR : Hid (g.1 = 10) := Lib.hid (by have := HF.out; rw [if_pos hab] at this; exact this)
    have hab2 : ((a : Int) == (b : Int)) = true := by rw [beq_iff_eq]; omega
    have hab4 : decide ((a : Int) = (b : Int)) = true := decide_eq_true (by omega)
    have hab5 : (a == b) = true := by rw [beq_iff_eq]; exact hab
    clear hab
    go_enter Tryz.func3, Tryz.ntmps3
    go_upto_region 4 with (go_at_call 6; (with_reducible refine (HAW.out).mono ?_); rintro e w1 ⟨rfl, hb1⟩; go_loud (have HB1 := Lib.hid hb1; clear hb1))
    obtain ⟨W2, hW2⟩ : ∃ W2, W2 = w1.alloc (.cells #[.string ⟨#[97]⟩, .string ⟨#[98]⟩, .string ⟨#[99]⟩] 9) := ⟨_, rfl⟩
    have hx2 : W2.heap[w1.heap.size]? = some (.cells #[.string ⟨#[97]⟩, .string ⟨#[98]⟩, .string ⟨#[99]⟩] 9 (0, 0)) := by rw [hW2]; exact Go.heap_alloc_new _ _
    have hb2 : Below w.heap.size w W2 := by rw [hW2]; exact HB1.out.alloc HB1.out.size _
    have hcell : ∀ c, c < 3 → W2.cell? ⟨w1.heap.size, c, none⟩ = some (.string (nmB c)) := fun c hc => by
      unfold World.cell?
      rw [hx2]
      rcases (show c = 0 ∨ c = 1 ∨ c = 2 by omega) with rfl | rfl | rfl <;> rfl
    have c1 := hcell a HA.out
    have c2 := hcell b HB.out
    rw [← HX.out] at c1
    rw [← HY.out] at c2
    have HB2 := Lib.hid hb2
    rw [← hW2]
    clear hW2 hx2 hb2 hcell
    go_quiet (fail)
    go_wp2_with (go_at_call 7; (with_reducible refine (HP.out _ (HV.out.on (below_drewN HB2.out _) HGB.out) ⟨Nat.lt_of_lt_of_le HGB.out.b1 (below_drewN HB2.out _).size, Nat.lt_of_lt_of_le HGB.out.b2 (below_drewN HB2.out _).size, Nat.lt_of_lt_of_le HGB.out.b3 (below_drewN HB2.out _).size, Nat.lt_of_lt_of_le HGB.out.b4 (below_drewN HB2.out _).size⟩).mono ?_); rintro e w5 ⟨h1, h2, hb5⟩; go_loud (obtain rfl := h2 (by rw [HR.out]; decide); rw [HR.out, show ((10 : Nat) : Int) = 10 from rfl]; have HB5 := Lib.hid ((below_drewN HB2.out _).trans (hb5.mono (below_drewN HB2.out _).size)); clear h1 h2 hb5))
    go_ret
    exact ⟨rfl, HB5.out⟩
  · have HR : Hid (g.1 = 0) := Lib.hid (by have := HF.out; rw [if_neg hab] at this; exact this)
    have hab2 : ((a : Int) == (b : Int)) = false := by rw [beq_eq_false_iff_ne]; omega
    have hab4 : decide ((a : Int) = (b : Int)) = false := decide_eq_false (by omega)
    have hab5 : (a == b) = false := by rw [beq_eq_false_iff_ne]; exact hab
    clear hab
    go_enter Tryz.func3, Tryz.ntmps3
    go_upto_region 4 with (go_at_call 6; (with_reducible refine (HAW.out).mono ?_); rintro e w1 ⟨rfl, hb1⟩; go_loud (have HB1 := Lib.hid hb1; clear hb1))
    obtain ⟨W2, hW2⟩ : ∃ W2, W2 = w1.alloc (.cells #[.string ⟨#[97]⟩, .string ⟨#[98]⟩, .string ⟨#[99]⟩] 9) := ⟨_, rfl⟩
    have hx2 : W2.heap[w1.heap.size]? = some (.cells #[.string ⟨#[97]⟩, .string ⟨#[98]⟩, .string ⟨#[99]⟩] 9 (0, 0)) := by rw [hW2]; exact Go.heap_alloc_new _ _
    have hb2 : Below w.heap.size w W2 := by rw [hW2]; exact HB1.out.alloc HB1.out.size _
    have hcell : ∀ c, c < 3 → W2.cell? ⟨w1.heap.size, c, none⟩ = some (.string (nmB c)) := fun c hc => by
      unfold World.cell?
      rw [hx2]
      rcases (show c = 0 ∨ c = 1 ∨ c = 2 by omega) with rfl | rfl | rfl <;> rfl
    have c1 := hcell a HA.out
    have c2 := hcell b HB.out
    rw [← HX.out] at c1
    rw [← HY.out] at c2
    have HB2 := Lib.hid hb2
    rw [← hW2]
    clear hW2 hx2 hb2 hcell
    go_quiet (fail)
    go_wp2_with (go_at_call 7; (with_reducible refine (HP.out _ (HV.out.on (below_drewN HB2.out _) HGB.out) ⟨Nat.lt_of_lt_of_le HGB.out.b1 (below_drewN HB2.out _).size, Nat.lt_of_lt_of_le HGB.out.b2 (below_drewN HB2.out _).size, Nat.lt_of_lt_of_le HGB.out.b3 (below_drewN HB2.out _).size, Nat.lt_of_lt_of_le HGB.out.b4 (below_drewN HB2.out _).size⟩).mono ?_); rintro e w5 ⟨h1, h2, hb5⟩; go_loud (obtain ⟨b0, ga, gm, gp, F, vs, N, _, rfl, _, _⟩ := h1 HR.out; have HB5 := Lib.hid ((below_drewN HB2.out _).trans (hb5.mono (below_drewN HB2.out _).size)); clear h1 h2 hb5))
    go_ret
    exact ⟨rfl, HB5.out⟩
theorem names_fact3 : ∀ a, a < 3 → ∀ b, b < 3 → (parseG (str (((((⟨#[109, 111, 100, 117, 108, 101, 32, 109, 32, 123, 32, 102, 117, 110, 99, 32, 102, 40]⟩ : ByteArray) ++ nmB a) ++ (⟨#[32, 105, 110, 116, 41, 32, 105, 110, 116, 32, 123, 32, 108, 101, 116, 32]⟩ : ByteArray)) ++ nmB b) ++ (⟨#[32, 105, 110, 116, 32, 61, 32, 49, 59, 32, 114, 101, 116, 117, 114, 110, 32, 49, 59, 32, 125, 32, 125]⟩ : ByteArray)))).1 = (if a = b then 10 else 0) := by decide +kernel
set_option maxHeartbeats 8000000 in
theorem names_way3 (w : World) (i j kd a b : Nat) (ha : a < 3) (hb : b < 3) (hi : i < 256) (hj : j < 256) (hk : kd < 256) (ea : i % 3 = a) (eb : j % 3 = b) (ek : kd % 7 = 3) (hv : Vs w) (gb : GB w.heap.size) :
    Calls Tryz.prog 3 #[.int .u8 (i : Int), .int .u8 (j : Int), .int .u8 (kd : Int)] w fun e w' => e = .returned (.bool true) ∧ Below w.heap.size w w' := by
  have HAW := Lib.hid (gawake w hv gb)
  have HV := Lib.hid hv
  have HGB := Lib.hid gb
  have hfact := names_fact3 a ha b hb
  have r1 : (i : Int) % 3 = (a : Int) := by omega
  have r2 : (j : Int) % 3 = (b : Int) := by omega
  have r3 : (kd : Int) % 7 = 3 := by omega
  have t1 : (i : Int).tmod 3 = (a : Int) := by rw [Int.tmod_eq_emod_of_nonneg (by omega)]; exact r1
  have t2 : (j : Int).tmod 3 = (b : Int) := by rw [Int.tmod_eq_emod_of_nonneg (by omega)]; exact r2
  have t3 : (kd : Int).tmod 7 = 3 := by rw [Int.tmod_eq_emod_of_nonneg (by omega)]; exact r3
  have haI : (a : Int) < 3 := by omega
  have hbI : (b : Int) < 3 := by omega
  obtain ⟨x, hx⟩ : ∃ x, x = nmB a := ⟨_, rfl⟩
  obtain ⟨y, hy⟩ : ∃ y, y = nmB b := ⟨_, rfl⟩
  have hxs : x.size = 1 := by rw [hx]; rfl
  have hys : y.size = 1 := by rw [hy]; rfl
  rw [← hx, ← hy] at hfact
  obtain ⟨T1, hT1⟩ : ∃ T1, (⟨#[109, 111, 100, 117, 108, 101, 32, 109, 32, 123, 32, 102, 117, 110, 99, 32, 102, 40]⟩ : ByteArray) ++ x = T1 := ⟨_, rfl⟩
  have s1 : T1.size = 19 := by rw [← hT1, ba_appsize, hxs]; rfl
  obtain ⟨T2, hT2⟩ : ∃ T2, T1 ++ (⟨#[32, 105, 110, 116, 41, 32, 105, 110, 116, 32, 123, 32, 108, 101, 116, 32]⟩ : ByteArray) = T2 := ⟨_, rfl⟩
  have s2 : T2.size = 35 := by rw [← hT2, ba_appsize, s1]; rfl
  obtain ⟨T3, hT3⟩ : ∃ T3, T2 ++ y = T3 := ⟨_, rfl⟩
  have s3 : T3.size = 36 := by rw [← hT3, ba_appsize, s2, hys]
  obtain ⟨T4, hT4⟩ : ∃ T4, T3 ++ (⟨#[32, 105, 110, 116, 32, 61, 32, 49, 59, 32, 114, 101, 116, 117, 114, 110, 32, 49, 59, 32, 125, 32, 125]⟩ : ByteArray) = T4 := ⟨_, rfl⟩
  have s4 : T4.size = 59 := by rw [← hT4, ba_appsize, s3]; rfl
  rw [hT1, hT2, hT3, hT4] at hfact
  have z1 : ¬ 9223372036854775807 < 18 + x.size := by omega
  have z2 : ¬ 9223372036854775807 < T1.size + 16 := by omega
  have z3 : ¬ 9223372036854775807 < T2.size + y.size := by omega
  have z4 : ¬ 9223372036854775807 < T3.size + 23 := by omega
  have HP := Lib.hid (fun W (hW : Vs W) (gW : GB W.heap.size) => gparse_any W T4 (by omega) hW gW)
  have HF := Lib.hid hfact
  obtain ⟨g, hg⟩ : ∃ g, g = parseG (str T4) := ⟨_, rfl⟩
  rw [← hg] at HP HF
  have HX := Lib.hid hx
  have HY := Lib.hid hy
  have HA := Lib.hid ha
  have HB := Lib.hid hb
  clear hv gb hfact hx hy hg ha hb hi hj hk ea eb ek
  by_cases hab : a = b
  · have HR : Hid (g.1 = 10) := Lib.hid (by have := HF.out; rw [if_pos hab] at this; exact this)
    have hab2 : ((a : Int) == (b : Int)) = true := by rw [beq_iff_eq]; omega
    have hab4 : decide ((a : Int) = (b : Int)) = true := decide_eq_true (by omega)
    have hab5 : (a == b) = true := by rw [beq_iff_eq]; exact hab
    clear hab
    go_enter Tryz.func3, Tryz.ntmps3
    go_upto_region 4 with (go_at_call 6; (with_reducible refine (HAW.out).mono ?_); rintro e w1 ⟨rfl, hb1⟩; go_loud (have HB1 := Lib.hid hb1; clear hb1))
    obtain ⟨W2, hW2⟩ : ∃ W2, W2 = w1.alloc (.cells #[.string ⟨#[97]⟩, .string ⟨#[98]⟩, .string ⟨#[99]⟩] 9) := ⟨_, rfl⟩
    have hx2 : W2.heap[w1.heap.size]? = some (.cells #[.string ⟨#[97]⟩, .string ⟨#[98]⟩, .string ⟨#[99]⟩] 9 (0, 0)) := by rw [hW2]; exact Go.heap_alloc_new _ _
    have hb2 : Below w.heap.size w W2 := by rw [hW2]; exact HB1.out.alloc HB1.out.size _
    have hcell : ∀ c, c < 3 → W2.cell? ⟨w1.heap.size, c, none⟩ = some (.string (nmB c)) := fun c hc => by
      unfold World.cell?
      rw [hx2]
      rcases (show c = 0 ∨ c = 1 ∨ c = 2 by omega) with rfl | rfl | rfl <;> rfl
    have c1 := hcell a HA.out
    have c2 := hcell b HB.out
    rw [← HX.out] at c1
    rw [← HY.out] at c2
    have HB2 := Lib.hid hb2
    rw [← hW2]
    clear hW2 hx2 hb2 hcell
    go_quiet (fail)
    go_wp2_with (go_at_call 7; (with_reducible refine (HP.out _ (HV.out.on (below_drewN HB2.out _) HGB.out) ⟨Nat.lt_of_lt_of_le HGB.out.b1 (below_drewN HB2.out _).size, Nat.lt_of_lt_of_le HGB.out.b2 (below_drewN HB2.out _).size, Nat.lt_of_lt_of_le HGB.out.b3 (below_drewN HB2.out _).size, Nat.lt_of_lt_of_le HGB.out.b4 (below_drewN HB2.out _).size⟩).mono ?_); rintro e w5 ⟨h1, h2, hb5⟩; go_loud (obtain rfl := h2 (by rw [HR.out]; decide); rw [HR.out, show ((10 : Nat) : Int) = 10 from rfl]; have HB5 := Lib.hid ((below_drewN HB2.out _).trans (hb5.mono (below_drewN HB2.out _).size)); clear h1 h2 hb5))
    go_ret
    exact ⟨rfl, HB5.out⟩
  · have HR : Hid (g.1 = 0) := Lib.hid (by have := HF.out; rw [if_neg hab] at this; exact this)
    have hab2 : ((a : Int) == (b : Int)) = false := by rw [beq_eq_false_iff_ne]; omega
    have hab4 : decide ((a : Int) = (b : Int)) = false := decide_eq_false (by omega)
    have hab5 : (a == b) = false := by rw [beq_eq_false_iff_ne]; exact hab
    clear hab
    go_enter Tryz.func3, Tryz.ntmps3
    go_upto_region 4 with (go_at_call 6; (with_reducible refine (HAW.out).mono ?_); rintro e w1 ⟨rfl, hb1⟩; go_loud (have HB1 := Lib.hid hb1; clear hb1))
    obtain ⟨W2, hW2⟩ : ∃ W2, W2 = w1.alloc (.cells #[.string ⟨#[97]⟩, .string ⟨#[98]⟩, .string ⟨#[99]⟩] 9) := ⟨_, rfl⟩
    have hx2 : W2.heap[w1.heap.size]? = some (.cells #[.string ⟨#[97]⟩, .string ⟨#[98]⟩, .string ⟨#[99]⟩] 9 (0, 0)) := by rw [hW2]; exact Go.heap_alloc_new _ _
    have hb2 : Below w.heap.size w W2 := by rw [hW2]; exact HB1.out.alloc HB1.out.size _
    have hcell : ∀ c, c < 3 → W2.cell? ⟨w1.heap.size, c, none⟩ = some (.string (nmB c)) := fun c hc => by
      unfold World.cell?
      rw [hx2]
      rcases (show c = 0 ∨ c = 1 ∨ c = 2 by omega) with rfl | rfl | rfl <;> rfl
    have c1 := hcell a HA.out
    have c2 := hcell b HB.out
    rw [← HX.out] at c1
    rw [← HY.out] at c2
    have HB2 := Lib.hid hb2
    rw [← hW2]
    clear hW2 hx2 hb2 hcell
    go_quiet (fail)
    go_wp2_with (go_at_call 7; (with_reducible refine (HP.out _ (HV.out.on (below_drewN HB2.out _) HGB.out) ⟨Nat.lt_of_lt_of_le HGB.out.b1 (below_drewN HB2.out _).size, Nat.lt_of_lt_of_le HGB.out.b2 (below_drewN HB2.out _).size, Nat.lt_of_lt_of_le HGB.out.b3 (below_drewN HB2.out _).size, Nat.lt_of_lt_of_le HGB.out.b4 (below_drewN HB2.out _).size⟩).mono ?_); rintro e w5 ⟨h1, h2, hb5⟩; go_loud (obtain ⟨b0, ga, gm, gp, F, vs, N, _, rfl, _, _⟩ := h1 HR.out; have HB5 := Lib.hid ((below_drewN HB2.out _).trans (hb5.mono (below_drewN HB2.out _).size)); clear h1 h2 hb5))
    go_ret
    exact ⟨rfl, HB5.out⟩
theorem names_fact4 : ∀ a, a < 3 → ∀ b, b < 3 → (parseG (str (((((⟨#[109, 111, 100, 117, 108, 101, 32, 109, 32, 123, 32, 102, 117, 110, 99, 32, 102, 40, 41, 32, 105, 110, 116, 32, 123, 32, 105, 102, 32, 116, 114, 117, 101, 32, 123, 32, 108, 101, 116, 32]⟩ : ByteArray) ++ nmB a) ++ (⟨#[32, 105, 110, 116, 32, 61, 32, 49, 59, 32, 125, 32, 101, 108, 115, 101, 32, 123, 32, 108, 101, 116, 32]⟩ : ByteArray)) ++ nmB b) ++ (⟨#[32, 105, 110, 116, 32, 61, 32, 49, 59, 32, 125, 32, 114, 101, 116, 117, 114, 110, 32, 49, 59, 32, 125, 32, 125]⟩ : ByteArray)))).1 = (if a = b then 10 else 0) := by decide +kernel
set_option maxHeartbeats 8000000 in
theorem names_way4 (w : World) (i j kd a b : Nat) (ha : a < 3) (hb : b < 3) (hi : i < 256) (hj : j < 256) (hk : kd < 256) (ea : i % 3 = a) (eb : j % 3 = b) (ek : kd % 7 = 4) (hv : Vs w) (gb : GB w.heap.size) :
    Calls Tryz.prog 3 #[.int .u8 (i : Int), .int .u8 (j : Int), .int .u8 (kd : Int)] w fun e w' => e = .returned (.bool true) ∧ Below w.heap.size w w' := by
  have HAW := Lib.hid (gawake w hv gb)
  have HV := Lib.hid hv
  have HGB := Lib.hid gb
  have hfact := names_fact4 a ha b hb
  have r1 : (i : Int) % 3 = (a : Int) := by omega
  have r2 : (j : Int) % 3 = (b : Int) := by omega
  have r3 : (kd : Int) % 7 = 4 := by omega
  have t1 : (i : Int).tmod 3 = (a : Int) := by rw [Int.tmod_eq_emod_of_nonneg (by omega)]; exact r1
  have t2 : (j : Int).tmod 3 = (b : Int) := by rw [Int.tmod_eq_emod_of_nonneg (by omega)]; exact r2
  have t3 : (kd : Int).tmod 7 = 4 := by rw [Int.tmod_eq_emod_of_nonneg (by omega)]; exact r3
  have haI : (a : Int) < 3 := by omega
  have hbI : (b : Int) < 3 := by omega
  obtain ⟨x, hx⟩ : ∃ x, x = nmB a := ⟨_, rfl⟩
  obtain ⟨y, hy⟩ : ∃ y, y = nmB b := ⟨_, rfl⟩
  have hxs : x.size = 1 := by rw [hx]; rfl
  have hys : y.size = 1 := by rw [hy]; rfl
  rw [← hx, ← hy] at hfact
  obtain ⟨T1, hT1⟩ : ∃ T1, (⟨#[109, 111, 100, 117, 108, 101, 32, 109, 32, 123, 32, 102, 117, 110, 99, 32, 102, 40, 41, 32, 105, 110, 116, 32, 123, 32, 105, 102, 32, 116, 114, 117, 101, 32, 123, 32, 108, 101, 116, 32]⟩ : ByteArray) ++ x = T1 := ⟨_, rfl⟩
  have s1 : T1.size = 41 := by rw [← hT1, ba_appsize, hxs]; rfl
  obtain ⟨T2, hT2⟩ : ∃ T2, T1 ++ (⟨#[32, 105, 110, 116, 32, 61, 32, 49, 59, 32, 125, 32, 101, 108, 115, 101, 32, 123, 32, 108, 101, 116, 32]⟩ : ByteArray) = T2 := ⟨_, rfl⟩
  have s2 : T2.size = 64 := by rw [← hT2, ba_appsize, s1]; rfl
  obtain ⟨T3, hT3⟩ : ∃ T3, T2 ++ y = T3 := ⟨_, rfl⟩
  have s3 : T3.size = 65 := by rw [← hT3, ba_appsize, s2, hys]
  obtain ⟨T4, hT4⟩ : ∃ T4, T3 ++ (⟨#[32, 105, 110, 116, 32, 61, 32, 49, 59, 32, 125, 32, 114, 101, 116, 117, 114, 110, 32, 49, 59, 32, 125, 32, 125]⟩ : ByteArray) = T4 := ⟨_, rfl⟩
  have s4 : T4.size = 90 := by rw [← hT4, ba_appsize, s3]; rfl
  rw [hT1, hT2, hT3, hT4] at hfact
  have z1 : ¬ 9223372036854775807 < 40 + x.size := by omega
  have z2 : ¬ 9223372036854775807 < T1.size + 23 := by omega
  have z3 : ¬ 9223372036854775807 < T2.size + y.size := by omega
  have z4 : ¬ 9223372036854775807 < T3.size + 25 := by omega
  have HP := Lib.hid (fun W (hW : Vs W) (gW : GB W.heap.size) => gparse_any W T4 (by omega) hW gW)
  have HF := Lib.hid hfact
  obtain ⟨g, hg⟩ : ∃ g, g = parseG (str T4) := ⟨_, rfl⟩
  rw [← hg] at HP HF
  have HX := Lib.hid hx
  have HY := Lib.hid hy
  have HA := Lib.hid ha
  have HB := Lib.hid hb
  clear hv gb hfact hx hy hg ha hb hi hj hk ea eb ek
  by_cases hab : a = b
  · have HR : Hid (g.1 = 10) := Lib.hid (by have := HF.out; rw [if_pos hab] at this; exact this)
    have hab2 : ((a : Int) == (b : Int)) = true := by rw [beq_iff_eq]; omega
    have hab4 : decide ((a : Int) = (b : Int)) = true := decide_eq_true (by omega)
    have hab5 : (a == b) = true := by rw [beq_iff_eq]; exact hab
    clear hab
    go_enter Tryz.func3, Tryz.ntmps3
    go_upto_region 4 with (go_at_call 6; (with_reducible refine (HAW.out).mono ?_); rintro e w1 ⟨rfl, hb1⟩; go_loud (have HB1 := Lib.hid hb1; clear hb1))
    obtain ⟨W2, hW2⟩ : ∃ W2, W2 = w1.alloc (.cells #[.string ⟨#[97]⟩, .string ⟨#[98]⟩, .string ⟨#[99]⟩] 9) := ⟨_, rfl⟩
    have hx2 : W2.heap[w1.heap.size]? = some (.cells #[.string ⟨#[97]⟩, .string ⟨#[98]⟩, .string ⟨#[99]⟩] 9 (0, 0)) := by rw [hW2]; exact Go.heap_alloc_new _ _
    have hb2 : Below w.heap.size w W2 := by rw [hW2]; exact HB1.out.alloc HB1.out.size _
    have hcell : ∀ c, c < 3 → W2.cell? ⟨w1.heap.size, c, none⟩ = some (.string (nmB c)) := fun c hc => by
      unfold World.cell?
      rw [hx2]
      rcases (show c = 0 ∨ c = 1 ∨ c = 2 by omega) with rfl | rfl | rfl <;> rfl
    have c1 := hcell a HA.out
    have c2 := hcell b HB.out
    rw [← HX.out] at c1
    rw [← HY.out] at c2
    have HB2 := Lib.hid hb2
    rw [← hW2]
    clear hW2 hx2 hb2 hcell
    go_quiet (fail)
    go_wp2_with (go_at_call 7; (with_reducible refine (HP.out _ (HV.out.on (below_drewN HB2.out _) HGB.out) ⟨Nat.lt_of_lt_of_le HGB.out.b1 (below_drewN HB2.out _).size, Nat.lt_of_lt_of_le HGB.out.b2 (below_drewN HB2.out _).size, Nat.lt_of_lt_of_le HGB.out.b3 (below_drewN HB2.out _).size, Nat.lt_of_lt_of_le HGB.out.b4 (below_drewN HB2.out _).size⟩).mono ?_); rintro e w5 ⟨h1, h2, hb5⟩; go_loud (obtain rfl := h2 (by rw [HR.out]; decide); rw [HR.out, show ((10 : Nat) : Int) = 10 from rfl]; have HB5 := Lib.hid ((below_drewN HB2.out _).trans (hb5.mono (below_drewN HB2.out _).size)); clear h1 h2 hb5))
    go_ret
    exact ⟨rfl, HB5.out⟩
  · have HR : Hid (g.1 = 0) := Lib.hid (by have := HF.out; rw [if_neg hab] at this; exact this)
    have hab2 : ((a : Int) == (b : Int)) = false := by rw [beq_eq_false_iff_ne]; omega
    have hab4 : decide ((a : Int) = (b : Int)) = false := decide_eq_false (by omega)
    have hab5 : (a == b) = false := by rw [beq_eq_false_iff_ne]; exact hab
    clear hab
    go_enter Tryz.func3, Tryz.ntmps3
    go_upto_region 4 with (go_at_call 6; (with_reducible refine (HAW.out).mono ?_); rintro e w1 ⟨rfl, hb1⟩; go_loud (have HB1 := Lib.hid hb1; clear hb1))
    obtain ⟨W2, hW2⟩ : ∃ W2, W2 = w1.alloc (.cells #[.string ⟨#[97]⟩, .string ⟨#[98]⟩, .string ⟨#[99]⟩] 9) := ⟨_, rfl⟩
    have hx2 : W2.heap[w1.heap.size]? = some (.cells #[.string ⟨#[97]⟩, .string ⟨#[98]⟩, .string ⟨#[99]⟩] 9 (0, 0)) := by rw [hW2]; exact Go.heap_alloc_new _ _
    have hb2 : Below w.heap.size w W2 := by rw [hW2]; exact HB1.out.alloc HB1.out.size _
    have hcell : ∀ c, c < 3 → W2.cell? ⟨w1.heap.size, c, none⟩ = some (.string (nmB c)) := fun c hc => by
      unfold World.cell?
      rw [hx2]
      rcases (show c = 0 ∨ c = 1 ∨ c = 2 by omega) with rfl | rfl | rfl <;> rfl
    have c1 := hcell a HA.out
    have c2 := hcell b HB.out
    rw [← HX.out] at c1
    rw [← HY.out] at c2
    have HB2 := Lib.hid hb2
    rw [← hW2]
    clear hW2 hx2 hb2 hcell
    go_quiet (fail)
    go_wp2_with (go_at_call 7; (with_reducible refine (HP.out _ (HV.out.on (below_drewN HB2.out _) HGB.out) ⟨Nat.lt_of_lt_of_le HGB.out.b1 (below_drewN HB2.out _).size, Nat.lt_of_lt_of_le HGB.out.b2 (below_drewN HB2.out _).size, Nat.lt_of_lt_of_le HGB.out.b3 (below_drewN HB2.out _).size, Nat.lt_of_lt_of_le HGB.out.b4 (below_drewN HB2.out _).size⟩).mono ?_); rintro e w5 ⟨h1, h2, hb5⟩; go_loud (obtain ⟨b0, ga, gm, gp, F, vs, N, _, rfl, _, _⟩ := h1 HR.out; have HB5 := Lib.hid ((below_drewN HB2.out _).trans (hb5.mono (below_drewN HB2.out _).size)); clear h1 h2 hb5))
    go_ret
    exact ⟨rfl, HB5.out⟩
theorem names_fact5 : ∀ a, a < 3 → ∀ b, b < 3 → (parseG (str (((((⟨#[109, 111, 100, 117, 108, 101, 32, 109, 32, 123, 32, 102, 117, 110, 99, 32, 102, 40]⟩ : ByteArray) ++ nmB a) ++ (⟨#[32, 105, 110, 116, 41, 32, 105, 110, 116, 32, 123, 32, 114, 101, 116, 117, 114, 110, 32]⟩ : ByteArray)) ++ nmB b) ++ (⟨#[59, 32, 125, 32, 125]⟩ : ByteArray)))).1 = (if a = b then 0 else 9) := by decide +kernel
set_option maxHeartbeats 8000000 in
theorem names_way5 (w : World) (i j kd a b : Nat) (ha : a < 3) (hb : b < 3) (hi : i < 256) (hj : j < 256) (hk : kd < 256) (ea : i % 3 = a) (eb : j % 3 = b) (ek : kd % 7 = 5) (hv : Vs w) (gb : GB w.heap.size) :
    Calls Tryz.prog 3 #[.int .u8 (i : Int), .int .u8 (j : Int), .int .u8 (kd : Int)] w fun e w' => e = .returned (.bool true) ∧ Below w.heap.size w w' := by
  have HAW := Lib.hid (gawake w hv gb)
  have HV := Lib.hid hv
  have HGB := Lib.hid gb
  have hfact := names_fact5 a ha b hb
  have r1 : (i : Int) % 3 = (a : Int) := by omega
  have r2 : (j : Int) % 3 = (b : Int) := by omega
  have r3 : (kd : Int) % 7 = 5 := by omega
  have t1 : (i : Int).tmod 3 = (a : Int) := by rw [Int.tmod_eq_emod_of_nonneg (by omega)]; exact r1
  have t2 : (j : Int).tmod 3 = (b : Int) := by rw [Int.tmod_eq_emod_of_nonneg (by omega)]; exact r2
  have t3 : (kd : Int).tmod 7 = 5 := by rw [Int.tmod_eq_emod_of_nonneg (by omega)]; exact r3
  have haI : (a : Int) < 3 := by omega
  have hbI : (b : Int) < 3 := by omega
  obtain ⟨x, hx⟩ : ∃ x, x = nmB a := ⟨_, rfl⟩
  obtain ⟨y, hy⟩ : ∃ y, y = nmB b := ⟨_, rfl⟩
  have hxs : x.size = 1 := by rw [hx]; rfl
  have hys : y.size = 1 := by rw [hy]; rfl
  rw [← hx, ← hy] at hfact
  obtain ⟨T1, hT1⟩ : ∃ T1, (⟨#[109, 111, 100, 117, 108, 101, 32, 109, 32, 123, 32, 102, 117, 110, 99, 32, 102, 40]⟩ : ByteArray) ++ x = T1 := ⟨_, rfl⟩
  have s1 : T1.size = 19 := by rw [← hT1, ba_appsize, hxs]; rfl
  obtain ⟨T2, hT2⟩ : ∃ T2, T1 ++ (⟨#[32, 105, 110, 116, 41, 32, 105, 110, 116, 32, 123, 32, 114, 101, 116, 117, 114, 110, 32]⟩ : ByteArray) = T2 := ⟨_, rfl⟩
  have s2 : T2.size = 38 := by rw [← hT2, ba_appsize, s1]; rfl
  obtain ⟨T3, hT3⟩ : ∃ T3, T2 ++ y = T3 := ⟨_, rfl⟩
  have s3 : T3.size = 39 := by rw [← hT3, ba_appsize, s2, hys]
  obtain ⟨T4, hT4⟩ : ∃ T4, T3 ++ (⟨#[59, 32, 125, 32, 125]⟩ : ByteArray) = T4 := ⟨_, rfl⟩
  have s4 : T4.size = 44 := by rw [← hT4, ba_appsize, s3]; rfl
  rw [hT1, hT2, hT3, hT4] at hfact
  have z1 : ¬ 9223372036854775807 < 18 + x.size := by omega
  have z2 : ¬ 9223372036854775807 < T1.size + 19 := by omega
  have z3 : ¬ 9223372036854775807 < T2.size + y.size := by omega
  have z4 : ¬ 9223372036854775807 < T3.size + 5 := by omega
  have HP := Lib.hid (fun W (hW : Vs W) (gW : GB W.heap.size) => gparse_any W T4 (by omega) hW gW)
  have HF := Lib.hid hfact
  obtain ⟨g, hg⟩ : ∃ g, g = parseG (str T4) := ⟨_, rfl⟩
  rw [← hg] at HP HF
  have HX := Lib.hid hx
  have HY := Lib.hid hy
  have HA := Lib.hid ha
  have HB := Lib.hid hb
  clear hv gb hfact hx hy hg ha hb hi hj hk ea eb ek
  by_cases hab : a = b
  · have HR : Hid (g.1 = 0) := Lib.hid (by have := HF.out; rw [if_pos hab] at this; exact this)
    have hab2 : ((a : Int) == (b : Int)) = true := by rw [beq_iff_eq]; omega
    have hab4 : decide ((a : Int) = (b : Int)) = true := decide_eq_true (by omega)
    have hab5 : (a == b) = true := by rw [beq_iff_eq]; exact hab
    clear hab
    go_enter Tryz.func3, Tryz.ntmps3
    go_upto_region 4 with (go_at_call 6; (with_reducible refine (HAW.out).mono ?_); rintro e w1 ⟨rfl, hb1⟩; go_loud (have HB1 := Lib.hid hb1; clear hb1))
    obtain ⟨W2, hW2⟩ : ∃ W2, W2 = w1.alloc (.cells #[.string ⟨#[97]⟩, .string ⟨#[98]⟩, .string ⟨#[99]⟩] 9) := ⟨_, rfl⟩
    have hx2 : W2.heap[w1.heap.size]? = some (.cells #[.string ⟨#[97]⟩, .string ⟨#[98]⟩, .string ⟨#[99]⟩] 9 (0, 0)) := by rw [hW2]; exact Go.heap_alloc_new _ _
    have hb2 : Below w.heap.size w W2 := by rw [hW2]; exact HB1.out.alloc HB1.out.size _
    have hcell : ∀ c, c < 3 → W2.cell? ⟨w1.heap.size, c, none⟩ = some (.string (nmB c)) := fun c hc => by
      unfold World.cell?
      rw [hx2]
      rcases (show c = 0 ∨ c = 1 ∨ c = 2 by omega) with rfl | rfl | rfl <;> rfl
    have c1 := hcell a HA.out
    have c2 := hcell b HB.out
    rw [← HX.out] at c1
    rw [← HY.out] at c2
    have HB2 := Lib.hid hb2
    rw [← hW2]
    clear hW2 hx2 hb2 hcell
    go_quiet (fail)
    go_wp2_with (go_at_call 7; (with_reducible refine (HP.out _ (HV.out.on (below_drewN HB2.out _) HGB.out) ⟨Nat.lt_of_lt_of_le HGB.out.b1 (below_drewN HB2.out _).size, Nat.lt_of_lt_of_le HGB.out.b2 (below_drewN HB2.out _).size, Nat.lt_of_lt_of_le HGB.out.b3 (below_drewN HB2.out _).size, Nat.lt_of_lt_of_le HGB.out.b4 (below_drewN HB2.out _).size⟩).mono ?_); rintro e w5 ⟨h1, h2, hb5⟩; go_loud (obtain ⟨b0, ga, gm, gp, F, vs, N, _, rfl, _, _⟩ := h1 HR.out; have HB5 := Lib.hid ((below_drewN HB2.out _).trans (hb5.mono (below_drewN HB2.out _).size)); clear h1 h2 hb5))
    go_ret
    exact ⟨rfl, HB5.out⟩
  · have HR : Hid (g.1 = 9) := Lib.hid (by have := HF.out; rw [if_neg hab] at this; exact this)
    have hab2 : ((a : Int) == (b : Int)) = false := by rw [beq_eq_false_iff_ne]; omega
    have hab4 : decide ((a : Int) = (b : Int)) = false := decide_eq_false (by omega)
    have hab5 : (a == b) = false := by rw [beq_eq_false_iff_ne]; exact hab
    clear hab
    go_enter Tryz.func3, Tryz.ntmps3
    go_upto_region 4 with (go_at_call 6; (with_reducible refine (HAW.out).mono ?_); rintro e w1 ⟨rfl, hb1⟩; go_loud (have HB1 := Lib.hid hb1; clear hb1))
    obtain ⟨W2, hW2⟩ : ∃ W2, W2 = w1.alloc (.cells #[.string ⟨#[97]⟩, .string ⟨#[98]⟩, .string ⟨#[99]⟩] 9) := ⟨_, rfl⟩
    have hx2 : W2.heap[w1.heap.size]? = some (.cells #[.string ⟨#[97]⟩, .string ⟨#[98]⟩, .string ⟨#[99]⟩] 9 (0, 0)) := by rw [hW2]; exact Go.heap_alloc_new _ _
    have hb2 : Below w.heap.size w W2 := by rw [hW2]; exact HB1.out.alloc HB1.out.size _
    have hcell : ∀ c, c < 3 → W2.cell? ⟨w1.heap.size, c, none⟩ = some (.string (nmB c)) := fun c hc => by
      unfold World.cell?
      rw [hx2]
      rcases (show c = 0 ∨ c = 1 ∨ c = 2 by omega) with rfl | rfl | rfl <;> rfl
    have c1 := hcell a HA.out
    have c2 := hcell b HB.out
    rw [← HX.out] at c1
    rw [← HY.out] at c2
    have HB2 := Lib.hid hb2
    rw [← hW2]
    clear hW2 hx2 hb2 hcell
    go_quiet (fail)
    go_wp2_with (go_at_call 7; (with_reducible refine (HP.out _ (HV.out.on (below_drewN HB2.out _) HGB.out) ⟨Nat.lt_of_lt_of_le HGB.out.b1 (below_drewN HB2.out _).size, Nat.lt_of_lt_of_le HGB.out.b2 (below_drewN HB2.out _).size, Nat.lt_of_lt_of_le HGB.out.b3 (below_drewN HB2.out _).size, Nat.lt_of_lt_of_le HGB.out.b4 (below_drewN HB2.out _).size⟩).mono ?_); rintro e w5 ⟨h1, h2, hb5⟩; go_loud (obtain rfl := h2 (by rw [HR.out]; decide); rw [HR.out, show ((9 : Nat) : Int) = 9 from rfl]; have HB5 := Lib.hid ((below_drewN HB2.out _).trans (hb5.mono (below_drewN HB2.out _).size)); clear h1 h2 hb5))
    go_ret
    exact ⟨rfl, HB5.out⟩
theorem names_fact6 : ∀ a, a < 3 → ∀ b, b < 3 → (parseG (str (((((⟨#[109, 111, 100, 117, 108, 101, 32, 109, 32, 123, 32, 102, 117, 110, 99, 32]⟩ : ByteArray) ++ nmB a) ++ (⟨#[40, 41, 32, 105, 110, 116, 32, 123, 32, 114, 101, 116, 117, 114, 110, 32, 109, 46]⟩ : ByteArray)) ++ nmB b) ++ (⟨#[40, 41, 59, 32, 125, 32, 125]⟩ : ByteArray)))).1 = (if a = b then 0 else 9) := by decide +kernel
set_option maxHeartbeats 8000000 in
theorem names_way6 (w : World) (i j kd a b : Nat) (ha : a < 3) (hb : b < 3) (hi : i < 256) (hj : j < 256) (hk : kd < 256) (ea : i % 3 = a) (eb : j % 3 = b) (ek : kd % 7 = 6) (hv : Vs w) (gb : GB w.heap.size) :
    Calls Tryz.prog 3 #[.int .u8 (i : Int), .int .u8 (j : Int), .int .u8 (kd : Int)] w fun e w' => e = .returned (.bool true) ∧ Below w.heap.size w w' := by
  have HAW := Lib.hid (gawake w hv gb)
  have HV := Lib.hid hv
  have HGB := Lib.hid gb
  have hfact := names_fact6 a ha b hb
  have r1 : (i : Int) % 3 = (a : Int) := by omega
  have r2 : (j : Int) % 3 = (b : Int) := by omega
  have r3 : (kd : Int) % 7 = 6 := by omega
  have t1 : (i : Int).tmod 3 = (a : Int) := by rw [Int.tmod_eq_emod_of_nonneg (by omega)]; exact r1
  have t2 : (j : Int).tmod 3 = (b : Int) := by rw [Int.tmod_eq_emod_of_nonneg (by omega)]; exact r2
  have t3 : (kd : Int).tmod 7 = 6 := by rw [Int.tmod_eq_emod_of_nonneg (by omega)]; exact r3
  have haI : (a : Int) < 3 := by omega
  have hbI : (b : Int) < 3 := by omega
  obtain ⟨x, hx⟩ : ∃ x, x = nmB a := ⟨_, rfl⟩
  obtain ⟨y, hy⟩ : ∃ y, y = nmB b := ⟨_, rfl⟩
  have hxs : x.size = 1 := by rw [hx]; rfl
  have hys : y.size = 1 := by rw [hy]; rfl
  rw [← hx, ← hy] at hfact
  obtain ⟨T1, hT1⟩ : ∃ T1, (⟨#[109, 111, 100, 117, 108, 101, 32, 109, 32, 123, 32, 102, 117, 110, 99, 32]⟩ : ByteArray) ++ x = T1 := ⟨_, rfl⟩
  have s1 : T1.size = 17 := by rw [← hT1, ba_appsize, hxs]; rfl
  obtain ⟨T2, hT2⟩ : ∃ T2, T1 ++ (⟨#[40, 41, 32, 105, 110, 116, 32, 123, 32, 114, 101, 116, 117, 114, 110, 32, 109, 46]⟩ : ByteArray) = T2 := ⟨_, rfl⟩
  have s2 : T2.size = 35 := by rw [← hT2, ba_appsize, s1]; rfl
  obtain ⟨T3, hT3⟩ : ∃ T3, T2 ++ y = T3 := ⟨_, rfl⟩
  have s3 : T3.size = 36 := by rw [← hT3, ba_appsize, s2, hys]
  obtain ⟨T4, hT4⟩ : ∃ T4, T3 ++ (⟨#[40, 41, 59, 32, 125, 32, 125]⟩ : ByteArray) = T4 := ⟨_, rfl⟩
  have s4 : T4.size = 43 := by rw [← hT4, ba_appsize, s3]; rfl
  rw [hT1, hT2, hT3, hT4] at hfact
  have z1 : ¬ 9223372036854775807 < 16 + x.size := by omega
  have z2 : ¬ 9223372036854775807 < T1.size + 18 := by omega
  have z3 : ¬ 9223372036854775807 < T2.size + y.size := by omega
  have z4 : ¬ 9223372036854775807 < T3.size + 7 := by omega
  have HP := Lib.hid (fun W (hW : Vs W) (gW : GB W.heap.size) => gparse_any W T4 (by omega) hW gW)
  have HF := Lib.hid hfact
  obtain ⟨g, hg⟩ : ∃ g, g = parseG (str T4) := ⟨_, rfl⟩
  rw [← hg] at HP HF
  have HX := Lib.hid hx
  have HY := Lib.hid hy
  have HA := Lib.hid ha
  have HB := Lib.hid hb
  clear hv gb hfact hx hy hg ha hb hi hj hk ea eb ek
  by_cases hab : a = b
  · have HR : Hid (g.1 = 0) := Lib.hid (by have := HF.out; rw [if_pos hab] at this; exact this)
    have hab2 : ((a : Int) == (b : Int)) = true := by rw [beq_iff_eq]; omega
    have hab4 : decide ((a : Int) = (b : Int)) = true := decide_eq_true (by omega)
    have hab5 : (a == b) = true := by rw [beq_iff_eq]; exact hab
    clear hab
    go_enter Tryz.func3, Tryz.ntmps3
    go_upto_region 4 with (go_at_call 6; (with_reducible refine (HAW.out).mono ?_); rintro e w1 ⟨rfl, hb1⟩; go_loud (have HB1 := Lib.hid hb1; clear hb1))
    obtain ⟨W2, hW2⟩ : ∃ W2, W2 = w1.alloc (.cells #[.string ⟨#[97]⟩, .string ⟨#[98]⟩, .string ⟨#[99]⟩] 9) := ⟨_, rfl⟩
    have hx2 : W2.heap[w1.heap.size]? = some (.cells #[.string ⟨#[97]⟩, .string ⟨#[98]⟩, .string ⟨#[99]⟩] 9 (0, 0)) := by rw [hW2]; exact Go.heap_alloc_new _ _
    have hb2 : Below w.heap.size w W2 := by rw [hW2]; exact HB1.out.alloc HB1.out.size _
    have hcell : ∀ c, c < 3 → W2.cell? ⟨w1.heap.size, c, none⟩ = some (.string (nmB c)) := fun c hc => by
      unfold World.cell?
      rw [hx2]
      rcases (show c = 0 ∨ c = 1 ∨ c = 2 by omega) with rfl | rfl | rfl <;> rfl
    have c1 := hcell a HA.out
    have c2 := hcell b HB.out
    rw [← HX.out] at c1
    rw [← HY.out] at c2
    have HB2 := Lib.hid hb2
    rw [← hW2]
    clear hW2 hx2 hb2 hcell
    go_quiet (fail)
    go_wp2_with (go_at_call 7; (with_reducible refine (HP.out _ (HV.out.on (below_drewN HB2.out _) HGB.out) ⟨Nat.lt_of_lt_of_le HGB.out.b1 (below_drewN HB2.out _).size, Nat.lt_of_lt_of_le HGB.out.b2 (below_drewN HB2.out _).size, Nat.lt_of_lt_of_le HGB.out.b3 (below_drewN HB2.out _).size, Nat.lt_of_lt_of_le HGB.out.b4 (below_drewN HB2.out _).size⟩).mono ?_); rintro e w5 ⟨h1, h2, hb5⟩; go_loud (obtain ⟨b0, ga, gm, gp, F, vs, N, _, rfl, _, _⟩ := h1 HR.out; have HB5 := Lib.hid ((below_drewN HB2.out _).trans (hb5.mono (below_drewN HB2.out _).size)); clear h1 h2 hb5))
    go_ret
    exact ⟨rfl, HB5.out⟩
  · have HR : Hid (g.1 = 9) := Lib.hid (by have := HF.out; rw [if_neg hab] at this; exact this)
    have hab2 : ((a : Int) == (b : Int)) = false := by rw [beq_eq_false_iff_ne]; omega
    have hab4 : decide ((a : Int) = (b : Int)) = false := decide_eq_false (by omega)
    have hab5 : (a == b) = false := by rw [beq_eq_false_iff_ne]; exact hab
    clear hab
    go_enter Tryz.func3, Tryz.ntmps3
    go_upto_region 4 with (go_at_call 6; (with_reducible refine (HAW.out).mono ?_); rintro e w1 ⟨rfl, hb1⟩; go_loud (have HB1 := Lib.hid hb1; clear hb1))
    obtain ⟨W2, hW2⟩ : ∃ W2, W2 = w1.alloc (.cells #[.string ⟨#[97]⟩, .string ⟨#[98]⟩, .string ⟨#[99]⟩] 9) := ⟨_, rfl⟩
    have hx2 : W2.heap[w1.heap.size]? = some (.cells #[.string ⟨#[97]⟩, .string ⟨#[98]⟩, .string ⟨#[99]⟩] 9 (0, 0)) := by rw [hW2]; exact Go.heap_alloc_new _ _
    have hb2 : Below w.heap.size w W2 := by rw [hW2]; exact HB1.out.alloc HB1.out.size _
    have hcell : ∀ c, c < 3 → W2.cell? ⟨w1.heap.size, c, none⟩ = some (.string (nmB c)) := fun c hc => by
      unfold World.cell?
      rw [hx2]
      rcases (show c = 0 ∨ c = 1 ∨ c = 2 by omega) with rfl | rfl | rfl <;> rfl
    have c1 := hcell a HA.out
    have c2 := hcell b HB.out
    rw [← HX.out] at c1
    rw [← HY.out] at c2
    have HB2 := Lib.hid hb2
    rw [← hW2]
    clear hW2 hx2 hb2 hcell
    go_quiet (fail)
    go_wp2_with (go_at_call 7; (with_reducible refine (HP.out _ (HV.out.on (below_drewN HB2.out _) HGB.out) ⟨Nat.lt_of_lt_of_le HGB.out.b1 (below_drewN HB2.out _).size, Nat.lt_of_lt_of_le HGB.out.b2 (below_drewN HB2.out _).size, Nat.lt_of_lt_of_le HGB.out.b3 (below_drewN HB2.out _).size, Nat.lt_of_lt_of_le HGB.out.b4 (below_drewN HB2.out _).size⟩).mono ?_); rintro e w5 ⟨h1, h2, hb5⟩; go_loud (obtain rfl := h2 (by rw [HR.out]; decide); rw [HR.out, show ((9 : Nat) : Int) = 9 from rfl]; have HB5 := Lib.hid ((below_drewN HB2.out _).trans (hb5.mono (below_drewN HB2.out _).size)); clear h1 h2 hb5))
    go_ret
    exact ⟨rfl, HB5.out⟩
theorem grammarNames_walk (w : World) (i j kd : Nat) (hi : i < 256) (hj : j < 256) (hk : kd < 256) (hv : Vs w) (gb : GB w.heap.size) :
    Calls Tryz.prog 3 #[.int .u8 (i : Int), .int .u8 (j : Int), .int .u8 (kd : Int)] w fun e w' => e = .returned (.bool true) ∧ Below w.heap.size w w' := by
  have ha : i % 3 < 3 := Nat.mod_lt _ (by omega)
  have hb : j % 3 < 3 := Nat.mod_lt _ (by omega)
  rcases (show kd % 7 = 0 ∨ kd % 7 = 1 ∨ kd % 7 = 2 ∨ kd % 7 = 3 ∨ kd % 7 = 4 ∨ kd % 7 = 5 ∨ kd % 7 = 6 by omega) with h | h | h | h | h | h | h
  · exact names_way0 w i j kd _ _ ha hb hi hj hk rfl rfl h hv gb
  · exact names_way1 w i j kd _ _ ha hb hi hj hk rfl rfl h hv gb
  · exact names_way2 w i j kd _ _ ha hb hi hj hk rfl rfl h hv gb
  · exact names_way3 w i j kd _ _ ha hb hi hj hk rfl rfl h hv gb
  · exact names_way4 w i j kd _ _ ha hb hi hj hk rfl rfl h hv gb
  · exact names_way5 w i j kd _ _ ha hb hi hj hk rfl rfl h hv gb
  · exact names_way6 w i j kd _ _ ha hb hi hj hk rfl rfl h hv gb
end Go.Proofs.YtecbaceinifjiaaGreatDoor
