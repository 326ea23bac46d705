/- The walk of the law DiskLimits: it answers true for every limit and text, and writes nothing that was there. -/
import Derived.Test.YtbcfjhngigkjmaaApart
import Derived.RegionTactic
import Derived.ChangeAlike
import Derived.OpenShut
namespace Go.Proofs.Ytbcfjhngigkjmaa
open Go.RowKit
set_option linter.unusedSimpArgs false
set_option linter.unusedVariables false

theorem limits_far {x y : World} {B gs : Nat} {b : DB} (ho : OnlyAt x y (fun k => k = gs ∨ k = b.gl ∨ some k = b.pv.ownBlock)) (h1 : B ≤ gs) (h2 : B ≤ b.gl) (h3 : ∀ g, b.pv.ownBlock = some g → B ≤ g) (hB : B ≤ x.heap.size) : Below B x y :=
  ho.below (fun k hk => by
    rcases hk with h | h | h
    · omega
    · omega
    · exact h3 k h.symm) hB
theorem limits_x {w6 w7 w8 : World} {gsX gsC : Nat} {bX bC : DB} {dur D : List (List Nat)} {pend : List (Nat × List Nat)} {nx bx nc bc : Int} (hX : Disk w7 gsX bX dur pend nx bx) (hC : Disk w6 gsC bC D [] nc bc)
    (ho : OnlyAt w7 w8 (fun k => k = gsC ∨ k = bC.gl ∨ some k = bC.pv.ownBlock)) (c4 : bC.pv = .slice none 0 0) (x1 : w6.heap.size ≤ gsX) (x2 : w6.heap.size ≤ bX.gd) (x3 : w6.heap.size ≤ bX.gl) (x5 : ∀ g, bX.pv.ownBlock = some g → w6.heap.size ≤ g) : Disk w8 gsX bX dur pend nx bx := by
  have a1 := hC.lt
  have a2 := (World.ownsRow.lt hC.la bC.gl rfl).2
  have n : ∀ g, w6.heap.size ≤ g → ¬ (g = gsC ∨ g = bC.gl ∨ some g = bC.pv.ownBlock) := fun g hg h => by
    rcases h with h | h | h
    · omega
    · omega
    · rw [c4] at h; cases h
  exact hX.only ho (n _ x1) (n _ x2) (n _ x3) (fun g hg => n g (x5 g hg))
set_option maxRecDepth 100000 in
set_option maxHeartbeats 4000000 in
theorem limits_core (w : World) (n m : Nat) (hn : n < 256) (hm : m < 256) (v : Value) (l0 : List Nat) (hp : Bytes w w.heap.size v l0) (hs : ∀ b ∈ l0, b < 256) :
    Calls Try.prog 7 #[.int .u8 (n : Int), .int .u8 (m : Int), v] w fun e w' => e = .returned (.bool true) ∧ Below w.heap.size w w' := by
  obtain ⟨p, hpp⟩ : ∃ p, p = full l0 := ⟨_, rfl⟩
  have hsec : IsSec p := by rw [hpp]; exact full_sec hs
  obtain ⟨D, hD⟩ : ∃ D, D = List.replicate 4 noughts := ⟨_, rfl⟩
  have hDl : D.length = 4 := by rw [hD, List.length_replicate]
  have HP := Lib.hid hpp
  have HE := Lib.hid hD
  have HS := Lib.hid hsec
  have HL := Lib.hid hDl
  have HB := Lib.hid hp
  have HA := hide (awake_true w)
  have HN0 := fun x : World => hide (new_good x 4 (by omega) (by omega))
  rw [← hD, show ((4 : Nat) : Int) = 4 from rfl] at HN0
  have hk1 : (n : Int).tmod 20 = ((n % 20 : Nat) : Int) := by rw [Int.tmod_eq_emod_of_nonneg (by omega)]; omega
  have hk2 : (m : Int).tmod 5 = ((m % 5 : Nat) : Int) := by rw [Int.tmod_eq_emod_of_nonneg (by omega)]; omega
  obtain ⟨k, hk⟩ : ∃ k, k = n % 20 := ⟨_, rfl⟩
  obtain ⟨q, hq⟩ : ∃ q, q = m % 5 := ⟨_, rfl⟩
  have hk20 : k < 20 := by omega
  have hq5 : q < 5 := by omega
  rw [← hk] at hk1
  rw [← hq] at hk2
  clear hpp hD hsec hDl hp hs hk hq
  go_enter Try.func7, Try.ntmps7
  go_wp2_with (first
    | (go_at_call 9; (with_reducible refine (unhide HA).mono ?_); rintro e w1 ⟨rfl, hb1⟩; have HN := HN0 w1)
    | (go_at_call 10; (with_reducible refine (unhide HN).mono ?_); rintro e w2 ⟨gs, b, rfl, hD2, hgs, hgd, hgl, hpv, hb2⟩;
       have hbw2 := hb1.trans (hb2.mono hb1.size);
       have HF := hide (full_any w2 v l0 (HB.out.along hbw2)); rw [← HP.out] at HF)
    | (go_at_call 17; (with_reducible refine (unhide HF).mono ?_); rintro e w3 ⟨A, n1, c, rfl, hM, hb3⟩;
       obtain rfl : n1 = 512 := hM.len.trans HS.out.1;
       have hD3 := hD2.below hb3)
    | (go_at_call 26; (with_reducible refine (limit_any hD3 _).mono ?_); rintro e w4 ⟨vv, rfl, hD4, hO4⟩))
  have hs1 := hb1.size
  have hgs := Nat.le_trans hs1 hgs
  have hgd := Nat.le_trans hs1 hgd
  have hgl := Nat.le_trans hs1 hgl
  have hM4 := hM.disk hD3 hO4 (fun k hk => .inl hk)
  have hbw3 := hbw2.trans (hb3.mono hbw2.size)
  have hbw4 := hbw3.trans (hO4.below (B := w.heap.size) (fun j hj => by rw [hj]; exact hgs) hbw3.size)
  have h0 : LimR w w2.heap.size gs k (k + 1 + q) c A p (.int .i64 ((0 : Nat) : Int)) w4 :=
    ⟨0, b, D, [], 0, by omega, rfl, hD4, HL.out, by simp, by omega, by omega, fun _ => hpv, hgd, hgl, (fun g hg => by rw [hpv] at hg; cases hg), hM4, hbw4⟩
  have H0 := Lib.hid h0
  have hgsw : w.heap.size ≤ gs := hgs
  clear HA HN0 HN HF hb1 hb2 hbw2 hD2 hM hD3 hb3 hD4 hO4 hM4 hbw3 hbw4 h0 HB hgd hgl hpv
  go_loopw [35] (fun t x => LimR w w2.heap.size gs k (k + 1 + q) c A p t x) (fun t _ => k + 1 + q - (intOf t).toNat)
  case atStart => exact H0.out
  case round =>
    obtain ⟨i, b3, dur, pend, nw, hi, rfl, hD5, h4, h5, h6, h7, h8, g1, g2, g3, hM5, hB5⟩ := hrel
    obtain ⟨r, hr⟩ : ∃ r, r = i % 3 := ⟨_, rfl⟩
    obtain ⟨j, hj⟩ : ∃ j, j = i % 4 := ⟨_, rfl⟩
    have e3 : (i : Int).tmod 3 = (r : Int) := by rw [Int.tmod_eq_emod_of_nonneg (by omega)]; omega
    have e4 : (i : Int).tmod 4 = (j : Int) := by rw [Int.tmod_eq_emod_of_nonneg (by omega)]; omega
    have hj4 : j < 4 := by omega
    have hr3 : r < 3 := by omega
    clear hr hj
    by_cases hlt : i < k + 1 + q
    · by_cases hik : i < k
      · by_cases h3 : r = 2
        · subst h3
          have HS2 := hide (sync_good hD5 (by omega) (by omega))
          have HR := hide (fun x' (a1 : _) (a2 : _) => limR_sync (x' := x') (N := k + 1 + q) hik hlt hD5 h4 h6 h7 hgsw g1 g2 hM5 hB5 a1 a2)
          clear hD5 hM5 hB5 g1 g2 g3 h8 h7 h6 h5 h4
          go_wp2_with (go_at_call 19; (with_reducible refine (unhide HS2).mono ?_); rintro e w6 ⟨rfl, k1, k2⟩)
          go_roundw
          case rel => exact unhide HR _ k1 k2
          case measure => simp [intOf]; omega
        · have h3a : ((r : Int) == 2) = false := by rw [beq_eq_false_iff_ne]; omega
          have h3b : ¬ (r : Int) = 2 := by omega
          have HW := hide (write_good hD5 (by omega) (by omega) ⟨h6, by omega⟩ (by omega) j (by omega) A c p hM5.bytes HS.out)
          have HR := hide (fun x' b2 (a1 : _) a2 a3 a4 (a5 : _) => limR_write (x' := x') (b2 := b2) (j := j) (N := k + 1 + q) hik hlt hD5 h4 h5 h6 h7 hgsw g1 g2 g3 hM5 hB5 a1 a2 a3 a4 a5)
          clear hD5 hM5 hB5 g1 g2 g3 h8 h7 h6 h5 h4
          go_wp2_with (go_at_call 18; (with_reducible refine (unhide HW).mono ?_); rintro e w6 ⟨rfl, b2, k1, k2, k3, k4, k5, k6, k7⟩)
          go_roundw
          case rel => exact unhide HR _ _ k1 k2 k4 k6 k7
          case measure => simp [intOf]; omega
      · have hz : k - i = 0 := by omega
        rw [hz] at hD5
        have hD6 : Disk wr gs b3 dur pend nw 0 := hD5
        have HR : Hid (LimR w w2.heap.size gs k (k + 1 + q) c A p (.int .i64 ((i + 1 : Nat) : Int)) wr) := limR_off ⟨i, b3, dur, pend, nw, hi, rfl, by rw [hz]; exact hD6, h4, h5, h6, h7, h8, g1, g2, g3, hM5, hB5⟩ hlt (by omega)
        by_cases h3 : r = 2
        · subst h3
          have HS2 := hide (sync_off hD6)
          clear hD5 hD6 hM5 hB5 g1 g2 g3 h8 h7 h6 h5 h4
          go_wp2_with (go_at_call 19; (with_reducible refine (unhide HS2).mono ?_); rintro e w6 ⟨rfl, rfl⟩)
          go_roundw
          case rel => exact HR.out
          case measure => simp [intOf]; omega
        · have h3a : ((r : Int) == 2) = false := by rw [beq_eq_false_iff_ne]; omega
          have h3b : ¬ (r : Int) = 2 := by omega
          have HW := hide (write_off hD6 j (by omega) A c)
          clear hD5 hD6 hM5 hB5 g1 g2 g3 h8 h7 h6 h5 h4
          go_wp2_with (go_at_call 18; (with_reducible refine (unhide HW).mono ?_); rintro e w6 ⟨rfl, rfl⟩)
          go_roundw
          case rel => exact HR.out
          case measure => simp [intOf]; omega
    · have hz : k - i = 0 := by omega
      rw [hz] at hD5
      have hD6 : Disk wr gs b3 dur pend nw 0 := hD5
      have HC := hide (crash_any hD6 (.slice none 0 0) [] (flags_none _))
      have H8 := Lib.hid h8
      have nn : (9 : Int) ≥ ((dur.length : Nat) : Int) := by omega
      clear hD5 h8 e3 e4
      go_wp2_with (first
        | (go_at_call 20; (with_reducible refine (unhide HC).mono ?_); rintro e w6 ⟨gsC, bC, rfl, hC6, c1, c2, c3, c4, hb6⟩; go_loud (
           have hC6' : Disk w6 gsC bC dur [] 0 (-1) := hC6;
           have hX := hide (copy_any (hD6.below hb6) H8.out)))
        | (go_at_call 16; (with_reducible refine (unhide hX).mono ?_); rintro e w7 ⟨gsX, bX, rfl, hX7, x1, x2, x3, x4, x5, hb7⟩; go_loud (
           have hb67 := hb6.trans (hb7.mono hb6.size);
           have hM7 := hM5.below hb67;
           have hC7 := hC6'.below hb7;
           have hD7 := hD6.below hb67;
           have hWC := hide (write_good hC7 (by decide) (by decide) (by decide) (by simp) 0 (by omega) A c p hM7.bytes HS.out);
           rw [show ((0 : Nat) : Int) = 0 from rfl] at hWC))
        | (go_at_call 18; (with_reducible refine (unhide hWC).mono ?_); rintro e w8 ⟨rfl, b8, hC8, k81, k82, k83, k84, k85, hO8⟩; go_loud (
           have hM8 := hM7.disk hC7 hO8 (fun k hk => hk.imp_right fun h => .inr h);
           have far8 := limits_far (B := wr.heap.size) hO8 c1 c3 (fun g hg => by rw [c4] at hg; cases hg) hb67.size;
           have hX8 := limits_x hX7 hC6' hO8 c4 x1 x2 x3 x5;
           have hb8 := hb67.trans far8;
           have hWX := hide (write_good hX8 (by decide) (by decide) (by decide) (by omega) 0 (by omega) A c p hM8.bytes HS.out);
           rw [show ((0 : Nat) : Int) = 0 from rfl] at hWX))
        | (go_at_call 18; (with_reducible refine (unhide hWX).mono ?_); rintro e w9 ⟨rfl, b9, hX9, k91, k92, k93, k94, k95, hO9⟩; go_loud (
           have hM9 := hM8.disk hX8 hO9 (fun k hk => hk.imp_right fun h => .inr h);
           have far9 := limits_far (B := wr.heap.size) hO9 (Nat.le_trans hb6.size x1) (Nat.le_trans hb6.size x3) (fun g hg => Nat.le_trans hb6.size (x5 g hg)) hb8.size;
           have hb9 := hb8.trans far9;
           have hD9 := hD6.below hb9;
           have hWD := hide (write_off hD9 0 (by omega) A c);
           have hWI := hide (write_index hD9 9 (.inr nn) A c);
           have hWA := hide (write_arg (w := w9) gs 0 none 0 0 (by decide));
           have hLi := hide (limit_any hD9 (-1));
           rw [show ((0 : Nat) : Int) = 0 from rfl] at hWD))
        | (go_at_call 18; (with_reducible refine (unhide hWD).mono ?_); rintro e w' ⟨rfl, rfl⟩)
        | (go_at_call 18; (with_reducible refine (unhide hWI).mono ?_); rintro e w' ⟨rfl, rfl⟩)
        | (go_at_call 18; (with_reducible refine (unhide hWA).mono ?_); rintro e w' ⟨rfl, rfl⟩)
        | (go_at_call 26; (with_reducible refine (unhide hLi).mono ?_); rintro e w10 ⟨v10, rfl, hD10, hO10⟩; go_loud (
           have hM10 := hM9.disk hD9 hO10 (fun k h => .inl h);
           have hWF := hide (write_good hD10 (by decide) (by decide) ⟨h6, by omega⟩ (by omega) 0 (by omega) A c p hM10.bytes HS.out);
           rw [show ((0 : Nat) : Int) = 0 from rfl] at hWF))
        | (go_at_call 18; (with_reducible refine (unhide hWF).mono ?_); rintro e w11 ⟨rfl, b11, hD11, y1, y2, y3, y4, y5, hO11⟩; go_loud (
           have hD11' : Disk w11 gs b11 dur (pend ++ [(0, p)]) (nw + 1) (-1) := hD11;
           have hSF := hide (sync_good hD11' (by decide) (by decide))))
        | (go_at_call 19; (with_reducible refine (unhide hSF).mono ?_); rintro e w12 ⟨rfl, hD12, hO12⟩))
      go_ret
      have z9 := hB5.trans (hb9.mono hB5.size)
      have z10 := z9.trans (hO10.below (B := w.heap.size) (fun j hj => by rw [hj]; exact hgsw) z9.size)
      have z11 := z10.trans (limits_far hO11 hgsw g2 g3 z10.size)
      have z12 := z11.trans (hO12.below (B := w.heap.size) (fun j hj => by
        rcases hj with h | h | h
        · rw [h]; exact hgsw
        · rw [h, y1]; exact g1
        · rw [h, y3]; exact g2) z11.size)
      exact ⟨rfl, z12⟩
theorem diskLimits_walk (a0 a1 : Int) (a2 : Option Addr) (len2 cap2 : Nat) (z2 : List Int) (w : World) (w0 : (Lit.int .u8 a0).wf = true) (w1 : (Lit.int .u8 a1).wf = true)
    (w2 : (a2 = none ∧ len2 = 0 ∧ cap2 = 0 ∧ z2 = []) ∨ ∃ x, a2 = some x ∧ len2 ≤ cap2 ∧ cap2 ≤ maxLen ∧ z2.length = cap2 ∧ (∀ i, i < z2.length → w.cell? (x.add i) = some (.int .u8 (z2.getD i 0))) ∧ ∀ n ∈ z2, (Lit.int .u8 n).wf = true) :
    Calls Try.prog 7 #[.int .u8 a0, .int .u8 a1, .slice a2 len2 cap2] w fun e w' => e = .returned (.bool true) ∧ Below w.heap.size w w' := by
  obtain ⟨l0, hp0, -⟩ := bytes_of_row w2
  have b0 := bounds_u8 w0
  have b1 := bounds_u8 w1
  obtain ⟨n, rfl⟩ := Int.eq_ofNat_of_zero_le b0.1
  obtain ⟨m, rfl⟩ := Int.eq_ofNat_of_zero_le b1.1
  obtain ⟨_, hs, _⟩ := id hp0
  exact limits_core w n m (by omega) (by omega) _ l0 hp0 hs
end Go.Proofs.Ytbcfjhngigkjmaa
