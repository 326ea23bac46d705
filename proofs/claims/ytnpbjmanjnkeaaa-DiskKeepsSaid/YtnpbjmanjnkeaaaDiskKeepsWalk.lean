/- The walk of the law DiskKeeps: it answers true for every two texts and places, and writes nothing that was there. -/
import Derived.Test.YtnpbjmanjnkeaaaWait
import Derived.Test.YtnpbjmanjnkeaaaSame
import Derived.RegionTactic
import Derived.ChangeAlike
import Derived.OpenShut
namespace Go.Proofs.Ytnpbjmanjnkeaaa
open Go.RowKit
set_option linter.unusedSimpArgs false
set_option linter.unusedVariables false

theorem less_many : less (-1) = -1 := rfl
theorem keeps_far {x y : World} {B gs : Nat} {b : DB} (ho : OnlyAt x y (fun k => k = gs ∨ k = b.gl ∨ some k = b.pv.ownBlock)) (h1 : B ≤ gs) (h2 : B ≤ b.gl) (h3 : ∀ g, b.pv.ownBlock = some g → B ≤ g) (hB : B ≤ x.heap.size) : Below B x y :=
  ho.below (fun k hk => by
    rcases hk with h | h | h
    · omega
    · omega
    · exact h3 k h.symm) hB
theorem below_of_alloc {w w' : World} {o : Obj} (h : Below (w.alloc o).heap.size (w.alloc o) w') : Below w.heap.size w w' :=
  ((Below.refl w.heap.size w).alloc (Nat.le_refl _) o).trans (h.mono (by simp))
theorem waiting_len {w : World} {gs : Nat} {b : DB} {dur : List (List Nat)} {pend : List (Nat × List Nat)} {nw bud : Int} (h : Disk w gs b dur pend nw bud) (n : Nat) (hn : pend.length = n) :
    Calls Try.prog 23 #[.pointer (some ⟨gs, 0, none⟩)] w fun e w' => ∃ g c, e = .returned (.slice (some ⟨g, 0, none⟩) n c) ∧ Below w.heap.size w w' :=
  (waiting_any h).mono fun e w' hh => by
    obtain ⟨g, c, h1, _, h3⟩ := hh
    rw [hn] at h1
    exact ⟨g, c, h1, h3⟩
theorem mine_noughts (w : World) : Mine (w.alloc (.cells (byt noughts).toArray 5)) w.heap.size (some ⟨w.heap.size, 0, none⟩) 512 512 noughts := by
  have hl : (byt noughts).length = 512 := by rw [byt_length, noughts_length]
  refine ⟨⟨by rw [hl], .inr ⟨w.heap.size, 512, (byt noughts).toArray, rfl, Nat.le_refl _, Go.heap_alloc_new w _, Nat.le_refl _, ?_, ?_, ?_⟩⟩, noughts_length.symm, noughts_small⟩
  all_goals first
    | (rw [List.size_toArray, hl])
    | (rw [List.take_of_length_le (by rw [hl]; omega)])
    | (simp [hl]; done)
    | (exact fun v hv => one_byt noughts v (by simpa using hv))
    | (unfold maxLen; omega)
/-- What the disk behind the crash shows of both sectors. -/
theorem keeps_ways (keep : Bool) (a c : Nat) (ha : a < 8) (hc : c < 8) (p q : List Nat) (D : List (List Nat)) (hD : D.length = 8) (hn : ∀ i, i < 8 → D[i]? = some noughts) :
    ∃ s1 s2, (kept [keep] [(c, q)] (D.set a p))[a]? = some s1 ∧ (kept [keep] [(c, q)] (D.set a p))[c]? = some s2 ∧
      ((true = keep ∧ (((a : Int) == (c : Int)) = true ∧ (a : Int) = (c : Int)) ∧ q = s1 ∧ q = s2) ∨ (true = keep ∧ (((a : Int) == (c : Int)) = false ∧ ¬ (a : Int) = (c : Int)) ∧ p = s1 ∧ q = s2) ∨
       (false = keep ∧ (((a : Int) == (c : Int)) = true ∧ (a : Int) = (c : Int)) ∧ p = s1 ∧ p = s2) ∨ (false = keep ∧ (((a : Int) == (c : Int)) = false ∧ ¬ (a : Int) = (c : Int)) ∧ p = s1 ∧ noughts = s2)) := by
  have h1 : kept [true] [(c, q)] (D.set a p) = (D.set a p).set c q := rfl
  have h2 : kept [false] [(c, q)] (D.set a p) = D.set a p := rfl
  by_cases hac : a = c
  · subst hac
    have hb : (((a : Int) == (a : Int)) = true ∧ (a : Int) = (a : Int)) := by simp
    cases keep
    · refine ⟨p, p, ?_, ?_, .inr (.inr (.inl ⟨rfl, hb, rfl, rfl⟩))⟩ <;> rw [h2, List.getElem?_set_self (by omega)]
    · refine ⟨q, q, ?_, ?_, .inl ⟨rfl, hb, rfl, rfl⟩⟩ <;> rw [h1, List.getElem?_set_self (by rw [List.length_set]; omega)]
  · have hb : (((a : Int) == (c : Int)) = false ∧ ¬ (a : Int) = (c : Int)) := ⟨by rw [beq_eq_false_iff_ne]; omega, by omega⟩
    cases keep
    · refine ⟨p, noughts, ?_, ?_, .inr (.inr (.inr ⟨rfl, hb, rfl, rfl⟩))⟩
      · rw [h2, List.getElem?_set_self (by omega)]
      · rw [h2, List.getElem?_set_ne hac, hn c hc]
    · refine ⟨p, q, ?_, ?_, .inr (.inl ⟨rfl, hb, rfl, rfl⟩)⟩
      · rw [h1, List.getElem?_set_ne (fun h => hac h.symm), List.getElem?_set_self (by omega)]
      · rw [h1, List.getElem?_set_self (by rw [List.length_set]; omega)]
set_option maxRecDepth 100000 in
set_option maxHeartbeats 4000000 in
theorem keeps_core (w : World) (n m : Nat) (hn : n < 256) (hm : m < 256) (keep : Bool) (v1 v2 : Value) (l1 l2 : List Nat) (hp1 : Bytes w w.heap.size v1 l1) (hp2 : Bytes w w.heap.size v2 l2) (hs1 : ∀ b ∈ l1, b < 256) (hs2 : ∀ b ∈ l2, b < 256) :
    Calls Try.prog 4 #[v1, v2, .int .u8 (n : Int), .int .u8 (m : Int), .bool keep] w fun e w' => e = .returned (.bool true) ∧ Below w.heap.size w w' := by
  obtain ⟨p, hpp⟩ : ∃ p, p = full l1 := ⟨_, rfl⟩
  obtain ⟨q, hqq⟩ : ∃ q, q = full l2 := ⟨_, rfl⟩
  have hsp : IsSec p := by rw [hpp]; exact full_sec hs1
  have hsq : IsSec q := by rw [hqq]; exact full_sec hs2
  obtain ⟨D, hD⟩ : ∃ D, D = List.replicate 8 noughts := ⟨_, rfl⟩
  have hDl : D.length = 8 := by rw [hD, List.length_replicate]
  have hDn : ∀ i, i < 8 → D[i]? = some noughts := fun i hi => by rw [hD, List.getElem?_replicate, if_pos hi]
  have HPP := Lib.hid hpp
  have HQQ := Lib.hid hqq
  have HP := Lib.hid hsp
  have HQ := Lib.hid hsq
  have HL := Lib.hid hDl
  have HDn := Lib.hid hDn
  have HB1 := Lib.hid hp1
  have HB2 := Lib.hid hp2
  have HA := hide (awake_true w)
  have HN0 := fun x : World => hide (new_good x 8 (by omega) (by omega))
  rw [← hD, show ((8 : Nat) : Int) = 8 from rfl] at HN0
  have ha1 : (n : Int).tmod 8 = ((n % 8 : Nat) : Int) := by rw [Int.tmod_eq_emod_of_nonneg (by omega)]; omega
  have hb1 : (m : Int).tmod 8 = ((m % 8 : Nat) : Int) := by rw [Int.tmod_eq_emod_of_nonneg (by omega)]; omega
  obtain ⟨a, ha⟩ : ∃ a, a = n % 8 := ⟨_, rfl⟩
  obtain ⟨c, hc⟩ : ∃ c, c = m % 8 := ⟨_, rfl⟩
  have ha8 : a < 8 := by omega
  have hc8 : c < 8 := by omega
  rw [← ha] at ha1
  rw [← hc] at hb1
  obtain ⟨s1, s2, hE1, hE2, hways⟩ := keeps_ways keep a c ha8 hc8 p q D hDl hDn
  have hE3 : (applied [(c, q)] (D.set a p))[c]? = some q := by
    show ((D.set a p).set c q)[c]? = some q
    rw [List.getElem?_set_self (by rw [List.length_set]; omega)]
  have HE1 := Lib.hid hE1
  have HE2 := Lib.hid hE2
  have HE3 := Lib.hid hE3
  have hmk : ∀ w : World, (Instr.makeSlice 30 (.int .i64 512) (.int .i64 512)).run Try.prog w = .ok (.slice (some ⟨w.heap.size, 0, none⟩) 512 512) (w.alloc (.cells (byt noughts).toArray 5)) := run_make512
  have HZ := Lib.hid mine_noughts
  obtain ⟨Z, hZ⟩ : ∃ Z, Z = byt noughts := ⟨_, rfl⟩
  rw [← hZ] at hmk HZ
  clear hpp hqq hsp hsq hD hDl hDn hp1 hp2 hs1 hs2 ha hc hE1 hE2 hE3 hZ
  rcases hways with ⟨rfl, ⟨hk1, hk2⟩, rfl, rfl⟩ | ⟨rfl, ⟨hk1, hk2⟩, rfl, rfl⟩ | ⟨rfl, ⟨hk1, hk2⟩, rfl, rfl⟩ | ⟨rfl, ⟨hk1, hk2⟩, rfl, rfl⟩
  · have hca : a = c := by omega
    subst hca
    clear hk1 hk2
    go_enter Try.func4, Try.ntmps4
    go_wp2_with (first
      | (go_at_call 9; (with_reducible refine (unhide HA).mono ?_); rintro e w1 ⟨rfl, hw1⟩; have HN := HN0 w1)
      | (go_at_call 10; (with_reducible refine (unhide HN).mono ?_); rintro e w2 ⟨gs, b, rfl, hD2, hgs, hgd, hgl, hpv, hw2⟩; go_loud (
         have hbw2 := hw1.trans (hw2.mono hw1.size);
         have HF1 := hide (full_any w2 v1 l1 (HB1.out.along hbw2)); rw [← HPP.out] at HF1))
      | (go_at_call 17; (with_reducible refine (unhide HF1).mono ?_); rintro e w3 ⟨A1, n1, c1, rfl, hM3, hw3⟩; go_loud (
         obtain rfl : n1 = 512 := hM3.len.trans HP.out.1;
         have hbw3 := hbw2.trans (hw3.mono hbw2.size);
         have HF2 := hide (full_any w3 v2 l2 (HB2.out.along hbw3)); rw [← HQQ.out] at HF2))
      | (go_at_call 17; (with_reducible refine (unhide HF2).mono ?_); rintro e w4 ⟨A2, n2, c2, rfl, hN4, hw4⟩; go_loud (
         obtain rfl : n2 = 512 := hN4.len.trans HQ.out.1;
         have hM4 := hM3.below hw4;
         have hD4 := (hD2.below hw3).below hw4;
         have hbw4 := hbw3.trans (hw4.mono hbw3.size);
         have HW1 := hide (write_good hD4 (by decide) (by decide) (by decide) (by simp) a (by rw [HL.out]; exact ha8) A1 c1 p hM4.bytes HP.out)))
      | (go_at_call 18; (with_reducible refine (unhide HW1).mono ?_); rintro e w5 ⟨rfl, b5, hD5, i1, i2, i3, i4, i5, hO5⟩; go_loud (
         have hD5' : Disk w5 gs b5 D [(a, p)] 1 (-1) := hD5;
         have hM5 := hM4.disk hD4 hO5 (fun k hk => hk.imp_right fun h => .inr h);
         have hN5 := hN4.disk hD4 hO5 (fun k hk => hk.imp_right fun h => .inr h);
         have HSy := hide (sync_good hD5' (by decide) (by decide))))
      | (go_at_call 19; (with_reducible refine (unhide HSy).mono ?_); rintro e w6 ⟨rfl, hD6, hO6⟩; go_loud (
         have hD6' : Disk w6 gs ⟨b5.gd, b5.cd, b5.gl, b5.cl, .slice none 0 0⟩ (D.set a p) [] 1 (-1) := hD6;
         have hM6 := hM5.disk hD5' hO6 (fun k hk => hk.imp_right fun h => h.imp_right fun h => .inl h);
         have hN6 := hN5.disk hD5' hO6 (fun k hk => hk.imp_right fun h => h.imp_right fun h => .inl h);
         have HW2 := hide (write_good hD6' (by decide) (by decide) (by decide) (by simp) a (by rw [List.length_set, HL.out]; exact ha8) A2 c2 q hN6.bytes HQ.out)))
      | (go_at_call 18; (with_reducible refine (unhide HW2).mono ?_); rintro e w7 ⟨rfl, b7, hD7, j1, j2, j3, j4, j5, hO7⟩; go_loud (
         have hD7' : Disk w7 gs b7 (D.set a p) [(a, q)] 2 (-1) := hD7;
         have hM7 := hM6.disk hD6' hO7 (fun k hk => hk.imp_right fun h => .inr h);
         have hN7 := hN6.disk hD6' hO7 (fun k hk => hk.imp_right fun h => .inr h);
         have HC := fun kp : Bool => hide (crash_any (hD7'.below ((Below.refl _ _).alloc (Nat.le_refl _) (.cells #[.bool kp] 4))) (.slice (some ⟨w7.heap.size, 0, none⟩) 1 1) [kp] (flags_block (Go.heap_alloc_new w7 _) (by simp) rfl))))
      | (go_at_call 20; (with_reducible refine (unhide (HC _)).mono ?_); rintro e w8 ⟨gsC, bC, rfl, hC8, c1, c2, c3, c4, hb8⟩; go_loud (
         have hb78 := below_of_alloc hb8;
         have hR1 := hide (read_any hC8 a (by rw [kept_length, List.length_set, HL.out]; exact ha8) _ HE1.out)))
      | (go_at_call 21; (with_reducible refine (unhide hR1).mono ?_); rintro e w9 ⟨g9, rfl, hM9, hb9⟩; go_loud (
         have hb79 := hb78.trans (hb9.mono hb78.size);
         have hC9 := hC8.below hb9;
         have hR2 := hide (read_any hC9 a (by rw [kept_length, List.length_set, HL.out]; exact ha8) _ HE2.out)))
      | (go_at_call 21; (with_reducible refine (unhide hR2).mono ?_); rintro e w10 ⟨g10, rfl, hM10, hb10⟩; go_loud (
         have hb710 := hb79.trans (hb10.mono hb79.size);
         have hC10 := hC9.below hb10;
         have hD10 := hD7'.below hb710;
         have hR3 := hide (read_any hD10 a (by rw [List.length_set, HL.out]; exact ha8) _ HE3.out)))
      | (go_at_call 21; (with_reducible refine (unhide hR3).mono ?_); rintro e w11 ⟨g11, rfl, hM11, hb11⟩; go_loud (
         have hbz := (Below.refl w11.heap.size w11).alloc (Nat.le_refl _) (.cells Z.toArray 5);
         have hb7z := (hb710.trans (hb11.mono hb710.size)).trans (hbz.mono (Nat.le_trans hb710.size hb11.size));
         have hCz := (hC10.below hb11).below hbz;
         have hDz := hD7'.below hb7z;
         have b9 := (((hM9.below hb10).below hb11).below hbz).bytes;
         have b10 := ((hM10.below hb11).below hbz).bytes;
         have b11 := (hM11.below hbz).bytes;
         have bp := (hM7.below hb7z).bytes;
         have bq := (hN7.below hb7z).bytes;
         have bz := (HZ.out w11).bytes;
         have HS1 := hide (same_any _ _ _ _ _ b9 bp);
         have HS1' := hide (same_any _ _ _ _ _ b9 bq);
         try rw [decide_eq_true rfl] at HS1; 
         try rw [decide_eq_true rfl] at HS1'))
      | (go_at_call 22; (first | (with_reducible refine (unhide HS1).mono ?_) | (with_reducible refine (unhide HS1').mono ?_)); rintro e wS1 ⟨rfl, nq1, rfl⟩; go_loud (
         have HS2 := hide (same_any _ _ _ _ _ (b10.quiet nq1) (bp.quiet nq1));
         have HS2' := hide (same_any _ _ _ _ _ (b10.quiet nq1) (bq.quiet nq1));
         have HS2'' := hide (same_any _ _ _ _ _ (b10.quiet nq1) (bz.quiet nq1))))
      | (go_at_call 22; (first | (with_reducible refine (unhide HS2).mono ?_) | (with_reducible refine (unhide HS2').mono ?_) | (with_reducible refine (unhide HS2'').mono ?_)); rintro e wS2 ⟨rfl, nq2, rfl⟩; go_loud (
         have HS3 := hide (same_any _ _ _ _ _ (b11.quiet (nq1 + nq2)) (bq.quiet (nq1 + nq2)))))
      | (go_at_call 22; (with_reducible refine (unhide HS3).mono ?_); rintro e wS3 ⟨rfl, nq3, rfl⟩; go_loud (
         have hC13 := hCz.below (below_drewN (Below.refl _ _) (nq1 + nq2 + nq3));
         have HW1 := hide (waiting_len hC13 0 rfl)))
      | (go_at_call 23; (with_reducible refine (unhide HW1).mono ?_); rintro e w14 ⟨g14, c14, rfl, hb14⟩; go_loud (
         have hb714 := (below_drewN hb7z (nq1 + nq2 + nq3)).trans (hb14.mono hb7z.size);
         have hD14 := hD7'.below hb714;
         have HW2 := hide (waiting_len hD14 1 rfl)))
      | (go_at_call 23; (with_reducible refine (unhide HW2).mono ?_); rintro e w15 ⟨g15, c15, rfl, hb15⟩))
    go_ret
    have hs1 := hw1.size
    have hgs := Nat.le_trans hs1 hgs
    have hgd := Nat.le_trans hs1 hgd
    have hgl := Nat.le_trans hs1 hgl
    have z5 := hbw4.trans (keeps_far hO5 hgs hgl (fun g hg => by rw [hpv] at hg; cases hg) hbw4.size)
    have z6 := z5.trans (hO6.below (B := w.heap.size) (fun k hk => by
      rcases hk with h | h | h
      · rw [h]; exact hgs
      · rw [h, i1]; exact hgd
      · rw [h, i3]; exact hgl) z5.size)
    have z7 := z6.trans (keeps_far (b := ⟨b5.gd, b5.cd, b5.gl, b5.cl, .slice none 0 0⟩) hO7 hgs (by show w.heap.size ≤ b5.gl; rw [i3]; exact hgl) (fun g hg => by cases hg) z6.size)
    have z14 := z7.trans (hb714.mono z7.size)
    exact ⟨rfl, z14.trans (hb15.mono z14.size)⟩
  · go_enter Try.func4, Try.ntmps4
    go_wp2_with (first
      | (go_at_call 9; (with_reducible refine (unhide HA).mono ?_); rintro e w1 ⟨rfl, hw1⟩; have HN := HN0 w1)
      | (go_at_call 10; (with_reducible refine (unhide HN).mono ?_); rintro e w2 ⟨gs, b, rfl, hD2, hgs, hgd, hgl, hpv, hw2⟩; go_loud (
         have hbw2 := hw1.trans (hw2.mono hw1.size);
         have HF1 := hide (full_any w2 v1 l1 (HB1.out.along hbw2)); rw [← HPP.out] at HF1))
      | (go_at_call 17; (with_reducible refine (unhide HF1).mono ?_); rintro e w3 ⟨A1, n1, c1, rfl, hM3, hw3⟩; go_loud (
         obtain rfl : n1 = 512 := hM3.len.trans HP.out.1;
         have hbw3 := hbw2.trans (hw3.mono hbw2.size);
         have HF2 := hide (full_any w3 v2 l2 (HB2.out.along hbw3)); rw [← HQQ.out] at HF2))
      | (go_at_call 17; (with_reducible refine (unhide HF2).mono ?_); rintro e w4 ⟨A2, n2, c2, rfl, hN4, hw4⟩; go_loud (
         obtain rfl : n2 = 512 := hN4.len.trans HQ.out.1;
         have hM4 := hM3.below hw4;
         have hD4 := (hD2.below hw3).below hw4;
         have hbw4 := hbw3.trans (hw4.mono hbw3.size);
         have HW1 := hide (write_good hD4 (by decide) (by decide) (by decide) (by simp) a (by rw [HL.out]; exact ha8) A1 c1 p hM4.bytes HP.out)))
      | (go_at_call 18; (with_reducible refine (unhide HW1).mono ?_); rintro e w5 ⟨rfl, b5, hD5, i1, i2, i3, i4, i5, hO5⟩; go_loud (
         have hD5' : Disk w5 gs b5 D [(a, p)] 1 (-1) := hD5;
         have hM5 := hM4.disk hD4 hO5 (fun k hk => hk.imp_right fun h => .inr h);
         have hN5 := hN4.disk hD4 hO5 (fun k hk => hk.imp_right fun h => .inr h);
         have HSy := hide (sync_good hD5' (by decide) (by decide))))
      | (go_at_call 19; (with_reducible refine (unhide HSy).mono ?_); rintro e w6 ⟨rfl, hD6, hO6⟩; go_loud (
         have hD6' : Disk w6 gs ⟨b5.gd, b5.cd, b5.gl, b5.cl, .slice none 0 0⟩ (D.set a p) [] 1 (-1) := hD6;
         have hM6 := hM5.disk hD5' hO6 (fun k hk => hk.imp_right fun h => h.imp_right fun h => .inl h);
         have hN6 := hN5.disk hD5' hO6 (fun k hk => hk.imp_right fun h => h.imp_right fun h => .inl h);
         have HW2 := hide (write_good hD6' (by decide) (by decide) (by decide) (by simp) c (by rw [List.length_set, HL.out]; exact hc8) A2 c2 q hN6.bytes HQ.out)))
      | (go_at_call 18; (with_reducible refine (unhide HW2).mono ?_); rintro e w7 ⟨rfl, b7, hD7, j1, j2, j3, j4, j5, hO7⟩; go_loud (
         have hD7' : Disk w7 gs b7 (D.set a p) [(c, q)] 2 (-1) := hD7;
         have hM7 := hM6.disk hD6' hO7 (fun k hk => hk.imp_right fun h => .inr h);
         have hN7 := hN6.disk hD6' hO7 (fun k hk => hk.imp_right fun h => .inr h);
         have HC := fun kp : Bool => hide (crash_any (hD7'.below ((Below.refl _ _).alloc (Nat.le_refl _) (.cells #[.bool kp] 4))) (.slice (some ⟨w7.heap.size, 0, none⟩) 1 1) [kp] (flags_block (Go.heap_alloc_new w7 _) (by simp) rfl))))
      | (go_at_call 20; (with_reducible refine (unhide (HC _)).mono ?_); rintro e w8 ⟨gsC, bC, rfl, hC8, c1, c2, c3, c4, hb8⟩; go_loud (
         have hb78 := below_of_alloc hb8;
         have hR1 := hide (read_any hC8 a (by rw [kept_length, List.length_set, HL.out]; exact ha8) _ HE1.out)))
      | (go_at_call 21; (with_reducible refine (unhide hR1).mono ?_); rintro e w9 ⟨g9, rfl, hM9, hb9⟩; go_loud (
         have hb79 := hb78.trans (hb9.mono hb78.size);
         have hC9 := hC8.below hb9;
         have hR2 := hide (read_any hC9 c (by rw [kept_length, List.length_set, HL.out]; exact hc8) _ HE2.out)))
      | (go_at_call 21; (with_reducible refine (unhide hR2).mono ?_); rintro e w10 ⟨g10, rfl, hM10, hb10⟩; go_loud (
         have hb710 := hb79.trans (hb10.mono hb79.size);
         have hC10 := hC9.below hb10;
         have hD10 := hD7'.below hb710;
         have hR3 := hide (read_any hD10 c (by rw [List.length_set, HL.out]; exact hc8) _ HE3.out)))
      | (go_at_call 21; (with_reducible refine (unhide hR3).mono ?_); rintro e w11 ⟨g11, rfl, hM11, hb11⟩; go_loud (
         have hbz := (Below.refl w11.heap.size w11).alloc (Nat.le_refl _) (.cells Z.toArray 5);
         have hb7z := (hb710.trans (hb11.mono hb710.size)).trans (hbz.mono (Nat.le_trans hb710.size hb11.size));
         have hCz := (hC10.below hb11).below hbz;
         have hDz := hD7'.below hb7z;
         have b9 := (((hM9.below hb10).below hb11).below hbz).bytes;
         have b10 := ((hM10.below hb11).below hbz).bytes;
         have b11 := (hM11.below hbz).bytes;
         have bp := (hM7.below hb7z).bytes;
         have bq := (hN7.below hb7z).bytes;
         have bz := (HZ.out w11).bytes;
         have HS1 := hide (same_any _ _ _ _ _ b9 bp);
         have HS1' := hide (same_any _ _ _ _ _ b9 bq);
         try rw [decide_eq_true rfl] at HS1; 
         try rw [decide_eq_true rfl] at HS1'))
      | (go_at_call 22; (first | (with_reducible refine (unhide HS1).mono ?_) | (with_reducible refine (unhide HS1').mono ?_)); rintro e wS1 ⟨rfl, nq1, rfl⟩; go_loud (
         have HS2 := hide (same_any _ _ _ _ _ (b10.quiet nq1) (bp.quiet nq1));
         have HS2' := hide (same_any _ _ _ _ _ (b10.quiet nq1) (bq.quiet nq1));
         have HS2'' := hide (same_any _ _ _ _ _ (b10.quiet nq1) (bz.quiet nq1))))
      | (go_at_call 22; (first | (with_reducible refine (unhide HS2).mono ?_) | (with_reducible refine (unhide HS2').mono ?_) | (with_reducible refine (unhide HS2'').mono ?_)); rintro e wS2 ⟨rfl, nq2, rfl⟩; go_loud (
         have HS3 := hide (same_any _ _ _ _ _ (b11.quiet (nq1 + nq2)) (bq.quiet (nq1 + nq2)))))
      | (go_at_call 22; (with_reducible refine (unhide HS3).mono ?_); rintro e wS3 ⟨rfl, nq3, rfl⟩; go_loud (
         have hC13 := hCz.below (below_drewN (Below.refl _ _) (nq1 + nq2 + nq3));
         have HW1 := hide (waiting_len hC13 0 rfl)))
      | (go_at_call 23; (with_reducible refine (unhide HW1).mono ?_); rintro e w14 ⟨g14, c14, rfl, hb14⟩; go_loud (
         have hb714 := (below_drewN hb7z (nq1 + nq2 + nq3)).trans (hb14.mono hb7z.size);
         have hD14 := hD7'.below hb714;
         have HW2 := hide (waiting_len hD14 1 rfl)))
      | (go_at_call 23; (with_reducible refine (unhide HW2).mono ?_); rintro e w15 ⟨g15, c15, rfl, hb15⟩))
    go_ret
    have hs1 := hw1.size
    have hgs := Nat.le_trans hs1 hgs
    have hgd := Nat.le_trans hs1 hgd
    have hgl := Nat.le_trans hs1 hgl
    have z5 := hbw4.trans (keeps_far hO5 hgs hgl (fun g hg => by rw [hpv] at hg; cases hg) hbw4.size)
    have z6 := z5.trans (hO6.below (B := w.heap.size) (fun k hk => by
      rcases hk with h | h | h
      · rw [h]; exact hgs
      · rw [h, i1]; exact hgd
      · rw [h, i3]; exact hgl) z5.size)
    have z7 := z6.trans (keeps_far (b := ⟨b5.gd, b5.cd, b5.gl, b5.cl, .slice none 0 0⟩) hO7 hgs (by show w.heap.size ≤ b5.gl; rw [i3]; exact hgl) (fun g hg => by cases hg) z6.size)
    have z14 := z7.trans (hb714.mono z7.size)
    exact ⟨rfl, z14.trans (hb15.mono z14.size)⟩
  · have hca : a = c := by omega
    subst hca
    clear hk1 hk2
    go_enter Try.func4, Try.ntmps4
    go_wp2_with (first
      | (go_at_call 9; (with_reducible refine (unhide HA).mono ?_); rintro e w1 ⟨rfl, hw1⟩; have HN := HN0 w1)
      | (go_at_call 10; (with_reducible refine (unhide HN).mono ?_); rintro e w2 ⟨gs, b, rfl, hD2, hgs, hgd, hgl, hpv, hw2⟩; go_loud (
         have hbw2 := hw1.trans (hw2.mono hw1.size);
         have HF1 := hide (full_any w2 v1 l1 (HB1.out.along hbw2)); rw [← HPP.out] at HF1))
      | (go_at_call 17; (with_reducible refine (unhide HF1).mono ?_); rintro e w3 ⟨A1, n1, c1, rfl, hM3, hw3⟩; go_loud (
         obtain rfl : n1 = 512 := hM3.len.trans HP.out.1;
         have hbw3 := hbw2.trans (hw3.mono hbw2.size);
         have HF2 := hide (full_any w3 v2 l2 (HB2.out.along hbw3)); rw [← HQQ.out] at HF2))
      | (go_at_call 17; (with_reducible refine (unhide HF2).mono ?_); rintro e w4 ⟨A2, n2, c2, rfl, hN4, hw4⟩; go_loud (
         obtain rfl : n2 = 512 := hN4.len.trans HQ.out.1;
         have hM4 := hM3.below hw4;
         have hD4 := (hD2.below hw3).below hw4;
         have hbw4 := hbw3.trans (hw4.mono hbw3.size);
         have HW1 := hide (write_good hD4 (by decide) (by decide) (by decide) (by simp) a (by rw [HL.out]; exact ha8) A1 c1 p hM4.bytes HP.out)))
      | (go_at_call 18; (with_reducible refine (unhide HW1).mono ?_); rintro e w5 ⟨rfl, b5, hD5, i1, i2, i3, i4, i5, hO5⟩; go_loud (
         have hD5' : Disk w5 gs b5 D [(a, p)] 1 (-1) := hD5;
         have hM5 := hM4.disk hD4 hO5 (fun k hk => hk.imp_right fun h => .inr h);
         have hN5 := hN4.disk hD4 hO5 (fun k hk => hk.imp_right fun h => .inr h);
         have HSy := hide (sync_good hD5' (by decide) (by decide))))
      | (go_at_call 19; (with_reducible refine (unhide HSy).mono ?_); rintro e w6 ⟨rfl, hD6, hO6⟩; go_loud (
         have hD6' : Disk w6 gs ⟨b5.gd, b5.cd, b5.gl, b5.cl, .slice none 0 0⟩ (D.set a p) [] 1 (-1) := hD6;
         have hM6 := hM5.disk hD5' hO6 (fun k hk => hk.imp_right fun h => h.imp_right fun h => .inl h);
         have hN6 := hN5.disk hD5' hO6 (fun k hk => hk.imp_right fun h => h.imp_right fun h => .inl h);
         have HW2 := hide (write_good hD6' (by decide) (by decide) (by decide) (by simp) a (by rw [List.length_set, HL.out]; exact ha8) A2 c2 q hN6.bytes HQ.out)))
      | (go_at_call 18; (with_reducible refine (unhide HW2).mono ?_); rintro e w7 ⟨rfl, b7, hD7, j1, j2, j3, j4, j5, hO7⟩; go_loud (
         have hD7' : Disk w7 gs b7 (D.set a p) [(a, q)] 2 (-1) := hD7;
         have hM7 := hM6.disk hD6' hO7 (fun k hk => hk.imp_right fun h => .inr h);
         have hN7 := hN6.disk hD6' hO7 (fun k hk => hk.imp_right fun h => .inr h);
         have HC := fun kp : Bool => hide (crash_any (hD7'.below ((Below.refl _ _).alloc (Nat.le_refl _) (.cells #[.bool kp] 4))) (.slice (some ⟨w7.heap.size, 0, none⟩) 1 1) [kp] (flags_block (Go.heap_alloc_new w7 _) (by simp) rfl))))
      | (go_at_call 20; (with_reducible refine (unhide (HC _)).mono ?_); rintro e w8 ⟨gsC, bC, rfl, hC8, c1, c2, c3, c4, hb8⟩; go_loud (
         have hb78 := below_of_alloc hb8;
         have hR1 := hide (read_any hC8 a (by rw [kept_length, List.length_set, HL.out]; exact ha8) _ HE1.out)))
      | (go_at_call 21; (with_reducible refine (unhide hR1).mono ?_); rintro e w9 ⟨g9, rfl, hM9, hb9⟩; go_loud (
         have hb79 := hb78.trans (hb9.mono hb78.size);
         have hC9 := hC8.below hb9;
         have hR2 := hide (read_any hC9 a (by rw [kept_length, List.length_set, HL.out]; exact ha8) _ HE2.out)))
      | (go_at_call 21; (with_reducible refine (unhide hR2).mono ?_); rintro e w10 ⟨g10, rfl, hM10, hb10⟩; go_loud (
         have hb710 := hb79.trans (hb10.mono hb79.size);
         have hC10 := hC9.below hb10;
         have hD10 := hD7'.below hb710;
         have hR3 := hide (read_any hD10 a (by rw [List.length_set, HL.out]; exact ha8) _ HE3.out)))
      | (go_at_call 21; (with_reducible refine (unhide hR3).mono ?_); rintro e w11 ⟨g11, rfl, hM11, hb11⟩; go_loud (
         have hbz := (Below.refl w11.heap.size w11).alloc (Nat.le_refl _) (.cells Z.toArray 5);
         have hb7z := (hb710.trans (hb11.mono hb710.size)).trans (hbz.mono (Nat.le_trans hb710.size hb11.size));
         have hCz := (hC10.below hb11).below hbz;
         have hDz := hD7'.below hb7z;
         have b9 := (((hM9.below hb10).below hb11).below hbz).bytes;
         have b10 := ((hM10.below hb11).below hbz).bytes;
         have b11 := (hM11.below hbz).bytes;
         have bp := (hM7.below hb7z).bytes;
         have bq := (hN7.below hb7z).bytes;
         have bz := (HZ.out w11).bytes;
         have HS1 := hide (same_any _ _ _ _ _ b9 bp);
         have HS1' := hide (same_any _ _ _ _ _ b9 bq);
         try rw [decide_eq_true rfl] at HS1; 
         try rw [decide_eq_true rfl] at HS1'))
      | (go_at_call 22; (first | (with_reducible refine (unhide HS1).mono ?_) | (with_reducible refine (unhide HS1').mono ?_)); rintro e wS1 ⟨rfl, nq1, rfl⟩; go_loud (
         have HS2 := hide (same_any _ _ _ _ _ (b10.quiet nq1) (bp.quiet nq1));
         have HS2' := hide (same_any _ _ _ _ _ (b10.quiet nq1) (bq.quiet nq1));
         have HS2'' := hide (same_any _ _ _ _ _ (b10.quiet nq1) (bz.quiet nq1))))
      | (go_at_call 22; (first | (with_reducible refine (unhide HS2).mono ?_) | (with_reducible refine (unhide HS2').mono ?_) | (with_reducible refine (unhide HS2'').mono ?_)); rintro e wS2 ⟨rfl, nq2, rfl⟩; go_loud (
         have HS3 := hide (same_any _ _ _ _ _ (b11.quiet (nq1 + nq2)) (bq.quiet (nq1 + nq2)))))
      | (go_at_call 22; (with_reducible refine (unhide HS3).mono ?_); rintro e wS3 ⟨rfl, nq3, rfl⟩; go_loud (
         have hC13 := hCz.below (below_drewN (Below.refl _ _) (nq1 + nq2 + nq3));
         have HW1 := hide (waiting_len hC13 0 rfl)))
      | (go_at_call 23; (with_reducible refine (unhide HW1).mono ?_); rintro e w14 ⟨g14, c14, rfl, hb14⟩; go_loud (
         have hb714 := (below_drewN hb7z (nq1 + nq2 + nq3)).trans (hb14.mono hb7z.size);
         have hD14 := hD7'.below hb714;
         have HW2 := hide (waiting_len hD14 1 rfl)))
      | (go_at_call 23; (with_reducible refine (unhide HW2).mono ?_); rintro e w15 ⟨g15, c15, rfl, hb15⟩))
    go_ret
    have hs1 := hw1.size
    have hgs := Nat.le_trans hs1 hgs
    have hgd := Nat.le_trans hs1 hgd
    have hgl := Nat.le_trans hs1 hgl
    have z5 := hbw4.trans (keeps_far hO5 hgs hgl (fun g hg => by rw [hpv] at hg; cases hg) hbw4.size)
    have z6 := z5.trans (hO6.below (B := w.heap.size) (fun k hk => by
      rcases hk with h | h | h
      · rw [h]; exact hgs
      · rw [h, i1]; exact hgd
      · rw [h, i3]; exact hgl) z5.size)
    have z7 := z6.trans (keeps_far (b := ⟨b5.gd, b5.cd, b5.gl, b5.cl, .slice none 0 0⟩) hO7 hgs (by show w.heap.size ≤ b5.gl; rw [i3]; exact hgl) (fun g hg => by cases hg) z6.size)
    have z14 := z7.trans (hb714.mono z7.size)
    exact ⟨rfl, z14.trans (hb15.mono z14.size)⟩
  · go_enter Try.func4, Try.ntmps4
    go_wp2_with (first
      | (go_at_call 9; (with_reducible refine (unhide HA).mono ?_); rintro e w1 ⟨rfl, hw1⟩; have HN := HN0 w1)
      | (go_at_call 10; (with_reducible refine (unhide HN).mono ?_); rintro e w2 ⟨gs, b, rfl, hD2, hgs, hgd, hgl, hpv, hw2⟩; go_loud (
         have hbw2 := hw1.trans (hw2.mono hw1.size);
         have HF1 := hide (full_any w2 v1 l1 (HB1.out.along hbw2)); rw [← HPP.out] at HF1))
      | (go_at_call 17; (with_reducible refine (unhide HF1).mono ?_); rintro e w3 ⟨A1, n1, c1, rfl, hM3, hw3⟩; go_loud (
         obtain rfl : n1 = 512 := hM3.len.trans HP.out.1;
         have hbw3 := hbw2.trans (hw3.mono hbw2.size);
         have HF2 := hide (full_any w3 v2 l2 (HB2.out.along hbw3)); rw [← HQQ.out] at HF2))
      | (go_at_call 17; (with_reducible refine (unhide HF2).mono ?_); rintro e w4 ⟨A2, n2, c2, rfl, hN4, hw4⟩; go_loud (
         obtain rfl : n2 = 512 := hN4.len.trans HQ.out.1;
         have hM4 := hM3.below hw4;
         have hD4 := (hD2.below hw3).below hw4;
         have hbw4 := hbw3.trans (hw4.mono hbw3.size);
         have HW1 := hide (write_good hD4 (by decide) (by decide) (by decide) (by simp) a (by rw [HL.out]; exact ha8) A1 c1 p hM4.bytes HP.out)))
      | (go_at_call 18; (with_reducible refine (unhide HW1).mono ?_); rintro e w5 ⟨rfl, b5, hD5, i1, i2, i3, i4, i5, hO5⟩; go_loud (
         have hD5' : Disk w5 gs b5 D [(a, p)] 1 (-1) := hD5;
         have hM5 := hM4.disk hD4 hO5 (fun k hk => hk.imp_right fun h => .inr h);
         have hN5 := hN4.disk hD4 hO5 (fun k hk => hk.imp_right fun h => .inr h);
         have HSy := hide (sync_good hD5' (by decide) (by decide))))
      | (go_at_call 19; (with_reducible refine (unhide HSy).mono ?_); rintro e w6 ⟨rfl, hD6, hO6⟩; go_loud (
         have hD6' : Disk w6 gs ⟨b5.gd, b5.cd, b5.gl, b5.cl, .slice none 0 0⟩ (D.set a p) [] 1 (-1) := hD6;
         have hM6 := hM5.disk hD5' hO6 (fun k hk => hk.imp_right fun h => h.imp_right fun h => .inl h);
         have hN6 := hN5.disk hD5' hO6 (fun k hk => hk.imp_right fun h => h.imp_right fun h => .inl h);
         have HW2 := hide (write_good hD6' (by decide) (by decide) (by decide) (by simp) c (by rw [List.length_set, HL.out]; exact hc8) A2 c2 q hN6.bytes HQ.out)))
      | (go_at_call 18; (with_reducible refine (unhide HW2).mono ?_); rintro e w7 ⟨rfl, b7, hD7, j1, j2, j3, j4, j5, hO7⟩; go_loud (
         have hD7' : Disk w7 gs b7 (D.set a p) [(c, q)] 2 (-1) := hD7;
         have hM7 := hM6.disk hD6' hO7 (fun k hk => hk.imp_right fun h => .inr h);
         have hN7 := hN6.disk hD6' hO7 (fun k hk => hk.imp_right fun h => .inr h);
         have HC := fun kp : Bool => hide (crash_any (hD7'.below ((Below.refl _ _).alloc (Nat.le_refl _) (.cells #[.bool kp] 4))) (.slice (some ⟨w7.heap.size, 0, none⟩) 1 1) [kp] (flags_block (Go.heap_alloc_new w7 _) (by simp) rfl))))
      | (go_at_call 20; (with_reducible refine (unhide (HC _)).mono ?_); rintro e w8 ⟨gsC, bC, rfl, hC8, c1, c2, c3, c4, hb8⟩; go_loud (
         have hb78 := below_of_alloc hb8;
         have hR1 := hide (read_any hC8 a (by rw [kept_length, List.length_set, HL.out]; exact ha8) _ HE1.out)))
      | (go_at_call 21; (with_reducible refine (unhide hR1).mono ?_); rintro e w9 ⟨g9, rfl, hM9, hb9⟩; go_loud (
         have hb79 := hb78.trans (hb9.mono hb78.size);
         have hC9 := hC8.below hb9;
         have hR2 := hide (read_any hC9 c (by rw [kept_length, List.length_set, HL.out]; exact hc8) _ HE2.out)))
      | (go_at_call 21; (with_reducible refine (unhide hR2).mono ?_); rintro e w10 ⟨g10, rfl, hM10, hb10⟩; go_loud (
         have hb710 := hb79.trans (hb10.mono hb79.size);
         have hC10 := hC9.below hb10;
         have hD10 := hD7'.below hb710;
         have hR3 := hide (read_any hD10 c (by rw [List.length_set, HL.out]; exact hc8) _ HE3.out)))
      | (go_at_call 21; (with_reducible refine (unhide hR3).mono ?_); rintro e w11 ⟨g11, rfl, hM11, hb11⟩; go_loud (
         have hbz := (Below.refl w11.heap.size w11).alloc (Nat.le_refl _) (.cells Z.toArray 5);
         have hb7z := (hb710.trans (hb11.mono hb710.size)).trans (hbz.mono (Nat.le_trans hb710.size hb11.size));
         have hCz := (hC10.below hb11).below hbz;
         have hDz := hD7'.below hb7z;
         have b9 := (((hM9.below hb10).below hb11).below hbz).bytes;
         have b10 := ((hM10.below hb11).below hbz).bytes;
         have b11 := (hM11.below hbz).bytes;
         have bp := (hM7.below hb7z).bytes;
         have bq := (hN7.below hb7z).bytes;
         have bz := (HZ.out w11).bytes;
         have HS1 := hide (same_any _ _ _ _ _ b9 bp);
         have HS1' := hide (same_any _ _ _ _ _ b9 bq);
         try rw [decide_eq_true rfl] at HS1; 
         try rw [decide_eq_true rfl] at HS1'))
      | (go_at_call 22; (first | (with_reducible refine (unhide HS1).mono ?_) | (with_reducible refine (unhide HS1').mono ?_)); rintro e wS1 ⟨rfl, nq1, rfl⟩; go_loud (
         have HS2 := hide (same_any _ _ _ _ _ (b10.quiet nq1) (bp.quiet nq1));
         have HS2' := hide (same_any _ _ _ _ _ (b10.quiet nq1) (bq.quiet nq1));
         have HS2'' := hide (same_any _ _ _ _ _ (b10.quiet nq1) (bz.quiet nq1))))
      | (go_at_call 22; (first | (with_reducible refine (unhide HS2).mono ?_) | (with_reducible refine (unhide HS2').mono ?_) | (with_reducible refine (unhide HS2'').mono ?_)); rintro e wS2 ⟨rfl, nq2, rfl⟩; go_loud (
         have HS3 := hide (same_any _ _ _ _ _ (b11.quiet (nq1 + nq2)) (bq.quiet (nq1 + nq2)))))
      | (go_at_call 22; (with_reducible refine (unhide HS3).mono ?_); rintro e wS3 ⟨rfl, nq3, rfl⟩; go_loud (
         have hC13 := hCz.below (below_drewN (Below.refl _ _) (nq1 + nq2 + nq3));
         have HW1 := hide (waiting_len hC13 0 rfl)))
      | (go_at_call 23; (with_reducible refine (unhide HW1).mono ?_); rintro e w14 ⟨g14, c14, rfl, hb14⟩; go_loud (
         have hb714 := (below_drewN hb7z (nq1 + nq2 + nq3)).trans (hb14.mono hb7z.size);
         have hD14 := hD7'.below hb714;
         have HW2 := hide (waiting_len hD14 1 rfl)))
      | (go_at_call 23; (with_reducible refine (unhide HW2).mono ?_); rintro e w15 ⟨g15, c15, rfl, hb15⟩))
    go_ret
    have hs1 := hw1.size
    have hgs := Nat.le_trans hs1 hgs
    have hgd := Nat.le_trans hs1 hgd
    have hgl := Nat.le_trans hs1 hgl
    have z5 := hbw4.trans (keeps_far hO5 hgs hgl (fun g hg => by rw [hpv] at hg; cases hg) hbw4.size)
    have z6 := z5.trans (hO6.below (B := w.heap.size) (fun k hk => by
      rcases hk with h | h | h
      · rw [h]; exact hgs
      · rw [h, i1]; exact hgd
      · rw [h, i3]; exact hgl) z5.size)
    have z7 := z6.trans (keeps_far (b := ⟨b5.gd, b5.cd, b5.gl, b5.cl, .slice none 0 0⟩) hO7 hgs (by show w.heap.size ≤ b5.gl; rw [i3]; exact hgl) (fun g hg => by cases hg) z6.size)
    have z14 := z7.trans (hb714.mono z7.size)
    exact ⟨rfl, z14.trans (hb15.mono z14.size)⟩
theorem diskKeeps_walk (a0 : Option Addr) (len0 cap0 : Nat) (z0 : List Int) (a1 : Option Addr) (len1 cap1 : Nat) (z1 : List Int) (a2 a3 : Int) (b4 : Bool) (w : World)
    (w0 : (a0 = none ∧ len0 = 0 ∧ cap0 = 0 ∧ z0 = []) ∨ ∃ x, a0 = some x ∧ len0 ≤ cap0 ∧ cap0 ≤ maxLen ∧ z0.length = cap0 ∧ (∀ i, i < z0.length → w.cell? (x.add i) = some (.int .u8 (z0.getD i 0))) ∧ ∀ n ∈ z0, (Lit.int .u8 n).wf = true)
    (w1 : (a1 = none ∧ len1 = 0 ∧ cap1 = 0 ∧ z1 = []) ∨ ∃ x, a1 = some x ∧ len1 ≤ cap1 ∧ cap1 ≤ maxLen ∧ z1.length = cap1 ∧ (∀ i, i < z1.length → w.cell? (x.add i) = some (.int .u8 (z1.getD i 0))) ∧ ∀ n ∈ z1, (Lit.int .u8 n).wf = true)
    (w2 : (Lit.int .u8 a2).wf = true) (w3 : (Lit.int .u8 a3).wf = true) :
    Calls Try.prog 4 #[.slice a0 len0 cap0, .slice a1 len1 cap1, .int .u8 a2, .int .u8 a3, .bool b4] w fun e w' => e = .returned (.bool true) ∧ Below w.heap.size w w' := by
  obtain ⟨l0, hp0, -⟩ := bytes_of_row w0
  obtain ⟨l1, hp1, -⟩ := bytes_of_row w1
  have h2 := bounds_u8 w2
  have h3 := bounds_u8 w3
  obtain ⟨n, rfl⟩ := Int.eq_ofNat_of_zero_le h2.1
  obtain ⟨m, rfl⟩ := Int.eq_ofNat_of_zero_le h3.1
  obtain ⟨_, hs0, _⟩ := id hp0
  obtain ⟨_, hs1, _⟩ := id hp1
  exact keeps_core w n m (by omega) (by omega) b4 _ _ l0 l1 hp0 hp1 hs0 hs1
end Go.Proofs.Ytnpbjmanjnkeaaa
