/- The walk of the law DiskOwns: it answers true for every text and place, and writes nothing that was there. -/
import Derived.Test.YtnpbjmanjnkeaaaRot
import Derived.Test.YtnpbjmanjnkeaaaSame
import Derived.OpenShut
namespace Go.Proofs.Ytnpbjmanjnkeaaa
open Go.RowKit
set_option linter.unusedSimpArgs false
set_option linter.unusedVariables false

theorem full_sec_id {s : List Nat} (h : IsSec s) : full s = s := by
  unfold full
  rw [List.take_of_length_le (Nat.le_of_eq h.1)]
  exact List.take_left' h.1
theorem applied_none (x : List (List Nat)) : applied [] x = x := rfl
theorem owns_far {x y : World} {B gs : Nat} {b : DB} (ho : OnlyAt x y (fun k => k = gs ∨ k = b.gl ∨ some k = b.pv.ownBlock)) (h1 : B ≤ gs) (h2 : B ≤ b.gl) (h3 : ∀ g, b.pv.ownBlock = some g → B ≤ g) (hB : B ≤ x.heap.size) : Below B x y :=
  ho.below (fun k hk => by
    rcases hk with h | h | h
    · omega
    · omega
    · exact h3 k h.symm) hB
/-- While a text of one's own is written over: the disk has its sector, the other text its bytes. -/
def OwnsR (W : World) (base gq c gs : Nat) (b : DB) (D : List (List Nat)) (k : Nat) (P : List Nat) (g2 c2 base2 : Nat) (t : Value) (x : World) : Prop :=
  ∃ (i : Nat) (f : List Nat), i ≤ 512 ∧ t = .int .i64 (i : Int) ∧ Mine x base (some ⟨gq, 0, none⟩) 512 c f ∧ Disk x gs b D [(k, P)] 1 (-1) ∧ Mine x base2 (some ⟨g2, 0, none⟩) 512 c2 P ∧ Below W.heap.size W x
theorem owns_step {W x : World} {base gq c gs k g2 c2 base2 i v : Nat} {b : DB} {D : List (List Nat)} {P f : List Nat} (hi : i < 512) (hM : Mine x base (some ⟨gq, 0, none⟩) 512 c f) (hD : Disk x gs b D [(k, P)] 1 (-1)) (hP : Mine x base2 (some ⟨g2, 0, none⟩) 512 c2 P) (hb : Below W.heap.size W x)
    (hW : W.heap.size ≤ gq) (hne : g2 ≠ gq) (hv : v < 256) : OwnsR W base gq c gs b D k P g2 c2 base2 (.int .i64 ((i : Int) + 1)) (x.setCell ⟨gq, i, none⟩ (.int .u8 (v : Int))) := by
  obtain ⟨cur, hcur⟩ : ∃ cur, x.heap[gq]? = some (.cells cur 5 (0, 0)) := row_of (own_lower hM.own (Nat.zero_le _))
  obtain ⟨n1, n2, n3, n4⟩ := hD.not_bytes hcur
  have ho : OnlyAt x (x.setCell ⟨gq, i, none⟩ (.int .u8 (v : Int))) (fun k => k = gq) := OnlyAt.setCell _ _ _ _
  refine ⟨i + 1, f.set i v, by omega, by go_num, ⟨?_, by rw [List.length_set]; exact hM.len, ?_⟩, ?_, ?_, hb.setCell (p := ⟨gq, i, none⟩) hW _⟩
  · have h := (hM.own.stored i (.int .u8 (v : Int))).1
    have e : (byt f).set i (.int .u8 (v : Int)) = byt (f.set i v) := by unfold byt; rw [List.map_set]
    rw [e] at h
    exact h
  · intro d hd
    rcases List.mem_or_eq_of_mem_set hd with h | h
    · exact hM.small d h
    · rw [h]; exact hv
  · exact hD.only ho (Ne.symm n1) (Ne.symm n2) (Ne.symm n3) (fun g hg e => n4 (by rw [← e]; exact hg.symm))
  · exact ⟨row_only hP.own ho (fun g cur _ e => by
      have h9 : g2 = g := by simpa [Value.ownBlock] using e
      omega), hP.len, hP.small⟩

set_option maxRecDepth 100000 in
set_option maxHeartbeats 4000000 in
theorem owns_core (w : World) (m : Nat) (hm : m < 256) (v : Value) (l : List Nat) (hp : Bytes w w.heap.size v l) :
    Calls Try.prog 5 #[v, .int .u8 (m : Int)] w fun e w' => e = .returned (.bool true) ∧ Below w.heap.size w w' := by
  obtain ⟨P, hP⟩ : ∃ P, P = full l := ⟨_, rfl⟩
  have hsP : IsSec P := by rw [hP]; exact full_sec hp.small
  have hfP := full_sec_id hsP
  obtain ⟨D, hD⟩ : ∃ D, D = List.replicate 4 noughts := ⟨_, rfl⟩
  have hDl : D.length = 4 := by rw [hD, List.length_replicate]
  have hDn : ∀ i, i < 4 → D[i]? = some noughts := fun i hi => by rw [hD, List.getElem?_replicate, if_pos hi]
  have HP := Lib.hid hP
  have HSP := Lib.hid hsP
  have HFP := Lib.hid hfP
  have HL := Lib.hid hDl
  have HDn := Lib.hid hDn
  have HB := Lib.hid hp
  have HA := hide (awake_true w)
  have HN0 := fun x : World => hide (new_good x 4 (by omega) (by omega))
  rw [← hD, show ((4 : Nat) : Int) = 4 from rfl] at HN0
  have hk1 : (m : Int).tmod 4 = ((m % 4 : Nat) : Int) := by rw [Int.tmod_eq_emod_of_nonneg (by omega)]; omega
  obtain ⟨k, hk⟩ : ∃ k, k = m % 4 := ⟨_, rfl⟩
  have hk4 : k < 4 := by omega
  rw [← hk] at hk1
  have hmk : ∀ w : World, (Instr.makeSlice 30 (.int .i64 512) (.int .i64 512)).run Try.prog w = .ok (.slice (some ⟨w.heap.size, 0, none⟩) 512 512) (w.alloc (.cells (byt noughts).toArray 5)) := run_make512
  obtain ⟨Z, hZ⟩ : ∃ Z, Z = byt noughts := ⟨_, rfl⟩
  have HZ : Hid (∀ w : World, Bytes (w.alloc (.cells (byt noughts).toArray 5)) (w.alloc (.cells (byt noughts).toArray 5)).heap.size (.slice (some ⟨w.heap.size, 0, none⟩) 512 512) noughts) := fun w => by
    have h := lies_block (B := (w.alloc (.cells (byt noughts).toArray 5)).heap.size) (Go.heap_alloc_new w (.cells (byt noughts).toArray 5)) (by simp)
    exact ⟨⟨_, 512, by rw [noughts_length], h, Nat.le_of_eq noughts_length, fun h => by cases h⟩, noughts_small, by rw [noughts_length]; unfold maxLen; omega⟩
  rw [← hZ] at hmk HZ
  clear hP hsP hfP hD hDl hDn hp hk hZ
  go_enter Try.func5, Try.ntmps5
  go_wp2_with (first
    | (go_at_call 9; (with_reducible refine (unhide HA).mono ?_); rintro e w1 ⟨rfl, hw1⟩; go_loud (
       have HF1 := hide (full_any w1 v l (HB.out.along hw1)); rw [← HP.out] at HF1))
    | (go_at_call 17; (with_reducible refine (unhide HF1).mono ?_); rintro e w2 ⟨A2, n2, c2, rfl, hM2, hw2⟩; go_loud (
       obtain rfl : n2 = 512 := hM2.len.trans HSP.out.1;
       have HF2 := hide (full_any w2 (.slice A2 512 c2) P hM2.bytes); rw [HFP.out] at HF2))
    | (go_at_call 17; (with_reducible refine (unhide HF2).mono ?_); rintro e w3 ⟨A3, n3, c3, rfl, hM3, hw3⟩; go_loud (
       obtain rfl : n3 = 512 := hM3.len.trans HSP.out.1;
       have HN := HN0 w3))
    | (go_at_call 10; (with_reducible refine (unhide HN).mono ?_); rintro e w4 ⟨gs, b, rfl, hD4, hgs, hgd, hgl, hpv, hw4⟩; go_loud (
       have hM4 := hM3.below hw4;
       have hN4 := (hM2.below hw3).below hw4;
       have HW1 := hide (write_good hD4 (by decide) (by decide) (by decide) (by simp) k (by rw [HL.out]; exact hk4) A3 c3 P hM4.bytes HSP.out)))
    | (go_at_call 18; (with_reducible refine (unhide HW1).mono ?_); rintro e w5 ⟨rfl, b5, hD5, i1, i2, i3, i4, i5, hO5⟩; go_loud (
       have hD5' : Disk w5 gs b5 D [(k, P)] 1 (-1) := hD5;
       have hM5 := hM4.disk hD4 hO5 (fun k hk => hk.imp_right fun h => .inr h);
       have hN5 := hN4.disk hD4 hO5 (fun k hk => hk.imp_right fun h => .inr h))))
  have s1 := hw1.size
  have s2 := hw2.size
  have s3 := hw3.size
  have s4 := hw4.size
  have hb4 := ((hw1.trans (hw2.mono hw1.size)).trans (hw3.mono (by omega))).trans (hw4.mono (by omega))
  have hb5 := hb4.trans (owns_far hO5 (by omega) (by omega) (fun g hg => by rw [hpv] at hg; cases hg) hb4.size)
  obtain ⟨g3, y3, rfl, hg3, -, -, -, -⟩ := hM5.at_ (k := 0) (by omega)
  obtain ⟨g2, y2, rfl, hg2, -, -, cc2, -⟩ := hN5.at_ (k := 0) (by omega)
  have l2 : g2 < w2.heap.size := by
    rcases hM2.own.2 with ⟨h, _⟩ | ⟨g', cap, cur, h, _, hh, _⟩
    · cases h
    · injection h with h
      injection h with h
      injection h with h
      rw [h]
      exact (Array.getElem?_eq_some_iff.1 hh).1
  have hne : g2 ≠ g3 := by omega
  have h0 : OwnsR w w2.heap.size g3 c3 gs b5 D k P g2 c2 w1.heap.size (.int .i64 ((0 : Nat) : Int)) w5 := ⟨0, P, by omega, rfl, hM5, hD5', hN5, hb5⟩
  have H0 := Lib.hid h0
  have hW3 : w.heap.size ≤ g3 := by omega
  clear h0 hb4 hb5 hM5 hN5 hD5' hD5 hO5 hM4 hN4 hM3 hM2 hw4 hw3 hw2 hD4 HW1 HN HN0 HF1 HF2 HA HB cc2 hgd hgl hpv i1 i2 i3 i4 i5
  go_wp2
  go_loopw [35] (fun t x => OwnsR w w2.heap.size g3 c3 gs b5 D k P g2 c2 w1.heap.size t x) (fun t _ => 512 - (intOf t).toNat)
  case atStart => exact H0.out
  case round =>
    obtain ⟨i, f, hi, rfl, hMr, hDr, hPr, hbr⟩ := hrel
    by_cases hlt : i < 512
    · obtain ⟨g', y, e', -, hy, hy2, hc, hf⟩ := hMr.at_ hlt
      obtain rfl : g3 = g' := by simpa using e'
      have HR := hide (fun (u : Nat) (hu : u < 256) => owns_step (v := u) hlt hMr hDr hPr hbr hW3 hne hu)
      have HADD : Hid (((y : Int) + 1) % 256 = (((y + 1) % 256 : Nat) : Int)) := Lib.hid (by omega)
      have hlti : (i : Int) < 512 := by omega
      clear hMr hDr hPr hbr e' hy
      go_wp2
      go_roundw
      case rel =>
        rw [HADD.out]
        exact unhide HR _ (Nat.mod_lt _ (by decide))
      case measure => simp [intOf]; omega
    · have hnlt : ¬ (i : Int) < 512 := by omega
      have HR := hide (read_any hDr k (by rw [HL.out]; exact hk4) P (by show (D.set k P)[k]? = some P; rw [List.getElem?_set_self (by rw [HL.out]; exact hk4)]))
      have HDr := Lib.hid hDr
      have HPr := Lib.hid hPr
      have Hbr := Lib.hid hbr
      clear hMr hDr hPr hbr
      go_wp2_with (first
        | (go_at_call 21; (with_reducible refine (unhide HR).mono ?_); rintro e w6 ⟨g6, rfl, hM6, hb6⟩; go_loud (
           have hD6 := HDr.out.below hb6;
           have hP6 := HPr.out.below hb6;
           have hbw6 := Hbr.out.trans (hb6.mono Hbr.out.size))))
      have hgw : w.heap.size ≤ g6 := by
        obtain ⟨g', y, e', hg', -, -, -, -⟩ := hM6.at_ (k := 0) (by omega)
        obtain rfl : g6 = g' := by simpa using e'
        have := Hbr.out.size
        omega
      have hne6 : g2 ≠ g6 := by
        obtain ⟨g', y, e', hg', -, -, -, -⟩ := hM6.at_ (k := 0) (by omega)
        obtain rfl : g6 = g' := by simpa using e'
        have h9 : g2 < wr.heap.size := by
          obtain ⟨g'', y', e'', -, -, -, hc, -⟩ := HPr.out.at_ (k := 0) (by omega)
          obtain rfl : g2 = g'' := by simpa using e''
          exact World.block_lt_of_cell? wr _ hc
        omega
      have h1 : OwnsR w wr.heap.size g6 512 gs b5 D k P g2 c2 w1.heap.size (.int .i64 ((0 : Nat) : Int)) w6 := ⟨0, P, by omega, rfl, hM6, hD6, hP6, hbw6⟩
      have H1 := Lib.hid h1
      have hsz : w2.heap.size ≤ w2.heap.size := Nat.le_refl _
      clear h1 hM6 hD6 hP6 hbw6 hb6 HR
      go_wp2
      go_loopw [53] (fun t x => OwnsR w wr.heap.size g6 512 gs b5 D k P g2 c2 w1.heap.size t x) (fun t _ => 512 - (intOf t).toNat)
      case atStart => exact H1.out
      case round =>
        obtain ⟨j, f2, hj, rfl, hMs, hDs, hPs, hbs⟩ := hrel
        by_cases hlt2 : j < 512
        · obtain ⟨g', y, e', -, hy, hy2, hc, hf⟩ := hMs.at_ hlt2
          obtain rfl : g6 = g' := by simpa using e'
          have HR2 := hide (fun (u : Nat) (hu : u < 256) => owns_step (v := u) hlt2 hMs hDs hPs hbs hgw hne6 hu)
          have HADD : Hid (((y : Int) + 2) % 256 = (((y + 2) % 256 : Nat) : Int)) := Lib.hid (by omega)
          have hltj : (j : Int) < 512 := by omega
          clear hMs hDs hPs hbs e' hy
          go_wp2
          go_roundw
          case rel =>
            rw [HADD.out]
            exact unhide HR2 _ (Nat.mod_lt _ (by decide))
          case measure => simp [intOf]; omega
        · have hnltj : ¬ (j : Int) < 512 := by omega
          have hX := hide (copy_any hDs (fun h => by cases h))
          have HDs := Lib.hid hDs
          have HPs := Lib.hid hPs
          have Hbs := Lib.hid hbs
          clear hMs hDs hPs hbs
          go_wp2_with (first
            | (go_at_call 16; (with_reducible refine (unhide hX).mono ?_); rintro e w7 ⟨gsC, bC, rfl, hC7, x1, x2, x3, x4, x5, hb7⟩; go_loud (
               have HRt := hide (rot_good hC7 k 0 1 1 noughts (HDn.out k hk4) (by decide) (by decide) (by decide));
               rw [show ((0 : Nat) : Int) = 0 from rfl, show ((1 : Nat) : Int) = 1 from rfl] at HRt))
            | (go_at_call 24; (with_reducible refine (unhide HRt).mono ?_); rintro e w8 ⟨rfl, hC8, hO8⟩; go_loud (
               have hbz := (Below.refl w8.heap.size w8).alloc (Nat.le_refl _) (.cells Z.toArray 5);
               have hC8z := hC8.below hbz;
               have HWz := hide (write_good hC8z (by decide) (by decide) (by decide) (by simp) k (by rw [List.length_set, HL.out]; exact hk4) (some ⟨w8.heap.size, 0, none⟩) 512 noughts (HZ.out w8) ⟨noughts_length, noughts_small⟩)))
            | (go_at_call 18; (with_reducible refine (unhide HWz).mono ?_); rintro e w9 ⟨rfl, b9, hC9, y1, y2, y3, y4, y5, hO9⟩; go_loud (
               have HSy := hide (sync_good hC9 (by decide) (by decide))))
            | (go_at_call 19; (with_reducible refine (unhide HSy).mono ?_); rintro e w10 ⟨rfl, hC10, hO10⟩; go_loud (
               have hb78 : Below wr.heap.size wr w8 := hb7.trans (hO8.below (fun j hj => by
                 rcases hj with h | h
                 · omega
                 · exact x5 j h.symm) hb7.size);
               have hb79 : Below wr.heap.size wr w9 := (hb78.trans (hbz.mono hb78.size)).trans (owns_far hO9 x1 x3 (fun g hg => x5 g hg) (Nat.le_trans hb78.size hbz.size));
               have hb710 : Below wr.heap.size wr w10 := hb79.trans (hO10.below (fun j hj => by
                 rcases hj with h | h | h
                 · omega
                 · rw [h, y1]; exact x2
                 · rw [h, y3]; exact x3) hb79.size);
               have hD10 := HDs.out.below hb710;
               have hP10 := HPs.out.below hb710;
               have hRd := hide (read_any hD10 k (by rw [HL.out]; exact hk4) P (by show (D.set k P)[k]? = some P; rw [List.getElem?_set_self (by rw [HL.out]; exact hk4)]))))
            | (go_at_call 21; (with_reducible refine (unhide hRd).mono ?_); rintro e w11 ⟨g11, rfl, hM11, hb11⟩; go_loud (
               have hS := hide (same_any w11 _ _ P P hM11.bytes (hP10.below hb11).bytes);
               rw [decide_eq_true rfl] at hS))
            | (go_at_call 22; (with_reducible refine (unhide hS).mono ?_); rintro e w12 ⟨rfl, nq, rfl⟩; go_loud (
               have hCq := (hC10.below hb11).below (below_drewN (Below.refl _ _) nq);
               have hBl := hide (blank_any hCq k (by rw [applied_length, List.length_set, HL.out]; exact hk4) noughts (by
                 rw [applied_none, applied_snoc]
                 exact List.getElem?_set_self (by rw [applied_length, List.length_set, HL.out]; exact hk4)));
               rw [decide_eq_true rfl] at hBl))
            | (go_at_call 25; (with_reducible refine (unhide hBl).mono ?_); rintro e w13 ⟨rfl, rfl⟩))
          go_ret
          have z10 := Hbs.out.trans (hb710.mono Hbs.out.size)
          exact ⟨rfl, below_drewN (z10.trans (hb11.mono z10.size)) nq⟩
theorem diskOwns_walk (a0 : Option Addr) (len0 cap0 : Nat) (z0 : List Int) (a1 : Int) (w : World)
    (w0 : (a0 = none ∧ len0 = 0 ∧ cap0 = 0 ∧ z0 = []) ∨ ∃ x, a0 = some x ∧ len0 ≤ cap0 ∧ cap0 ≤ maxLen ∧ z0.length = cap0 ∧ (∀ i, i < z0.length → w.cell? (x.add i) = some (.int .u8 (z0.getD i 0))) ∧ ∀ n ∈ z0, (Lit.int .u8 n).wf = true)
    (w1 : (Lit.int .u8 a1).wf = true) :
    Calls Try.prog 5 #[.slice a0 len0 cap0, .int .u8 a1] w fun e w' => e = .returned (.bool true) ∧ Below w.heap.size w w' := by
  obtain ⟨l0, hp0, -⟩ := bytes_of_row w0
  have h1 := bounds_u8 w1
  obtain ⟨m, rfl⟩ := Int.eq_ofNat_of_zero_le h1.1
  exact owns_core w m (by omega) _ l0 hp0
end Go.Proofs.Ytnpbjmanjnkeaaa
