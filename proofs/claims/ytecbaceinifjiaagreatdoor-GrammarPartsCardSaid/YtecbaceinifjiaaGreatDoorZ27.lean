/- GMod, GClosed: joined by program (tools/merge.py). -/
import Derived.Test.YtecbaceinifjiaaGreatDoorZ26
namespace Go.Proofs.YtecbaceinifjiaaGreatDoor
open Go.RowKit
set_option linter.unusedSimpArgs false
set_option linter.unusedVariables false
set_option maxRecDepth 100000
attribute [local go_sem] Oper.semAt_some undef
set_option maxHeartbeats 16000000 in
theorem mod_any (w : World) (base : Nat) (M : GM) (s : PS) (h : GR w base M s) (u : Nat) (hu : u ≤ s.nodes.length) (hs : s.left.length * 16 + s.nodes.length + s.cnt + 10 ≤ 10000000) :
    Calls Tryz.prog 31 #[.pointer (some ⟨M.gp, 0, none⟩), .int .u64 (u : Int)] w fun e w' => e = .returned (.tuple #[]) ∧ GStep w base M (modS u s) w' := by
  obtain ⟨s0, hs0⟩ : ∃ s0, s0 = wantS c_module s := ⟨_, rfl⟩
  have o0 : Up s s0 0 := by rw [hs0]; exact (ok_want c_module s).up
  obtain ⟨n, hn⟩ : ∃ n, n = nameT s0 := ⟨_, rfl⟩
  obtain ⟨s1, hs1⟩ : ∃ s1, s1 = nameS s0 := ⟨_, rfl⟩
  have o1 : Up s s1 0 := o0.trans (show Up s0 s1 0 from (by rw [hs1]; exact (ok_name s0).up))
  obtain ⟨id, hid⟩ : ∃ id, id = growId s1 := ⟨_, rfl⟩
  obtain ⟨s2, hs2⟩ : ∃ s2, s2 = growS u { nd0 2 with name := ba n } s1 := ⟨_, rfl⟩
  have o2 : Up s s2 1 := o1.trans (show Up s1 s2 1 from (by rw [hs2]; exact up_grow u { nd0 2 with name := ba n } s1))
  obtain ⟨s3, hs3⟩ : ∃ s3, s3 = defModS n id s2 := ⟨_, rfl⟩
  have o3 : Up s s3 2 := o2.trans (show Up s2 s3 1 from (by rw [hs3]; exact up_defMod n id s2))
  obtain ⟨s4, hs4⟩ : ∃ s4, s4 = wantS c_lbr s3 := ⟨_, rfl⟩
  have o4 : Up s s4 2 := o3.trans (show Up s3 s4 0 from (by rw [hs4]; exact (ok_want c_lbr s3).up))
  obtain ⟨S, hS⟩ : ∃ S, S = stsS (funcS id) c_rbr (s4.left.length + 1) s4 := ⟨_, rfl⟩
  have hfin : modS u s = wantS c_rbr S := by rw [modS_eq]; unfold modB modA; rw [← hs0, ← hn, ← hs1, ← hid, ← hs2, ← hs3, ← hs4, ← hS]
  rw [hfin]
  have i0 : 0 < id := by rw [hid]; exact Nat.succ_pos _
  have i2 : id ≤ s2.nodes.length := by rw [hs2, (grow_facts _ _ _).2.1, hid]; exact Nat.le_refl _
  have i4 : id ≤ s4.nodes.length := Nat.le_trans i2 (Up.nodes (Up.trans (show Up s2 s3 1 from (by rw [hs3]; exact up_defMod _ _ _)) (show Up s3 s4 0 from (by rw [hs4]; exact (ok_want c_lbr s3).up))))
  have p1 : u ≤ s1.nodes.length := Nat.le_trans hu o1.nodes
  have u1 : s1.left.length * 16 + (s1.nodes.length + 1) + s1.cnt ≤ 10000000 := by have := o1.sum; omega
  have u2 : s2.left.length * 16 + s2.nodes.length + (s2.cnt + 1) ≤ 10000000 := by have := o2.sum; omega
  have u4 : s4.left.length * 16 + s4.nodes.length + s4.cnt + 8 ≤ 10000000 := by have := o4.sum; omega
  have hwa := want_any w base M s h ⟨#[109, 111, 100, 117, 108, 101]⟩
  rw [show str ⟨#[109, 111, 100, 117, 108, 101]⟩ = c_module from rfl, ← hs0] at hwa
  have HWA := Lib.hid hwa
  have HF0 := Lib.hid (FS.refl h)
  have HS0 := Lib.hid hs0
  have HN := Lib.hid hn
  have HS1 := Lib.hid hs1
  have HID := Lib.hid hid
  have HS2 := Lib.hid hs2
  have HS3 := Lib.hid hs3
  have HS4 := Lib.hid hs4
  have HSX := Lib.hid hS
  have I0 := Lib.hid i0
  have I2 := Lib.hid i2
  have I4 := Lib.hid i4
  have P1 := Lib.hid p1
  have U1 := Lib.hid u1
  have U2 := Lib.hid u2
  have U4 := Lib.hid u4
  clear h hu hs hfin hwa hs0 hn hs1 hid hs2 hs3 hs4 hS i0 i2 i4 p1 u1 u2 u4 o0 o1 o2 o3 o4
  go_enter Tryz.func31, Tryz.ntmps31
  go_upto_region 3 with (first
    | (go_at_call 45; (with_reducible refine (HWA.out).mono ?_); rintro e w1 ⟨rfl, hw1⟩; go_loud (
        obtain ⟨M1, F1, hl1⟩ := HF0.out.gstep hw1.step;
        have hnm := name_any w1 base M1 s0 F1.g;
        have hgn := nameT_good F1.g.goodN;
        rw [F1.gp, ← HN.out, ← HS1.out] at hnm;
        rw [← HN.out] at hgn;
        have HNM := Lib.hid hnm;
        have HGN := Lib.hid hgn;
        have HF1 := Lib.hid F1;
        have HL1 := Lib.hid hl1;
        clear hw1 F1 hl1 hnm hgn))
    | (go_at_call 46; (with_reducible refine (HNM.out).mono ?_); rintro e w2 ⟨rfl, hw2⟩; go_loud (
        obtain ⟨M2, F2, hl2⟩ := HF1.out.gstep hw2.step;
        have hgr := grow_any w2 base M2 s1 F2.g u { nd0 2 with name := ba n } P1.out ⟨(okNd 2 (by omega)).kind, (by show (ba n).size ≤ _; rw [ba_sizeL HGN.out.1]; have := HGN.out.2; omega), (okNd 2 (by omega)).num, (okNd 2 (by omega)).typ, (okNd 2 (by omega)).ref⟩ rfl U1.out;
        unfold ndV nd0 at hgr;
        dsimp only at hgr;
        rw [F2.gp, ← HID.out, show ((2 : Nat) : Int) = 2 from rfl, show ((0 : Nat) : Int) = 0 from rfl] at hgr;
        have HGR := Lib.hid hgr;
        have HF2 := Lib.hid F2;
        have HL2 := Lib.hid (fun h9 => hl2 (HL1.out h9));
        clear hw2 F2 hl2 hgr))
    | (go_at_call 30; (with_reducible refine (HGR.out).mono ?_); rintro e w3 ⟨rfl, hw3⟩; go_loud (
        obtain ⟨M3, F3, hl3⟩ := HF2.out.gstep hw3;
        have F3' : FS w base M [] w3 M3 s2 := (by rw [HS2.out]; exact F3);
        have HF3 := Lib.hid F3';
        have HL3 := Lib.hid (fun h9 => hl3 (HL2.out h9));
        clear hw3 F3 F3' hl3)))
  have F3 := HF3.out
  have d4 := F3.g.cells.1.2.2.2.2.1
  rw [F3.gp] at d4
  have hgpl : M.gp < w3.heap.size := by rw [← F3.gp]; exact F3.g.gpL
  have hdf := fun wd (hb : Below w3.heap.size w3 wd) => defMod_any wd base M3 s2 (F3.g.below hb) n id HGN.out U2.out
  rw [F3.gp, ← HS3.out] at hdf
  have HDF := Lib.hid hdf
  have HSK : Hid (∀ x, Below w3.heap.size w3 x → x.cell? ⟨M.gp, 4, none⟩ = some (.map (some M3.bm))) := Lib.hid (fun x hb => (hb.cell (p := ⟨M.gp, 4, none⟩) hgpl).trans d4)
  clear F3 d4 hgpl hdf
  refine wp_region_noPanic ?_
  refine wp_region_held_drew (S := fun x => x.cell? ⟨M.gp, 4, none⟩ = some (.map (some M3.bm))) (by kernel_rfl) (HSK.out _ (ride_drew (Below.refl _ _))) (fun hHeld => ?_)
  refine take_at (i := 0) (v := ?_) (some 15) rfl rfl (by kernel_rfl) (by kernel_rfl) (by kernel_rfl) (fun _ _ _ h => h) (Or.inl ⟨by rfl, ?_⟩) (by assumption) ?_
  rotate_left
  · intro w hSw
    have z0 := hSw
    first | (go_simp; done) | (go_simp; with_reducible rfl)
  try simp only [Act.put, List.setIfInBounds_toArray, List.set_cons_zero, List.set_cons_succ]
  refine take_at (i := 1) (v := ?_) (some 16) rfl rfl (by kernel_rfl) (by kernel_rfl) (by kernel_rfl) (fun _ _ _ h => h) (Or.inl ⟨by rfl, ?_⟩) (by assumption) ?_
  rotate_left
  · intro w hSw
    have z0 := hSw
    first | (go_simp; done) | (go_simp; with_reducible rfl)
  try simp only [Act.put, List.setIfInBounds_toArray, List.set_cons_zero, List.set_cons_succ]
  refine take_at (i := 2) (v := ?_) (some 17) rfl rfl (by kernel_rfl) (by kernel_rfl) (by kernel_rfl) (fun _ _ _ h => h) (Or.inl ⟨by rfl, ?_⟩) (by assumption) ?_
  rotate_left
  · intro w hSw
    have z0 := hSw
    first | (go_simp; done) | (go_simp; with_reducible rfl)
  try simp only [Act.put, List.setIfInBounds_toArray, List.set_cons_zero, List.set_cons_succ]
  refine take_at (i := 3) (v := ?_) (some 18) rfl rfl (by kernel_rfl) (by kernel_rfl) (by kernel_rfl) (fun _ _ _ h => h) (Or.inl ⟨by rfl, ?_⟩) (by assumption) ?_
  rotate_left
  · intro w hSw
    have z0 := hSw
    first | (go_simp; done) | (go_simp; with_reducible rfl)
  try simp only [Act.put, List.setIfInBounds_toArray, List.set_cons_zero, List.set_cons_succ]
  refine take_at (i := 4) (v := ?_) (some 19) rfl rfl (by kernel_rfl) (by kernel_rfl) (by kernel_rfl) (fun _ _ _ h => h) (Or.inl ⟨by rfl, ?_⟩) (by assumption) ?_
  rotate_left
  · intro w hSw
    have z0 := hSw
    first | (go_simp; done) | (go_simp; with_reducible rfl)
  try simp only [Act.put, List.setIfInBounds_toArray, List.set_cons_zero, List.set_cons_succ]
  refine take_at (i := 5) (v := ?_) (some 20) rfl rfl (by kernel_rfl) (by kernel_rfl) (by kernel_rfl) (fun _ _ _ h => h) (Or.inl ⟨by rfl, ?_⟩) (by assumption) ?_
  rotate_left
  · intro w hSw
    have z0 := hSw
    first | (go_simp; done) | (go_simp; with_reducible rfl)
  try simp only [Act.put, List.setIfInBounds_toArray, List.set_cons_zero, List.set_cons_succ]
  refine take_at (i := 6) (v := ?_) (some 21) rfl rfl (by kernel_rfl) (by kernel_rfl) (by kernel_rfl) (fun _ _ _ h => h) (Or.inl ⟨by rfl, ?_⟩) (by assumption) ?_
  rotate_left
  · intro w hSw
    have z0 := hSw
    first | (go_simp; done) | (go_simp; with_reducible rfl)
  try simp only [Act.put, List.setIfInBounds_toArray, List.set_cons_zero, List.set_cons_succ]
  refine take_at (i := 7) (v := ?_) (some 22) rfl rfl (by kernel_rfl) (by kernel_rfl) (by kernel_rfl) (fun _ _ _ h => h) (Or.inl ⟨by rfl, ?_⟩) (by assumption) ?_
  rotate_left
  · intro w hSw
    have z0 := hSw
    first | (go_simp; done) | (go_simp; with_reducible rfl)
  try simp only [Act.put, List.setIfInBounds_toArray, List.set_cons_zero, List.set_cons_succ]
  refine take_at (i := 8) (v := ?_) (some 23) rfl rfl (by kernel_rfl) (by kernel_rfl) (by kernel_rfl) (fun _ _ _ h => h) (Or.inl ⟨by rfl, ?_⟩) (by assumption) ?_
  rotate_left
  · intro w hSw
    have z0 := hSw
    first | (go_simp; done) | (go_simp; with_reducible rfl)
  try simp only [Act.put, List.setIfInBounds_toArray, List.set_cons_zero, List.set_cons_succ]
  refine take_at (i := 9) (v := ?_) (some 24) rfl rfl (by kernel_rfl) (by kernel_rfl) (by kernel_rfl) (fun _ _ _ h => h) (Or.inl ⟨by rfl, ?_⟩) (by assumption) ?_
  rotate_left
  · intro w hSw
    have z0 := hSw
    first | (go_simp; done) | (go_simp; with_reducible rfl)
  try simp only [Act.put, List.setIfInBounds_toArray, List.set_cons_zero, List.set_cons_succ]
  refine wpAnyH_ready (rs := [10]) (by kernel_rfl) (by simp) ?_
  refine AllReadyH.cons rfl (fun K hK => ?_) AllReadyH.nil
  go_simp
  refine (HDF.out _ (ride_drew (Below.refl _ _))).mono ?_
  rintro e w4 ⟨rfl, hg4, hT4⟩
  have F4 := (HF3.out.below (ride_drew (Below.refl _ _))).own hg4 hT4
  have d4 := F4.g.cells.1.2.2.2.2.1
  rw [F4.gp] at d4
  refine hK.out _ _ ?_ (fun hHeld2 => ?_)
  · exact d4
  clear hK K hHeld
  have hHeld := hHeld2
  clear hHeld2
  try simp only [Act.put, List.setIfInBounds_toArray, List.set_cons_zero, List.set_cons_succ]
  refine wpAnyH_done (by kernel_rfl) ?_ _
  refine NoPanic.normal ?_
  have hwa := want_any w4 base M3 s3 F4.g ⟨#[123]⟩
  rw [show str ⟨#[123]⟩ = c_lbr from rfl, F4.gp, ← HS4.out] at hwa
  have HWB := Lib.hid hwa
  have HF4 := Lib.hid F4
  clear hg4 hT4 F4 d4 hwa hHeld
  go_wp2_with (first
    | (go_at_call 45; (with_reducible refine (HWB.out).mono ?_); rintro e w5 ⟨rfl, hw5⟩; go_loud (
        obtain ⟨M5, F5, hl5⟩ := HF4.out.gstep hw5.step;
        have HREL : Hid (LoopI w base M 8 s4.left.length s4.nodes.length (funcS id) c_rbr S w5) := Lib.hid ⟨s4.left.length + 1, M5, s4, F5.g, F5.gp, F5.T, F5.O, fun h9 => hl5 (HL3.out h9), Nat.le_refl _, Nat.le_refl _, HSX.out.symm, fun _ => ⟨Nat.lt_succ_self _, U4.out⟩⟩;
        clear hw5 F5 hl5)))
  obtain ⟨L0, hL0⟩ : ∃ L0, L0 = s4.left.length := ⟨_, rfl⟩
  obtain ⟨N0, hN0⟩ : ∃ N0, N0 = s4.nodes.length := ⟨_, rfl⟩
  have I4N : Hid (id ≤ N0) := Lib.hid (by rw [hN0]; exact I4.out)
  rw [← hL0, ← hN0] at HREL
  clear hL0 hN0
  go_loopw [] (fun wr => LoopI w base M 8 L0 N0 (funcS id) c_rbr S wr) (fun wr => muS M.gp wr)
  case atStart => exact HREL.out
  case round =>
    obtain ⟨k, M1, s1, hg, hgp, hT, hO, hl, hL, hN, hC, hk⟩ := hrel
    obtain ⟨⟨_, d1, _⟩, _⟩ := hg.cells
    rw [hgp] at d1
    have his := is_any wr base M1 s1 hg ⟨#[125]⟩
    rw [hgp, show str ⟨#[125]⟩ = c_rbr from rfl] at his
    have hwe := want_any wr base M1 s1 hg ⟨#[125]⟩
    rw [hgp, show str ⟨#[125]⟩ = c_rbr from rfl] at hwe
    have hfin : s1 = S → ∀ w9, LStep wr base M1 (wantS c_rbr s1) w9 → GStep w base M (wantS c_rbr S) w9 := fun e9 w9 h9 => by rw [← e9]; exact GStep.trans hgp hT hO hl h9.step
    have HWE := Lib.hid hwe
    clear hwe
    cases hw : s1.wrong with
    | true =>
      rw [hw] at d1
      have HFIN := Lib.hid (hfin (loop_endW hC hw))
      clear hg his hgp hT hO hl hL hN hC hk hw hfin
      go_wp2_with (first
        | (go_at_call 45; (with_reducible refine (HWE.out).mono ?_); rintro e w9 ⟨rfl, hw9⟩; go_loud (have HW9 := Lib.hid (HFIN.out _ hw9); clear hw9)))
      go_end0
      exact ⟨rfl, HW9.out⟩
    | false =>
      rw [hw] at d1
      cases hb : isS c_rbr s1 with
      | true =>
        rw [hb] at his
        have HIS := Lib.hid his
        have HFIN := Lib.hid (hfin (loop_endE hC (hk hw).1 hb))
        clear hg his hgp hT hO hl hL hN hC hk hw hfin hb
        go_wp2_with (first
          | (go_at_call 48; (with_reducible refine (HIS.out).mono ?_); rintro e w1 ⟨rfl, rfl⟩)
          | (go_at_call 45; (with_reducible refine (HWE.out).mono ?_); rintro e w9 ⟨rfl, hw9⟩; go_loud (have HW9 := Lib.hid (HFIN.out _ hw9); clear hw9)))
        go_end0
        exact ⟨rfl, HW9.out⟩
      | false =>
        rw [hb] at his
        have HIS := Lib.hid his
        have hsc := func_any wr base M1 s1 hg id I0.out (Nat.le_trans I4N.out hN) (hk hw).2
        rw [hgp] at hsc
        have HSC := Lib.hid hsc
        have HNX := Lib.hid (fun w2 (h2 : GStep wr base M1 (funcS id s1) w2) => LoopI.more (stokN_func id) hg hgp hT hO hl hL hN hC (hk hw) hw hb h2)
        clear hg his hsc hgp hT hO hl hL hN hC hk hw hfin hb
        go_wp2_with (first
          | (go_at_call 48; (with_reducible refine (HIS.out).mono ?_); rintro e w1 ⟨rfl, rfl⟩)
          | (go_at_call 49; (with_reducible refine (HSC.out).mono ?_); rintro e w2 ⟨rfl, hw2⟩; go_loud (
              have HW2 := Lib.hid (HNX.out _ hw2);
              clear hw2)))
        obtain ⟨hfin, hmu⟩ := HW2.out
        first
          | (go_roundw; (case rel => exact hfin); (case measure => exact hmu))
          | (refine ⟨⟨_, _, _, _, _, _, _, _, _, _, _, _, _, hfin, rfl⟩, ?measure⟩; (case measure => exact hmu))
          | (refine ⟨⟨_, _, _, _, _, _, _, _, _, _, _, _, _, _, hfin, rfl⟩, ?measure⟩; (case measure => exact hmu))
          | (refine ⟨hfin, ?measure⟩; (case measure => exact hmu))
theorem mod_nil {u : Nat} {s : PS} (h : s.left.length = 0) : ∀ k, modsS u k s = s
  | 0 => rfl
  | k + 1 => by show (if s.left.length = 0 then s else _) = s; rw [if_pos h]
/-- Where the loop over modules stands. -/
def ModI (w : World) (base : Nat) (M : GM) (S : PS) (wr : World) : Prop :=
  ∃ (k : Nat) (M1 : GM) (s1 : PS), GR wr base M1 s1 ∧ M1.gp = M.gp ∧ Touch w wr (OwnG M) ∧ (∀ j, OwnG M1 j → OwnG M j ∨ w.heap.size ≤ j) ∧ (Live M → Live M1) ∧ 1 ≤ s1.nodes.length ∧ modsS 1 k s1 = S ∧ s1.left.length ≤ k ∧ s1.left.length * 16 + s1.nodes.length + s1.cnt + 10 ≤ 10000000
theorem GR.leftForm {w : World} {base : Nat} {M : GM} {s : PS} (h : GR w base M s) : ∃ A c, M.left = .slice A s.left.length c := by
  obtain ⟨A, c, e, _⟩ := h.left
  exact ⟨A, c, e⟩
set_option maxHeartbeats 16000000 in
theorem prog_any (w : World) (base : Nat) (M : GM) (s : PS) (h : GR w base M s) (hn : s.nodes = []) (hs : s.left.length * 16 + s.nodes.length + s.cnt + 11 ≤ 10000000) :
    Calls Tryz.prog 20 #[.pointer (some ⟨M.gp, 0, none⟩)] w fun e w' => e = .returned (.tuple #[]) ∧ GStep w base M (progS s) w' := by
  have hgr := grow_any w base M s h 0 (nd0 1) (Nat.zero_le _) (okNd 1 (by omega)) rfl (by omega)
  unfold ndV nd0 at hgr
  dsimp only at hgr
  have hid : growId s = 1 := by unfold growId; rw [hn]; rfl
  have hgf := grow_facts 0 (nd0 1) s
  rw [hid, show ((1 : Nat) : Int) = 1 from rfl, show ((0 : Nat) : Int) = 0 from rfl] at hgr
  obtain ⟨s1, hs1⟩ : ∃ s1, s1 = growS 0 (nd0 1) s := ⟨_, rfl⟩
  have hgr2 : Calls Tryz.prog 30 #[.pointer (some ⟨M.gp, 0, none⟩), .int .u64 0, .agg #[.int .u8 1, .string ⟨#[]⟩, .int .i64 0, .int .u8 0, .int .u64 0, .slice none 0 0]] w fun e w' => e = .returned (.int .u64 1) ∧ GStep w base M s1 w' := by rw [hs1]; exact hgr
  rw [← hs1] at hgf
  obtain ⟨e1, e2, e3, e4⟩ := hgf
  obtain ⟨S, hS⟩ : ∃ S, S = modsS 1 s1.left.length s1 := ⟨_, rfl⟩
  have hfin : progS s = S := by unfold progS; dsimp only; rw [← hs1, ← hS]
  rw [hfin]
  have hi1 : 1 ≤ s1.nodes.length := by rw [e2]; omega
  have hs2 : s1.left.length * 16 + s1.nodes.length + s1.cnt + 10 ≤ 10000000 := by rw [e1, e2, e3]; omega
  have HG := Lib.hid hgr2
  have HS := Lib.hid hS
  have HI1 := Lib.hid hi1
  have HS2 := Lib.hid hs2
  clear h hn hs hgr hgr2 hid hs1 e1 e2 e3 e4 hS hfin hi1 hs2
  go_enter Tryz.func20, Tryz.ntmps20
  go_wp2_with (first
    | (go_at_call 30; (with_reducible refine (HG.out).mono ?_); rintro e w1 ⟨rfl, M1, hg1, hgp1, hT1, hO1, hl1⟩; go_loud (
        have HREL : Hid (ModI w base M S w1) := Lib.hid ⟨s1.left.length, M1, s1, hg1, hgp1, hT1, hO1, hl1, HI1.out, HS.out.symm, Nat.le_refl _, HS2.out⟩;
        clear hg1 hgp1 hT1 hO1 hl1)))
  go_loopw [] (fun wr => ModI w base M S wr) (fun wr => muL M.gp wr)
  case atStart => exact HREL.out
  case round =>
    obtain ⟨k, M1, s1, hg, hgp, hT, hO, hl, hn, hC, hk, hsum⟩ := hrel
    obtain ⟨⟨d0, _⟩, _⟩ := hg.cells
    obtain ⟨A, c, hlf⟩ := hg.leftForm
    rw [hgp, hlf] at d0
    have hmu : muL M.gp wr = s1.left.length := by rw [← hgp]; exact hg.mu
    have hlb : s1.left.length ≤ 10000000 := by omega
    by_cases h0 : s1.left.length = 0
    · have hfin : GStep w base M S wr := by
        rw [← hC, mod_nil h0]
        exact ⟨M1, hg, hgp, hT, hO, hl⟩
      rw [h0] at d0
      have HFIN := Lib.hid hfin
      clear hg hgp hT hO hl hn hC hk hsum hlf hmu hlb h0 hfin
      go_wp2_with fail
      go_end0
      exact ⟨rfl, HFIN.out⟩
    · have hpos : 0 < s1.left.length := Nat.pos_of_ne_zero h0
      have hmd := mod_any wr base M1 s1 hg 1 hn hsum
      rw [hgp, show ((1 : Nat) : Int) = 1 from rfl] at hmd
      have HMD := Lib.hid hmd
      have HNX : Hid (∀ w2, GStep wr base M1 (modS 1 s1) w2 → ModI w base M S w2 ∧ muL M.gp w2 < muL M.gp wr) := Lib.hid (fun w2 h2 => by
        obtain ⟨M2, hg2, hgp2, hT2, hO2, hl2⟩ := GStep.trans hgp hT hO hl h2
        have hup := up_mod 1 hpos
        have hle := less_mod 1 hpos
        obtain ⟨k', rfl⟩ : ∃ k', k = k' + 1 := ⟨k - 1, by omega⟩
        refine ⟨⟨k', M2, modS 1 s1, hg2, hgp2, hT2, hO2, hl2, Nat.le_trans hn hup.nodes, ?_, by omega, by have := hup.sum; omega⟩, ?_⟩
        · rw [← hC]
          show _ = (if s1.left.length = 0 then s1 else modsS 1 k' (modS 1 s1))
          rw [if_neg h0]
        · rw [hmu, ← hgp2, hg2.mu]
          exact hle)
      obtain ⟨ln, hln⟩ : ∃ ln, ln = s1.left.length := ⟨_, rfl⟩
      rw [← hln] at d0 hpos hlb
      have hposI : (0 : Int) < (ln : Int) := by omega
      clear hg hgp hT hO hl hn hC hk hsum hlf hmu h0 hmd hln
      go_wp2_with (first
        | (go_at_call 31; (with_reducible refine (HMD.out).mono ?_); rintro e w2 ⟨rfl, hw2⟩; go_loud (
            have HW2 := Lib.hid (HNX.out _ hw2);
            clear hw2)))
      obtain ⟨hfin, hmu2⟩ := HW2.out
      first
        | (go_roundw; (case rel => exact hfin); (case measure => exact hmu2))
        | (refine ⟨⟨_, _, _, _, _, _, _, _, _, hfin, rfl⟩, ?measure⟩; (case measure => exact hmu2))
        | (refine ⟨⟨_, _, _, _, _, _, _, _, _, _, hfin, rfl⟩, ?measure⟩; (case measure => exact hmu2))
        | (refine ⟨hfin, ?measure⟩; (case measure => exact hmu2))
end Go.Proofs.YtecbaceinifjiaaGreatDoor
namespace Go.Proofs.YtecbaceinifjiaaGreatDoor
open Go.RowKit
set_option linter.unusedSimpArgs false
set_option linter.unusedVariables false
set_option maxRecDepth 100000
structure Closed (P : PS → Prop) : Prop where
  next : ∀ s, P s → P (nextS s)
  fail : ∀ s, P s → P (failS s)
  depth : ∀ s d, P s → P { s with depth := d }
  grow : ∀ u n s, P s → (n.name = ⟨#[]⟩ ∨ ∃ s0, P s0 ∧ n.name = ba (nameT s0)) → P (growS u n s)
  call : ∀ s id m n, P s → 0 < id → id ≤ s.nodes.length → P { s with calls := s.calls ++ [(id, m, n)], cnt := s.cnt + 1 }
  var : ∀ n s, P s → P (varS n s)
  num : ∀ id v s, P s → P (numOf id v s)
  typ : ∀ id v s, P s → P (typOf id v s)
  mod : ∀ n id s, P s → (∃ s0, P s0 ∧ n = nameT s0) → 0 < id → id ≤ s.nodes.length → P (defModS n id s)
  fun_ : ∀ m n id s, P s → (∃ s0, P s0 ∧ n = nameT s0) → 0 < id → id ≤ s.nodes.length → P (defFunS (nameOf m s) n id s)
  enter : ∀ s, P s → P (enterS s)
  show_ : ∀ n id s, P s → 0 < id → id ≤ s.nodes.length → P (showS n id s)
  hide : ∀ k s, P s → P (hideS k s)
theorem cl_sts {P : PS → Prop} (H : Closed P) {st : PS → PS} (hs : ∀ t, P t → P (st t)) (e : List Nat) : ∀ (k : Nat) {s : PS}, P s → P (stsS st e k s)
  | 0, s, h => h
  | k + 1, s, h => by
    show P (if s.wrong || isS e s then s else stsS st e k (st s))
    split
    · exact h
    · exact cl_sts H hs e k (hs _ h)
section
variable {P : PS → Prop} (H : Closed P)
include H
theorem cl_want (t : List Nat) {s : PS} (h : P s) : P (wantS t s) := by unfold wantS; split; exact H.next _ h; exact H.fail _ h
theorem cl_name {s : PS} (h : P s) : P (nameS s) := by unfold nameS; split; exact H.next _ h; exact H.fail _ (H.next _ h)
theorem cl_type {s : PS} (h : P s) : P (typeS s) := by
  unfold typeS
  split
  · exact H.next _ h
  · split
    · exact H.next _ h
    · exact H.fail _ (H.next _ h)
theorem cl_nest {f : PS → PS} (hf : ∀ t, P t → P (f t)) {s : PS} (h : P s) : P (nestS f s) := by
  unfold nestS
  split
  · exact H.fail _ h
  · exact H.depth _ _ (hf _ (H.depth _ _ h))
theorem cl_comma {part : PS → PS} (hp : ∀ t, P t → P (part t)) : ∀ (k : Nat) {s : PS}, P s → P (commaS part k s)
  | 0, s, h => h
  | k + 1, s, h => by
    show P (if isS c_comma s then commaS part k (part (nextS s)) else s)
    split
    · exact cl_comma hp k (hp _ (H.next _ h))
    · exact h
theorem cl_list {part : PS → PS} (hp : ∀ t, P t → P (part t)) {s : PS} (h : P s) : P (listS part s) := by
  unfold listS
  split
  · exact H.next _ h
  · exact cl_want H _ (cl_comma H hp _ (hp _ h))
theorem cl_call {ex : Nat → PS → PS} (hx : ∀ u t, P t → P (ex u t)) (u : Nat) (m : List Nat) {s : PS} (h : P s) : P (callS ex u m s) := by
  unfold callS
  dsimp only
  refine cl_nest H (fun t ht => cl_list H (hx _) ht) (cl_want H _ ?_)
  have h1 := cl_name H (cl_want H c_dot (H.grow u (nd0 19) s h (.inl rfl)))
  have h2 := ((up_grow u (nd0 19) s).trans (ok_want c_dot _).up).trans (ok_name _).up
  refine H.call _ _ _ _ h1 (Nat.succ_pos _) ?_
  have h3 := ((ok_want c_dot (growS u (nd0 19) s)).up.trans (ok_name _).up).nodes
  rw [(grow_facts u (nd0 19) s).2.1] at h3
  exact h3
theorem cl_bin {ex : Nat → PS → PS} (hx : ∀ u t, P t → P (ex u t)) (u : Nat) {s : PS} (h : P s) : P (binS ex u s) := by
  unfold binS
  refine cl_nest H (fun t ht => ?_) (H.grow _ _ _ h (.inl rfl))
  dsimp only
  refine cl_want H _ (hx _ _ (H.num _ _ _ ?_))
  split
  · exact H.fail _ (H.next _ (hx _ _ ht))
  · exact H.next _ (hx _ _ ht)
theorem cl_expr : ∀ (f u : Nat) {s : PS}, P s → P (exprS f u s)
  | 0, u, s, h => h
  | f + 1, u, s, h => by
    have hn := H.next _ h
    unfold exprS
    dsimp only
    split
    · exact H.grow _ _ _ hn (.inl rfl)
    · split
      · split
        · exact cl_call H (fun u t ht => cl_expr f u ht) _ _ hn
        · exact H.grow _ _ _ (H.var _ _ hn) (.inl rfl)
      · split
        · exact H.grow _ _ _ hn (.inl rfl)
        · split
          · exact H.grow _ _ _ hn (.inl rfl)
          · split
            · exact H.grow _ _ _ hn (.inl rfl)
            · split
              · exact cl_nest H (fun t ht => cl_expr f _ ht) (H.grow _ _ _ hn (.inl rfl))
              · split
                · exact cl_nest H (fun t ht => cl_expr f _ ht) (H.grow _ _ _ hn (.inl rfl))
                · split
                  · exact cl_bin H (fun u t ht => cl_expr f u ht) _ hn
                  · exact H.fail _ hn
theorem cl_end (u : Nat) {s : PS} (h : P s) : P (endS u s) := by unfold endS exprT; exact cl_want H _ (cl_expr H _ _ h)
theorem cl_let (u : Nat) {s : PS} (h : P s) : P (letS u s) := by
  unfold letS
  dsimp only
  refine H.show_ _ _ _ (cl_end H _ (cl_want H _ (H.grow _ _ _ (cl_type H (cl_name H h)) (.inr ⟨s, h, rfl⟩)))) (Nat.succ_pos _) ?_
  have h3 := ((ok_want c_eq (growS u { nd0 6 with name := ba (nameT s), typ := typeT (nameS s) } (typeS (nameS s)))).trans (ok_end (growId (typeS (nameS s))) _)).nodes
  rw [(grow_facts _ _ _).2.1] at h3
  exact h3
theorem cl_block {st : Nat → PS → PS} (hs : ∀ u t, P t → P (st u t)) (u : Nat) {s : PS} (h : P s) : P (blockS st u s) := by
  unfold blockS
  dsimp only
  exact H.hide _ _ (cl_nest H (fun t ht => cl_want H _ (cl_sts H (hs _) _ _ ht)) (cl_want H _ (H.grow _ _ _ h (.inl rfl))))
theorem cl_stmt : ∀ (f b : Nat) {s : PS}, P s → P (stmtS f b s)
  | 0, b, s, h => h
  | f + 1, b, s, h => by
    have hn := H.next _ h
    have ih := fun u t (ht : P t) => cl_stmt f u ht
    unfold stmtS
    dsimp only
    split
    · exact cl_let H _ hn
    · split
      · exact cl_block H ih _ (cl_want H _ (cl_block H ih _ (cl_expr H _ _ (H.grow _ _ _ hn (.inl rfl)))))
      · split
        · exact cl_block H ih _ (cl_expr H _ _ (H.grow _ _ _ hn (.inl rfl)))
        · split
          · exact cl_end H _ (H.grow _ _ _ hn (.inl rfl))
          · split
            · exact cl_want H _ (cl_call H (fun u t ht => cl_expr H _ u ht) _ _ (cl_name H (H.grow _ _ _ hn (.inl rfl))))
            · exact cl_end H _ (H.grow _ _ _ (cl_want H _ (H.var _ _ (cl_name H h))) (.inl rfl))
theorem cl_param (u : Nat) {s : PS} (h : P s) : P (paramS u s) := by
  unfold paramS
  dsimp only
  exact H.show_ _ _ _ (H.grow _ _ _ (cl_type H (cl_name H h)) (.inr ⟨s, h, rfl⟩)) (Nat.succ_pos _) (by rw [(grow_facts _ _ _).2.1]; exact Nat.le_refl _)
theorem cl_func (m : Nat) {s : PS} (h : P s) : P (funcS m s) := by
  rw [funcS_eq]
  have hA : ∀ t, P t → P (funcA m t) := fun t ht => by unfold funcA; exact cl_want H _ (H.enter _ (H.fun_ _ _ _ _ (H.grow _ _ _ (cl_name H ht) (.inr ⟨t, ht, rfl⟩)) ⟨t, ht, rfl⟩ (Nat.succ_pos _) (by rw [(grow_facts _ _ _).2.1]; exact Nat.le_refl _)))
  have hB : ∀ id t, P t → P (funcB id t) := fun id t ht => by unfold funcB; exact cl_want H _ (H.typ _ _ _ (cl_type H (cl_list H (fun x hx => cl_param H _ hx) ht)))
  have hC : ∀ id t, P t → P (funcC id t) := fun id t ht => by unfold funcC; exact cl_want H _ (cl_sts H (fun x hx => cl_stmt H _ _ hx) _ _ (H.grow _ _ _ ht (.inl rfl)))
  have hD : ∀ b t, P t → P (funcD b t) := fun b t ht => by unfold funcD; exact cl_want H _ (cl_end H _ (H.grow _ _ _ ht (.inl rfl)))
  exact hD _ _ (hC _ _ (hB _ _ (hA _ (cl_want H _ h))))
theorem cl_mod (u : Nat) {s : PS} (h : P s) : P (modS u s) := by
  rw [modS_eq]
  have hA : ∀ t, P t → P (modA u t) := fun t ht => by unfold modA; exact cl_want H _ (H.mod _ _ _ (H.grow _ _ _ (cl_name H ht) (.inr ⟨t, ht, rfl⟩)) ⟨t, ht, rfl⟩ (Nat.succ_pos _) (by rw [(grow_facts _ _ _).2.1]; exact Nat.le_refl _))
  have hB : ∀ id t, P t → P (modB id t) := fun id t ht => by unfold modB; exact cl_want H _ (cl_sts H (fun x hx => cl_func H _ hx) _ _ ht)
  exact hB _ _ (hA _ (cl_want H _ h))
theorem cl_mods (u : Nat) : ∀ (k : Nat) {s : PS}, P s → P (modsS u k s)
  | 0, s, h => h
  | k + 1, s, h => by
    show P (if s.left.length = 0 then s else modsS u k (modS u s))
    split
    · exact h
    · exact cl_mods u k (cl_mod H _ h)
theorem cl_prog {s : PS} (h : P s) : P (progS s) := by
  unfold progS
  dsimp only
  exact cl_mods H _ _ (H.grow _ _ _ h (.inl rfl))
end
/-- The calls that are to be looked up are nodes. -/
def CallsOk (s : PS) : Prop := ∀ c ∈ s.calls, 0 < c.1 ∧ c.1 ≤ s.nodes.length
theorem CallsOk.of {s s' : PS} (h : CallsOk s) (hc : s'.calls = s.calls) (hn : s.nodes.length ≤ s'.nodes.length) : CallsOk s' := fun c hcs => by
  rw [hc] at hcs
  exact ⟨(h c hcs).1, Nat.le_trans (h c hcs).2 hn⟩
theorem calls_closed : Closed CallsOk := by
  refine ⟨fun s h => ?_, fun s h => h.of rfl (Nat.le_refl _), fun s d h => h.of rfl (Nat.le_refl _), fun u n s h _ => h.of rfl ?_, fun s id m n h h0 h1 => ?_, fun n s h => ?_, fun id v s h => h.of rfl ?_, fun id v s h => h.of rfl ?_, fun n id s h _ _ _ => ?_, fun m n id s h _ _ _ => ?_, fun s h => h.of rfl (Nat.le_refl _), fun n id s h _ _ => ?_, fun k s h => h.of rfl (Nat.le_refl _)⟩
  · refine h.of ?_ (ok_next s).nodes
    unfold nextS
    cases s.left <;> rfl
  · rw [(grow_facts u n s).2.1]; exact Nat.le_succ _
  · intro c hc
    rcases List.mem_append.1 hc with hc | hc
    · exact h c hc
    · rw [List.mem_singleton] at hc
      subst hc
      exact ⟨h0, h1⟩
  · refine h.of ?_ (ok_var n s).nodes
    unfold varS
    split <;> rfl
  · exact (ok_num id v s).nodes
  · exact (up_typ id v s).nodes
  · refine h.of ?_ (up_defMod n id s).nodes
    unfold defModS
    dsimp only
    split <;> rfl
  · refine h.of ?_ (up_defFun _ n id s).nodes
    unfold defFunS
    dsimp only
    split <;> rfl
  · refine h.of ?_ (up_show n id s).nodes
    unfold showS defTakS
    dsimp only
    split <;> rfl
/-- What functions' names lead to are nodes. -/
def FunsOk (s : PS) : Prop := ∀ a b, s.funs a b ≤ s.nodes.length
theorem FunsOk.of {s s' : PS} (h : FunsOk s) (hc : s'.funs = s.funs) (hn : s.nodes.length ≤ s'.nodes.length) : FunsOk s' := fun a b => by
  rw [hc]
  exact Nat.le_trans (h a b) hn
theorem funs_closed : Closed FunsOk := by
  refine ⟨fun s h => ?_, fun s h => h.of rfl (Nat.le_refl _), fun s d h => h.of rfl (Nat.le_refl _), fun u n s h _ => h.of rfl ?_, fun s id m n h h0 h1 => h.of rfl (Nat.le_refl _), fun n s h => ?_, fun id v s h => h.of rfl ?_, fun id v s h => h.of rfl ?_, fun n id s h _ _ _ => ?_, fun m n id s h _ h0 h1 a b => ?_, fun s h => h.of rfl (Nat.le_refl _), fun n id s h _ _ => ?_, fun k s h => h.of rfl (Nat.le_refl _)⟩
  · refine h.of ?_ (ok_next s).nodes
    unfold nextS
    cases s.left <;> rfl
  · rw [(grow_facts u n s).2.1]; exact Nat.le_succ _
  · refine h.of ?_ (ok_var n s).nodes
    unfold varS
    split <;> rfl
  · exact (ok_num id v s).nodes
  · exact (up_typ id v s).nodes
  · refine h.of ?_ (up_defMod n id s).nodes
    unfold defModS
    dsimp only
    split <;> rfl
  · rw [(defFun_facts _ n id s).2.2.1]
    have e : (defFunS (nameOf m s) n id s).funs = put2 s.funs (nameOf m s) n id := by
      unfold defFunS
      dsimp only
      split <;> rfl
    rw [e]
    unfold put2
    split
    · exact h1
    · exact h a b
  · refine h.of ?_ (up_show n id s).nodes
    unfold showS defTakS
    dsimp only
    split <;> rfl
end Go.Proofs.YtecbaceinifjiaaGreatDoor
