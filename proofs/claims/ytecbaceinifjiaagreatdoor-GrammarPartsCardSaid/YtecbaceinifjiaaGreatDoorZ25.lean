/- GListP, GParam, GFs: joined by program (tools/merge.py). -/
import Derived.Test.YtecbaceinifjiaaGreatDoorZ24
namespace Go.Proofs.YtecbaceinifjiaaGreatDoor
open Go.RowKit
set_option linter.unusedSimpArgs false
set_option linter.unusedVariables false
set_option maxRecDepth 100000
attribute [local go_sem] Oper.semAt_some undef
def PartsD (fn : FuncId) (caps : Array Value) (w : World) (base : Nat) (M : GM) (L0 N0 : Nat) (part : PS → PS) : Prop :=
  ∀ (wr : World) (M1 : GM) (s1 : PS), GR wr base M1 s1 → M1.gp = M.gp → Touch w wr (OwnG M) → (∀ j, OwnG M1 j → OwnG M j ∨ w.heap.size ≤ j) → (Live M → Live M1) → s1.left.length ≤ L0 → N0 ≤ s1.nodes.length → s1.left.length * 16 + s1.nodes.length + s1.cnt + 3 ≤ 10000000 → PartC fn caps wr base M1 (part s1)
set_option maxHeartbeats 8000000 in
theorem listParam_any (w : World) (base : Nat) (M : GM) (s : PS) (h : GR w base M s) (caps : Array Value) (part : PS → PS) (hs : s.left.length * 16 + s.nodes.length + s.cnt + 3 ≤ 10000000) (hP : PartsD 71 caps w base M s.left.length s.nodes.length part)
    (hm : ∀ t : PS, t.left.length ≤ s.left.length → (part t).left.length ≤ t.left.length ∧ t.nodes.length ≤ (part t).nodes.length) :
    Calls Tryz.prog 70 #[.pointer (some ⟨M.gp, 0, none⟩), .func (.func 71) #[] caps] w fun e w' => e = .returned (.tuple #[]) ∧ GStep w base M (listS part s) w' := by
  have hta := take_any w base M s h ⟨#[41]⟩
  have hstr : str ⟨#[41]⟩ = c_rpar := rfl
  rw [hstr] at hta
  have HTA := Lib.hid hta
  have HH := Lib.hid h
  have HP := Lib.hid hP
  have HSUM0 := Lib.hid hs
  have HM := Lib.hid hm
  obtain ⟨b, hb⟩ : ∃ b, b = isS c_rpar s := ⟨_, rfl⟩
  rw [← hb] at HTA
  have HB := Lib.hid hb
  clear h hs hP hm hta hb hstr
  cases b
  · go_enter Tryz.func70, Tryz.ntmps70
    go_wp2_with (first
      | (go_at_call 65; (with_reducible refine (HTA.out).mono ?_); rintro e w1 ⟨rfl, hw1⟩; go_loud (
          have hts : takeS c_rpar s = s := (by unfold takeS; rw [← HB.out, if_neg (by simp)]);
          rw [hts] at hw1;
          obtain ⟨M1, hg1, hgp1, hT1, hO1, hl1⟩ := hw1.step;
          have hpc := HP.out w1 M1 s hg1 hgp1 hT1 hO1 hl1 (Nat.le_refl _) (Nat.le_refl _) HSUM0.out;
          unfold PartC at hpc;
          have HPC := Lib.hid hpc;
          have HGP1 := Lib.hid hgp1;
          have HT1 := Lib.hid hT1;
          have HO1 := Lib.hid hO1;
          have HL1 := Lib.hid hl1;
          clear hts hw1 hg1 hgp1 hT1 hO1 hl1 hpc))
      | (go_at_call 71; (with_reducible refine (HPC.out).mono ?_); rintro e w2 ⟨rfl, hw2⟩; go_loud (
          obtain ⟨M2, hg2, hgp2, hT2, hO2, hl2⟩ := GStep.trans HGP1.out HT1.out HO1.out HL1.out hw2;
          have hmm := HM.out s (Nat.le_refl _);
          have HST : Hid (ListI w base M s.left.length s.nodes.length part (commaS part (part s).left.length (part s)) w2) := Lib.hid ⟨_, M2, part s, hg2, hgp2, hT2, hO2, hl2, hmm.1, hmm.2, rfl, Nat.le_refl _⟩;
          clear hw2 hg2 hgp2 hT2 hO2 hl2 hmm)))
    go_loopw [] (fun wr => ListI w base M s.left.length s.nodes.length part (commaS part (part s).left.length (part s)) wr) (fun wr => muL M.gp wr)
    case atStart => exact HST.out
    case round =>
      obtain ⟨k, M1, s1, hg, hgp, hT, hO, hl, hL, hN, hC, hk⟩ := hrel
      have hta := take_any wr base M1 s1 hg ⟨#[44]⟩
      rw [show str ⟨#[44]⟩ = c_comma from rfl, hgp] at hta
      obtain ⟨b, hb⟩ : ∃ b, b = isS c_comma s1 := ⟨_, rfl⟩
      rw [← hb] at hta
      have HTC := Lib.hid hta
      have HBC := Lib.hid hb
      have HG := Lib.hid hg
      have HGP := Lib.hid hgp
      have HT := Lib.hid hT
      have HO := Lib.hid hO
      have HL := Lib.hid hl
      have HLL := Lib.hid hL
      have HNN := Lib.hid hN
      have HCC := Lib.hid hC
      have HK := Lib.hid hk
      have HMU := Lib.hid (show muL M.gp wr = s1.left.length by rw [← hgp]; exact hg.mu)
      clear hg hgp hT hO hl hL hN hC hk hta hb
      cases b
      · go_wp2_with (first
          | (go_at_call 65; (with_reducible refine (HTC.out).mono ?_); rintro e w5 ⟨rfl, hw5⟩; go_loud (
              have hts : takeS c_comma s1 = s1 := (by unfold takeS; rw [← HBC.out, if_neg (by simp)]);
              rw [hts] at hw5;
              obtain ⟨M5, hg5, hgp5, hT5, hO5, hl5⟩ := GStep.trans HGP.out HT.out HO.out HL.out hw5.step;
              have hwa := want_any w5 base M5 s1 hg5 ⟨#[41]⟩;
              rw [show str ⟨#[41]⟩ = c_rpar from rfl, hgp5] at hwa;
              have HWA := Lib.hid hwa;
              have HGP5 := Lib.hid hgp5;
              have HT5 := Lib.hid hT5;
              have HO5 := Lib.hid hO5;
              have HL5 := Lib.hid hl5;
              clear hts hw5 hg5 hgp5 hT5 hO5 hl5 hwa))
          | (go_at_call 45; (with_reducible refine (HWA.out).mono ?_); rintro e w6 ⟨rfl, hw6⟩; go_loud (
              have HW6 := Lib.hid hw6;
              clear hw6)))
        go_end0
        refine ⟨rfl, ?_⟩
        unfold listS
        rw [← HB.out, if_neg (by simp), ← HCC.out, comma_stop HBC.out.symm]
        exact GStep.trans HGP5.out HT5.out HO5.out HL5.out HW6.out.step
      · go_wp2_with (first
          | (go_at_call 65; (with_reducible refine (HTC.out).mono ?_); rintro e w5 ⟨rfl, hw5⟩; go_loud (
              have hts : takeS c_comma s1 = nextS s1 := (by unfold takeS; rw [← HBC.out, if_pos rfl]);
              rw [hts] at hw5;
              obtain ⟨M5, hg5, hgp5, hT5, hO5, hl5⟩ := GStep.trans HGP.out HT.out HO.out HL.out hw5.step;
              have hnx := isS_pos HBC.out.symm;
              have hpc := HP.out w5 M5 (nextS s1) hg5 hgp5 hT5 hO5 hl5 (by have := HLL.out; omega) (by rw [nextS_nodes]; exact HNN.out) (by have a0 := nx_is HBC.out.symm; have a1 := a0.left; have a2 := HG.out.sum; rw [a0.nodes, a0.cnt]; omega);
              unfold PartC at hpc;
              have HPC2 := Lib.hid hpc;
              have HNX := Lib.hid hnx;
              have HGP5 := Lib.hid hgp5;
              have HT5 := Lib.hid hT5;
              have HO5 := Lib.hid hO5;
              have HL5 := Lib.hid hl5;
              clear hts hw5 hg5 hgp5 hT5 hO5 hl5 hpc hnx))
          | (go_at_call 71; (with_reducible refine (HPC2.out).mono ?_); rintro e w6 ⟨rfl, hw6⟩; go_loud (
              have HW6 := Lib.hid hw6;
              clear hw6)))
        obtain ⟨M6, hg6, hgp6, hT6, hO6, hl6⟩ := GStep.trans HGP5.out HT5.out HO5.out HL5.out HW6.out
        have hmm := HM.out (nextS s1) (by have := HLL.out; have := HNX.out; omega)
        have hfin : ListI w base M s.left.length s.nodes.length part (commaS part (part s).left.length (part s)) w6 := by
          have hk := HK.out
          have hn := HNX.out
          obtain ⟨k', rfl⟩ : ∃ k', k = k' + 1 := ⟨k - 1, by omega⟩
          refine ⟨k', M6, part (nextS s1), hg6, hgp6, hT6, hO6, hl6, by have := HLL.out; omega, Nat.le_trans HNN.out (by rw [← nextS_nodes s1]; exact hmm.2), ?_, by omega⟩
          rw [← HCC.out]
          show _ = (if isS c_comma s1 then commaS part k' (part (nextS s1)) else s1)
          rw [← HBC.out, if_pos rfl]
        have hmu : muL M.gp w6 < muL M.gp wr := by
          rw [HMU.out, ← hgp6, hg6.mu]
          have := HNX.out
          omega
        first
          | (go_roundw; (case rel => exact hfin); (case measure => exact hmu))
          | (refine ⟨⟨_, _, _, _, hfin, rfl⟩, ?measure⟩; (case measure => exact hmu))
          | (refine ⟨hfin, ?measure⟩; (case measure => exact hmu))
  · go_enter Tryz.func70, Tryz.ntmps70
    go_wp2_with (go_at_call 65; (with_reducible refine (HTA.out).mono ?_); rintro e w1 ⟨rfl, hw1⟩; go_loud (
      have HW1 := Lib.hid hw1;
      clear hw1))
    refine bodyPost_ret (results_none (by rfl) _ _ _) rfl ?_
    refine ⟨rfl, ?_⟩
    have h1 := HW1.out
    unfold takeS at h1
    unfold listS
    rw [← HB.out, if_pos rfl] at h1 ⊢
    exact h1.step
end Go.Proofs.YtecbaceinifjiaaGreatDoor
namespace Go.Proofs.YtecbaceinifjiaaGreatDoor
open Go.RowKit
set_option linter.unusedSimpArgs false
set_option linter.unusedVariables false
set_option maxRecDepth 100000
attribute [local go_sem] Oper.semAt_some undef
set_option maxHeartbeats 8000000 in
theorem param_any (w : World) (base : Nat) (M : GM) (s : PS) (h : GR w base M s) (u : Nat) (hu : u ≤ s.nodes.length) (hl : Live M) (hs : s.left.length * 16 + s.nodes.length + s.cnt + 3 ≤ 10000000) :
    Calls Tryz.prog 72 #[.pointer (some ⟨M.gp, 0, none⟩), .int .u64 (u : Int)] w fun e w' => e = .returned (.tuple #[]) ∧ GStep w base M (paramS u s) w' := by
  have hnm := name_any w base M s h
  have hgn := nameT_good h.goodN
  obtain ⟨n, hn⟩ : ∃ n, n = nameT s := ⟨_, rfl⟩
  rw [← hn] at hnm hgn
  obtain ⟨s1, hs1⟩ : ∃ s1, s1 = nameS s := ⟨_, rfl⟩
  rw [← hs1] at hnm
  obtain ⟨T, hT⟩ : ∃ T, T = typeT s1 := ⟨_, rfl⟩
  have hTb : T ≤ 2 := by rw [hT]; exact typeT_le _
  obtain ⟨s2, hs2⟩ : ∃ s2, s2 = typeS s1 := ⟨_, rfl⟩
  obtain ⟨id, hid⟩ : ∃ id, id = growId s2 := ⟨_, rfl⟩
  have hok2 : Ok s s2 0 := by rw [hs2, hs1]; exact (ok_name s).trans (ok_type _)
  obtain ⟨s3, hs3⟩ : ∃ s3, s3 = growS u { nd0 4 with name := ba n, typ := T } s2 := ⟨_, rfl⟩
  have hfin : paramS u s = showS n id s3 := by unfold paramS; rw [hs3, hid, hT, hs2, hs1, hn]
  have hg3 := grow_facts u { nd0 4 with name := ba n, typ := T } s2
  rw [← hs3] at hg3
  have hsum2 : s2.left.length * 16 + (s2.nodes.length + 1) + s2.cnt ≤ 10000000 := by have a1 := hok2.sum; omega
  have hsum3 : s3.left.length * 16 + s3.nodes.length + (s3.cnt + 2) ≤ 10000000 := by
    have a1 := hok2.sum
    rw [hg3.1, hg3.2.1, hg3.2.2.1]
    omega
  have hidb : id < 18446744073709551616 := by rw [hid]; unfold growId; omega
  have hnd : NdOk { nd0 4 with name := ba n, typ := T } := ⟨(okNd 4 (by omega)).kind, by show (ba n).size ≤ _; rw [ba_sizeL hgn.1]; have := hgn.2; omega, (okNd 4 (by omega)).num, by show T < 256; omega, (okNd 4 (by omega)).ref⟩
  have hu2 : u ≤ s2.nodes.length := Nat.le_trans hu hok2.nodes
  rw [hfin]
  have HNM := Lib.hid hnm
  have HGN := Lib.hid hgn
  have HS2 := Lib.hid hs2
  have HT := Lib.hid hT
  have HID := Lib.hid hid
  have HS3 := Lib.hid hs3
  have HSUM2 := Lib.hid hsum2
  have HSUM3 := Lib.hid hsum3
  have HIDB := Lib.hid hidb
  have HND := Lib.hid hnd
  have HU2 := Lib.hid hu2
  have HL := Lib.hid hl
  clear h hnm hgn hn hs1 hT hTb hs2 hid hok2 hs3 hfin hg3 hsum2 hsum3 hidb hnd hu2 hu hl hs
  go_enter Tryz.func72, Tryz.ntmps72
  go_wp2_with (first
    | (go_at_call 46; (with_reducible refine (HNM.out).mono ?_); rintro e w1 ⟨rfl, l1, hg1, hT1⟩; go_loud (
        have hty := type_any w1 base _ _ hg1;
        dsimp only at hty hT1;
        rw [← HT.out, ← HS2.out] at hty;
        have HTY := Lib.hid hty;
        have HT1 := Lib.hid hT1;
        clear hty hg1 hT1))
    | (go_at_call 73; (with_reducible refine (HTY.out).mono ?_); rintro e w2 ⟨rfl, l2, hg2, hT2⟩; go_loud (
        have hgr := grow_any w2 base _ _ hg2 u { nd0 4 with name := ba n, typ := T } HU2.out HND.out rfl HSUM2.out;
        unfold ndV nd0 at hgr;
        dsimp only at hgr hT2;
        rw [← HID.out, show ((4 : Nat) : Int) = 4 from rfl, show ((0 : Nat) : Int) = 0 from rfl] at hgr;
        have HGR := Lib.hid hgr;
        have HT2 := Lib.hid hT2;
        clear hgr hg2 hT2))
    | (go_at_call 30; (with_reducible refine (HGR.out).mono ?_); rintro e w3 ⟨rfl, M3, hg3, hgp3, hT3, hO3, hl3⟩; go_loud (
        have hg3' : GR w3 base M3 s3 := (by rw [HS3.out]; exact hg3);
        dsimp only at hgp3;
        have hl3' := hl3 HL.out;
        obtain ⟨⟨gt, hgt⟩, gv, hgv⟩ := hl3';
        have hsh := show_any w3 base M3 s3 hg3' n id gt gv HGN.out hgt hgv HSUM3.out HIDB.out;
        rw [hgp3] at hsh;
        have HSH := Lib.hid hsh;
        have HGP3 := Lib.hid hgp3;
        have HT3 := Lib.hid hT3;
        have HO3 := Lib.hid hO3;
        have HL3 := Lib.hid (hl3 HL.out);
        clear hsh hg3 hg3' hgp3 hT3 hO3 hl3 hgt hgv))
    | (go_at_call 84; (with_reducible refine (HSH.out).mono ?_); rintro e w6 ⟨rfl, hw6⟩; go_loud (
        have HW6 := Lib.hid hw6;
        clear hw6)))
  go_end0
  refine ⟨rfl, ?_⟩
  have k3 := GStep.trans HGP3.out HT3.out HO3.out (fun _ => HL3.out) HW6.out
  have k2 := GStep.trans (M := { M with left := _ }) rfl (HT2.out.more fun j e => .inl e) (fun j h => .inl h) (fun h => h) k3
  exact GStep.trans (M := M) rfl (HT1.out.more fun j e => .inl e) (fun j h => .inl h) (fun h => h) k2
set_option maxHeartbeats 2000000 in
theorem param1_any (w : World) (base : Nat) (M : GM) (s' : PS) (id g1 g2 : Nat) (b1 : BoxP w g1 M.gp) (b2 : BoxI w g2 id)
    (H : Calls Tryz.prog 72 #[.pointer (some ⟨M.gp, 0, none⟩), .int .u64 (id : Int)] w fun e w' => e = .returned (.tuple #[]) ∧ GStep w base M s' w') :
    PartC 71 #[.pointer (some ⟨g1, 0, none⟩), .pointer (some ⟨g2, 0, none⟩)] w base M s' := by
  have c1 := b1.cell
  have c2 := b2.cell
  have HE := Lib.hid H
  clear b1 b2 H
  unfold PartC
  go_enter Tryz.func71, Tryz.ntmps71
  go_wp2_with (go_at_call 72; (with_reducible refine (HE.out).mono ?_); rintro e w2 ⟨rfl, hw2⟩; go_loud (
    have HW2 := Lib.hid hw2;
    clear hw2))
  go_end0
  exact ⟨rfl, HW2.out⟩
theorem params_any (w : World) (base : Nat) (M : GM) (s : PS) (h : GR w base M s) (id g1 g2 : Nat) (b1 : BoxP w g1 M.gp) (b2 : BoxI w g2 id) (n1 : ¬ OwnG M g1) (n2 : ¬ OwnG M g2) (hin : id ≤ s.nodes.length) (hl : Live M) (hs : s.left.length * 16 + s.nodes.length + s.cnt + 3 ≤ 10000000) :
    Calls Tryz.prog 70 #[.pointer (some ⟨M.gp, 0, none⟩), .func (.func 71) #[] #[.pointer (some ⟨g1, 0, none⟩), .pointer (some ⟨g2, 0, none⟩)]] w fun e w' => e = .returned (.tuple #[]) ∧ GStep w base M (listS (paramS id) s) w' :=
  listParam_any w base M s h _ (paramS id) hs
    (fun wr M1 s1 hg hgp hT hO hl1 hL hN hsum => param1_any wr base M1 _ id g1 g2 (by rw [hgp]; exact keep_block hT b1 n1) (keep_block hT b2 n2) (param_any wr base M1 s1 hg id (Nat.le_trans hin hN) (hl1 hl) hsum))
    (fun t _ => ⟨(up_param id t).left, (up_param id t).nodes⟩)
end Go.Proofs.YtecbaceinifjiaaGreatDoor
namespace Go.Proofs.YtecbaceinifjiaaGreatDoor
open Go.RowKit
set_option linter.unusedSimpArgs false
set_option linter.unusedVariables false
set_option maxRecDepth 100000
/-- From w on the parser came to sr; the blocks of l stand and are none of its own. -/
structure FS (w : World) (base : Nat) (M : GM) (l : List (Nat × Obj)) (wr : World) (Mr : GM) (sr : PS) : Prop where
  g : GR wr base Mr sr
  gp : Mr.gp = M.gp
  T : Touch w wr (OwnG M)
  O : ∀ j, OwnG Mr j → OwnG M j ∨ w.heap.size ≤ j
  k : ∀ p ∈ l, wr.heap[p.1]? = some p.2 ∧ ¬ OwnG Mr p.1
theorem FS.refl {w : World} {base : Nat} {M : GM} {s : PS} (h : GR w base M s) : FS w base M [] w M s := ⟨h, rfl, Touch.refl _ _, fun j h => .inl h, fun p hp => by cases hp⟩
theorem FS.gstep {w wr w2 : World} {base : Nat} {M Mr : GM} {l : List (Nat × Obj)} {sr s2 : PS} (h : FS w base M l wr Mr sr) (hs : GStep wr base Mr s2 w2) : ∃ M2, FS w base M l w2 M2 s2 ∧ (Live Mr → Live M2) := by
  obtain ⟨M2, h1, h2, h3, h4, h5⟩ := hs
  refine ⟨M2, ⟨h1, h2.trans h.gp, h.T.trans h3 h.O, fun j hj => ?_, fun p hp => ?_⟩, h5⟩
  · rcases h4 j hj with h9 | h9
    · exact h.O j h9
    · exact .inr (Nat.le_trans h.T.size h9)
  · obtain ⟨k1, k2⟩ := h.k p hp
    refine ⟨keep_block h3 k1 k2, fun e => ?_⟩
    rcases h4 _ e with h9 | h9
    · exact k2 h9
    · have := lt_of_heap2 k1
      omega
theorem FS.below {w wr w2 : World} {base : Nat} {M Mr : GM} {l : List (Nat × Obj)} {sr : PS} (h : FS w base M l wr Mr sr) (hb : Below wr.heap.size wr w2) : FS w base M l w2 Mr sr :=
  ⟨h.g.below hb, h.gp, h.T.after hb, h.O, fun p hp => ⟨(hb.block _ (lt_of_heap2 (h.k p hp).1)).trans (h.k p hp).1, (h.k p hp).2⟩⟩
theorem FS.own {w wr w2 : World} {base : Nat} {M Mr : GM} {l : List (Nat × Obj)} {sr s2 : PS} (h : FS w base M l wr Mr sr) (hg : GR w2 base Mr s2) (hT : Touch wr w2 (OwnG Mr)) : FS w base M l w2 Mr s2 :=
  ⟨hg, h.gp, h.T.trans hT h.O, h.O, fun p hp => ⟨keep_block hT (h.k p hp).1 (h.k p hp).2, (h.k p hp).2⟩⟩
theorem FS.new {w wr : World} {base : Nat} {M Mr : GM} {l : List (Nat × Obj)} {sr : PS} (h : FS w base M l wr Mr sr) (o : Obj) (W : World) (hW : W = wr.alloc o) : FS w base M ((wr.heap.size, o) :: l) W Mr sr := by
  subst hW
  have hb : Below wr.heap.size wr (wr.alloc o) := (Below.refl _ _).alloc (Nat.le_refl _) _
  have h1 := h.below hb
  refine ⟨h1.g, h1.gp, h1.T, h1.O, fun p hp => ?_⟩
  rcases List.mem_cons.1 hp with e | hp
  · rw [e]
    exact ⟨Go.heap_alloc_new _ _, fun e9 => Nat.lt_irrefl _ (h.g.own e9).2⟩
  · exact h1.k p hp
theorem FS.lstep {w wr w2 : World} {base : Nat} {M Mr : GM} {l : List (Nat × Obj)} {sr s2 : PS} {v : Value} (h : FS w base M l wr Mr sr) (hg : GR w2 base { Mr with left := v } s2) (hT : Touch wr w2 (Only Mr.gp)) : FS w base M l w2 { Mr with left := v } s2 :=
  ⟨hg, h.gp, h.T.trans (hT.more fun j e => .inl e) h.O, h.O, fun p hp => ⟨keep_block (hT.more fun j e => .inl e) (h.k p hp).1 (h.k p hp).2, (h.k p hp).2⟩⟩
theorem FS.step {w wr : World} {base : Nat} {M Mr : GM} {l : List (Nat × Obj)} {sr : PS} (h : FS w base M l wr Mr sr) (hl : Live M → Live Mr) : GStep w base M sr wr := ⟨Mr, h.g, h.gp, h.T, h.O, hl⟩
/-- A function's variables begin. -/
theorem FS.enter {w wr w2 : World} {base g1 g2 : Nat} {M Mr : GM} {l : List (Nat × Obj)} {sr : PS} (h : FS w base M l wr Mr sr) (hg : GR w2 base { Mr with vt := some g1, vv := some g2, sv := .slice none 0 0 } (enterS sr)) (hT : Touch wr w2 (Only Mr.gp)) (h1 : wr.heap.size ≤ g1) (h2 : wr.heap.size ≤ g2) :
    ∃ M2, FS w base M l w2 M2 (enterS sr) ∧ Live M2 := by
  have hT' : Touch wr w2 (OwnG Mr) := hT.more fun j e => .inl e
  have hO : ∀ j, OwnG { Mr with vt := some g1, vv := some g2, sv := .slice none 0 0 } j → OwnG Mr j ∨ wr.heap.size ≤ j := by
    intro j hj
    rcases hj with e | e | e | e | e | e | e | e | e
    · exact .inl (.inl e)
    · exact .inl (.inr (.inl e))
    · exact .inl (.inr (.inr (.inl e)))
    · exact .inl (.inr (.inr (.inr (.inl e))))
    · exact .inl (.inr (.inr (.inr (.inr (.inl e)))))
    · injection e with e; exact .inr (by omega)
    · injection e with e; exact .inr (by omega)
    · cases e
    · exact .inl (.inr (.inr (.inr (.inr (.inr (.inr (.inr (.inr e))))))))
  refine ⟨_, ⟨hg, h.gp, h.T.trans hT' h.O, fun j hj => ?_, fun p hp => ⟨keep_block hT' (h.k p hp).1 (h.k p hp).2, fun e => ?_⟩⟩, ⟨⟨g1, rfl⟩, ⟨g2, rfl⟩⟩⟩
  · rcases hO j hj with h9 | h9
    · exact h.O j h9
    · exact .inr (Nat.le_trans h.T.size h9)
  · rcases hO _ e with h9 | h9
    · exact (h.k p hp).2 h9
    · have := lt_of_heap2 (h.k p hp).1
      omega
def boxP (gp : Nat) : Obj := .cells #[.pointer (some ⟨gp, 0, none⟩)] 50 (0, 0)
def boxI (id : Nat) : Obj := .cells #[.int .u64 (id : Int)] 30 (0, 0)
theorem FS.cellP {w wr : World} {base g gp : Nat} {M Mr : GM} {l : List (Nat × Obj)} {sr : PS} (h : FS w base M l wr Mr sr) (hm : (g, boxP gp) ∈ l) : wr.cell? ⟨g, 0, none⟩ = some (.pointer (some ⟨gp, 0, none⟩)) := BoxP.cell (h.k _ hm).1
theorem FS.cellI {w wr : World} {base g id : Nat} {M Mr : GM} {l : List (Nat × Obj)} {sr : PS} (h : FS w base M l wr Mr sr) (hm : (g, boxI id) ∈ l) : wr.cell? ⟨g, 0, none⟩ = some (.int .u64 (id : Int)) := BoxI.cell (h.k _ hm).1
/-- A node's name, as memory has it. -/
theorem GR.nameAt {w : World} {base : Nat} {M : GM} {s : PS} (h : GR w base M s) (id : Nat) (hid : 0 < id) (hin : id ≤ s.nodes.length) :
    ∃ g c i, id = i + 1 ∧ i < s.nodes.length ∧ M.nv = .slice (some ⟨g, 0, none⟩) s.nodes.length c ∧ g < w.heap.size ∧ w.cell? ⟨g, i * 6 + 1, none⟩ = some (.string (ba (nameOf id s))) ∧ GoodM (nameOf id s) := by
  obtain ⟨g, c, hnv⟩ := h.nvForm (by omega)
  obtain ⟨i, rfl⟩ : ∃ i, id = i + 1 := ⟨id - 1, by omega⟩
  have hi : i < s.nodes.length := by omega
  obtain ⟨m, hm⟩ : ∃ m, s.nodes[i]? = some m := ⟨_, List.getElem?_eq_getElem hi⟩
  obtain ⟨kv, hkv⟩ : ∃ kv, M.kvs[i]? = some kv := ⟨_, List.getElem?_eq_getElem (by rw [h.nodes.len]; exact hi)⟩
  obtain ⟨hcs, hfz, cs, hgc⟩ := h.ndCells hnv hm hkv
  have hok := h.nodes.ok m (List.mem_of_getElem? hm)
  have e : nameOf (i + 1) s = str m.name := by
    unfold nameOf
    rw [show i + 1 - 1 = i by omega, List.getD_eq_getElem?_getD, hm]
    rfl
  refine ⟨g, c, i, rfl, hi, hnv, lt_of_heap2 hgc, ?_, ?_⟩
  · rw [hcs 1 (by omega), e, ba_str]
    rfl
  · rw [e]
    exact ⟨str_small _, by rw [str_length]; exact hok.1.name⟩
theorem GR.nameAt2 {w : World} {base g N c i id : Nat} {M : GM} {s s2 : PS} {a : List Nat} (h : GR w base M s) (hnv : M.nv = .slice (some ⟨g, 0, none⟩) N c) (hid : id = i + 1) (hi : i < s.nodes.length) (hn : s.nodes = s2.nodes) (ha : a = nameOf id s2) : w.cell? ⟨g, i * 6 + 1, none⟩ = some (.string (ba a)) := by
  obtain ⟨g2, c2, i2, e1, e2, e3, e4, e5, e6⟩ := h.nameAt id (by omega) (by omega)
  obtain rfl : i2 = i := by omega
  rw [hnv] at e3
  injection e3 with e3 _ _
  injection e3 with e3
  injection e3 with e3 _ _
  subst e3
  rw [e5, ha]
  unfold nameOf
  rw [hn]
/-- A node's type is written. -/
theorem GR.typAt {w : World} {base : Nat} {M : GM} {s : PS} (h : GR w base M s) (id o : Nat) (hid : 0 < id) (hin : id ≤ s.nodes.length) (ho : o < 256) :
    ∃ g c i, id = i + 1 ∧ i < s.nodes.length ∧ M.nv = .slice (some ⟨g, 0, none⟩) s.nodes.length c ∧ (∃ v : Nat, w.cell? ⟨g, i * 6 + 3, none⟩ = some (.int .u8 (v : Int))) ∧ w.frozen? ⟨g, i * 6 + 3, none⟩ = false ∧ g < w.heap.size ∧ OwnG M g ∧
      GR (w.setCell ⟨g, i * 6 + 3, none⟩ (.int .u8 (o : Int))) base M (typOf id o s) ∧ Touch w (w.setCell ⟨g, i * 6 + 3, none⟩ (.int .u8 (o : Int))) (OwnG M) := by
  obtain ⟨g, c, hnv⟩ := h.nvForm (by omega)
  obtain ⟨i, rfl⟩ : ∃ i, id = i + 1 := ⟨id - 1, by omega⟩
  have hi : i < s.nodes.length := by omega
  obtain ⟨m, hm⟩ : ∃ m, s.nodes[i]? = some m := ⟨_, List.getElem?_eq_getElem hi⟩
  obtain ⟨kv, hkv⟩ : ∃ kv, M.kvs[i]? = some kv := ⟨_, List.getElem?_eq_getElem (by rw [h.nodes.len]; exact hi)⟩
  obtain ⟨hcs, hfz, cs, hgc⟩ := h.ndCells hnv hm hkv
  have hok := h.nodes.ok m (List.mem_of_getElem? hm)
  obtain ⟨h1, h2⟩ := h.setNode (j := 3) (m' := { m with typ := o }) (x := .int .u8 (o : Int)) hnv hm hkv (by omega) rfl rfl (by
    obtain ⟨⟨a1, a2, a3, a4, a5⟩, a6⟩ := hok
    exact ⟨a1, a2, a3, ho, a5⟩)
  refine ⟨g, c, i, rfl, hi, hnv, ⟨m.typ, by rw [hcs 3 (by omega)]; rfl⟩, hfz _, lt_of_heap2 hgc, .inr (.inl (by rw [hnv]; rfl)), ?_, h2⟩
  have e : typOf (i + 1) o s = { s with nodes := s.nodes.set i { m with typ := o } } := by
    unfold typOf
    rw [setN_at (i := i) (by omega) hm]
  rw [e]
  exact h1
/-- .. and a node's reference. -/
def refOf (id : Nat) (v : Nat) (s : PS) : PS := { s with nodes := setN id (fun n => { n with ref := v }) s.nodes }
theorem GR.refAt {w : World} {base : Nat} {M : GM} {s : PS} (h : GR w base M s) (id o : Nat) (hid : 0 < id) (hin : id ≤ s.nodes.length) (ho : o < 18446744073709551616) :
    ∃ g c i, id = i + 1 ∧ i < s.nodes.length ∧ M.nv = .slice (some ⟨g, 0, none⟩) s.nodes.length c ∧ (∃ v : Nat, w.cell? ⟨g, i * 6 + 4, none⟩ = some (.int .u64 (v : Int))) ∧ w.frozen? ⟨g, i * 6 + 4, none⟩ = false ∧ g < w.heap.size ∧ OwnG M g ∧
      GR (w.setCell ⟨g, i * 6 + 4, none⟩ (.int .u64 (o : Int))) base M (refOf id o s) ∧ Touch w (w.setCell ⟨g, i * 6 + 4, none⟩ (.int .u64 (o : Int))) (OwnG M) := by
  obtain ⟨g, c, hnv⟩ := h.nvForm (by omega)
  obtain ⟨i, rfl⟩ : ∃ i, id = i + 1 := ⟨id - 1, by omega⟩
  have hi : i < s.nodes.length := by omega
  obtain ⟨m, hm⟩ : ∃ m, s.nodes[i]? = some m := ⟨_, List.getElem?_eq_getElem hi⟩
  obtain ⟨kv, hkv⟩ : ∃ kv, M.kvs[i]? = some kv := ⟨_, List.getElem?_eq_getElem (by rw [h.nodes.len]; exact hi)⟩
  obtain ⟨hcs, hfz, cs, hgc⟩ := h.ndCells hnv hm hkv
  have hok := h.nodes.ok m (List.mem_of_getElem? hm)
  obtain ⟨h1, h2⟩ := h.setNode (j := 4) (m' := { m with ref := o }) (x := .int .u64 (o : Int)) hnv hm hkv (by omega) rfl rfl (by
    obtain ⟨⟨a1, a2, a3, a4, a5⟩, a6⟩ := hok
    exact ⟨a1, a2, a3, a4, ho⟩)
  refine ⟨g, c, i, rfl, hi, hnv, ⟨m.ref, by rw [hcs 4 (by omega)]; rfl⟩, hfz _, lt_of_heap2 hgc, .inr (.inl (by rw [hnv]; rfl)), ?_, h2⟩
  have e : refOf (i + 1) o s = { s with nodes := s.nodes.set i { m with ref := o } } := by
    unfold refOf
    rw [setN_at (i := i) (by omega) hm]
  rw [e]
  exact h1
end Go.Proofs.YtecbaceinifjiaaGreatDoor
