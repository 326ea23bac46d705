/- GStmt, GPureB, GPureC, GPureD, GPureE: joined by program (tools/merge.py). -/
import Derived.Test.YtecbaceinifjiaaGreatDoorZ22
namespace Go.Proofs.YtecbaceinifjiaaGreatDoor
open Go.RowKit
set_option linter.unusedSimpArgs false
set_option linter.unusedVariables false
set_option maxRecDepth 100000
attribute [local go_sem] Oper.semAt_some undef
theorem nx_is {t : List Nat} {s : PS} (h : isS t s = true) : Nx s (nextS s) := by
  unfold isS at h
  unfold nextS
  cases hs : s.left with
  | nil => rw [hs] at h; exact absurd h (by simp)
  | cons t r => exact ⟨by rw [hs]; rfl, rfl, rfl, rfl⟩
set_option maxHeartbeats 8000000 in
theorem st_let (w : World) (base : Nat) (M : GM) (s : PS) (h : GR w base M s) (u : Nat) (q0 : isS c_let s = true) (hu0 : 0 < u) (hu : u ≤ s.nodes.length) (hl : Live M) :
    Calls Tryz.prog 85 #[.pointer (some ⟨M.gp, 0, none⟩), .int .u64 (u : Int)] w fun e w' => e = .returned (.tuple #[]) ∧ GStep w base M (letS u (nextS s)) w' := by
  have t0 := take_yes w base M s h ⟨#[108, 101, 116]⟩ q0
  have T0 := Lib.hid t0
  clear t0
  have hnx := nx_is q0
  have hsum := h.sum
  obtain ⟨s1, hs1⟩ : ∃ s1, s1 = nextS s := ⟨_, rfl⟩
  rw [← hs1] at T0 hnx ⊢
  have HNX := Lib.hid hnx
  have HSUM := Lib.hid hsum
  have HU := Lib.hid hu
  have HU0 := Lib.hid hu0
  have HL := Lib.hid hl
  clear h hnx hsum hu hu0 hl hs1 q0
  go_enter Tryz.func85, Tryz.ntmps85
  go_wp2_with (first
    | (go_at_call 65; (with_reducible refine (T0.out).mono ?_); rintro e w1 ⟨rfl, l1, hg1, hT1⟩; go_loud (
        have hle := let_any w1 base _ s1 hg1 u (by rw [HNX.out.nodes]; exact HU.out) HL.out (by have a1 := HNX.out.left; have a2 := HSUM.out; rw [HNX.out.nodes, HNX.out.cnt]; omega);
        dsimp only at hle;
        have HLE := Lib.hid hle;
        clear hle;
        have HT1 := Lib.hid hT1;
        clear hg1 hT1))
    | (go_at_call 97; (with_reducible refine (HLE.out).mono ?_); rintro e w2 ⟨rfl, hw2⟩; go_loud (have HW2 := Lib.hid hw2; clear hw2)))
  go_end0
  refine ⟨rfl, ?_⟩
  exact GStep.trans (M := M) rfl (HT1.out.more fun j e => .inl e) (fun j h => .inl h) (fun h => h) HW2.out
set_option maxHeartbeats 8000000 in
theorem st_print (w : World) (base : Nat) (M : GM) (s : PS) (h : GR w base M s) (u : Nat) (q0 : isS c_let s = false) (q1 : isS c_if s = false) (q2 : isS c_while s = false) (q3 : isS c_print s = true) (hu0 : 0 < u) (hu : u ≤ s.nodes.length) (hl : Live M) :
    Calls Tryz.prog 85 #[.pointer (some ⟨M.gp, 0, none⟩), .int .u64 (u : Int)] w fun e w' => e = .returned (.tuple #[]) ∧ GStep w base M (endS (growId (nextS s)) (growS u (nd0 11) (nextS s))) w' := by
  have t0 := take_no w base M s h ⟨#[108, 101, 116]⟩ q0
  have T0 := Lib.hid t0
  have t1 := take_no w base M s h ⟨#[105, 102]⟩ q1
  have T1 := Lib.hid t1
  have t2 := take_no w base M s h ⟨#[119, 104, 105, 108, 101]⟩ q2
  have T2 := Lib.hid t2
  have t3 := take_yes w base M s h ⟨#[112, 114, 105, 110, 116]⟩ q3
  have T3 := Lib.hid t3
  clear t0 t1 t2 t3
  have hnx := nx_is q3
  have hsum := h.sum
  obtain ⟨s1, hs1⟩ : ∃ s1, s1 = nextS s := ⟨_, rfl⟩
  rw [← hs1] at T3 hnx ⊢
  have HNX := Lib.hid hnx
  have HSUM := Lib.hid hsum
  have HU := Lib.hid hu
  have HU0 := Lib.hid hu0
  have HL := Lib.hid hl
  clear h hnx hsum hu hu0 hl hs1 q0 q1 q2 q3
  go_enter Tryz.func85, Tryz.ntmps85
  go_wp2_with (first
    | (go_at_call 65; (with_reducible refine (T0.out).mono ?_); rintro e w1 ⟨rfl, rfl⟩)
    | (go_at_call 65; (with_reducible refine (T1.out).mono ?_); rintro e w1 ⟨rfl, rfl⟩)
    | (go_at_call 65; (with_reducible refine (T2.out).mono ?_); rintro e w1 ⟨rfl, rfl⟩)
    | (go_at_call 65; (with_reducible refine (T3.out).mono ?_); rintro e w1 ⟨rfl, l1, hg1, hT1⟩; go_loud (
        have hgr := grow_any w1 base _ s1 hg1 u (nd0 11) (by rw [HNX.out.nodes]; exact HU.out) (okNd 11 (by omega)) rfl (by have a1 := HNX.out.left; have a2 := HSUM.out; rw [HNX.out.nodes, HNX.out.cnt]; omega);
        unfold ndV nd0 at hgr;
        dsimp only at hgr;
        rw [show ((11 : Nat) : Int) = 11 from rfl, show ((0 : Nat) : Int) = 0 from rfl] at hgr;
        have HGR := Lib.hid hgr;
        clear hgr;
        have HT1 := Lib.hid hT1;
        clear hg1 hT1))
    | (go_at_call 30; (with_reducible refine (HGR.out).mono ?_); rintro e w2 ⟨rfl, M2, hg2, hgp2, hT2, hO2, hl2⟩; go_loud (
        have hgf := grow_facts u (nd0 11) s1;
        have hen := ending_any w2 base M2 _ hg2 (growId s1) (Nat.succ_pos _) (by show growId s1 ≤ (growS u (nd0 11) s1).nodes.length; rw [hgf.2.1]; exact Nat.le_refl _) (hl2 HL.out);
        dsimp only at hgp2;
        rw [hgp2] at hen;
        have HEN := Lib.hid hen;
        have HGP2 := Lib.hid hgp2;
        have HT2 := Lib.hid hT2;
        have HO2 := Lib.hid hO2;
        have HL2 := Lib.hid hl2;
        clear hgf hen hg2 hgp2 hT2 hO2 hl2))
    | (go_at_call 75; (with_reducible refine (HEN.out).mono ?_); rintro e w3 ⟨rfl, hw3⟩; go_loud (have HW3 := Lib.hid hw3; clear hw3)))
  go_end0
  refine ⟨rfl, ?_⟩
  have k2 := GStep.trans HGP2.out HT2.out HO2.out HL2.out HW3.out
  exact GStep.trans (M := M) rfl (HT1.out.more fun j e => .inl e) (fun j h => .inl h) (fun h => h) k2
set_option maxHeartbeats 8000000 in
theorem st_do (w : World) (base : Nat) (M : GM) (s : PS) (h : GR w base M s) (u : Nat) (q0 : isS c_let s = false) (q1 : isS c_if s = false) (q2 : isS c_while s = false) (q3 : isS c_print s = false) (q4 : isS c_do s = true) (hu0 : 0 < u) (hu : u ≤ s.nodes.length) (hl : Live M) :
    Calls Tryz.prog 85 #[.pointer (some ⟨M.gp, 0, none⟩), .int .u64 (u : Int)] w fun e w' => e = .returned (.tuple #[]) ∧ GStep w base M (wantS c_semi (callS (exprS ((nameS (growS u (nd0 12) (nextS s))).left.length + 1)) (growId (nextS s)) (nameT (growS u (nd0 12) (nextS s))) (nameS (growS u (nd0 12) (nextS s))))) w' := by
  have t0 := take_no w base M s h ⟨#[108, 101, 116]⟩ q0
  have T0 := Lib.hid t0
  have t1 := take_no w base M s h ⟨#[105, 102]⟩ q1
  have T1 := Lib.hid t1
  have t2 := take_no w base M s h ⟨#[119, 104, 105, 108, 101]⟩ q2
  have T2 := Lib.hid t2
  have t3 := take_no w base M s h ⟨#[112, 114, 105, 110, 116]⟩ q3
  have T3 := Lib.hid t3
  have t4 := take_yes w base M s h ⟨#[100, 111]⟩ q4
  have T4 := Lib.hid t4
  clear t0 t1 t2 t3 t4
  have hnx := nx_is q4
  have hsum := h.sum
  obtain ⟨s1, hs1⟩ : ∃ s1, s1 = nextS s := ⟨_, rfl⟩
  rw [← hs1] at T4 hnx ⊢
  have HNX := Lib.hid hnx
  have HSUM := Lib.hid hsum
  have HU := Lib.hid hu
  have HU0 := Lib.hid hu0
  have HL := Lib.hid hl
  clear h hnx hsum hu hu0 hl hs1 q0 q1 q2 q3 q4
  go_enter Tryz.func85, Tryz.ntmps85
  go_wp2_with (first
    | (go_at_call 65; (with_reducible refine (T0.out).mono ?_); rintro e w1 ⟨rfl, rfl⟩)
    | (go_at_call 65; (with_reducible refine (T1.out).mono ?_); rintro e w1 ⟨rfl, rfl⟩)
    | (go_at_call 65; (with_reducible refine (T2.out).mono ?_); rintro e w1 ⟨rfl, rfl⟩)
    | (go_at_call 65; (with_reducible refine (T3.out).mono ?_); rintro e w1 ⟨rfl, rfl⟩)
    | (go_at_call 65; (with_reducible refine (T4.out).mono ?_); rintro e w1 ⟨rfl, l1, hg1, hT1⟩; go_loud (
        have hgr := grow_any w1 base _ s1 hg1 u (nd0 12) (by rw [HNX.out.nodes]; exact HU.out) (okNd 12 (by omega)) rfl (by have a1 := HNX.out.left; have a2 := HSUM.out; rw [HNX.out.nodes, HNX.out.cnt]; omega);
        unfold ndV nd0 at hgr;
        dsimp only at hgr;
        rw [show ((12 : Nat) : Int) = 12 from rfl, show ((0 : Nat) : Int) = 0 from rfl] at hgr;
        have HGR := Lib.hid hgr;
        clear hgr;
        have HT1 := Lib.hid hT1;
        clear hg1 hT1))
    | (go_at_call 30; (with_reducible refine (HGR.out).mono ?_); rintro e w2 ⟨rfl, M2, hg2, hgp2, hT2, hO2, hl2⟩; go_loud (
        obtain ⟨s2, hs2⟩ : ∃ s2, s2 = growS u (nd0 12) s1 := ⟨_, rfl⟩;
        have hgf := grow_facts u (nd0 12) s1;
        have hg2' : GR w2 base M2 s2 := (by rw [hs2]; exact hg2);
        rw [← hs2] at hgf;
        have hnm := name_any w2 base M2 s2 hg2';
        have hgn := nameT_good hg2'.goodN;
        dsimp only at hgp2;
        rw [hgp2] at hnm;
        have HNM := Lib.hid hnm;
        have HGN := Lib.hid hgn;
        have HS2 := Lib.hid hs2;
        have HGF := Lib.hid hgf;
        have HGP2 := Lib.hid hgp2;
        have HT2 := Lib.hid hT2;
        have HO2 := Lib.hid hO2;
        have HL2 := Lib.hid (hl2 HL.out);
        clear hs2 hgf hg2' hnm hgn hg2 hgp2 hT2 hO2 hl2))
    | (go_at_call 46; (with_reducible refine (HNM.out).mono ?_); rintro e w3 ⟨rfl, l3, hg3, hT3⟩; go_loud (
        obtain ⟨M3, hM3⟩ : ∃ M3 : GM, M3 = { M2 with left := l3 } := ⟨_, rfl⟩;
        rw [← hM3] at hg3;
        have hgp3 : M3.gp = M.gp := (by rw [hM3]; exact HGP2.out);
        have hok := ok_name s2;
        have hca := call_any w3 base M3 (nameS s2) hg3 ((nameS s2).left.length + 1) (growId s1) (nameT s2) HGN.out (by have a1 := hok.nodes; rw [HGF.out.2.1] at a1; exact a1) (by rw [hM3]; exact HL2.out) (Nat.lt_succ_self _) (by have a1 := hok.sum; have a2 := HGF.out.1; have a3 := HGF.out.2.1; have a4 := HGF.out.2.2.1; have a5 := HNX.out.left; have a6 := HSUM.out; rw [a2, a3, a4, HNX.out.nodes, HNX.out.cnt] at a1; omega) (ex_all base _);
        rw [hgp3] at hca;
        have HCA := Lib.hid hca;
        have HM3 := Lib.hid hM3;
        have HGP3 := Lib.hid hgp3;
        have HT3 := Lib.hid hT3;
        clear hca hM3 hgp3 hok hg3 hT3))
    | (go_at_call 100; (with_reducible refine (HCA.out).mono ?_); rintro e w4 ⟨rfl, M4, hg4, hgp4, hT4, hO4, hl4⟩; go_loud (
        have hwa := want_any w4 base M4 _ hg4 ⟨#[59]⟩;
        have hgp4' : M4.gp = M.gp := hgp4.trans HGP3.out;
        rw [show str ⟨#[59]⟩ = c_semi from rfl, hgp4'] at hwa;
        have HWA := Lib.hid hwa;
        have HGP4 := Lib.hid hgp4;
        have HT4 := Lib.hid hT4;
        have HO4 := Lib.hid hO4;
        have HL4 := Lib.hid hl4;
        clear hwa hgp4' hg4 hgp4 hT4 hO4 hl4))
    | (go_at_call 45; (with_reducible refine (HWA.out).mono ?_); rintro e w5 ⟨rfl, hw5⟩; go_loud (have HW5 := Lib.hid hw5; clear hw5)))
  go_end0
  refine ⟨rfl, ?_⟩
  rw [← HS2.out]
  have k4 := GStep.trans HGP4.out HT4.out HO4.out HL4.out HW5.out.step
  have k3 := GStep.trans (M := M2) (M1 := M3) (by rw [HM3.out]) (HT3.out.more fun j e => .inl e) (fun j h => by rw [HM3.out] at h; exact .inl h) (fun _ => by rw [HM3.out]; exact HL2.out) k4
  have k2 := GStep.trans HGP2.out HT2.out HO2.out (fun _ => HL2.out) k3
  exact GStep.trans (M := M) rfl (HT1.out.more fun j e => .inl e) (fun j h => .inl h) (fun h => h) k2
set_option maxHeartbeats 8000000 in
theorem st_assign (w : World) (base : Nat) (M : GM) (s : PS) (h : GR w base M s) (u : Nat) (q0 : isS c_let s = false) (q1 : isS c_if s = false) (q2 : isS c_while s = false) (q3 : isS c_print s = false) (q4 : isS c_do s = false) (hu0 : 0 < u) (hu : u ≤ s.nodes.length) (hl : Live M) (hs : s.left.length * 16 + s.nodes.length + s.cnt + 1 ≤ 10000000) :
    Calls Tryz.prog 85 #[.pointer (some ⟨M.gp, 0, none⟩), .int .u64 (u : Int)] w fun e w' => e = .returned (.tuple #[]) ∧ GStep w base M (endS (growId (wantS c_eq (varS (nameT s) (nameS s)))) (growS u { nd0 7 with ref := (nameS s).vis (nameT s) } (wantS c_eq (varS (nameT s) (nameS s))))) w' := by
  have t0 := take_no w base M s h ⟨#[108, 101, 116]⟩ q0
  have T0 := Lib.hid t0
  have t1 := take_no w base M s h ⟨#[105, 102]⟩ q1
  have T1 := Lib.hid t1
  have t2 := take_no w base M s h ⟨#[119, 104, 105, 108, 101]⟩ q2
  have T2 := Lib.hid t2
  have t3 := take_no w base M s h ⟨#[112, 114, 105, 110, 116]⟩ q3
  have T3 := Lib.hid t3
  have t4 := take_no w base M s h ⟨#[100, 111]⟩ q4
  have T4 := Lib.hid t4
  clear t0 t1 t2 t3 t4
  have hgn := nameT_good h.goodN
  have hnm := fun wd (hb : Below w.heap.size w wd) => name_any wd base M s (h.below hb)
  have hok := (ok_name s).trans ((ok_var (nameT s) (nameS s)).trans (ok_want c_eq _))
  obtain ⟨n, hn⟩ : ∃ n, n = nameT s := ⟨_, rfl⟩
  obtain ⟨s1, hs1⟩ : ∃ s1, s1 = nameS s := ⟨_, rfl⟩
  rw [← hn, ← hs1] at hok ⊢
  simp only [← hn, ← hs1] at hnm
  rw [← hn] at hgn
  obtain ⟨v, hv⟩ : ∃ v, v = s1.vis n := ⟨_, rfl⟩
  obtain ⟨s2, hs2⟩ : ∃ s2, s2 = varS n s1 := ⟨_, rfl⟩
  obtain ⟨s3, hs3⟩ : ∃ s3, s3 = wantS c_eq s2 := ⟨_, rfl⟩
  obtain ⟨gv, hgv⟩ := hl.2
  have hva := fun wd l (h3 : GR wd base { M with left := l } s1) => var_any wd base { M with left := l } s1 h3 n hgn gv hgv
  dsimp only at hva
  rw [← hv, ← hs2] at hva
  rw [← hs2, ← hs3] at hok
  rw [← hv, ← hs2, ← hs3]
  have HNM := Lib.hid hnm
  have HVA := Lib.hid hva
  have HOK := Lib.hid hok
  have HS3 := Lib.hid hs3
  have HV := Lib.hid hv
  have HSUM := Lib.hid hs
  have HU := Lib.hid hu
  have HU0 := Lib.hid hu0
  have HL := Lib.hid hl
  clear h hgn hnm hok hn hs1 hv hs2 hs3 hgv hva hs hu hu0 hl q0 q1 q2 q3 q4
  go_enter Tryz.func85, Tryz.ntmps85
  go_upto_region 0 with (first
    | (go_at_call 65; (with_reducible refine (T0.out).mono ?_); rintro e w1 ⟨rfl, rfl⟩)
    | (go_at_call 65; (with_reducible refine (T1.out).mono ?_); rintro e w1 ⟨rfl, rfl⟩)
    | (go_at_call 65; (with_reducible refine (T2.out).mono ?_); rintro e w1 ⟨rfl, rfl⟩)
    | (go_at_call 65; (with_reducible refine (T3.out).mono ?_); rintro e w1 ⟨rfl, rfl⟩)
    | (go_at_call 65; (with_reducible refine (T4.out).mono ?_); rintro e w1 ⟨rfl, rfl⟩))
  go_region_with (first
    | (go_at_call 46; (with_reducible refine (HNM.out _ (by repeat (with_reducible (first | exact Below.refl _ _ | refine ride_alloc ?_ _ | refine ride_drew ?_ | refine below_drewN ?_ _)))).mono ?_); rintro e w2 ⟨rfl, l2, hg2, hT2⟩; go_loud (have HG2 := Lib.hid hg2; have HT2 := Lib.hid hT2; clear hg2 hT2))
    | (go_at_call 101; (with_reducible refine (HVA.out _ _ (HG2.out.below (by repeat (with_reducible (first | exact Below.refl _ _ | refine ride_alloc ?_ _ | refine ride_drew ?_ | refine below_drewN ?_ _))))).mono ?_); rintro e w3 ⟨rfl, hg3, hT3⟩; go_loud (have HG3 := Lib.hid hg3; have HT3 := Lib.hid hT3; clear hg3 hT3)))
  obtain ⟨M3, hM3⟩ : ∃ M3 : GM, M3 = { M with left := l2 } := ⟨_, rfl⟩
  have hg3 : GR w3 base M3 s2 := by rw [hM3]; exact HG3.out
  have hgp3 : M3.gp = M.gp := by rw [hM3]
  have hl3 : Live M3 := by rw [hM3]; exact HL.out
  have hvb : v < 18446744073709551616 := by rw [HV.out]; exact HG2.out.vb n
  have hwa := fun wd (hb : Below w3.heap.size w3 wd) => want_any wd base M3 s2 (hg3.below hb) ⟨#[61]⟩
  rw [show str ⟨#[61]⟩ = c_eq from rfl, hgp3, ← HS3.out] at hwa
  have HWA := Lib.hid hwa
  have HM3 := Lib.hid hM3
  have HGP3 := Lib.hid hgp3
  have HL3 := Lib.hid hl3
  have HVB := Lib.hid hvb
  clear hM3 hg3 hgp3 hl3 hvb hwa
  go_wp2_with (first
    | (go_at_call 45; (with_reducible refine (HWA.out _ (by repeat (with_reducible (first | exact Below.refl _ _ | refine ride_alloc ?_ _ | refine ride_drew ?_ | refine below_drewN ?_ _)))).mono ?_); rintro e w4 ⟨rfl, l4, hg4, hT4⟩; go_loud (
        obtain ⟨M4, hM4⟩ : ∃ M4 : GM, M4 = { M3 with left := l4 } := ⟨_, rfl⟩;
        rw [← hM4] at hg4;
        have hgp4 : M4.gp = M.gp := (by rw [hM4]; exact HGP3.out);
        have hgr := grow_any w4 base M4 s3 hg4 u { nd0 7 with ref := v } (Nat.le_trans HU.out HOK.out.nodes) ⟨(okNd 7 (by omega)).kind, (okNd 7 (by omega)).name, (okNd 7 (by omega)).num, (okNd 7 (by omega)).typ, HVB.out⟩ rfl (by have a1 := HOK.out.sum; have a2 := HSUM.out; omega);
        unfold ndV nd0 at hgr;
        dsimp only at hgr;
        rw [hgp4, show ((7 : Nat) : Int) = 7 from rfl, show ((0 : Nat) : Int) = 0 from rfl] at hgr;
        have HGR := Lib.hid hgr;
        have HM4 := Lib.hid hM4;
        have HGP4 := Lib.hid hgp4;
        have HT4 := Lib.hid hT4;
        have HL4 : Hid (Live M4) := Lib.hid (by rw [hM4]; exact HL3.out);
        clear hgr hM4 hgp4 hg4 hT4))
    | (go_at_call 30; (with_reducible refine (HGR.out).mono ?_); rintro e w5 ⟨rfl, M5, hg5, hgp5, hT5, hO5, hl5⟩; go_loud (
        have hgf := grow_facts u { nd0 7 with ref := v } s3;
        have hen := ending_any w5 base M5 _ hg5 (growId s3) (Nat.succ_pos _) (by show growId s3 ≤ (growS u { nd0 7 with ref := v } s3).nodes.length; rw [hgf.2.1]; exact Nat.le_refl _) (hl5 HL4.out);
        have hgp5' : M5.gp = M.gp := hgp5.trans HGP4.out;
        rw [hgp5'] at hen;
        have HEN := Lib.hid hen;
        have HGP5 := Lib.hid hgp5;
        have HT5 := Lib.hid hT5;
        have HO5 := Lib.hid hO5;
        have HL5 := Lib.hid hl5;
        clear hgf hen hgp5' hg5 hgp5 hT5 hO5 hl5))
    | (go_at_call 75; (with_reducible refine (HEN.out).mono ?_); rintro e w6 ⟨rfl, hw6⟩; go_loud (have HW6 := Lib.hid hw6; clear hw6)))
  go_end0
  refine ⟨rfl, ?_⟩
  have k5 := GStep.trans HGP5.out HT5.out HO5.out HL5.out HW6.out
  have k4 := GStep.trans (M := M3) (M1 := M4) (by rw [HM4.out]) (HT4.out.more fun j e => .inl e) (fun j h => by rw [HM4.out] at h; exact .inl h) (fun _ => HL4.out) k5
  have k3 := GStep.pre (w := w3) (by repeat (with_reducible (first | exact Below.refl _ _ | refine ride_alloc ?_ _ | refine ride_drew ?_ | refine below_drewN ?_ _))) k4
  have k2 := GStep.trans (M := { M with left := l2 }) (M1 := M3) (by rw [HM3.out]) (HT3.out.more fun j e => .inl e) (fun j h => by rw [HM3.out] at h; exact .inl h) (fun _ => HL3.out) k3
  have k1 := GStep.pre (w := w2) (by repeat (with_reducible (first | exact Below.refl _ _ | refine ride_alloc ?_ _ | refine ride_drew ?_ | refine below_drewN ?_ _))) k2
  have k0 := GStep.trans (M := M) (M1 := { M with left := l2 }) rfl (HT2.out.more fun j e => .inl e) (fun j h => .inl h) (fun h => h) k1
  exact GStep.pre (by repeat (with_reducible (first | exact Below.refl _ _ | refine ride_alloc ?_ _ | refine ride_drew ?_ | refine below_drewN ?_ _))) k0
end Go.Proofs.YtecbaceinifjiaaGreatDoor
namespace Go.Proofs.YtecbaceinifjiaaGreatDoor
open Go.RowKit
set_option linter.unusedSimpArgs false
set_option linter.unusedVariables false
set_option maxRecDepth 100000
theorem sm_next (s : PS) : (nextS s).shown = s.shown := by unfold nextS; cases s.left <;> rfl
theorem sm_want (t : List Nat) (s : PS) : (wantS t s).shown = s.shown := by unfold wantS; split; exact sm_next s; rfl
theorem sm_name (s : PS) : (nameS s).shown = s.shown := by unfold nameS; split; exact sm_next s; exact sm_next s
theorem sm_type (s : PS) : (typeS s).shown = s.shown := by
  unfold typeS
  split
  · exact sm_next s
  · split
    · exact sm_next s
    · exact sm_next s
theorem sm_grow (u : Nat) (n : Nd) (s : PS) : (growS u n s).shown = s.shown := rfl
theorem sm_nest {f : PS → PS} (hf : ∀ t, (f t).shown = t.shown) (s : PS) : (nestS f s).shown = s.shown := by
  unfold nestS
  split
  · rfl
  · exact hf _
theorem sm_comma {part : PS → PS} (hp : ∀ t, (part t).shown = t.shown) : ∀ (k : Nat) (s : PS), (commaS part k s).shown = s.shown
  | 0, s => rfl
  | k + 1, s => by
    show (if isS c_comma s then commaS part k (part (nextS s)) else s).shown = s.shown
    split
    · rw [sm_comma hp k, hp, sm_next]
    · rfl
theorem sm_list {part : PS → PS} (hp : ∀ t, (part t).shown = t.shown) (s : PS) : (listS part s).shown = s.shown := by
  unfold listS
  split
  · exact sm_next s
  · rw [sm_want, sm_comma hp, hp]
theorem sm_call {ex : Nat → PS → PS} (hx : ∀ u t, (ex u t).shown = t.shown) (u : Nat) (m : List Nat) (s : PS) : (callS ex u m s).shown = s.shown := by
  unfold callS
  dsimp only
  rw [sm_nest fun t => sm_list (hx _) t, sm_want]
  show (nameS (wantS c_dot (growS u (nd0 19) s))).shown = s.shown
  rw [sm_name, sm_want, sm_grow]
theorem sm_var (n : List Nat) (s : PS) : (varS n s).shown = s.shown := by unfold varS; split <;> rfl
theorem sm_bin {ex : Nat → PS → PS} (hx : ∀ u t, (ex u t).shown = t.shown) (u : Nat) (s : PS) : (binS ex u s).shown = s.shown := by
  rw [binS_eq, sm_nest, sm_grow]
  intro t
  unfold binB
  rw [sm_want, hx]
  show (binT _ _).shown = _
  unfold binT
  split
  · show (nextS _).shown = _; rw [sm_next, hx]
  · rw [sm_next, hx]
theorem sm_expr : ∀ (f u : Nat) (s : PS), (exprS f u s).shown = s.shown
  | 0, u, s => rfl
  | f + 1, u, s => by
    show (if (nextT s).kind = 2 then growS u { nd0 13 with num := (valL (nextT s).text : Int) } (nextS s)
      else if (nextT s).kind = 1 then (if isS c_dot (nextS s) then callS (exprS f) u (nextT s).text (nextS s) else growS u { nd0 15 with ref := (nextS s).vis (nextT s).text } (varS (nextT s).text (nextS s)))
      else if (nextT s).text = c_true then growS u { nd0 14 with num := 1 } (nextS s)
      else if (nextT s).text = c_false then growS u (nd0 14) (nextS s)
      else if (nextT s).text = c_read then growS u (nd0 20) (nextS s)
      else if (nextT s).text = c_bang then nestS (exprS f (growId (nextS s))) (growS u (nd0 16) (nextS s))
      else if (nextT s).text = c_minus then nestS (exprS f (growId (nextS s))) (growS u (nd0 17) (nextS s))
      else if (nextT s).text = c_lpar then binS (exprS f) u (nextS s)
      else failS (nextS s)).shown = s.shown
    split
    · exact sm_next s
    · split
      · split
        · rw [sm_call fun u t => sm_expr f u t, sm_next]
        · rw [sm_grow, sm_var, sm_next]
      · split
        · exact sm_next s
        · split
          · exact sm_next s
          · split
            · exact sm_next s
            · split
              · rw [sm_nest fun t => sm_expr f _ t, sm_grow, sm_next]
              · split
                · rw [sm_nest fun t => sm_expr f _ t, sm_grow, sm_next]
                · split
                  · rw [sm_bin fun u t => sm_expr f u t, sm_next]
                  · exact sm_next s
theorem sm_end (u : Nat) (s : PS) : (endS u s).shown = s.shown := by unfold endS exprT; rw [sm_want, sm_expr]
/-- A let shows one name more. -/
theorem sm_let (u : Nat) (s : PS) : (letS u s).shown = s.shown ++ [nameT s] := by
  unfold letS
  dsimp only
  unfold showS
  dsimp only
  have h : ∀ (n : List Nat) (id : Nat) (t : PS), (defTakS n id t).shown = t.shown := fun n id t => (defTak_facts n id t).2.2.2
  rw [h, sm_end, sm_want, sm_grow, sm_type, sm_name]
end Go.Proofs.YtecbaceinifjiaaGreatDoor
namespace Go.Proofs.YtecbaceinifjiaaGreatDoor
open Go.RowKit
set_option linter.unusedSimpArgs false
set_option linter.unusedVariables false
set_option maxRecDepth 100000
theorem pf_of {a b : PS} (h : b.shown = a.shown) : a.shown <+: b.shown := by rw [h]; exact List.prefix_refl _
theorem pf_nest {f : PS → PS} (hf : ∀ t : PS, t.shown <+: (f t).shown) (s : PS) : s.shown <+: (nestS f s).shown := by
  unfold nestS
  split
  · exact List.prefix_refl _
  · exact hf { s with depth := s.depth + 1 }
theorem pf_sts {st : PS → PS} (hf : ∀ t : PS, t.shown <+: (st t).shown) (e : List Nat) : ∀ (k : Nat) (s : PS), s.shown <+: (stsS st e k s).shown
  | 0, s => List.prefix_refl _
  | k + 1, s => by
    show s.shown <+: (if s.wrong || isS e s then s else stsS st e k (st s)).shown
    split
    · exact List.prefix_refl _
    · exact (hf s).trans (pf_sts hf e k _)
/-- A block shows nothing to what follows. -/
theorem sm_block {st : Nat → PS → PS} (hf : ∀ id (t : PS), t.shown <+: (st id t).shown) (u : Nat) (s : PS) : (blockS st u s).shown = s.shown := by
  unfold blockS
  dsimp only
  have h1 : (wantS c_lbr (growS u (nd0 5) s)).shown = s.shown := sm_want _ _
  have h2 := pf_nest (f := fun s2 => wantS c_rbr (stsS (st (growId s)) c_rbr (s2.left.length + 1) s2)) (fun t => by rw [sm_want]; exact pf_sts (hf _) _ _ _) (wantS c_lbr (growS u (nd0 5) s))
  rw [h1] at h2
  exact (List.prefix_iff_eq_take.1 h2).symm
theorem pf_stmt : ∀ (f b : Nat) (s : PS), s.shown <+: (stmtS f b s).shown
  | 0, b, s => List.prefix_refl _
  | f + 1, b, s => by
    unfold stmtS
    dsimp only
    have hb := fun u t => sm_block (st := stmtS f) (fun id t => pf_stmt f id t) u t
    split
    · rw [sm_let, sm_next]; exact List.prefix_append _ _
    · split
      · refine pf_of ?_; rw [hb, sm_want, hb]; unfold exprT; rw [sm_expr, sm_grow, sm_next]
      · split
        · refine pf_of ?_; rw [hb]; unfold exprT; rw [sm_expr, sm_grow, sm_next]
        · split
          · refine pf_of ?_; rw [sm_end, sm_grow, sm_next]
          · split
            · refine pf_of ?_; rw [sm_want, sm_call fun u t => sm_expr _ u t, sm_name, sm_grow, sm_next]
            · refine pf_of ?_; rw [sm_end, sm_grow, sm_want, sm_var, sm_name]
/-- While statements are read: the measure may grow by e. -/
structure Up (s s' : PS) (e : Nat) : Prop where
  left : s'.left.length ≤ s.left.length
  nodes : s.nodes.length ≤ s'.nodes.length
  depth : s'.depth = s.depth
  sum : s'.left.length * 16 + s'.nodes.length + s'.cnt ≤ s.left.length * 16 + s.nodes.length + s.cnt + e
theorem Ok.up {a b : PS} {d : Nat} (h : Ok a b d) : Up a b 0 := ⟨h.left, h.nodes, h.depth, by have := h.sum; omega⟩
theorem Up.trans {a b c : PS} {d e : Nat} (h : Up a b d) (k : Up b c e) : Up a c (d + e) := ⟨Nat.le_trans k.left h.left, Nat.le_trans h.nodes k.nodes, k.depth.trans h.depth, by have := h.sum; have := k.sum; omega⟩
theorem Up.more {a b : PS} {d e : Nat} (h : Up a b d) (he : d ≤ e) : Up a b e := ⟨h.left, h.nodes, h.depth, by have := h.sum; omega⟩
theorem up_grow (u : Nat) (n : Nd) (s : PS) : Up s (growS u n s) 1 := by
  obtain ⟨h1, h2, h3, h4⟩ := grow_facts u n s
  exact ⟨by rw [h1]; exact Nat.le_refl _, by rw [h2]; exact Nat.le_succ _, h4, by rw [h1, h2, h3]; omega⟩
/-- What a token pays for. -/
theorem Up.paid {a b : PS} {d e : Nat} (h : Up (nextS a) b d) (hn : 0 < a.left.length) (he : d ≤ e + 16) : Up a b e := by
  have h1 := ok_next2 hn
  exact ⟨Nat.le_trans h.left h1.left, Nat.le_trans h1.nodes h.nodes, h.depth.trans h1.depth, by have := h.sum; have := h1.sum; omega⟩
end Go.Proofs.YtecbaceinifjiaaGreatDoor
namespace Go.Proofs.YtecbaceinifjiaaGreatDoor
open Go.RowKit
set_option linter.unusedSimpArgs false
set_option linter.unusedVariables false
set_option maxRecDepth 100000
theorem Up.refl (s : PS) : Up s s 0 := (Ok.refl s).up
theorem up_nest {f : PS → PS} {s : PS} {e : Nat} (h : Up { s with depth := s.depth + 1 } (f { s with depth := s.depth + 1 }) e) : Up s (nestS f s) e := by
  unfold nestS
  split
  · exact (ok_fail s).up.more (Nat.zero_le _)
  · exact ⟨h.left, h.nodes, by show (f { s with depth := s.depth + 1 }).depth - 1 = s.depth; rw [h.depth]; rfl, h.sum⟩
structure StOk (st : PS → PS) : Prop where
  some : ∀ t, t.left ≠ [] → Up t (st t) 0
  none : ∀ t, t.left = [] → st t = t ∨ (Up t (st t) 1 ∧ (st t).wrong = true)
theorem sts_wrong {st : PS → PS} {e : List Nat} : ∀ (k : Nat) (t : PS), t.wrong = true → stsS st e k t = t
  | 0, t, h => rfl
  | k + 1, t, h => by
    show (if t.wrong || isS e t then t else stsS st e k (st t)) = t
    rw [h]
    rfl
theorem up_sts {st : PS → PS} (h : StOk st) (e : List Nat) : ∀ (k : Nat) (s : PS), Up s (stsS st e k s) 1
  | 0, s => (Up.refl s).more (by omega)
  | k + 1, s => by
    show Up s (if s.wrong || isS e s then s else stsS st e k (st s)) 1
    split
    · exact (Up.refl s).more (by omega)
    · by_cases h0 : s.left = []
      · rcases h.none s h0 with h1 | ⟨h1, h2⟩
        · rw [h1]; exact up_sts h e k s
        · rw [sts_wrong k _ h2]; exact h1
      · exact ((h.some s h0).trans (up_sts h e k _)).more (by omega)
theorem up_block {st : Nat → PS → PS} (h : ∀ id, StOk (st id)) (u : Nat) (s : PS) : Up s (blockS st u s) 2 := by
  unfold blockS
  dsimp only
  have h1 := (up_grow u (nd0 5) s).trans (ok_want c_lbr _).up
  have h2 := up_nest (f := fun s2 => wantS c_rbr (stsS (st (growId s)) c_rbr (s2.left.length + 1) s2)) (s := wantS c_lbr (growS u (nd0 5) s)) (e := 1) (((up_sts (h _) _ _ _).trans (ok_want _ _).up).more (by omega))
  have h3 := h1.trans h2
  exact ⟨h3.left, h3.nodes, h3.depth, h3.sum⟩
theorem ok_exprT (u : Nat) (s : PS) : Ok s (exprT u s) 0 := ok_expr _ _ _
theorem up_show (n : List Nat) (id : Nat) (t : PS) : Up t (showS n id t) 2 := by
  obtain ⟨e1, e2, e3, e4⟩ := defTak_facts n id t
  have e5 : (defTakS n id t).depth = t.depth := by unfold defTakS; dsimp only; split <;> rfl
  unfold showS
  dsimp only
  refine ⟨by show (defTakS n id t).left.length ≤ _; rw [e2]; exact Nat.le_refl _, by show _ ≤ (defTakS n id t).nodes.length; rw [e3]; exact Nat.le_refl _, e5, ?_⟩
  show (defTakS n id t).left.length * 16 + (defTakS n id t).nodes.length + ((defTakS n id t).cnt + 1) ≤ _
  rw [e1, e2, e3]
  omega
theorem up_let (u : Nat) (s : PS) : Up s (letS u s) 3 := by
  unfold letS
  dsimp only
  have h1 := ((ok_name s).trans (ok_type _)).up
  have h2 := h1.trans (up_grow u { nd0 6 with name := ba (nameT s), typ := typeT (nameS s) } _)
  have h3 := (h2.trans (ok_want c_eq _).up).trans (ok_end (growId (typeS (nameS s))) _).up
  exact (h3.trans (up_show (nameT s) (growId (typeS (nameS s))) _)).more (by omega)
theorem up_call (f u : Nat) (m : List Nat) (s : PS) : Up s (callS (exprS f) u m s) 2 := by
  have h := ok_call (fun u t => ok_expr f u t) u m (a := { s with cnt := s.cnt + 2 }) (s := s) (d := 0) ⟨Nat.le_refl _, Nat.le_refl _, rfl, by show s.left.length * 16 + s.nodes.length + s.cnt + (0 + 2) ≤ s.left.length * 16 + s.nodes.length + (s.cnt + 2); omega⟩
  exact ⟨h.left, h.nodes, h.depth, by have := h.sum; show _ ≤ s.left.length * 16 + s.nodes.length + s.cnt + 2; dsimp only at this; omega⟩
theorem is_nil {c : List Nat} {s : PS} (h : s.left = []) : isS c s = false := by unfold isS; rw [h]
theorem next_nil {s : PS} (h : s.left = []) : nextS s = failS s := by unfold nextS; rw [h]
theorem name_nil {s : PS} (h : s.left = []) : nameS s = failS (failS s) := by
  have h1 : nextT s = noTok := by unfold nextT; rw [h]
  unfold nameS
  rw [h1, if_neg (by decide), next_nil h]
theorem want_nil {c : List Nat} {s : PS} (h : s.left = []) : wantS c s = failS s := by unfold wantS; rw [is_nil h, if_neg (by decide)]
/-- An expression's end, where nothing is left. -/
theorem end_wrong (u : Nat) (s : PS) (h : s.left = []) : (endS u s).wrong = true := by
  have h1 : (exprT u s).left = [] := List.eq_nil_of_length_eq_zero (Nat.le_zero.1 (by have := (ok_exprT u s).left; rw [h] at this; exact this))
  unfold endS
  rw [want_nil h1]
  rfl
theorem stok_stmt : ∀ (f b : Nat), StOk (stmtS f b)
  | 0, b => ⟨fun t _ => Up.refl t, fun t _ => .inl rfl⟩
  | f + 1, b => by
    have ih := stok_stmt f
    refine ⟨fun s hne => ?_, fun s h0 => .inr ?_⟩
    · have hn : 0 < s.left.length := List.length_pos_iff.2 hne
      unfold stmtS
      dsimp only
      split
      · exact (up_let b (nextS s)).paid hn (by omega)
      · split
        · exact ((((((up_grow b (nd0 8) (nextS s)).trans (ok_exprT _ _).up).trans (up_block ih _ _)).trans (ok_want c_else _).up).trans (up_block ih _ _))).paid hn (by omega)
        · split
          · exact ((((up_grow b (nd0 9) (nextS s)).trans (ok_exprT _ _).up).trans (up_block ih _ _))).paid hn (by omega)
          · split
            · exact ((up_grow b (nd0 11) (nextS s)).trans (ok_end _ _).up).paid hn (by omega)
            · split
              · exact ((((up_grow b (nd0 12) (nextS s)).trans (ok_name _).up).trans (up_call _ _ _ _)).trans (ok_want _ _).up).paid hn (by omega)
              · have h1 : Up (nextS s) (nameS s) 0 := by
                  unfold nameS
                  split
                  · exact Up.refl _
                  · exact (ok_fail _).up
                exact ((((h1.trans (ok_var _ _).up).trans (ok_want c_eq _).up).trans (up_grow b _ _)).trans (ok_end _ _).up).paid hn (by omega)
    · unfold stmtS
      dsimp only
      rw [is_nil h0, is_nil h0, is_nil h0, is_nil h0, is_nil h0, if_neg (by decide), if_neg (by decide), if_neg (by decide), if_neg (by decide), if_neg (by decide)]
      have hok := ((ok_name s).trans (ok_var (nameT s) _)).trans (ok_want c_eq _)
      refine ⟨((hok.up.trans (up_grow b { nd0 7 with ref := (nameS s).vis (nameT s) } _)).trans (ok_end _ _).up).more (by omega), end_wrong _ _ ?_⟩
      show (wantS c_eq (varS (nameT s) (nameS s))).left = []
      exact List.eq_nil_of_length_eq_zero (Nat.le_zero.1 (by have := hok.left; rw [h0] at this; exact this))
end Go.Proofs.YtecbaceinifjiaaGreatDoor
namespace Go.Proofs.YtecbaceinifjiaaGreatDoor
open Go.RowKit
set_option linter.unusedSimpArgs false
set_option linter.unusedVariables false
set_option maxRecDepth 100000
theorem nextS_less {a : PS} (h : 0 < a.left.length) : (nextS a).left.length + 1 = a.left.length := by
  unfold nextS
  cases hs : a.left with
  | nil => rw [hs] at h; exact absurd h (by simp)
  | cons t r => rfl
theorem Up.less {a b : PS} {d : Nat} (h : Up (nextS a) b d) (hn : 0 < a.left.length) : b.left.length < a.left.length := by
  have h1 := nextS_less hn
  have h2 := h.left
  omega
/-- Behind its first token a statement leaves less. -/
theorem less_stmt (f b : Nat) (s : PS) (hn : 0 < s.left.length) : (stmtS (f + 1) b s).left.length < s.left.length := by
  have ih := stok_stmt f
  unfold stmtS
  dsimp only
  split
  · exact (up_let b (nextS s)).less hn
  · split
    · exact (((((up_grow b (nd0 8) (nextS s)).trans (ok_exprT _ _).up).trans (up_block ih _ _)).trans (ok_want c_else _).up).trans (up_block ih _ _)).less hn
    · split
      · exact (((up_grow b (nd0 9) (nextS s)).trans (ok_exprT _ _).up).trans (up_block ih _ _)).less hn
      · split
        · exact ((up_grow b (nd0 11) (nextS s)).trans (ok_end _ _).up).less hn
        · split
          · exact ((((up_grow b (nd0 12) (nextS s)).trans (ok_name _).up).trans (up_call _ _ _ _)).trans (ok_want _ _).up).less hn
          · have h1 : Up (nextS s) (nameS s) 0 := by
              unfold nameS
              split
              · exact Up.refl _
              · exact (ok_fail _).up
            exact ((((h1.trans (ok_var _ _).up).trans (ok_want c_eq _).up).trans (up_grow b _ _)).trans (ok_end _ _).up).less hn
/-- What a loop over parts asks of a part: with something left it takes some of it and grows by nothing; with nothing left it makes all wrong. -/
structure StOkN (N : Nat) (st : PS → PS) : Prop where
  some : ∀ t, t.left ≠ [] → Up t (st t) 0
  less : ∀ t, 0 < t.left.length → (st t).left.length < t.left.length
  none : ∀ t, t.left = [] → Up t (st t) N ∧ (st t).wrong = true
theorem stokN_stmt (f b : Nat) : StOkN 1 (stmtS (f + 1) b) :=
  ⟨(stok_stmt (f + 1) b).some, fun t h => less_stmt f b t h, fun t h => by
    rcases (stok_stmt (f + 1) b).none t h with h1 | h1
    · refine ⟨by rw [h1]; exact (Up.refl t).more (by omega), ?_⟩
      unfold stmtS
      dsimp only
      rw [is_nil h, is_nil h, is_nil h, is_nil h, is_nil h, if_neg (by decide), if_neg (by decide), if_neg (by decide), if_neg (by decide), if_neg (by decide)]
      have hok := ((ok_name t).trans (ok_var (nameT t) _)).trans (ok_want c_eq _)
      refine end_wrong _ _ ?_
      show (wantS c_eq (varS (nameT t) (nameS t))).left = []
      exact List.eq_nil_of_length_eq_zero (Nat.le_zero.1 (by have := hok.left; rw [h] at this; exact this))
    · exact h1⟩
theorem up_stsN {N : Nat} {st : PS → PS} (h : StOkN N st) (e : List Nat) : ∀ (k : Nat) (s : PS), Up s (stsS st e k s) N
  | 0, s => (Up.refl s).more (by omega)
  | k + 1, s => by
    show Up s (if s.wrong || isS e s then s else stsS st e k (st s)) N
    split
    · exact (Up.refl s).more (by omega)
    · by_cases h0 : s.left = []
      · obtain ⟨h1, h2⟩ := h.none s h0
        rw [sts_wrong k _ h2]
        exact h1
      · exact ((h.some s h0).trans (up_stsN h e k _)).more (by omega)
theorem ok_want2 (t : List Nat) {s : PS} (h : 0 < s.left.length) : Ok s (wantS t s) 16 := by
  unfold wantS
  split
  · exact ok_next2 h
  · exact ⟨Nat.zero_le _, Nat.le_refl _, rfl, by show 0 * 16 + s.nodes.length + s.cnt + 16 ≤ s.left.length * 16 + s.nodes.length + s.cnt; omega⟩
theorem want_less (t : List Nat) {s : PS} (h : 0 < s.left.length) : (wantS t s).left.length < s.left.length := by
  unfold wantS
  split
  · have := nextS_less h; omega
  · exact h
theorem up_param (u : Nat) (s : PS) : Up s (paramS u s) 3 := by
  unfold paramS
  dsimp only
  have h1 := ((ok_name s).trans (ok_type _)).up
  have h2 := h1.trans (up_grow u { nd0 4 with name := ba (nameT s), typ := typeT (nameS s) } _)
  exact (h2.trans (up_show (nameT s) (growId (typeS (nameS s))) _)).more (by omega)
theorem up_comma {part : PS → PS} {d : Nat} (hd : d ≤ 16) (hp : ∀ t, Up t (part t) d) : ∀ (k : Nat) (s : PS), Up s (commaS part k s) 0
  | 0, s => Up.refl s
  | k + 1, s => by
    show Up s (if isS c_comma s then commaS part k (part (nextS s)) else s) 0
    split
    · rename_i hc
      have hn := (isS_pos hc).1
      exact (((hp (nextS s)).trans (up_comma hd hp k _)).more (e := d) (by omega)).paid hn (by omega)
    · exact Up.refl s
theorem up_list {part : PS → PS} {d : Nat} (hd : d ≤ 16) (hp : ∀ t, Up t (part t) d) (s : PS) : Up s (listS part s) d := by
  unfold listS
  split
  · exact (ok_next s).up.more (by omega)
  · exact (((hp s).trans (up_comma hd hp _ _)).trans (ok_want _ _).up).more (by omega)
theorem defFun_facts (m n : List Nat) (id : Nat) (s : PS) : (defFunS m n id s).cnt = s.cnt + 1 ∧ (defFunS m n id s).left = s.left ∧ (defFunS m n id s).nodes = s.nodes ∧ (defFunS m n id s).depth = s.depth ∧ (defFunS m n id s).wrong = s.wrong := by
  unfold defFunS
  by_cases h : s.funs m n ≠ 0
  · rw [if_pos h]; exact ⟨rfl, rfl, rfl, rfl, rfl⟩
  · rw [if_neg h]; exact ⟨rfl, rfl, rfl, rfl, rfl⟩
theorem defMod_facts (n : List Nat) (id : Nat) (s : PS) : (defModS n id s).cnt = s.cnt + 1 ∧ (defModS n id s).left = s.left ∧ (defModS n id s).nodes = s.nodes ∧ (defModS n id s).depth = s.depth ∧ (defModS n id s).wrong = s.wrong := by
  unfold defModS
  by_cases h : s.mods n ≠ 0
  · rw [if_pos h]; exact ⟨rfl, rfl, rfl, rfl, rfl⟩
  · rw [if_neg h]; exact ⟨rfl, rfl, rfl, rfl, rfl⟩
theorem up_defFun (m n : List Nat) (id : Nat) (s : PS) : Up s (defFunS m n id s) 1 := by
  obtain ⟨h1, h2, h3, h4, _⟩ := defFun_facts m n id s
  exact ⟨by rw [h2]; exact Nat.le_refl _, by rw [h3]; exact Nat.le_refl _, h4, by rw [h1, h2, h3]; omega⟩
theorem up_defMod (n : List Nat) (id : Nat) (s : PS) : Up s (defModS n id s) 1 := by
  obtain ⟨h1, h2, h3, h4, _⟩ := defMod_facts n id s
  exact ⟨by rw [h2]; exact Nat.le_refl _, by rw [h3]; exact Nat.le_refl _, h4, by rw [h1, h2, h3]; omega⟩
theorem up_enter (s : PS) : Up s (enterS s) 0 := ⟨Nat.le_refl _, Nat.le_refl _, rfl, Nat.le_refl _⟩
theorem up_typ (id v : Nat) (s : PS) : Up s (typOf id v s) 0 := by
  have h : (typOf id v s).nodes.length = s.nodes.length := by show (setN id _ s.nodes).length = _; unfold setN; rw [List.length_modify]
  exact ⟨Nat.le_refl _, by rw [h]; exact Nat.le_refl _, rfl, by show s.left.length * 16 + (typOf id v s).nodes.length + s.cnt ≤ _; rw [h]; exact Nat.le_refl _⟩
/-- A function, up to its parameters. -/
def funcA (m : Nat) (s0 : PS) : PS := wantS c_lpar (enterS (defFunS (nameOf m (growS m { nd0 3 with name := ba (nameT s0) } (nameS s0))) (nameT s0) (growId (nameS s0)) (growS m { nd0 3 with name := ba (nameT s0) } (nameS s0))))
/-- .. up to its body. -/
def funcB (id : Nat) (s1 : PS) : PS := wantS c_lbr (typOf id (typeT (listS (paramS id) s1)) (typeS (listS (paramS id) s1)))
/-- .. its body. -/
def funcC (id : Nat) (s3 : PS) : PS := wantS c_return (stsS (stmtS ((growS id (nd0 5) s3).left.length + 1) (growId s3)) c_return ((growS id (nd0 5) s3).left.length + 1) (growS id (nd0 5) s3))
/-- .. its end. -/
def funcD (b : Nat) (s5 : PS) : PS := wantS c_rbr (endS (growId s5) (growS b (nd0 10) s5))
theorem funcS_eq (m : Nat) (s : PS) : funcS m s = funcD (growId (funcB (growId (nameS (wantS c_func s))) (funcA m (wantS c_func s)))) (funcC (growId (nameS (wantS c_func s))) (funcB (growId (nameS (wantS c_func s))) (funcA m (wantS c_func s)))) := rfl
theorem up_funcA (m : Nat) (s0 : PS) : Up s0 (funcA m s0) 2 := by
  unfold funcA
  exact ((((((ok_name s0).up.trans (up_grow m { nd0 3 with name := ba (nameT s0) } _)).trans (up_defFun _ _ _ _)).trans (up_enter _)).trans (ok_want c_lpar _).up)).more (by omega)
theorem up_funcB (id : Nat) (s1 : PS) : Up s1 (funcB id s1) 3 := by
  unfold funcB
  exact ((((up_list (by omega) (up_param id) s1).trans (ok_type _).up).trans (up_typ id _ _)).trans (ok_want c_lbr _).up).more (by omega)
theorem up_funcC (id : Nat) (s3 : PS) : Up s3 (funcC id s3) 2 := by
  unfold funcC
  exact (((up_grow id (nd0 5) s3).trans (up_stsN (stokN_stmt _ _) _ _ _)).trans (ok_want c_return _).up).more (by omega)
theorem up_funcD (b : Nat) (s5 : PS) : Up s5 (funcD b s5) 1 := by
  unfold funcD
  exact (((up_grow b (nd0 10) s5).trans (ok_end _ _).up).trans (ok_want c_rbr _).up).more (by omega)
theorem up_funcR (m : Nat) (s : PS) : Up (wantS c_func s) (funcS m s) 8 := by
  rw [funcS_eq]
  exact (((up_funcA _ _).trans (up_funcB _ _)).trans (up_funcC _ _)).trans (up_funcD _ _)
theorem left_nil {a b : PS} {d : Nat} (h : Up a b d) (h0 : a.left = []) : b.left = [] := List.eq_nil_of_length_eq_zero (Nat.le_zero.1 (by have := h.left; rw [h0] at this; exact this))
theorem stokN_func (m : Nat) : StOkN 8 (funcS m) := by
  refine ⟨fun t h => ?_, fun t h => ?_, fun t h => ⟨((ok_want c_func t).up.trans (up_funcR m t)).more (by omega), ?_⟩⟩
  · have hn : 0 < t.left.length := List.length_pos_iff.2 h
    have h1 := ok_want2 c_func hn
    have h2 := up_funcR m t
    exact ⟨Nat.le_trans h2.left h1.left, Nat.le_trans h1.nodes h2.nodes, h2.depth.trans h1.depth, by have := h2.sum; have := h1.sum; omega⟩
  · exact Nat.lt_of_le_of_lt (up_funcR m t).left (want_less c_func h)
  · rw [funcS_eq]
    have h1 := left_nil (((ok_want c_func t).up.trans ((up_funcA m _).trans (up_funcB (growId (nameS (wantS c_func t))) _))).trans (up_funcC (growId (nameS (wantS c_func t))) _)) h
    unfold funcD
    rw [want_nil (left_nil ((up_grow _ (nd0 10) _).trans (ok_end _ _).up) h1)]
    rfl
/-- A module, up to its functions. -/
def modA (u : Nat) (s0 : PS) : PS := wantS c_lbr (defModS (nameT s0) (growId (nameS s0)) (growS u { nd0 2 with name := ba (nameT s0) } (nameS s0)))
def modB (id : Nat) (s2 : PS) : PS := wantS c_rbr (stsS (funcS id) c_rbr (s2.left.length + 1) s2)
theorem modS_eq (u : Nat) (s : PS) : modS u s = modB (growId (nameS (wantS c_module s))) (modA u (wantS c_module s)) := rfl
theorem up_modA (u : Nat) (s0 : PS) : Up s0 (modA u s0) 2 := by
  unfold modA
  exact ((((ok_name s0).up.trans (up_grow u { nd0 2 with name := ba (nameT s0) } _)).trans (up_defMod _ _ _)).trans (ok_want c_lbr _).up).more (by omega)
theorem up_modB (id : Nat) (s2 : PS) : Up s2 (modB id s2) 8 := by
  unfold modB
  exact ((up_stsN (stokN_func id) _ _ _).trans (ok_want c_rbr _).up).more (by omega)
theorem up_modR (u : Nat) (s : PS) : Up (wantS c_module s) (modS u s) 10 := by
  rw [modS_eq]
  exact (up_modA _ _).trans (up_modB _ _)
theorem up_mod (u : Nat) {t : PS} (hn : 0 < t.left.length) : Up t (modS u t) 0 := by
  have h1 := ok_want2 c_module hn
  have h2 := up_modR u t
  exact ⟨Nat.le_trans h2.left h1.left, Nat.le_trans h1.nodes h2.nodes, h2.depth.trans h1.depth, by have := h2.sum; have := h1.sum; omega⟩
theorem less_mod (u : Nat) {t : PS} (hn : 0 < t.left.length) : (modS u t).left.length < t.left.length := Nat.lt_of_le_of_lt (up_modR u t).left (want_less c_module hn)
end Go.Proofs.YtecbaceinifjiaaGreatDoor
