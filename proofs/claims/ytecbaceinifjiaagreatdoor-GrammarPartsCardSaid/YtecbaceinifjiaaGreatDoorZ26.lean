/- GFunc: joined by program (tools/merge.py). -/
import Derived.Test.YtecbaceinifjiaaGreatDoorZ25
namespace Go.Proofs.YtecbaceinifjiaaGreatDoor
open Go.RowKit
set_option linter.unusedSimpArgs false
set_option linter.unusedVariables false
set_option maxRecDepth 100000
attribute [local go_sem] Oper.semAt_some undef
set_option maxHeartbeats 16000000 in
theorem func_any (w : World) (base : Nat) (M : GM) (s : PS) (h : GR w base M s) (m : Nat) (hm0 : 0 < m) (hm : m ≤ s.nodes.length) (hs : s.left.length * 16 + s.nodes.length + s.cnt + 8 ≤ 10000000) :
    Calls Tryz.prog 49 #[.pointer (some ⟨M.gp, 0, none⟩), .int .u64 (m : Int)] w fun e w' => e = .returned (.tuple #[]) ∧ GStep w base M (funcS m s) w' := by
  have hmf : ∀ (fn : Fn) (first cap : Array Value) (w : World), (Instr.makeFunc fn first cap).run Tryz.prog w = .ok (.func fn first cap) w := fun _ _ _ _ => rfl
  obtain ⟨s0, hs0⟩ : ∃ s0, s0 = wantS c_func s := ⟨_, rfl⟩
  have o0 : Up s s0 0 := by rw [hs0]; exact (ok_want c_func s).up
  obtain ⟨n, hn⟩ : ∃ n, n = nameT s0 := ⟨_, rfl⟩
  obtain ⟨s1, hs1⟩ : ∃ s1, s1 = nameS s0 := ⟨_, rfl⟩
  have o1 : Up s s1 0 := o0.trans (show Up s0 s1 0 from (by rw [hs1]; exact (ok_name s0).up))
  obtain ⟨id, hid⟩ : ∃ id, id = growId s1 := ⟨_, rfl⟩
  obtain ⟨s2, hs2⟩ : ∃ s2, s2 = growS m { nd0 3 with name := ba n } s1 := ⟨_, rfl⟩
  have o2 : Up s s2 1 := o1.trans (show Up s1 s2 1 from (by rw [hs2]; exact up_grow m { nd0 3 with name := ba n } s1))
  obtain ⟨s3, hs3⟩ : ∃ s3, s3 = defFunS (nameOf m s2) n id s2 := ⟨_, rfl⟩
  have o3 : Up s s3 2 := o2.trans (show Up s2 s3 1 from (by rw [hs3]; exact up_defFun (nameOf m s2) n id s2))
  obtain ⟨s4, hs4⟩ : ∃ s4, s4 = enterS s3 := ⟨_, rfl⟩
  have o4 : Up s s4 2 := o3.trans (show Up s3 s4 0 from (by rw [hs4]; exact up_enter s3))
  obtain ⟨s5, hs5⟩ : ∃ s5, s5 = wantS c_lpar s4 := ⟨_, rfl⟩
  have o5 : Up s s5 2 := o4.trans (show Up s4 s5 0 from (by rw [hs5]; exact (ok_want c_lpar s4).up))
  obtain ⟨s6, hs6⟩ : ∃ s6, s6 = listS (paramS id) s5 := ⟨_, rfl⟩
  have o6 : Up s s6 5 := o5.trans (show Up s5 s6 3 from (by rw [hs6]; exact up_list (by omega) (up_param id) s5))
  obtain ⟨T, hT⟩ : ∃ T, T = typeT s6 := ⟨_, rfl⟩
  obtain ⟨s7, hs7⟩ : ∃ s7, s7 = typeS s6 := ⟨_, rfl⟩
  have o7 : Up s s7 5 := o6.trans (show Up s6 s7 0 from (by rw [hs7]; exact (ok_type s6).up))
  obtain ⟨s8, hs8⟩ : ∃ s8, s8 = typOf id T s7 := ⟨_, rfl⟩
  have o8 : Up s s8 5 := o7.trans (show Up s7 s8 0 from (by rw [hs8]; exact up_typ id T s7))
  obtain ⟨s9, hs9⟩ : ∃ s9, s9 = wantS c_lbr s8 := ⟨_, rfl⟩
  have o9 : Up s s9 5 := o8.trans (show Up s8 s9 0 from (by rw [hs9]; exact (ok_want c_lbr s8).up))
  obtain ⟨b, hb⟩ : ∃ b, b = growId s9 := ⟨_, rfl⟩
  obtain ⟨s10, hs10⟩ : ∃ s10, s10 = growS id (nd0 5) s9 := ⟨_, rfl⟩
  have o10 : Up s s10 6 := o9.trans (show Up s9 s10 1 from (by rw [hs10]; exact up_grow id (nd0 5) s9))
  obtain ⟨s11, hs11⟩ : ∃ s11, s11 = stsS (stmtS (s10.left.length + 1) b) c_return (s10.left.length + 1) s10 := ⟨_, rfl⟩
  have o11 : Up s s11 7 := o10.trans (show Up s10 s11 1 from (by rw [hs11]; exact up_stsN (stokN_stmt s10.left.length b) c_return (s10.left.length + 1) s10))
  obtain ⟨s12, hs12⟩ : ∃ s12, s12 = wantS c_return s11 := ⟨_, rfl⟩
  have o12 : Up s s12 7 := o11.trans (show Up s11 s12 0 from (by rw [hs12]; exact (ok_want c_return s11).up))
  obtain ⟨r, hr⟩ : ∃ r, r = growId s12 := ⟨_, rfl⟩
  obtain ⟨s13, hs13⟩ : ∃ s13, s13 = growS b (nd0 10) s12 := ⟨_, rfl⟩
  have o13 : Up s s13 8 := o12.trans (show Up s12 s13 1 from (by rw [hs13]; exact up_grow b (nd0 10) s12))
  obtain ⟨s14, hs14⟩ : ∃ s14, s14 = endS r s13 := ⟨_, rfl⟩
  have o14 : Up s s14 8 := o13.trans (show Up s13 s14 0 from (by rw [hs14]; exact (ok_end r s13).up))
  obtain ⟨s15, hs15⟩ : ∃ s15, s15 = wantS c_rbr s14 := ⟨_, rfl⟩
  have o15 : Up s s15 8 := o14.trans (show Up s14 s15 0 from (by rw [hs15]; exact (ok_want c_rbr s14).up))
  have hfin : funcS m s = s15 := by rw [funcS_eq]; unfold funcD funcC funcB funcA; rw [← hs0, ← hn, ← hs1, ← hid, ← hs2, ← hs3, ← hs4, ← hs5, ← hs6, ← hT, ← hs7, ← hs8, ← hs9, ← hb, ← hs10, ← hs11, ← hs12, ← hr, ← hs13, ← hs14, ← hs15]
  rw [hfin]
  have i0 : 0 < id := by rw [hid]; exact Nat.succ_pos _
  have i2 : id ≤ s2.nodes.length := by rw [hs2, (grow_facts _ _ _).2.1, hid]; exact Nat.le_refl _
  have O2 : Up s2 s3 1 := by rw [hs3]; exact up_defFun _ _ _ _
  have O5 : Up s2 s5 1 := (O2.trans (show Up s3 s4 0 from (by rw [hs4]; exact up_enter s3))).trans (show Up s4 s5 0 from (by rw [hs5]; exact (ok_want c_lpar s4).up))
  have O6 : Up s5 s6 3 := by rw [hs6]; exact up_list (by omega) (up_param id) s5
  have O7 : Up s6 s7 0 := by rw [hs7]; exact (ok_type s6).up
  have O9 : Up s7 s9 0 := Up.trans (show Up s7 s8 0 from (by rw [hs8]; exact up_typ id T s7)) (show Up s8 s9 0 from (by rw [hs9]; exact (ok_want c_lbr s8).up))
  have i5 : id ≤ s5.nodes.length := Nat.le_trans i2 O5.nodes
  have i6 : id ≤ s6.nodes.length := Nat.le_trans i5 O6.nodes
  have i7 : id ≤ s7.nodes.length := Nat.le_trans i6 O7.nodes
  have i9 : id ≤ s9.nodes.length := Nat.le_trans i7 O9.nodes
  have b0 : 0 < b := by rw [hb]; exact Nat.succ_pos _
  have b10 : b ≤ s10.nodes.length := by rw [hs10, (grow_facts _ _ _).2.1, hb]; exact Nat.le_refl _
  have b12 : b ≤ s12.nodes.length := Nat.le_trans b10 (Up.nodes (Up.trans (show Up s10 s11 1 from (by rw [hs11]; exact up_stsN (stokN_stmt s10.left.length b) c_return (s10.left.length + 1) s10)) (show Up s11 s12 0 from (by rw [hs12]; exact (ok_want c_return s11).up))))
  have r0 : 0 < r := by rw [hr]; exact Nat.succ_pos _
  have r13 : r ≤ s13.nodes.length := by rw [hs13, (grow_facts _ _ _).2.1, hr]; exact Nat.le_refl _
  have p1 : m ≤ s1.nodes.length := Nat.le_trans hm o1.nodes
  have p2 : m ≤ s2.nodes.length := Nat.le_trans hm o2.nodes
  have u1 : s1.left.length * 16 + (s1.nodes.length + 1) + s1.cnt ≤ 10000000 := by have := o1.sum; omega
  have u2 : s2.left.length * 16 + s2.nodes.length + (s2.cnt + 1) ≤ 10000000 := by have := o2.sum; omega
  have u5 : s5.left.length * 16 + s5.nodes.length + s5.cnt + 3 ≤ 10000000 := by have := o5.sum; omega
  have u9 : s9.left.length * 16 + (s9.nodes.length + 1) + s9.cnt ≤ 10000000 := by have := o9.sum; omega
  have u10 : s10.left.length * 16 + s10.nodes.length + s10.cnt + 1 ≤ 10000000 := by have := o10.sum; omega
  have u12 : s12.left.length * 16 + (s12.nodes.length + 1) + s12.cnt ≤ 10000000 := by have := o12.sum; omega
  have tb : T ≤ 2 := by rw [hT]; exact typeT_le _
  obtain ⟨W1, hW1⟩ : ∃ W1, W1 = w.alloc (.cells #[.pointer (some ⟨M.gp, 0, none⟩)] 50) := ⟨_, rfl⟩
  have F1 : FS w base M [(w.heap.size, boxP M.gp)] W1 M s := (FS.refl h).new (boxP M.gp) W1 hW1
  have c1 := F1.cellP (g := w.heap.size) (gp := M.gp) List.mem_cons_self
  have hwa := want_any W1 base M s F1.g ⟨#[102, 117, 110, 99]⟩
  rw [show str ⟨#[102, 117, 110, 99]⟩ = c_func from rfl, ← hs0] at hwa
  have HWA := Lib.hid hwa
  have HF1 := Lib.hid F1
  have HW1 := Lib.hid hW1
  have HS0 := Lib.hid hs0
  have HN := Lib.hid hn
  have HS1 := Lib.hid hs1
  have HID := Lib.hid hid
  have HS2 := Lib.hid hs2
  have HS3 := Lib.hid hs3
  have HS4 := Lib.hid hs4
  have HS5 := Lib.hid hs5
  have HS6 := Lib.hid hs6
  have HT := Lib.hid hT
  have HS7 := Lib.hid hs7
  have HS8 := Lib.hid hs8
  have HS9 := Lib.hid hs9
  have HB := Lib.hid hb
  have HS10 := Lib.hid hs10
  have HS11 := Lib.hid hs11
  have HS12 := Lib.hid hs12
  have HR := Lib.hid hr
  have HS13 := Lib.hid hs13
  have HS14 := Lib.hid hs14
  have HS15 := Lib.hid hs15
  have I0 := Lib.hid i0
  have I2 := Lib.hid i2
  have I5 := Lib.hid i5
  have I6 := Lib.hid i6
  have I7 := Lib.hid i7
  have I9 := Lib.hid i9
  have B0 := Lib.hid b0
  have B10 := Lib.hid b10
  have B12 := Lib.hid b12
  have R0 := Lib.hid r0
  have R13 := Lib.hid r13
  have P1 := Lib.hid p1
  have P2 := Lib.hid p2
  have HM0 := Lib.hid hm0
  have U1 := Lib.hid u1
  have U2 := Lib.hid u2
  have U5 := Lib.hid u5
  have U9 := Lib.hid u9
  have U10 := Lib.hid u10
  have U12 := Lib.hid u12
  have TB := Lib.hid tb
  clear h hm hs hfin hwa F1 hW1 O2 O5 O6 O7 O9 hs0 hn hs1 hid hs2 hs3 hs4 hs5 hs6 hT hs7 hs8 hs9 hb hs10 hs11 hs12 hr hs13 hs14 hs15 i0 i2 i5 i6 i7 i9 b0 b10 b12 r0 r13 p1 p2 hm0 u1 u2 u5 u9 u10 u12 tb o0 o1 o2 o3 o4 o5 o6 o7 o8 o9 o10 o11 o12 o13 o14 o15
  go_enter Tryz.func49, Tryz.ntmps49
  go_upto_region 1 with fail
  rw [← HW1.out]
  go_upto_region 4 with (first
    | (go_at_call 45; (with_reducible refine (HWA.out).mono ?_); rintro e w2 ⟨rfl, hw2⟩; go_loud (
        obtain ⟨M2, F2, hl2⟩ := HF1.out.gstep hw2.step;
        have c2 := F2.cellP (g := w.heap.size) (gp := M.gp) List.mem_cons_self;
        have hnm := name_any w2 base M2 s0 F2.g;
        have hgn := nameT_good F2.g.goodN;
        rw [F2.gp, ← HN.out, ← HS1.out] at hnm;
        rw [← HN.out] at hgn;
        have HNM := Lib.hid hnm;
        have HGN := Lib.hid hgn;
        have HF2 := Lib.hid F2;
        clear hw2 F2 hl2 hnm hgn))
    | (go_at_call 46; (with_reducible refine (HNM.out).mono ?_); rintro e w3 ⟨rfl, hw3⟩; go_loud (
        obtain ⟨M3, F3, hl3⟩ := HF2.out.gstep hw3.step;
        have c3 := F3.cellP (g := w.heap.size) (gp := M.gp) List.mem_cons_self;
        have hgr := grow_any w3 base M3 s1 F3.g m { nd0 3 with name := ba n } P1.out ⟨(okNd 3 (by omega)).kind, (by show (ba n).size ≤ _; rw [ba_sizeL HGN.out.1]; have := HGN.out.2; omega), (okNd 3 (by omega)).num, (okNd 3 (by omega)).typ, (okNd 3 (by omega)).ref⟩ rfl U1.out;
        unfold ndV nd0 at hgr;
        dsimp only at hgr;
        rw [F3.gp, ← HID.out, show ((3 : Nat) : Int) = 3 from rfl, show ((0 : Nat) : Int) = 0 from rfl] at hgr;
        have HGR := Lib.hid hgr;
        have HF3 := Lib.hid F3;
        clear hw3 F3 hl3 hgr))
    | (go_at_call 30; (with_reducible refine (HGR.out).mono ?_); rintro e w4 ⟨rfl, hw4⟩; go_loud (
        obtain ⟨M4, F4, hl4⟩ := HF3.out.gstep hw4;
        have F4' : FS w base M [(w.heap.size, boxP M.gp)] w4 M4 s2 := (by rw [HS2.out]; exact F4);
        have HF4 := Lib.hid F4';
        clear hw4 F4 F4' hl4)))
  obtain ⟨W5, hW5⟩ : ∃ W5, W5 = w4.alloc (.cells #[.int .u64 (id : Int)] 30) := ⟨_, rfl⟩
  rw [← hW5]
  have F5 := HF4.out.new (boxI id) W5 hW5
  have c5 := F5.cellP (g := w.heap.size) (gp := M.gp) (List.mem_cons_of_mem _ List.mem_cons_self)
  have e5 := F5.cellI (g := w4.heap.size) (id := id) List.mem_cons_self
  obtain ⟨⟨_, _, _, _, _, d5, _⟩, _⟩ := F5.g.cells
  rw [F5.gp] at d5
  obtain ⟨gg, cc, i, hmi, hii, hnv, hgl, hnc, hgm⟩ := F5.g.nameAt m HM0.out P2.out
  obtain ⟨a, ha⟩ : ∃ a, a = nameOf m s2 := ⟨_, rfl⟩
  rw [← ha] at hnc hgm
  have hs3 := HS3.out
  rw [← ha] at hs3
  have hnd := fun wd (hb : Below W5.heap.size W5 wd) => node_any wd base M4 s2 (F5.g.below hb) i gg cc hii hnv
  rw [← hmi, F5.gp] at hnd
  have hdf := fun wd (hb : Below W5.heap.size W5 wd) => defFun_any wd base M4 s2 (F5.g.below hb) a n id hgm HGN.out U2.out
  rw [F5.gp, ← hs3] at hdf
  have HND := Lib.hid hnd
  have HDF := Lib.hid hdf
  have HF5 := Lib.hid F5
  have HNV := Lib.hid hnv
  have HII := Lib.hid hii
  have HMI := Lib.hid hmi
  have HA := Lib.hid ha
  have HS3A := Lib.hid hs3
  have hgpl : M.gp < W5.heap.size := by rw [← F5.gp]; exact F5.g.gpL
  have hwl : w.heap.size < W5.heap.size := lt_of_heap2 (F5.k (w.heap.size, boxP M.gp) (List.mem_cons_of_mem _ List.mem_cons_self)).1
  have hil : w4.heap.size < W5.heap.size := lt_of_heap2 (F5.k (w4.heap.size, boxI id) List.mem_cons_self).1
  have HSK : Hid (∀ x, Below W5.heap.size W5 x → x.cell? ⟨w.heap.size, 0, none⟩ = some (.pointer (some ⟨M.gp, 0, none⟩)) ∧ x.cell? ⟨w4.heap.size, 0, none⟩ = some (.int .u64 (id : Int)) ∧ x.cell? ⟨M.gp, 5, none⟩ = some (.map (some M4.bf)) ∧ x.cell? ⟨gg, i * 6 + 1, none⟩ = some (.string (ba a))) := Lib.hid (fun x hb => ⟨(hb.cell (p := ⟨w.heap.size, 0, none⟩) hwl).trans c5, (hb.cell (p := ⟨w4.heap.size, 0, none⟩) hil).trans e5, (hb.cell (p := ⟨M.gp, 5, none⟩) hgpl).trans d5, (hb.cell (p := ⟨gg, i * 6 + 1, none⟩) hgl).trans hnc⟩)
  clear hW5 F5 hmi hii hnv hgl hgm ha hs3 hnd hdf hgpl hwl hil c5 e5 d5 hnc
  refine wp_region_noPanic ?_
  refine wp_region_held_drew (S := fun x => x.cell? ⟨w.heap.size, 0, none⟩ = some (.pointer (some ⟨M.gp, 0, none⟩)) ∧ x.cell? ⟨w4.heap.size, 0, none⟩ = some (.int .u64 (id : Int)) ∧ x.cell? ⟨M.gp, 5, none⟩ = some (.map (some M4.bf)) ∧ x.cell? ⟨gg, i * 6 + 1, none⟩ = some (.string (ba a))) (by kernel_rfl) (HSK.out _ (ride_drew (Below.refl _ _))) (fun hHeld => ?_)
  refine take_at (i := 0) (v := ?_) (some 16) rfl rfl (by kernel_rfl) (by kernel_rfl) (by kernel_rfl) (fun _ _ _ h => h) (Or.inl ⟨by rfl, ?_⟩) (by assumption) ?_
  rotate_left
  · intro w hSw
    obtain ⟨z0, z1, z2, z3⟩ := hSw
    first | (go_simp; done) | (go_simp; with_reducible rfl)
  try simp only [Act.put, List.setIfInBounds_toArray, List.set_cons_zero, List.set_cons_succ]
  refine take_at (i := 1) (v := ?_) (some 17) rfl rfl (by kernel_rfl) (by kernel_rfl) (by kernel_rfl) (fun _ _ _ h => h) (Or.inl ⟨by rfl, ?_⟩) (by assumption) ?_
  rotate_left
  · intro w hSw
    obtain ⟨z0, z1, z2, z3⟩ := hSw
    first | (go_simp; done) | (go_simp; with_reducible rfl)
  try simp only [Act.put, List.setIfInBounds_toArray, List.set_cons_zero, List.set_cons_succ]
  refine take_at (i := 2) (v := ?_) (some 18) rfl rfl (by kernel_rfl) (by kernel_rfl) (by kernel_rfl) (fun _ _ _ h => h) (Or.inl ⟨by rfl, ?_⟩) (by assumption) ?_
  rotate_left
  · intro w hSw
    obtain ⟨z0, z1, z2, z3⟩ := hSw
    first | (go_simp; done) | (go_simp; with_reducible rfl)
  try simp only [Act.put, List.setIfInBounds_toArray, List.set_cons_zero, List.set_cons_succ]
  refine take_at (i := 3) (v := ?_) (some 19) rfl rfl (by kernel_rfl) (by kernel_rfl) (by kernel_rfl) (fun _ _ _ h => h) (Or.inl ⟨by rfl, ?_⟩) (by assumption) ?_
  rotate_left
  · intro w hSw
    obtain ⟨z0, z1, z2, z3⟩ := hSw
    first | (go_simp; done) | (go_simp; with_reducible rfl)
  try simp only [Act.put, List.setIfInBounds_toArray, List.set_cons_zero, List.set_cons_succ]
  refine take_at (i := 4) (v := ?_) (some 20) rfl rfl (by kernel_rfl) (by kernel_rfl) (by kernel_rfl) (fun _ _ _ h => h) (Or.inl ⟨by rfl, ?_⟩) (by assumption) ?_
  rotate_left
  · intro w hSw
    obtain ⟨z0, z1, z2, z3⟩ := hSw
    first | (go_simp; done) | (go_simp; with_reducible rfl)
  try simp only [Act.put, List.setIfInBounds_toArray, List.set_cons_zero, List.set_cons_succ]
  refine take_at (i := 5) (v := ?_) (some 21) rfl rfl (by kernel_rfl) (by kernel_rfl) (by kernel_rfl) (fun _ _ _ h => h) (Or.inl ⟨by rfl, ?_⟩) (by assumption) ?_
  rotate_left
  · intro w hSw
    obtain ⟨z0, z1, z2, z3⟩ := hSw
    first | (go_simp; done) | (go_simp; with_reducible rfl)
  try simp only [Act.put, List.setIfInBounds_toArray, List.set_cons_zero, List.set_cons_succ]
  refine take_at (i := 6) (v := ?_) (some 22) rfl rfl (by kernel_rfl) (by kernel_rfl) (by kernel_rfl) (fun _ _ _ h => h) (Or.inl ⟨by rfl, ?_⟩) (by assumption) ?_
  rotate_left
  · intro w hSw
    obtain ⟨z0, z1, z2, z3⟩ := hSw
    first | (go_simp; done) | (go_simp; with_reducible rfl)
  try simp only [Act.put, List.setIfInBounds_toArray, List.set_cons_zero, List.set_cons_succ]
  refine take_at (i := 7) (v := ?_) (some 23) rfl rfl (by kernel_rfl) (by kernel_rfl) (by kernel_rfl) (fun _ _ _ h => h) (Or.inl ⟨by rfl, ?_⟩) (by assumption) ?_
  rotate_left
  · intro w hSw
    obtain ⟨z0, z1, z2, z3⟩ := hSw
    first | (go_simp; done) | (go_simp; with_reducible rfl)
  try simp only [Act.put, List.setIfInBounds_toArray, List.set_cons_zero, List.set_cons_succ]
  refine take_at (i := 8) (v := ?_) (some 24) rfl rfl (by kernel_rfl) (by kernel_rfl) (by kernel_rfl) (fun _ _ _ h => h) (Or.inl ⟨by rfl, ?_⟩) (by assumption) ?_
  rotate_left
  · intro w hSw
    obtain ⟨z0, z1, z2, z3⟩ := hSw
    first | (go_simp; done) | (go_simp; with_reducible rfl)
  try simp only [Act.put, List.setIfInBounds_toArray, List.set_cons_zero, List.set_cons_succ]
  refine take_at (i := 9) (v := ?_) (some 25) rfl rfl (by kernel_rfl) (by kernel_rfl) (by kernel_rfl) (fun _ _ _ h => h) (Or.inl ⟨by rfl, ?_⟩) (by assumption) ?_
  rotate_left
  · intro w hSw
    obtain ⟨z0, z1, z2, z3⟩ := hSw
    first | (go_simp; done) | (go_simp; with_reducible rfl)
  try simp only [Act.put, List.setIfInBounds_toArray, List.set_cons_zero, List.set_cons_succ]
  refine take_at (i := 14) (v := ?_) (some 30) rfl rfl (by kernel_rfl) (by kernel_rfl) (by kernel_rfl) (fun _ _ _ h => h) (Or.inl ⟨by rfl, ?_⟩) (by assumption) ?_
  rotate_left
  · intro w hSw
    obtain ⟨z0, z1, z2, z3⟩ := hSw
    first | (go_simp; done) | (go_simp; with_reducible rfl)
  try simp only [Act.put, List.setIfInBounds_toArray, List.set_cons_zero, List.set_cons_succ]
  refine take_at (i := 16) (v := ?_) (some 32) rfl rfl (by kernel_rfl) (by kernel_rfl) (by kernel_rfl) (fun _ _ _ h => h) (Or.inl ⟨by rfl, ?_⟩) (by assumption) ?_
  rotate_left
  · intro w hSw
    obtain ⟨z0, z1, z2, z3⟩ := hSw
    first | (go_simp; done) | (go_simp; with_reducible rfl)
  try simp only [Act.put, List.setIfInBounds_toArray, List.set_cons_zero, List.set_cons_succ]
  refine wpAnyH_ready (rs := [10]) (by kernel_rfl) (by simp) ?_
  refine AllReadyH.cons rfl (fun K hK => ?_) AllReadyH.nil
  go_simp
  refine (HND.out _ (ride_drew (Below.refl _ _))).mono ?_
  rintro e w6 ⟨rfl, hw6⟩
  rw [← hw6]
  clear hw6 w6
  refine hK.out _ _ ?_ (fun hHeld2 => ?_)
  · exact hHeld
  clear hK K hHeld
  have hHeld := hHeld2
  clear hHeld2
  try simp only [Act.put, List.setIfInBounds_toArray, List.set_cons_zero, List.set_cons_succ]
  refine take_at (i := 11) (v := ?_) (some 27) rfl rfl (by kernel_rfl) (by kernel_rfl) (by kernel_rfl) (fun _ _ _ h => h) (Or.inl ⟨by rfl, ?_⟩) (by assumption) ?_
  rotate_left
  · intro w hSw
    obtain ⟨z0, z1, z2, z3⟩ := hSw
    first | (go_simp; done) | (go_simp; with_reducible rfl)
  try simp only [Act.put, List.setIfInBounds_toArray, List.set_cons_zero, List.set_cons_succ]
  refine take_at (i := 12) (v := ?_) (some 28) rfl rfl (by kernel_rfl) (by kernel_rfl) (by kernel_rfl) (fun _ _ _ h => h) (Or.inl ⟨by rfl, ?_⟩) (by assumption) ?_
  rotate_left
  · intro w hSw
    obtain ⟨z0, z1, z2, z3⟩ := hSw
    first | (go_simp; done) | (go_simp; with_reducible rfl)
  try simp only [Act.put, List.setIfInBounds_toArray, List.set_cons_zero, List.set_cons_succ]
  refine take_at (i := 13) (v := ?_) (some 29) rfl rfl (by kernel_rfl) (by kernel_rfl) (by kernel_rfl) (fun _ _ _ h => h) (Or.inl ⟨by rfl, ?_⟩) (by assumption) ?_
  rotate_left
  · intro w hSw
    obtain ⟨z0, z1, z2, z3⟩ := hSw
    first | (go_simp; done) | (go_simp; with_reducible rfl)
  try simp only [Act.put, List.setIfInBounds_toArray, List.set_cons_zero, List.set_cons_succ]
  refine take_at (i := 15) (v := ?_) (some 31) rfl rfl (by kernel_rfl) (by kernel_rfl) (by kernel_rfl) (fun _ _ _ h => h) (Or.inl ⟨by rfl, ?_⟩) (by assumption) ?_
  rotate_left
  · intro w hSw
    obtain ⟨z0, z1, z2, z3⟩ := hSw
    first | (go_simp; done) | (go_simp; with_reducible rfl)
  try simp only [Act.put, List.setIfInBounds_toArray, List.set_cons_zero, List.set_cons_succ]
  refine wpAnyH_ready (rs := [17]) (by kernel_rfl) (by simp) ?_
  refine AllReadyH.cons rfl (fun K hK => ?_) AllReadyH.nil
  go_simp
  refine (HDF.out _ (ride_drew (Below.refl _ _))).mono ?_
  rintro e w6 ⟨rfl, hg6, hT6⟩
  have F6 := (HF5.out.below (ride_drew (Below.refl _ _))).own hg6 hT6
  have d6 := F6.g.cells.1.2.2.2.2.2.1
  rw [F6.gp] at d6
  refine hK.out _ _ ?_ (fun hHeld2 => ?_)
  · exact ⟨F6.cellP (List.mem_cons_of_mem _ List.mem_cons_self), F6.cellI List.mem_cons_self, d6, F6.g.nameAt2 HNV.out HMI.out (by rw [HS3A.out, (defFun_facts _ _ _ _).2.2.1]; exact HII.out) (by rw [HS3A.out]; exact (defFun_facts _ _ _ _).2.2.1) HA.out⟩
  clear hK K hHeld
  have hHeld := hHeld2
  clear hHeld2
  try simp only [Act.put, List.setIfInBounds_toArray, List.set_cons_zero, List.set_cons_succ]
  refine wpAnyH_done (by kernel_rfl) ?_ _
  refine NoPanic.normal ?_
  have F6' := F6
  have c6 := F6'.cellP (g := w.heap.size) (gp := M.gp) (List.mem_cons_of_mem _ List.mem_cons_self)
  have hen := enter_any w6 base M4 s3 F6'.g
  rw [show (.pointer (some ⟨M4.gp, 4, none⟩) : Value) = .pointer (some ⟨M.gp, 4, none⟩) by rw [F6'.gp]] at hen
  have HEN := Lib.hid hen
  have HF6 := Lib.hid F6'
  clear hen F6 F6' d6 hg6 hT6 hHeld
  go_upto_region 8 with (first
    | (go_at_call 69; (with_reducible refine (HEN.out).mono ?_); rintro e w7 ⟨rfl, g1, g2, hg7, hT7, h71, h72⟩; go_loud (
        obtain ⟨M7, F7, hl7⟩ := HF6.out.enter hg7 hT7 h71 h72;
        rw [← HS4.out] at F7;
        have c7 := F7.cellP (g := w.heap.size) (gp := M.gp) (List.mem_cons_of_mem _ List.mem_cons_self);
        have hwa := want_any w7 base M7 s4 F7.g ⟨#[40]⟩;
        rw [show str ⟨#[40]⟩ = c_lpar from rfl, F7.gp, ← HS5.out] at hwa;
        have HWB := Lib.hid hwa;
        have HF7 := Lib.hid F7;
        have HL7 := Lib.hid hl7;
        clear hg7 hT7 h71 h72 F7 hl7 hwa))
    | (go_at_call 45; (with_reducible refine (HWB.out).mono ?_); rintro e w8 ⟨rfl, hw8⟩; go_loud (
        obtain ⟨M8, F8, hl8⟩ := HF7.out.gstep hw8.step;
        have c8 := F8.cellP (g := w.heap.size) (gp := M.gp) (List.mem_cons_of_mem _ List.mem_cons_self);
        have hls := params_any w8 base M8 s5 F8.g id w.heap.size w4.heap.size (by rw [F8.gp]; exact (F8.k _ (List.mem_cons_of_mem _ List.mem_cons_self)).1) (F8.k (_, boxI id) List.mem_cons_self).1 (F8.k (_, boxP M.gp) (List.mem_cons_of_mem _ List.mem_cons_self)).2 (F8.k (_, boxI id) List.mem_cons_self).2 I5.out (hl8 HL7.out) U5.out;
        rw [F8.gp, ← HS6.out] at hls;
        have HLS := Lib.hid hls;
        have HF8 := Lib.hid F8;
        have HL8 := Lib.hid (hl8 HL7.out);
        clear hw8 F8 hl8 hls))
    | (go_at_call 70; (with_reducible refine (HLS.out).mono ?_); rintro e w9 ⟨rfl, hw9⟩; go_loud (
        obtain ⟨M9, F9, hl9⟩ := HF8.out.gstep hw9;
        have HF9 := Lib.hid F9;
        have HL9 := Lib.hid (hl9 HL8.out);
        clear hw9 F9 hl9)))
  have F9 := HF9.out
  obtain ⟨gh, ch, ih, hidh, hiih, hnvh, hglh, _⟩ := F9.g.nameAt id I0.out I6.out
  have hndh := fun wd (hb : Below w9.heap.size w9 wd) => node_any wd base M9 s6 (F9.g.below hb) ih gh ch hiih hnvh
  rw [← hidh, F9.gp] at hndh
  have htyh := fun wd (hb : Below w9.heap.size w9 wd) => type_any wd base M9 s6 (F9.g.below hb)
  rw [F9.gp, ← HT.out, ← HS7.out] at htyh
  have HSK9 : Hid (∀ x, Below w9.heap.size w9 x → x.cell? ⟨w.heap.size, 0, none⟩ = some (.pointer (some ⟨M.gp, 0, none⟩)) ∧ x.cell? ⟨w4.heap.size, 0, none⟩ = some (.int .u64 (id : Int))) := Lib.hid (fun x hb => ⟨(F9.below hb).cellP (List.mem_cons_of_mem _ List.mem_cons_self), (F9.below hb).cellI List.mem_cons_self⟩)
  have HNDH := Lib.hid hndh
  have HTYH := Lib.hid htyh
  have HIDH := Lib.hid hidh
  have HNVH := Lib.hid hnvh
  clear F9 hidh hiih hnvh hglh hndh htyh
  refine wp_region_noPanic ?_
  refine wp_region_held_drew (S := fun x => x.cell? ⟨w.heap.size, 0, none⟩ = some (.pointer (some ⟨M.gp, 0, none⟩)) ∧ x.cell? ⟨w4.heap.size, 0, none⟩ = some (.int .u64 (id : Int))) (by kernel_rfl) (HSK9.out _ (ride_drew (Below.refl _ _))) (fun hHeld => ?_)
  refine take_at (i := 0) (v := ?_) (some 43) rfl rfl (by kernel_rfl) (by kernel_rfl) (by kernel_rfl) (fun _ _ _ h => h) (Or.inl ⟨by rfl, ?_⟩) (by assumption) ?_
  rotate_left
  · intro w hSw
    obtain ⟨z0, z1⟩ := hSw
    first | (go_simp; done) | (go_simp; with_reducible rfl)
  try simp only [Act.put, List.setIfInBounds_toArray, List.set_cons_zero, List.set_cons_succ]
  refine take_at (i := 1) (v := ?_) (some 44) rfl rfl (by kernel_rfl) (by kernel_rfl) (by kernel_rfl) (fun _ _ _ h => h) (Or.inl ⟨by rfl, ?_⟩) (by assumption) ?_
  rotate_left
  · intro w hSw
    obtain ⟨z0, z1⟩ := hSw
    first | (go_simp; done) | (go_simp; with_reducible rfl)
  try simp only [Act.put, List.setIfInBounds_toArray, List.set_cons_zero, List.set_cons_succ]
  refine take_at (i := 3) (v := ?_) (some 46) rfl rfl (by kernel_rfl) (by kernel_rfl) (by kernel_rfl) (fun _ _ _ h => h) (Or.inl ⟨by rfl, ?_⟩) (by assumption) ?_
  rotate_left
  · intro w hSw
    obtain ⟨z0, z1⟩ := hSw
    first | (go_simp; done) | (go_simp; with_reducible rfl)
  try simp only [Act.put, List.setIfInBounds_toArray, List.set_cons_zero, List.set_cons_succ]
  refine wpAnyH_ready (rs := [2]) (by kernel_rfl) (by simp) ?_
  refine AllReadyH.cons rfl (fun K hK => ?_) AllReadyH.nil
  go_simp
  refine (HNDH.out _ (ride_drew (Below.refl _ _))).mono ?_
  rintro e w10 ⟨rfl, hw10⟩
  rw [← hw10]
  clear hw10 w10
  refine hK.out _ _ ?_ (fun hHeld2 => ?_)
  · exact hHeld
  clear hK K hHeld
  have hHeld := hHeld2
  clear hHeld2
  try simp only [Act.put, List.setIfInBounds_toArray, List.set_cons_zero, List.set_cons_succ]
  refine wpAnyH_ready (rs := [4]) (by kernel_rfl) (by simp) ?_
  refine AllReadyH.cons rfl (fun K hK => ?_) AllReadyH.nil
  go_simp
  refine (HTYH.out _ (ride_drew (Below.refl _ _))).mono ?_
  rintro e w10 ⟨rfl, l10, hg10, hT10⟩
  have F10 := (HF9.out.below (ride_drew (Below.refl _ _))).lstep hg10 hT10
  refine hK.out _ _ ?_ (fun hHeld2 => ?_)
  · exact ⟨F10.cellP (List.mem_cons_of_mem _ List.mem_cons_self), F10.cellI List.mem_cons_self⟩
  clear hK K hHeld
  have hHeld := hHeld2
  clear hHeld2
  try simp only [Act.put, List.setIfInBounds_toArray, List.set_cons_zero, List.set_cons_succ]
  refine take_at (i := 5) (v := ?_) (some 48) rfl rfl (by kernel_rfl) (by kernel_rfl) (by kernel_rfl) (fun _ _ _ h => h) (Or.inl ⟨by rfl, ?_⟩) (by assumption) ?_
  rotate_left
  · intro w hSw
    obtain ⟨z0, z1⟩ := hSw
    first | (go_simp; done) | (go_simp; with_reducible rfl)
  try simp only [Act.put, List.setIfInBounds_toArray, List.set_cons_zero, List.set_cons_succ]
  refine take_at (i := 6) (v := ?_) (some 49) rfl rfl (by kernel_rfl) (by kernel_rfl) (by kernel_rfl) (fun _ _ _ h => h) (Or.inl ⟨by rfl, ?_⟩) (by assumption) ?_
  rotate_left
  · intro w hSw
    obtain ⟨z0, z1⟩ := hSw
    first | (go_simp; done) | (go_simp; with_reducible rfl)
  try simp only [Act.put, List.setIfInBounds_toArray, List.set_cons_zero, List.set_cons_succ]
  obtain ⟨g3, c3, i3, k1, k2, k3, ⟨kv, k4⟩, k5, k6, k7, k8, k9⟩ := F10.g.typAt id T I0.out I7.out (by have := TB.out; omega)
  obtain rfl : i3 = ih := by have := HIDH.out; omega
  have k3 : M9.nv = .slice (some ⟨g3, 0, none⟩) s7.nodes.length c3 := k3
  rw [HNVH.out] at k3
  injection k3 with k3 _ _
  injection k3 with k3
  injection k3 with k3 _ _
  subst k3
  have F11 := F10.own k8 k9
  clear k1 k2 k7 k8 k9
  refine wpAnyH_ready (rs := [7]) (by kernel_rfl) (by simp) ?_
  refine AllReadyH.cons rfl (fun K hK => ?_) AllReadyH.nil
  go_simp
  refine hK.out _ _ ?_ (fun hHeld2 => ?_)
  · exact ⟨F11.cellP (List.mem_cons_of_mem _ List.mem_cons_self), F11.cellI List.mem_cons_self⟩
  clear hK K hHeld
  have hHeld := hHeld2
  clear hHeld2
  try simp only [Act.put, List.setIfInBounds_toArray, List.set_cons_zero, List.set_cons_succ]
  refine wpAnyH_done (by kernel_rfl) ?_ _
  refine NoPanic.normal ?_
  clear hHeld k4 k5 F10 hg10 hT10 k6
  obtain ⟨w11, hw11⟩ : ∃ w11, w11 = w10.setCell ⟨gh, i3 * 6 + 3, none⟩ (.int .u8 (T : Int)) := ⟨_, rfl⟩
  obtain ⟨M11, hM11⟩ : ∃ M11 : GM, M11 = { M9 with left := l10 } := ⟨_, rfl⟩
  rw [← hw11, ← hM11, ← HS8.out] at F11
  rw [← hw11]
  have hl11 : Live M11 := by rw [hM11]; exact HL9.out
  have c11 := F11.cellP (g := w.heap.size) (gp := M.gp) (List.mem_cons_of_mem _ List.mem_cons_self)
  have e11 := F11.cellI (g := w4.heap.size) (id := id) List.mem_cons_self
  have hwa := want_any w11 base M11 s8 F11.g ⟨#[123]⟩
  rw [show str ⟨#[123]⟩ = c_lbr from rfl, F11.gp, ← HS9.out] at hwa
  have HWC := Lib.hid hwa
  have HF11 := Lib.hid F11
  have HL11 := Lib.hid hl11
  clear hw11 hM11 F11 hl11 hwa
  go_upto_region 13 with (first
    | (go_at_call 45; (with_reducible refine (HWC.out).mono ?_); rintro e w12 ⟨rfl, hw12⟩; go_loud (
        obtain ⟨M12, F12, hl12⟩ := HF11.out.gstep hw12.step;
        have c12 := F12.cellP (g := w.heap.size) (gp := M.gp) (List.mem_cons_of_mem _ List.mem_cons_self);
        have e12 := F12.cellI (g := w4.heap.size) (id := id) List.mem_cons_self;
        have hgr := grow_any w12 base M12 s9 F12.g id (nd0 5) I9.out (okNd 5 (by omega)) rfl U9.out;
        unfold ndV nd0 at hgr;
        dsimp only at hgr;
        rw [F12.gp, ← HB.out, show ((5 : Nat) : Int) = 5 from rfl, show ((0 : Nat) : Int) = 0 from rfl] at hgr;
        have HGRB := Lib.hid hgr;
        have HF12 := Lib.hid F12;
        have HL12 := Lib.hid (hl12 HL11.out);
        clear hw12 F12 hl12 hgr))
    | (go_at_call 30; (with_reducible refine (HGRB.out).mono ?_); rintro e w13 ⟨rfl, hw13⟩; go_loud (
        obtain ⟨M13, F13, hl13⟩ := HF12.out.gstep hw13;
        have c13 := F13.cellP (g := w.heap.size) (gp := M.gp) (List.mem_cons_of_mem _ List.mem_cons_self);
        have F13' : FS w base M [(w4.heap.size, boxI id), (w.heap.size, boxP M.gp)] w13 M13 s10 := (by rw [HS10.out]; exact F13);
        have hst := sts_any w13 base M13 s10 F13'.g s10.left.length b ⟨#[114, 101, 116, 117, 114, 110]⟩ B0.out B10.out (hl13 HL12.out) (Nat.lt_succ_self _) (st_all base _) U10.out;
        rw [show str ⟨#[114, 101, 116, 117, 114, 110]⟩ = c_return from rfl, F13'.gp, ← HS11.out] at hst;
        have HSTS := Lib.hid hst;
        have HF13 := Lib.hid F13';
        have HL13 := Lib.hid (hl13 HL12.out);
        clear hw13 F13 F13' hl13 hst))
    | (go_at_call 74; (with_reducible refine (HSTS.out).mono ?_); rintro e w14 ⟨rfl, hw14⟩; go_loud (
        obtain ⟨M14, F14, hl14⟩ := HF13.out.gstep hw14;
        have c14 := F14.cellP (g := w.heap.size) (gp := M.gp) (List.mem_cons_of_mem _ List.mem_cons_self);
        have hwa := want_any w14 base M14 s11 F14.g ⟨#[114, 101, 116, 117, 114, 110]⟩;
        rw [show str ⟨#[114, 101, 116, 117, 114, 110]⟩ = c_return from rfl, F14.gp, ← HS12.out] at hwa;
        have HWD := Lib.hid hwa;
        have HF14 := Lib.hid F14;
        have HL14 := Lib.hid (hl14 HL13.out);
        clear hw14 F14 hl14 hwa))
    | (go_at_call 45; (with_reducible refine (HWD.out).mono ?_); rintro e w15 ⟨rfl, hw15⟩; go_loud (
        obtain ⟨M15, F15, hl15⟩ := HF14.out.gstep hw15.step;
        have HF15 := Lib.hid F15;
        have HL15 := Lib.hid (hl15 HL14.out);
        clear hw15 F15 hl15)))
  have F15 := HF15.out
  have hgr := fun wd (hb : Below w15.heap.size w15 wd) => grow_any wd base M15 s12 (F15.g.below hb) b (nd0 10) B12.out (okNd 10 (by omega)) rfl U12.out
  unfold ndV nd0 at hgr
  dsimp only at hgr
  rw [F15.gp, ← HR.out, show ((10 : Nat) : Int) = 10 from rfl, show ((0 : Nat) : Int) = 0 from rfl] at hgr
  have HGRC := Lib.hid hgr
  have HSKF : Hid (∀ x, Below w15.heap.size w15 x → x.cell? ⟨w.heap.size, 0, none⟩ = some (.pointer (some ⟨M.gp, 0, none⟩))) := Lib.hid (fun x hb => (F15.below hb).cellP (List.mem_cons_of_mem _ List.mem_cons_self))
  clear F15 hgr
  refine wp_region_noPanic ?_
  refine wp_region_held_drew (S := fun x => x.cell? ⟨w.heap.size, 0, none⟩ = some (.pointer (some ⟨M.gp, 0, none⟩))) (by kernel_rfl) (HSKF.out _ (ride_drew (Below.refl _ _))) (fun hHeld => ?_)
  refine take_at (i := 0) (v := ?_) (some 61) rfl rfl (by kernel_rfl) (by kernel_rfl) (by kernel_rfl) (fun _ _ _ h => h) (Or.inl ⟨by rfl, ?_⟩) (by assumption) ?_
  rotate_left
  · intro w hSw
    have z0 := hSw
    first | (go_simp; done) | (go_simp; with_reducible rfl)
  try simp only [Act.put, List.setIfInBounds_toArray, List.set_cons_zero, List.set_cons_succ]
  refine take_at (i := 1) (v := ?_) (some 62) rfl rfl (by kernel_rfl) (by kernel_rfl) (by kernel_rfl) (fun _ _ _ h => h) (Or.inl ⟨by rfl, ?_⟩) (by assumption) ?_
  rotate_left
  · intro w hSw
    have z0 := hSw
    first | (go_simp; done) | (go_simp; with_reducible rfl)
  try simp only [Act.put, List.setIfInBounds_toArray, List.set_cons_zero, List.set_cons_succ]
  refine take_at (i := 2) (v := ?_) (some 63) rfl rfl (by kernel_rfl) (by kernel_rfl) (by kernel_rfl) (fun _ _ _ h => h) (Or.inl ⟨by rfl, ?_⟩) (by assumption) ?_
  rotate_left
  · intro w hSw
    have z0 := hSw
    first | (go_simp; done) | (go_simp; with_reducible rfl)
  try simp only [Act.put, List.setIfInBounds_toArray, List.set_cons_zero, List.set_cons_succ]
  refine take_at (i := 3) (v := ?_) (some 64) rfl rfl (by kernel_rfl) (by kernel_rfl) (by kernel_rfl) (fun _ _ _ h => h) (Or.inl ⟨by rfl, ?_⟩) (by assumption) ?_
  rotate_left
  · intro w hSw
    have z0 := hSw
    first | (go_simp; done) | (go_simp; with_reducible rfl)
  try simp only [Act.put, List.setIfInBounds_toArray, List.set_cons_zero, List.set_cons_succ]
  refine wpAnyH_ready (rs := [4]) (by kernel_rfl) (by simp) ?_
  refine AllReadyH.cons rfl (fun K hK => ?_) AllReadyH.nil
  go_simp
  refine (HGRC.out _ (ride_drew (Below.refl _ _))).mono ?_
  rintro e w16 ⟨rfl, hw16⟩
  obtain ⟨M16, F16, hl16⟩ := (HF15.out.below (ride_drew (Below.refl _ _))).gstep hw16
  have F16g : FS w base M [(w4.heap.size, boxI id), (w.heap.size, boxP M.gp)] w16 M16 s13 := by rw [HS13.out]; exact F16
  have hen := ending_any w16 base M16 s13 F16g.g r R0.out R13.out (hl16 HL15.out)
  rw [F16g.gp, ← HS14.out] at hen
  have HEN2 := Lib.hid hen
  have HF16 := Lib.hid F16g
  have HL16 := Lib.hid (hl16 HL15.out)
  clear hw16 F16 hl16 hen
  refine hK.out _ _ ?_ (fun hHeld2 => ?_)
  · exact F16g.cellP (List.mem_cons_of_mem _ List.mem_cons_self)
  clear hK K hHeld
  have hHeld := hHeld2
  clear hHeld2
  try simp only [Act.put, List.setIfInBounds_toArray, List.set_cons_zero, List.set_cons_succ]
  clear F16g
  refine wpAnyH_ready (rs := [5]) (by kernel_rfl) (by simp) ?_
  refine AllReadyH.cons rfl (fun K hK => ?_) AllReadyH.nil
  go_simp
  refine (HEN2.out).mono ?_
  rintro e w17 ⟨rfl, hw17⟩
  obtain ⟨M17, F17, hl17⟩ := HF16.out.gstep hw17
  refine hK.out _ _ ?_ (fun hHeld2 => ?_)
  · exact F17.cellP (List.mem_cons_of_mem _ List.mem_cons_self)
  clear hK K hHeld
  have hHeld := hHeld2
  clear hHeld2
  try simp only [Act.put, List.setIfInBounds_toArray, List.set_cons_zero, List.set_cons_succ]
  refine wpAnyH_done (by kernel_rfl) ?_ _
  refine NoPanic.normal ?_
  have c17 := F17.cellP (g := w.heap.size) (gp := M.gp) (List.mem_cons_of_mem _ List.mem_cons_self)
  have hwa := want_any w17 base M17 s14 F17.g ⟨#[125]⟩
  rw [show str ⟨#[125]⟩ = c_rbr from rfl, F17.gp, ← HS15.out] at hwa
  have HWE := Lib.hid hwa
  have HF17 := Lib.hid F17
  have HL17 := Lib.hid (hl17 HL16.out)
  clear hw17 F17 hl17 hwa hHeld
  go_wp2_with (first
    | (go_at_call 45; (with_reducible refine (HWE.out).mono ?_); rintro e w18 ⟨rfl, hw18⟩; go_loud (
        obtain ⟨M18, F18, hl18⟩ := HF17.out.gstep hw18.step;
        have HF18 := Lib.hid F18;
        have HL18 := Lib.hid (hl18 HL17.out);
        clear hw18 F18 hl18)))
  go_end0
  exact ⟨rfl, HF18.out.step fun _ => HL18.out⟩
end Go.Proofs.YtecbaceinifjiaaGreatDoor
