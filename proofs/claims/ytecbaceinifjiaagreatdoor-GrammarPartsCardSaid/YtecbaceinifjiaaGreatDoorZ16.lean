/- GCallW: joined by program (tools/merge.py). -/
import Derived.Test.YtecbaceinifjiaaGreatDoorZ15
namespace Go.Proofs.YtecbaceinifjiaaGreatDoor
open Go.RowKit
set_option linter.unusedSimpArgs false
set_option linter.unusedVariables false
set_option maxRecDepth 100000
attribute [local go_sem] Oper.semAt_some undef
theorem GR.bump {w : World} {base : Nat} {M : GM} {s : PS} (h : GR w base M s) (hs : s.left.length * 16 + s.nodes.length + (s.cnt + 1) ≤ 10000000) : GR w base M { s with cnt := s.cnt + 1 } :=
  ⟨h.st, h.left, h.nodes, h.mods.more (Nat.le_succ _), h.funs.more (Nat.le_succ _), h.taken.more (Nat.le_succ _), h.vis.more (Nat.le_succ _), h.shown, h.calls, h.o1, h.o2, h.o3, h.o4, h.o5, h.n1, h.n2, h.n3, h.hb, h.goodT, h.goodS, h.goodC, hs, Nat.le_succ_of_le h.sh, Nat.le_succ_of_le h.ca, h.dep, h.flt, h.vs, h.gb, h.vb⟩
theorem nameS_calls (s : PS) : (nameS s).calls = s.calls := by
  have h : (nextS s).calls = s.calls := by unfold nextS; cases s.left <;> rfl
  unfold nameS
  split
  · exact h
  · exact h
theorem nameT_good {s : PS} (h : GoodT (nextT s)) : GoodN (nameT s) := by
  unfold nameT
  split
  · exact ⟨h.1, h.2.1⟩
  · exact ⟨by simp, by simp⟩
theorem makeFunc_run : ∀ (fn : Fn) (first cap : Array Value) (w : World), (Instr.makeFunc fn first cap).run Tryz.prog w = .ok (.func fn first cap) w := fun _ _ _ _ => rfl
/-- What a call's parts are. -/
theorem parts_any (w : World) (base : Nat) (M : GM) (s : PS) (f id g1 g2 : Nat) (hex : ExC f base) (b1 : BoxP w g1 M.gp) (b2 : BoxI w g2 id) (n1 : ¬ OwnG M g1) (n2 : ¬ OwnG M g2) (hid : 0 < id) (hin : id ≤ s.nodes.length) (hl : Live M) (hf : s.left.length < f) :
    PartsC 123 #[.pointer (some ⟨g1, 0, none⟩), .pointer (some ⟨g2, 0, none⟩)] w base M s.left.length s.nodes.length (exprS f id) := by
  intro wr M1 s1 hg hgp hT hO hL hl1 hn1
  refine call11_any wr base M1 _ id g1 g2 (by rw [hgp]; exact keep_block hT b1 n1) (keep_block hT b2 n2) (hex wr M1 s1 id hg (by omega) hid (by omega) (hL hl))
set_option maxHeartbeats 4000000 in
theorem call1_any (w : World) (base : Nat) (M : GM) (s : PS) (h : GR w base M s) (f id g1 g2 : Nat) (hex : ExC f base) (b1 : BoxP w g1 M.gp) (b2 : BoxI w g2 id) (n1 : ¬ OwnG M g1) (n2 : ¬ OwnG M g2) (hid : 0 < id) (hin : id ≤ s.nodes.length) (hl : Live M) (hf : s.left.length < f) :
    PartC 122 #[.pointer (some ⟨g1, 0, none⟩), .pointer (some ⟨g2, 0, none⟩)] w base M (listS (exprS f id) s) := by
  have hmf := makeFunc_run
  have c1 := b1.cell
  have HLS := Lib.hid (listCall_any w base M s h #[.pointer (some ⟨g1, 0, none⟩), .pointer (some ⟨g2, 0, none⟩)] (exprS f id) (parts_any w base M s f id g1 g2 hex b1 b2 n1 n2 hid hin hl hf) (fun t _ => ⟨(ok_expr f id t).left, (ok_expr f id t).nodes⟩))
  clear h hex b1 b2 n1 n2 hid hin hl hf
  unfold PartC
  go_enter Tryz.func122, Tryz.ntmps122
  go_wp2_with (go_at_call 70; (with_reducible refine (HLS.out).mono ?_); rintro e w2 ⟨rfl, hw2⟩; go_loud (
    have HW2 := Lib.hid hw2;
    clear hw2))
  go_end0
  exact ⟨rfl, HW2.out⟩
set_option maxHeartbeats 16000000 in
theorem call_any (w : World) (base : Nat) (M : GM) (s : PS) (h : GR w base M s) (f u : Nat) (m : List Nat) (hm : GoodN m) (hu : u ≤ s.nodes.length) (hl : Live M) (hf : s.left.length < f) (hs : s.left.length * 16 + (s.nodes.length + 1) + (s.cnt + 1) ≤ 10000000) (hex : ExC f base) :
    Calls Tryz.prog 100 #[.pointer (some ⟨M.gp, 0, none⟩), .int .u64 (u : Int), .string (ba m)] w fun e w' => e = .returned (.tuple #[]) ∧ GStep w base M (callS (exprS f) u m s) w' := by
  have hmf := makeFunc_run
  obtain ⟨W1, hW1⟩ : ∃ W1, W1 = w.alloc (.cells #[.pointer (some ⟨M.gp, 0, none⟩)] 50) := ⟨_, rfl⟩
  have hb1 : Below w.heap.size w W1 := by rw [hW1]; exact (Below.refl _ _).alloc (Nat.le_refl _) _
  have hx1 : BoxP W1 w.heap.size M.gp := by unfold BoxP; rw [hW1]; exact Go.heap_alloc_new _ _
  have hno : ¬ OwnG M w.heap.size := fun e => Nat.lt_irrefl _ (h.own e).2
  have c1 := hx1.cell
  have HG := Lib.hid (grow_any W1 base M s (h.below hb1) u (nd0 19) hu (okNd 19 (by decide)) rfl (by omega))
  unfold ndV nd0 at HG
  dsimp only at HG
  rw [show ((0 : Nat) : Int) = 0 from rfl, show ((19 : Nat) : Int) = 19 from rfl] at HG
  have HB1 := Lib.hid hb1
  have HX1 := Lib.hid hx1
  have HNO := Lib.hid hno
  have HW1 := Lib.hid hW1
  have HEX := Lib.hid hex
  have HL := Lib.hid hl
  have HF := Lib.hid hf
  have HS := Lib.hid hs
  have HM := Lib.hid hm
  have HGN : Hid (w.heap.size ≠ M.gp) := Lib.hid (by have := h.gpL; omega)
  obtain ⟨id, hid⟩ : ∃ id, id = growId s := ⟨_, rfl⟩
  rw [← hid] at HG
  have HID := Lib.hid hid
  clear h hid hu hl hf hs hex hb1 hx1 hno hW1 hm
  go_enter Tryz.func100, Tryz.ntmps100
  go_upto_region 1 with fail
  rw [← HW1.out]
  go_wp2_with (first
    | (go_at_call 30; (with_reducible refine (HG.out).mono ?_); rintro e w2 ⟨rfl, M2, hg2, hgp2, hT2, hO2, hl2⟩; go_loud (
        have hx2 := keep_block hT2 HX1.out HNO.out;
        have hal : Below w2.heap.size w2 (w2.alloc (.cells #[.int .u64 (id : Int)] 30)) := (Below.refl _ _).alloc (Nat.le_refl _) _;
        have hg3 := hg2.below hal;
        have bx1 : BoxP (w2.alloc (.cells #[.int .u64 (id : Int)] 30)) w.heap.size M.gp := (hal.block _ (lt_of_heap2 hx2)).trans hx2;
        have bx2 : BoxI (w2.alloc (.cells #[.int .u64 (id : Int)] 30)) w2.heap.size id := Go.heap_alloc_new _ _;
        have d1 := bx1.cell;
        have hne2 : w2.heap.size ≠ M2.gp := (by have := hg2.gpL; omega);
        have hno2 : ¬ OwnG M2 w2.heap.size := fun e => Nat.lt_irrefl _ (hg2.own e).2;
        have hno1 : ¬ OwnG M2 w.heap.size := fun e => (by rcases hO2 _ e with h9 | h9; exact HNO.out h9; have h8 := lt_of_heap2 HX1.out; omega);
        have hwa := want_any _ base M2 _ hg3 ⟨#[46]⟩;
        rw [show str ⟨#[46]⟩ = c_dot from rfl, hgp2] at hwa;
        have HWA := Lib.hid hwa;
        have HB2 := Lib.hid bx1;
        have HBI := Lib.hid bx2;
        have HN1 := Lib.hid hno1;
        have HN2 := Lib.hid hno2;
        have HNE2 := Lib.hid hne2;
        have HGP2 := Lib.hid hgp2;
        have HT2 := Lib.hid hT2;
        have HO2 := Lib.hid hO2;
        have HL2 := Lib.hid hl2;
        have HAL := Lib.hid hal;
        clear hx2 hal hg3 bx1 bx2 hne2 hno1 hno2 hg2 hgp2 hT2 hO2 hl2 hwa))
    | (go_at_call 45; (with_reducible refine (HWA.out).mono ?_); rintro e w4 ⟨rfl, l4, hg4, hT4⟩; go_loud (
        have b4 : BoxP w4 w.heap.size M.gp := (hT4.block _ (lt_of_heap2 HB2.out) (by show ¬ w.heap.size = M2.gp; rw [HGP2.out]; exact HGN.out)).trans HB2.out;
        have i4 : BoxI w4 w2.heap.size id := (hT4.block _ (lt_of_heap2 HBI.out) HNE2.out).trans HBI.out;
        have HB4 := Lib.hid b4;
        have HI4 := Lib.hid i4;
        have HG4 := Lib.hid hg4;
        have HT4 := Lib.hid hT4;
        clear b4 i4 hg4 hT4)))
  obtain ⟨g6, hg6⟩ : ∃ g6, g6 = w2.heap.size := ⟨_, rfl⟩
  obtain ⟨s3, hs3⟩ : ∃ s3, s3 = wantS c_dot (growS u (nd0 19) s) := ⟨_, rfl⟩
  have hgu : growS u { kind := 19, name := { data := #[] }, num := 0, typ := 0, ref := 0, kids := [] } s = growS u (nd0 19) s := rfl
  rw [hgu, ← hs3] at HG4
  rw [← hg6] at HI4 HN2 HNE2 HBI ⊢
  obtain ⟨M4, hM4⟩ : ∃ M4 : GM, M4 = { M2 with left := l4 } := ⟨_, rfl⟩
  rw [← hM4] at HG4
  have HGP4 : Hid (M4.gp = M.gp) := Lib.hid (by rw [hM4]; exact HGP2.out)
  have HN41 : Hid (¬ OwnG M4 w.heap.size) := Lib.hid (by rw [hM4]; exact HN1.out)
  have HN42 : Hid (¬ OwnG M4 g6) := Lib.hid (by rw [hM4]; exact HN2.out)
  have HL4 : Hid (Live M4) := Lib.hid (by rw [hM4]; exact HL2.out HL.out)
  have HGI : Hid (g6 ≠ M.gp) := Lib.hid (by rw [← HGP2.out]; exact HNE2.out)
  have h4d := HG4.out.below (show Below w4.heap.size w4 w4.drew from ride_drew (Below.refl _ _))
  have hna := name_any w4.drew base M4 s3 h4d
  rw [HGP4.out] at hna
  have HNA := Lib.hid hna
  have HNG := Lib.hid (nameT_good h4d.goodN)
  have hcc := h4d.cells.1
  obtain ⟨_, _, _, _, _, _, _, _, _, x9, _⟩ := hcc
  rw [HGP4.out] at x9
  have HBD : Hid (w4.drew.heap[w.heap.size]? = some (.cells #[.pointer (some ⟨M.gp, 0, none⟩)] 50 (0, 0))) := Lib.hid HB4.out
  have HID4 : Hid (w4.drew.heap[g6]? = some (.cells #[.int .u64 (id : Int)] 30 (0, 0))) := Lib.hid HI4.out
  have HLB : Hid (w.heap.size < w4.drew.heap.size) := Lib.hid (lt_of_heap2 HBD.out)
  have HLI : Hid (g6 < w4.drew.heap.size) := Lib.hid (lt_of_heap2 HID4.out)
  have HNB : Hid (¬ Only M4.gp w.heap.size) := Lib.hid (by rw [HGP4.out]; exact HGN.out)
  have HNI : Hid (¬ Only M4.gp g6) := Lib.hid (by rw [HGP4.out]; exact HGI.out)
  have HOK3 := Lib.hid (show s3.left.length ≤ s.left.length ∧ s.nodes.length + 1 ≤ s3.nodes.length ∧ s3.left.length * 16 + s3.nodes.length + s3.cnt ≤ s.left.length * 16 + (s.nodes.length + 1) + s.cnt from by
    have h8 := ok_want c_dot (growS u (nd0 19) s)
    obtain ⟨e1, e2, e3, e4⟩ := grow_facts u (nd0 19) s
    rw [← hs3] at h8
    exact ⟨by rw [← e1]; exact h8.left, by rw [← e2]; exact h8.nodes, by have h7 := h8.sum; rw [e1, e2, e3] at h7; omega⟩)
  have HSUM : Hid (s3.left.length * 16 + s3.nodes.length + (s3.cnt + 1) ≤ 10000000) := Lib.hid (by have := HOK3.out; have := HS.out; omega)
  have HCA : Hid (s3.calls.length ≤ 10000000) := Lib.hid (by have := HG4.out.ca; have := HSUM.out; omega)
  have HIDB : Hid (id < 18446744073709551616) := Lib.hid (by rw [HID.out]; unfold growId; have := HS.out; omega)
  obtain ⟨iC, hiC, hzC, hsC, hbC⟩ := info_parts infoCall
  have HI := Lib.hid hiC
  have H0 := Lib.hid hzC
  have H1 := Lib.hid hsC
  have H2 := Lib.hid hbC
  have HS3 := Lib.hid hs3
  have HM4 := Lib.hid hM4
  have HG6 := Lib.hid hg6
  have HSS := Lib.hid (show w4.drew.cell? ⟨w.heap.size, 0, none⟩ = some (.pointer (some ⟨M.gp, 0, none⟩)) ∧ w4.drew.cell? ⟨g6, 0, none⟩ = some (.int .u64 (id : Int)) from ⟨BoxP.cell HBD.out, BoxI.cell HID4.out⟩)
  clear h4d hna hiC hzC hsC hbC hs3 hM4 hgu hg6
  refine wp_region_noPanic ?_
  refine wp_region_held_drew (S := fun x => x.cell? ⟨w.heap.size, 0, none⟩ = some (.pointer (some ⟨M.gp, 0, none⟩)) ∧ x.cell? ⟨g6, 0, none⟩ = some (.int .u64 (id : Int))) (by kernel_rfl) HSS.out (fun hHeld => ?_)
  refine take_at (i := 0) (v := ?_) (some 13) rfl rfl (by kernel_rfl) (by kernel_rfl) (by kernel_rfl) (fun _ _ _ h => h) (Or.inl ⟨by rfl, ?_⟩) (by assumption) ?_
  rotate_left
  · intro w hSw
    obtain ⟨z0, z1⟩ := hSw
    first | (go_simp; done) | (go_simp; with_reducible rfl)
  try simp only [Act.put, List.setIfInBounds_toArray, List.set_cons_zero, List.set_cons_succ]
  refine take_at (i := 1) (v := ?_) (some 14) rfl rfl (by kernel_rfl) (by kernel_rfl) (by kernel_rfl) (fun _ _ _ h => h) (Or.inl ⟨by rfl, ?_⟩) (by assumption) ?_
  rotate_left
  · intro w hSw
    obtain ⟨z0, z1⟩ := hSw
    first | (go_simp; done) | (go_simp; with_reducible rfl)
  try simp only [Act.put, List.setIfInBounds_toArray, List.set_cons_zero, List.set_cons_succ]
  refine take_at (i := 2) (v := ?_) (some 15) rfl rfl (by kernel_rfl) (by kernel_rfl) (by kernel_rfl) (fun _ _ _ h => h) (Or.inl ⟨by rfl, ?_⟩) (by assumption) ?_
  rotate_left
  · intro w hSw
    obtain ⟨z0, z1⟩ := hSw
    first | (go_simp; done) | (go_simp; with_reducible rfl)
  try simp only [Act.put, List.setIfInBounds_toArray, List.set_cons_zero, List.set_cons_succ]
  refine take_at (i := 3) (v := ?_) (some 16) rfl rfl (by kernel_rfl) (by kernel_rfl) (by kernel_rfl) (fun _ _ _ h => h) (Or.inl ⟨by rfl, ?_⟩) (by assumption) ?_
  rotate_left
  · intro w hSw
    obtain ⟨z0, z1⟩ := hSw
    first | (go_simp; done) | (go_simp; with_reducible rfl)
  try simp only [Act.put, List.setIfInBounds_toArray, List.set_cons_zero, List.set_cons_succ]
  refine take_at (i := 4) (v := ?_) (some 17) rfl rfl (by kernel_rfl) (by kernel_rfl) (by kernel_rfl) (fun _ _ _ h => h) (Or.inl ⟨by rfl, ?_⟩) (by assumption) ?_
  rotate_left
  · intro w hSw
    obtain ⟨z0, z1⟩ := hSw
    first | (go_simp; done) | (go_simp; with_reducible rfl)
  try simp only [Act.put, List.setIfInBounds_toArray, List.set_cons_zero, List.set_cons_succ]
  refine take_at (i := 6) (v := ?_) (some 19) rfl rfl (by kernel_rfl) (by kernel_rfl) (by kernel_rfl) (fun _ _ _ h => h) (Or.inl ⟨by rfl, ?_⟩) (by assumption) ?_
  rotate_left
  · intro w hSw
    obtain ⟨z0, z1⟩ := hSw
    first | (go_simp; done) | (go_simp; with_reducible rfl)
  try simp only [Act.put, List.setIfInBounds_toArray, List.set_cons_zero, List.set_cons_succ]
  refine take_at (i := 7) (v := ?_) (some 20) rfl rfl (by kernel_rfl) (by kernel_rfl) (by kernel_rfl) (fun _ _ _ h => h) (Or.inl ⟨by rfl, ?_⟩) (by assumption) ?_
  rotate_left
  · intro w hSw
    obtain ⟨z0, z1⟩ := hSw
    first | (go_simp; done) | (go_simp; with_reducible rfl)
  try simp only [Act.put, List.setIfInBounds_toArray, List.set_cons_zero, List.set_cons_succ]
  refine take_at (i := 8) (v := ?_) (some 21) rfl rfl (by kernel_rfl) (by kernel_rfl) (by kernel_rfl) (fun _ _ _ h => h) (Or.inl ⟨by rfl, ?_⟩) (by assumption) ?_
  rotate_left
  · intro w hSw
    obtain ⟨z0, z1⟩ := hSw
    first | (go_simp; done) | (go_simp; with_reducible rfl)
  try simp only [Act.put, List.setIfInBounds_toArray, List.set_cons_zero, List.set_cons_succ]
  refine wpAnyH_ready (rs := [5, 9]) (by kernel_rfl) (by simp) ?_
  refine (AllReadyH.cons rfl (fun K hK => ?_) (AllReadyH.cons rfl (fun K hK => ?_) AllReadyH.nil))
  · go_simp
    refine hK.out _ _ ?_ (fun hHeld2 => ?_)
    · exact HSS.out
    clear hK K hHeld
    have hHeld := hHeld2
    clear hHeld2
    try simp only [Act.put, List.setIfInBounds_toArray, List.set_cons_zero, List.set_cons_succ]
    refine wpAnyH_ready (rs := [9]) (by kernel_rfl) (by simp) ?_
    refine AllReadyH.cons rfl (fun K hK => ?_) AllReadyH.nil
    go_simp
    refine (HNA.out).mono ?_
    rintro e w5 ⟨rfl, l5, hg5, hT5⟩
    have b5 := (hT5.block _ HLB.out HNB.out).trans HBD.out
    have i5 := (hT5.block _ HLI.out HNI.out).trans HID4.out
    refine hK.out _ _ ?_ (fun hHeld2 => ?_)
    · exact ⟨BoxP.cell b5, BoxI.cell i5⟩
    clear hK K hHeld
    have hHeld := hHeld2
    clear hHeld2
    try simp only [Act.put, List.setIfInBounds_toArray, List.set_cons_zero, List.set_cons_succ]
    obtain ⟨⟨_, _, _, _, _, _, _, _, _, y9, _⟩, hf5⟩ := hg5.cells
    have y9f := hf5 9
    have HG5 := Lib.hid hg5
    have HT5 := Lib.hid hT5
    have HB5 := Lib.hid b5
    have HI5 := Lib.hid i5
    have hgb := hg5.bump (by have h9 := HSUM.out; have h8 := (ok_name s3).sum; omega)
    have HGB := Lib.hid hgb
    refine take_at (i := 10) (v := ?_) (some 23) rfl rfl (by kernel_rfl) (by kernel_rfl) (by kernel_rfl) (fun _ _ _ h => h) (Or.inl ⟨by rfl, ?_⟩) (by assumption) ?_
    rotate_left
    · intro w hSw
      obtain ⟨z0, z1⟩ := hSw
      first | (go_simp; done) | (go_simp; with_reducible rfl)
    try simp only [Act.put, List.setIfInBounds_toArray, List.set_cons_zero, List.set_cons_succ]
    refine take_at (i := 11) (v := ?_) (some 24) rfl rfl (by kernel_rfl) (by kernel_rfl) (by kernel_rfl) (fun _ _ _ h => h) (Or.inl ⟨by rfl, ?_⟩) (by assumption) ?_
    rotate_left
    · intro w hSw
      obtain ⟨z0, z1⟩ := hSw
      first | (go_simp; done) | (go_simp; with_reducible rfl)
    try simp only [Act.put, List.setIfInBounds_toArray, List.set_cons_zero, List.set_cons_succ]
    have hal5 : Below w5.heap.size w5 (w5.alloc (.cells #[.int .u64 (id : Int), .string (ba m), .string (ba (nameT s3))] 80)) := (Below.refl _ _).alloc (Nat.le_refl _) _
    have HAL5 := Lib.hid hal5
    have hgl : M.gp < w5.heap.size := by have h9 := hg5.gpL; rw [show ({ M4 with left := l5 } : GM).gp = M.gp from HGP4.out] at h9; exact h9
    have y9x := (hal5.cell (p := ⟨M.gp, 9, none⟩) hgl).trans (show w5.cell? ⟨M.gp, 9, none⟩ = some M4.cv from by have h9 := y9; rw [show ({ M4 with left := l5 } : GM).gp = M.gp from HGP4.out] at h9; exact h9)
    have y9fx := (hal5.frozen (p := ⟨M.gp, 9, none⟩) hgl).trans (show w5.frozen? ⟨M.gp, 9, none⟩ = false from by have h9 := y9f; rw [show ({ M4 with left := l5 } : GM).gp = M.gp from HGP4.out] at h9; exact h9)
    refine wpAnyH_ready (rs := [12]) (by kernel_rfl) (by simp) ?_
    refine AllReadyH.cons rfl (fun K hK => ?_) AllReadyH.nil
    go_simp
    refine hK.out _ _ ?_ (fun hHeld2 => ?_)
    · exact ⟨BoxP.cell ((hal5.block _ (lt_of_heap2 b5)).trans b5), BoxI.cell ((hal5.block _ (lt_of_heap2 i5)).trans i5)⟩
    clear hK K hHeld
    have hHeld := hHeld2
    clear hHeld2
    try simp only [Act.put, List.setIfInBounds_toArray, List.set_cons_zero, List.set_cons_succ]
    have hown5 := hg5.calls
    have hnecv : some M.gp ≠ M4.cv.ownBlock := fun e => by obtain ⟨cs, h9⟩ := own_ty hown5 e.symm; rw [← HGP4.out] at h9; rw [show w5.heap[M4.gp]? = _ from hg5.st] at h9; injection h9 with h9; injection h9 with _ h9 _; revert h9; decide
    obtain ⟨CN, hCN⟩ : ∃ CN, CN = s3.calls.length := ⟨_, rfl⟩
    have hcn5 : (nameS s3).calls.length = CN := by rw [hCN]; exact congrArg List.length (nameS_calls s3)
    have hCNb : CN ≤ 10000000 := by rw [hCN]; exact HCA.out
    have hownx : w5.ownsRow base 80 3 M4.cv CN (callC (nameS s3).calls) := by rw [← hcn5]; exact hown5
    have HCN := Lib.hid hcn5
    clear hCN
    refine wpAnyH_ready (rs := [13]) (by kernel_rfl) (by simp) ?_
    refine AllReadyH.cons rfl (fun K hK => ?_) AllReadyH.nil
    refine step_append_lies _ (by rfl) _ _ _ (by rfl) base 80 iC _ 3 40 Tryz.underlying53 HI.out H0.out H1.out H2.out (by rfl) (by omega) M4.cv CN (callC (nameS s3).calls) (by rfl) (own_belowG hownx hal5) ⟨w5.heap.size, 0, none⟩ 1 1 [.int .u64 (id : Int), .string (ba m), .string (ba (nameT s3))] (by rfl) (by rfl) (World.news_of_block (Go.heap_alloc_new _ _)) (by intro u hu; simp at hu; rcases hu with rfl | rfl | rfl <;> rfl) (by omega) (by unfold maxLen; omega) (by omega) (Nat.le_trans hg5.hb (by simp)) (w5.heap.size + 1) (by simp) ?_
    intro qq cap2 w9 hown9 hg9 hat9 hlt9
    have k9 := (hg9.cell_far ⟨M.gp, 9, none⟩ (Nat.lt_of_lt_of_le hgl hal5.size) hnecv).trans y9x
    have f9 := (hg9.frozen_far ⟨M.gp, 9, none⟩ (Nat.lt_of_lt_of_le hgl hal5.size) hnecv).trans y9fx
    have hb5n : ∀ (g : Nat) (o : Obj), w5.heap[g]? = some o → ¬ OwnG M4 g → w9.heap[g]? = some o := fun g o hg hn => by
      have h8 := (Array.getElem?_eq_some_iff.1 hg).1
      exact (hg9.block g (Nat.lt_of_lt_of_le h8 hal5.size) (fun e => hn (.inr (.inr (.inr (.inr (.inr (.inr (.inr (.inr e.symm))))))))) ).trans ((hal5.block g h8).trans hg)
    refine hK.out _ _ ?_ (fun hHeld2 => ?_)
    · exact ⟨BoxP.cell (hb5n _ _ b5 HN41.out), BoxI.cell (hb5n _ _ i5 HN42.out)⟩
    clear hK K hHeld
    have hHeld := hHeld2
    clear hHeld2
    try simp only [Act.put, List.setIfInBounds_toArray, List.set_cons_zero, List.set_cons_succ]
    have hadd := HGB.out.addCall (ci := id) (cm := m) (cn := nameT s3) hal5 hg9 (by show w9.ownsRow base 80 3 (.slice (some ⟨qq, 0, none⟩) ((nameS s3).calls.length + 1) cap2) ((nameS s3).calls.length + 1) (callC (nameS s3).calls ++ [.int .u64 (id : Int), .string (ba m), .string (ba (nameT s3))]); rw [hcn5]; exact hown9) (by rw [show (w5.alloc (.cells #[.int .u64 (id : Int), .string (ba m), .string (ba (nameT s3))] 80)).heap.size = w5.heap.size + 1 by simp]; exact hat9) HM.out HNG.out HIDB.out (by show (nameS s3).calls.length + 1 ≤ (nameS s3).cnt + 1; exact Nat.succ_le_succ HG5.out.ca)
    have HADD := Lib.hid hadd
    have HB9 := Lib.hid (hb5n _ _ b5 HN41.out)
    have HI9 := Lib.hid (hb5n _ _ i5 HN42.out)
    clear hadd
    refine take_at (i := 14) (v := ?_) (some 27) rfl rfl (by kernel_rfl) (by kernel_rfl) (by kernel_rfl) (fun _ _ _ h => h) (Or.inl ⟨by rfl, ?_⟩) (by assumption) ?_
    rotate_left
    · intro w hSw
      obtain ⟨z0, z1⟩ := hSw
      first | (go_simp; done) | (go_simp; with_reducible rfl)
    try simp only [Act.put, List.setIfInBounds_toArray, List.set_cons_zero, List.set_cons_succ]
    refine take_at (i := 15) (v := ?_) (some 28) rfl rfl (by kernel_rfl) (by kernel_rfl) (by kernel_rfl) (fun _ _ _ h => h) (Or.inl ⟨by rfl, ?_⟩) (by assumption) ?_
    rotate_left
    · intro w hSw
      obtain ⟨z0, z1⟩ := hSw
      first | (go_simp; done) | (go_simp; with_reducible rfl)
    try simp only [Act.put, List.setIfInBounds_toArray, List.set_cons_zero, List.set_cons_succ]
    refine take_at (i := 16) (v := ?_) (some 29) rfl rfl (by kernel_rfl) (by kernel_rfl) (by kernel_rfl) (fun _ _ _ h => h) (Or.inl ⟨by rfl, ?_⟩) (by assumption) ?_
    rotate_left
    · intro w hSw
      obtain ⟨z0, z1⟩ := hSw
      first | (go_simp; done) | (go_simp; with_reducible rfl)
    try simp only [Act.put, List.setIfInBounds_toArray, List.set_cons_zero, List.set_cons_succ]
    refine wpAnyH_ready (rs := [17]) (by kernel_rfl) (by simp) ?_
    refine AllReadyH.cons rfl (fun K hK => ?_) AllReadyH.nil
    go_simp
    have nb : w.heap.size ≠ M.gp := HGN.out
    have ni : g6 ≠ M.gp := HGI.out
    refine hK.out _ _ ?_ (fun hHeld2 => ?_)
    · exact ⟨BoxP.cell ((heap_setCell_other w9 ⟨M.gp, 9, none⟩ _ _ nb).trans HB9.out), BoxI.cell ((heap_setCell_other w9 ⟨M.gp, 9, none⟩ _ _ ni).trans HI9.out)⟩
    clear hK K hHeld
    have hHeld := hHeld2
    clear hHeld2
    try simp only [Act.put, List.setIfInBounds_toArray, List.set_cons_zero, List.set_cons_succ]
    refine wpAnyH_done (by kernel_rfl) ?_ _
    refine NoPanic.normal ?_
    clear hHeld
    obtain ⟨wF, hwF⟩ : ∃ wF, wF = w9.setCell ⟨M.gp, 9, none⟩ (.slice (some ⟨qq, 0, none⟩) (CN + 1) cap2) := ⟨_, rfl⟩
    obtain ⟨MF, hMF⟩ : ∃ MF : GM, MF = { ({ M4 with left := l5 } : GM) with cv := .slice (some ⟨qq, 0, none⟩) (CN + 1) cap2 } := ⟨_, rfl⟩
    obtain ⟨s5, hs5⟩ : ∃ s5 : PS, s5 = { ({ nameS s3 with cnt := (nameS s3).cnt + 1 } : PS) with calls := (nameS s3).calls ++ [(id, m, nameT s3)] } := ⟨_, rfl⟩
    have hbF : BoxP wF w.heap.size M.gp := by rw [hwF]; exact (heap_setCell_other w9 ⟨M.gp, 9, none⟩ _ _ nb).trans HB9.out
    have hiF : BoxI wF g6 id := by rw [hwF]; exact (heap_setCell_other w9 ⟨M.gp, 9, none⟩ _ _ ni).trans HI9.out
    have hadd : GR wF base MF s5 ∧ Touch w5 wF (OwnG { M4 with left := l5 }) ∧ ∀ j, OwnG MF j → OwnG { M4 with left := l5 } j ∨ w5.heap.size ≤ j := by rw [hwF, hMF, hs5, ← HGP4.out, ← HCN.out]; exact HADD.out
    rw [← hwF]
    obtain ⟨hgF, hTF, hOF⟩ := hadd
    have hgpF : MF.gp = M.gp := by rw [hMF]; exact HGP4.out
    have hlF : Live MF := by rw [hMF]; exact HL4.out
    have hs5f : s5.left = (nameS s3).left ∧ s5.nodes = (nameS s3).nodes := by rw [hs5]; exact ⟨rfl, rfl⟩
    have hwsz : w.heap.size < w5.heap.size := lt_of_heap2 b5
    have hgsz : g6 < w5.heap.size := lt_of_heap2 i5
    have hn1F : ¬ OwnG MF w.heap.size := fun e => by rcases hOF _ e with h9 | h9; exact HN41.out h9; omega
    have hn2F : ¬ OwnG MF g6 := fun e => by rcases hOF _ e with h9 | h9; exact HN42.out h9; omega
    have hwa2 := want_any wF base MF s5 hgF ⟨#[40]⟩
    rw [show str ⟨#[40]⟩ = c_lpar from rfl, hgpF] at hwa2
    have HWA2 := Lib.hid hwa2
    have e1F := hbF.cell
    have HBF := Lib.hid hbF
    have HIF := Lib.hid hiF
    have HN1F := Lib.hid hn1F
    have HN2F := Lib.hid hn2F
    have HGF := Lib.hid hgF
    have HTF := Lib.hid hTF
    have HOF := Lib.hid hOF
    have HGPF := Lib.hid hgpF
    have HLF := Lib.hid hlF
    have HS5F := Lib.hid hs5f
    have HS5 := Lib.hid hs5
    have HMF := Lib.hid hMF
    clear hwF hMF hs5 hbF hiF hgF hTF hOF hgpF hlF hs5f hwsz hgsz hn1F hn2F hwa2 y9 y9f y9x y9fx k9 f9 hnecv hownx hown5 hcn5 hown9 hg9 hat9 hlt9 hb5n hal5 hgl x9 b5 i5
    go_wp2_with (first
      | (go_at_call 45; (with_reducible refine (HWA2.out).mono ?_); rintro e w10 ⟨rfl, l10, hg10, hT10⟩; go_loud (
          have hb10 : BoxP w10 w.heap.size M.gp := (hT10.block _ (lt_of_heap2 HBF.out) (by show ¬ w.heap.size = MF.gp; rw [HGPF.out]; exact HGN.out)).trans HBF.out;
          have hi10 : BoxI w10 g6 id := (hT10.block _ (lt_of_heap2 HIF.out) (by show ¬ g6 = MF.gp; rw [HGPF.out]; exact HGI.out)).trans HIF.out;
          have e10 := hb10.cell;
          obtain ⟨M10, hM10⟩ : ∃ M10 : GM, M10 = { MF with left := l10 } := ⟨_, rfl⟩;
          rw [← hM10] at hg10;
          have hgp10 : M10.gp = M.gp := (by rw [hM10]; exact HGPF.out);
          have hw := ok_want c_lpar s5;
          have hnm := ok_name s3;
          have hnest := nestCall_any w10 base _ _ hg10 #[.pointer (some ⟨w.heap.size, 0, none⟩), .pointer (some ⟨g6, 0, none⟩)] (listS (exprS f id))
            (fun _ w1 hg1 hT1 => call1_any w1 base _ _ hg1 f id w.heap.size g6 HEX.out (by rw [hgp10]; exact (hT1.block _ (lt_of_heap2 hb10) (by show ¬ w.heap.size = M10.gp; rw [hgp10]; exact HGN.out)).trans hb10) ((hT1.block _ (lt_of_heap2 hi10) (by show ¬ g6 = M10.gp; rw [hgp10]; exact HGI.out)).trans hi10) (by rw [hM10]; exact HN1F.out) (by rw [hM10]; exact HN2F.out) (by rw [HID.out]; exact Nat.succ_pos _)
              (by show id ≤ (wantS c_lpar s5).nodes.length; have h1 := hw.nodes; have h2 := hnm.nodes; have h3 := HOK3.out.2.1; rw [HS5F.out.2] at h1; rw [HID.out]; unfold growId; omega) (by rw [hM10]; exact HLF.out)
              (by show (wantS c_lpar s5).left.length < f; have h1 := hw.left; have h2 := hnm.left; have h3 := HOK3.out.1; rw [HS5F.out.1] at h1; have := HF.out; omega))
            ((ok_list (ok_expr f id) _).depth);
          rw [hgp10] at hnest;
          have HM10 := Lib.hid hM10;
          have HNEST := Lib.hid hnest;
          have HT10 := Lib.hid hT10;
          clear hb10 hi10 hw hnm hnest hg10 hT10 hM10 hgp10))
      | (go_at_call 119; (with_reducible refine (HNEST.out).mono ?_); rintro e w11 ⟨rfl, hw11⟩; go_loud (
          have HW11 := Lib.hid hw11;
          clear hw11)))
    go_end0
    refine ⟨rfl, ?_⟩
    have hfin : callS (exprS f) u m s = nestS (listS (exprS f id)) (wantS c_lpar s5) := by rw [HS5.out, HS3.out, HID.out]; rfl
    rw [hfin]
    have g10 : GStep wF base MF (nestS (listS (exprS f id)) (wantS c_lpar s5)) w11 := GStep.trans (M1 := M10) (by rw [HM10.out]) (HT10.out.more fun j e => .inl e) (fun j h => by rw [HM10.out] at h; exact .inl h) (fun h => by rw [HM10.out]; exact h) HW11.out
    have g5 : GStep w5 base { M4 with left := l5 } (nestS (listS (exprS f id)) (wantS c_lpar s5)) w11 := GStep.trans (M1 := MF) (by rw [HMF.out]) HTF.out HOF.out (fun _ => HLF.out) g10
    have g4 : GStep w4 base M4 (nestS (listS (exprS f id)) (wantS c_lpar s5)) w11 := GStep.pre (ride_drew (Below.refl _ _)) (GStep.trans (M1 := { M4 with left := l5 }) rfl (HT5.out.more fun j e => .inl e) (fun j h => .inl h) (fun h => h) g5)
    have g3 := GStep.trans (M := M2) (M1 := M4) (by rw [HM4.out]) (HT4.out.more fun j e => .inl e) (fun j h => by rw [HM4.out] at h; exact .inl h) (fun h => by rw [HM4.out]; exact h) g4
    exact (GStep.trans HGP2.out HT2.out HO2.out HL2.out (GStep.pre HAL.out g3)).pre HB1.out
  · go_simp
    refine (HNA.out).mono ?_
    rintro e w5 ⟨rfl, l5, hg5, hT5⟩
    have b5 := (hT5.block _ HLB.out HNB.out).trans HBD.out
    have i5 := (hT5.block _ HLI.out HNI.out).trans HID4.out
    refine hK.out _ _ ?_ (fun hHeld2 => ?_)
    · exact ⟨BoxP.cell b5, BoxI.cell i5⟩
    clear hK K hHeld
    have hHeld := hHeld2
    clear hHeld2
    try simp only [Act.put, List.setIfInBounds_toArray, List.set_cons_zero, List.set_cons_succ]
    obtain ⟨⟨_, _, _, _, _, _, _, _, _, y9, _⟩, hf5⟩ := hg5.cells
    have y9f := hf5 9
    have HG5 := Lib.hid hg5
    have HT5 := Lib.hid hT5
    have HB5 := Lib.hid b5
    have HI5 := Lib.hid i5
    have hgb := hg5.bump (by have h9 := HSUM.out; have h8 := (ok_name s3).sum; omega)
    have HGB := Lib.hid hgb
    refine take_at (i := 10) (v := ?_) (some 23) rfl rfl (by kernel_rfl) (by kernel_rfl) (by kernel_rfl) (fun _ _ _ h => h) (Or.inl ⟨by rfl, ?_⟩) (by assumption) ?_
    rotate_left
    · intro w hSw
      obtain ⟨z0, z1⟩ := hSw
      first | (go_simp; done) | (go_simp; with_reducible rfl)
    try simp only [Act.put, List.setIfInBounds_toArray, List.set_cons_zero, List.set_cons_succ]
    refine take_at (i := 11) (v := ?_) (some 24) rfl rfl (by kernel_rfl) (by kernel_rfl) (by kernel_rfl) (fun _ _ _ h => h) (Or.inl ⟨by rfl, ?_⟩) (by assumption) ?_
    rotate_left
    · intro w hSw
      obtain ⟨z0, z1⟩ := hSw
      first | (go_simp; done) | (go_simp; with_reducible rfl)
    try simp only [Act.put, List.setIfInBounds_toArray, List.set_cons_zero, List.set_cons_succ]
    have hal5 : Below w5.heap.size w5 (w5.alloc (.cells #[.int .u64 (id : Int), .string (ba m), .string (ba (nameT s3))] 80)) := (Below.refl _ _).alloc (Nat.le_refl _) _
    have HAL5 := Lib.hid hal5
    have hgl : M.gp < w5.heap.size := by have h9 := hg5.gpL; rw [show ({ M4 with left := l5 } : GM).gp = M.gp from HGP4.out] at h9; exact h9
    have y9x := (hal5.cell (p := ⟨M.gp, 9, none⟩) hgl).trans (show w5.cell? ⟨M.gp, 9, none⟩ = some M4.cv from by have h9 := y9; rw [show ({ M4 with left := l5 } : GM).gp = M.gp from HGP4.out] at h9; exact h9)
    have y9fx := (hal5.frozen (p := ⟨M.gp, 9, none⟩) hgl).trans (show w5.frozen? ⟨M.gp, 9, none⟩ = false from by have h9 := y9f; rw [show ({ M4 with left := l5 } : GM).gp = M.gp from HGP4.out] at h9; exact h9)
    have y9a : w5.cell? ⟨M.gp, 9, none⟩ = some M4.cv := by have h9 := y9; rw [show ({ M4 with left := l5 } : GM).gp = M.gp from HGP4.out] at h9; exact h9
    refine wpAnyH_ready (rs := [5, 12]) (by kernel_rfl) (by simp) ?_
    refine (AllReadyH.cons rfl (fun K hK => ?_) (AllReadyH.cons rfl (fun K hK => ?_) AllReadyH.nil))
    · go_simp
      refine hK.out _ _ ?_ (fun hHeld2 => ?_)
      · exact ⟨BoxP.cell b5, BoxI.cell i5⟩
      clear hK K hHeld
      have hHeld := hHeld2
      clear hHeld2
      try simp only [Act.put, List.setIfInBounds_toArray, List.set_cons_zero, List.set_cons_succ]
      refine wpAnyH_ready (rs := [12]) (by kernel_rfl) (by simp) ?_
      refine AllReadyH.cons rfl (fun K hK => ?_) AllReadyH.nil
      go_simp
      refine hK.out _ _ ?_ (fun hHeld2 => ?_)
      · exact ⟨BoxP.cell ((hal5.block _ (lt_of_heap2 b5)).trans b5), BoxI.cell ((hal5.block _ (lt_of_heap2 i5)).trans i5)⟩
      clear hK K hHeld
      have hHeld := hHeld2
      clear hHeld2
      try simp only [Act.put, List.setIfInBounds_toArray, List.set_cons_zero, List.set_cons_succ]
      have hown5 := hg5.calls
      have hnecv : some M.gp ≠ M4.cv.ownBlock := fun e => by obtain ⟨cs, h9⟩ := own_ty hown5 e.symm; rw [← HGP4.out] at h9; rw [show w5.heap[M4.gp]? = _ from hg5.st] at h9; injection h9 with h9; injection h9 with _ h9 _; revert h9; decide
      obtain ⟨CN, hCN⟩ : ∃ CN, CN = s3.calls.length := ⟨_, rfl⟩
      have hcn5 : (nameS s3).calls.length = CN := by rw [hCN]; exact congrArg List.length (nameS_calls s3)
      have hCNb : CN ≤ 10000000 := by rw [hCN]; exact HCA.out
      have hownx : w5.ownsRow base 80 3 M4.cv CN (callC (nameS s3).calls) := by rw [← hcn5]; exact hown5
      have HCN := Lib.hid hcn5
      clear hCN
      refine wpAnyH_ready (rs := [13]) (by kernel_rfl) (by simp) ?_
      refine AllReadyH.cons rfl (fun K hK => ?_) AllReadyH.nil
      refine step_append_lies _ (by rfl) _ _ _ (by rfl) base 80 iC _ 3 40 Tryz.underlying53 HI.out H0.out H1.out H2.out (by rfl) (by omega) M4.cv CN (callC (nameS s3).calls) (by rfl) (own_belowG hownx hal5) ⟨w5.heap.size, 0, none⟩ 1 1 [.int .u64 (id : Int), .string (ba m), .string (ba (nameT s3))] (by rfl) (by rfl) (World.news_of_block (Go.heap_alloc_new _ _)) (by intro u hu; simp at hu; rcases hu with rfl | rfl | rfl <;> rfl) (by omega) (by unfold maxLen; omega) (by omega) (Nat.le_trans hg5.hb (by simp)) (w5.heap.size + 1) (by simp) ?_
      intro qq cap2 w9 hown9 hg9 hat9 hlt9
      have k9 := (hg9.cell_far ⟨M.gp, 9, none⟩ (Nat.lt_of_lt_of_le hgl hal5.size) hnecv).trans y9x
      have f9 := (hg9.frozen_far ⟨M.gp, 9, none⟩ (Nat.lt_of_lt_of_le hgl hal5.size) hnecv).trans y9fx
      have hb5n : ∀ (g : Nat) (o : Obj), w5.heap[g]? = some o → ¬ OwnG M4 g → w9.heap[g]? = some o := fun g o hg hn => by
        have h8 := (Array.getElem?_eq_some_iff.1 hg).1
        exact (hg9.block g (Nat.lt_of_lt_of_le h8 hal5.size) (fun e => hn (.inr (.inr (.inr (.inr (.inr (.inr (.inr (.inr e.symm))))))))) ).trans ((hal5.block g h8).trans hg)
      refine hK.out _ _ ?_ (fun hHeld2 => ?_)
      · exact ⟨BoxP.cell (hb5n _ _ b5 HN41.out), BoxI.cell (hb5n _ _ i5 HN42.out)⟩
      clear hK K hHeld
      have hHeld := hHeld2
      clear hHeld2
      try simp only [Act.put, List.setIfInBounds_toArray, List.set_cons_zero, List.set_cons_succ]
      have hadd := HGB.out.addCall (ci := id) (cm := m) (cn := nameT s3) hal5 hg9 (by show w9.ownsRow base 80 3 (.slice (some ⟨qq, 0, none⟩) ((nameS s3).calls.length + 1) cap2) ((nameS s3).calls.length + 1) (callC (nameS s3).calls ++ [.int .u64 (id : Int), .string (ba m), .string (ba (nameT s3))]); rw [hcn5]; exact hown9) (by rw [show (w5.alloc (.cells #[.int .u64 (id : Int), .string (ba m), .string (ba (nameT s3))] 80)).heap.size = w5.heap.size + 1 by simp]; exact hat9) HM.out HNG.out HIDB.out (by show (nameS s3).calls.length + 1 ≤ (nameS s3).cnt + 1; exact Nat.succ_le_succ HG5.out.ca)
      have HADD := Lib.hid hadd
      have HB9 := Lib.hid (hb5n _ _ b5 HN41.out)
      have HI9 := Lib.hid (hb5n _ _ i5 HN42.out)
      clear hadd
      refine take_at (i := 14) (v := ?_) (some 27) rfl rfl (by kernel_rfl) (by kernel_rfl) (by kernel_rfl) (fun _ _ _ h => h) (Or.inl ⟨by rfl, ?_⟩) (by assumption) ?_
      rotate_left
      · intro w hSw
        obtain ⟨z0, z1⟩ := hSw
        first | (go_simp; done) | (go_simp; with_reducible rfl)
      try simp only [Act.put, List.setIfInBounds_toArray, List.set_cons_zero, List.set_cons_succ]
      refine take_at (i := 15) (v := ?_) (some 28) rfl rfl (by kernel_rfl) (by kernel_rfl) (by kernel_rfl) (fun _ _ _ h => h) (Or.inl ⟨by rfl, ?_⟩) (by assumption) ?_
      rotate_left
      · intro w hSw
        obtain ⟨z0, z1⟩ := hSw
        first | (go_simp; done) | (go_simp; with_reducible rfl)
      try simp only [Act.put, List.setIfInBounds_toArray, List.set_cons_zero, List.set_cons_succ]
      refine take_at (i := 16) (v := ?_) (some 29) rfl rfl (by kernel_rfl) (by kernel_rfl) (by kernel_rfl) (fun _ _ _ h => h) (Or.inl ⟨by rfl, ?_⟩) (by assumption) ?_
      rotate_left
      · intro w hSw
        obtain ⟨z0, z1⟩ := hSw
        first | (go_simp; done) | (go_simp; with_reducible rfl)
      try simp only [Act.put, List.setIfInBounds_toArray, List.set_cons_zero, List.set_cons_succ]
      refine wpAnyH_ready (rs := [17]) (by kernel_rfl) (by simp) ?_
      refine AllReadyH.cons rfl (fun K hK => ?_) AllReadyH.nil
      go_simp
      have nb : w.heap.size ≠ M.gp := HGN.out
      have ni : g6 ≠ M.gp := HGI.out
      refine hK.out _ _ ?_ (fun hHeld2 => ?_)
      · exact ⟨BoxP.cell ((heap_setCell_other w9 ⟨M.gp, 9, none⟩ _ _ nb).trans HB9.out), BoxI.cell ((heap_setCell_other w9 ⟨M.gp, 9, none⟩ _ _ ni).trans HI9.out)⟩
      clear hK K hHeld
      have hHeld := hHeld2
      clear hHeld2
      try simp only [Act.put, List.setIfInBounds_toArray, List.set_cons_zero, List.set_cons_succ]
      refine wpAnyH_done (by kernel_rfl) ?_ _
      refine NoPanic.normal ?_
      clear hHeld
      obtain ⟨wF, hwF⟩ : ∃ wF, wF = w9.setCell ⟨M.gp, 9, none⟩ (.slice (some ⟨qq, 0, none⟩) (CN + 1) cap2) := ⟨_, rfl⟩
      obtain ⟨MF, hMF⟩ : ∃ MF : GM, MF = { ({ M4 with left := l5 } : GM) with cv := .slice (some ⟨qq, 0, none⟩) (CN + 1) cap2 } := ⟨_, rfl⟩
      obtain ⟨s5, hs5⟩ : ∃ s5 : PS, s5 = { ({ nameS s3 with cnt := (nameS s3).cnt + 1 } : PS) with calls := (nameS s3).calls ++ [(id, m, nameT s3)] } := ⟨_, rfl⟩
      have hbF : BoxP wF w.heap.size M.gp := by rw [hwF]; exact (heap_setCell_other w9 ⟨M.gp, 9, none⟩ _ _ nb).trans HB9.out
      have hiF : BoxI wF g6 id := by rw [hwF]; exact (heap_setCell_other w9 ⟨M.gp, 9, none⟩ _ _ ni).trans HI9.out
      have hadd : GR wF base MF s5 ∧ Touch w5 wF (OwnG { M4 with left := l5 }) ∧ ∀ j, OwnG MF j → OwnG { M4 with left := l5 } j ∨ w5.heap.size ≤ j := by rw [hwF, hMF, hs5, ← HGP4.out, ← HCN.out]; exact HADD.out
      rw [← hwF]
      obtain ⟨hgF, hTF, hOF⟩ := hadd
      have hgpF : MF.gp = M.gp := by rw [hMF]; exact HGP4.out
      have hlF : Live MF := by rw [hMF]; exact HL4.out
      have hs5f : s5.left = (nameS s3).left ∧ s5.nodes = (nameS s3).nodes := by rw [hs5]; exact ⟨rfl, rfl⟩
      have hwsz : w.heap.size < w5.heap.size := lt_of_heap2 b5
      have hgsz : g6 < w5.heap.size := lt_of_heap2 i5
      have hn1F : ¬ OwnG MF w.heap.size := fun e => by rcases hOF _ e with h9 | h9; exact HN41.out h9; omega
      have hn2F : ¬ OwnG MF g6 := fun e => by rcases hOF _ e with h9 | h9; exact HN42.out h9; omega
      have hwa2 := want_any wF base MF s5 hgF ⟨#[40]⟩
      rw [show str ⟨#[40]⟩ = c_lpar from rfl, hgpF] at hwa2
      have HWA2 := Lib.hid hwa2
      have e1F := hbF.cell
      have HBF := Lib.hid hbF
      have HIF := Lib.hid hiF
      have HN1F := Lib.hid hn1F
      have HN2F := Lib.hid hn2F
      have HGF := Lib.hid hgF
      have HTF := Lib.hid hTF
      have HOF := Lib.hid hOF
      have HGPF := Lib.hid hgpF
      have HLF := Lib.hid hlF
      have HS5F := Lib.hid hs5f
      have HS5 := Lib.hid hs5
      have HMF := Lib.hid hMF
      clear hwF hMF hs5 hbF hiF hgF hTF hOF hgpF hlF hs5f hwsz hgsz hn1F hn2F hwa2 y9 y9f y9x y9fx k9 f9 hnecv hownx hown5 hcn5 hown9 hg9 hat9 hlt9 hb5n hal5 hgl x9 b5 i5
      go_wp2_with (first
        | (go_at_call 45; (with_reducible refine (HWA2.out).mono ?_); rintro e w10 ⟨rfl, l10, hg10, hT10⟩; go_loud (
            have hb10 : BoxP w10 w.heap.size M.gp := (hT10.block _ (lt_of_heap2 HBF.out) (by show ¬ w.heap.size = MF.gp; rw [HGPF.out]; exact HGN.out)).trans HBF.out;
            have hi10 : BoxI w10 g6 id := (hT10.block _ (lt_of_heap2 HIF.out) (by show ¬ g6 = MF.gp; rw [HGPF.out]; exact HGI.out)).trans HIF.out;
            have e10 := hb10.cell;
            obtain ⟨M10, hM10⟩ : ∃ M10 : GM, M10 = { MF with left := l10 } := ⟨_, rfl⟩;
            rw [← hM10] at hg10;
            have hgp10 : M10.gp = M.gp := (by rw [hM10]; exact HGPF.out);
            have hw := ok_want c_lpar s5;
            have hnm := ok_name s3;
            have hnest := nestCall_any w10 base _ _ hg10 #[.pointer (some ⟨w.heap.size, 0, none⟩), .pointer (some ⟨g6, 0, none⟩)] (listS (exprS f id))
              (fun _ w1 hg1 hT1 => call1_any w1 base _ _ hg1 f id w.heap.size g6 HEX.out (by rw [hgp10]; exact (hT1.block _ (lt_of_heap2 hb10) (by show ¬ w.heap.size = M10.gp; rw [hgp10]; exact HGN.out)).trans hb10) ((hT1.block _ (lt_of_heap2 hi10) (by show ¬ g6 = M10.gp; rw [hgp10]; exact HGI.out)).trans hi10) (by rw [hM10]; exact HN1F.out) (by rw [hM10]; exact HN2F.out) (by rw [HID.out]; exact Nat.succ_pos _)
                (by show id ≤ (wantS c_lpar s5).nodes.length; have h1 := hw.nodes; have h2 := hnm.nodes; have h3 := HOK3.out.2.1; rw [HS5F.out.2] at h1; rw [HID.out]; unfold growId; omega) (by rw [hM10]; exact HLF.out)
                (by show (wantS c_lpar s5).left.length < f; have h1 := hw.left; have h2 := hnm.left; have h3 := HOK3.out.1; rw [HS5F.out.1] at h1; have := HF.out; omega))
              ((ok_list (ok_expr f id) _).depth);
            rw [hgp10] at hnest;
            have HM10 := Lib.hid hM10;
            have HNEST := Lib.hid hnest;
            have HT10 := Lib.hid hT10;
            clear hb10 hi10 hw hnm hnest hg10 hT10 hM10 hgp10))
        | (go_at_call 119; (with_reducible refine (HNEST.out).mono ?_); rintro e w11 ⟨rfl, hw11⟩; go_loud (
            have HW11 := Lib.hid hw11;
            clear hw11)))
      go_end0
      refine ⟨rfl, ?_⟩
      have hfin : callS (exprS f) u m s = nestS (listS (exprS f id)) (wantS c_lpar s5) := by rw [HS5.out, HS3.out, HID.out]; rfl
      rw [hfin]
      have g10 : GStep wF base MF (nestS (listS (exprS f id)) (wantS c_lpar s5)) w11 := GStep.trans (M1 := M10) (by rw [HM10.out]) (HT10.out.more fun j e => .inl e) (fun j h => by rw [HM10.out] at h; exact .inl h) (fun h => by rw [HM10.out]; exact h) HW11.out
      have g5 : GStep w5 base { M4 with left := l5 } (nestS (listS (exprS f id)) (wantS c_lpar s5)) w11 := GStep.trans (M1 := MF) (by rw [HMF.out]) HTF.out HOF.out (fun _ => HLF.out) g10
      have g4 : GStep w4 base M4 (nestS (listS (exprS f id)) (wantS c_lpar s5)) w11 := GStep.pre (ride_drew (Below.refl _ _)) (GStep.trans (M1 := { M4 with left := l5 }) rfl (HT5.out.more fun j e => .inl e) (fun j h => .inl h) (fun h => h) g5)
      have g3 := GStep.trans (M := M2) (M1 := M4) (by rw [HM4.out]) (HT4.out.more fun j e => .inl e) (fun j h => by rw [HM4.out] at h; exact .inl h) (fun h => by rw [HM4.out]; exact h) g4
      exact (GStep.trans HGP2.out HT2.out HO2.out HL2.out (GStep.pre HAL.out g3)).pre HB1.out
    · go_simp
      refine hK.out _ _ ?_ (fun hHeld2 => ?_)
      · exact ⟨BoxP.cell ((hal5.block _ (lt_of_heap2 b5)).trans b5), BoxI.cell ((hal5.block _ (lt_of_heap2 i5)).trans i5)⟩
      clear hK K hHeld
      have hHeld := hHeld2
      clear hHeld2
      try simp only [Act.put, List.setIfInBounds_toArray, List.set_cons_zero, List.set_cons_succ]
      refine wpAnyH_ready (rs := [5]) (by kernel_rfl) (by simp) ?_
      refine AllReadyH.cons rfl (fun K hK => ?_) AllReadyH.nil
      go_simp
      refine hK.out _ _ ?_ (fun hHeld2 => ?_)
      · exact ⟨BoxP.cell ((hal5.block _ (lt_of_heap2 b5)).trans b5), BoxI.cell ((hal5.block _ (lt_of_heap2 i5)).trans i5)⟩
      clear hK K hHeld
      have hHeld := hHeld2
      clear hHeld2
      try simp only [Act.put, List.setIfInBounds_toArray, List.set_cons_zero, List.set_cons_succ]
      have hown5 := hg5.calls
      have hnecv : some M.gp ≠ M4.cv.ownBlock := fun e => by obtain ⟨cs, h9⟩ := own_ty hown5 e.symm; rw [← HGP4.out] at h9; rw [show w5.heap[M4.gp]? = _ from hg5.st] at h9; injection h9 with h9; injection h9 with _ h9 _; revert h9; decide
      obtain ⟨CN, hCN⟩ : ∃ CN, CN = s3.calls.length := ⟨_, rfl⟩
      have hcn5 : (nameS s3).calls.length = CN := by rw [hCN]; exact congrArg List.length (nameS_calls s3)
      have hCNb : CN ≤ 10000000 := by rw [hCN]; exact HCA.out
      have hownx : w5.ownsRow base 80 3 M4.cv CN (callC (nameS s3).calls) := by rw [← hcn5]; exact hown5
      have HCN := Lib.hid hcn5
      clear hCN
      refine wpAnyH_ready (rs := [13]) (by kernel_rfl) (by simp) ?_
      refine AllReadyH.cons rfl (fun K hK => ?_) AllReadyH.nil
      refine step_append_lies _ (by rfl) _ _ _ (by rfl) base 80 iC _ 3 40 Tryz.underlying53 HI.out H0.out H1.out H2.out (by rfl) (by omega) M4.cv CN (callC (nameS s3).calls) (by rfl) (own_belowG hownx hal5) ⟨w5.heap.size, 0, none⟩ 1 1 [.int .u64 (id : Int), .string (ba m), .string (ba (nameT s3))] (by rfl) (by rfl) (World.news_of_block (Go.heap_alloc_new _ _)) (by intro u hu; simp at hu; rcases hu with rfl | rfl | rfl <;> rfl) (by omega) (by unfold maxLen; omega) (by omega) (Nat.le_trans hg5.hb (by simp)) (w5.heap.size + 1) (by simp) ?_
      intro qq cap2 w9 hown9 hg9 hat9 hlt9
      have k9 := (hg9.cell_far ⟨M.gp, 9, none⟩ (Nat.lt_of_lt_of_le hgl hal5.size) hnecv).trans y9x
      have f9 := (hg9.frozen_far ⟨M.gp, 9, none⟩ (Nat.lt_of_lt_of_le hgl hal5.size) hnecv).trans y9fx
      have hb5n : ∀ (g : Nat) (o : Obj), w5.heap[g]? = some o → ¬ OwnG M4 g → w9.heap[g]? = some o := fun g o hg hn => by
        have h8 := (Array.getElem?_eq_some_iff.1 hg).1
        exact (hg9.block g (Nat.lt_of_lt_of_le h8 hal5.size) (fun e => hn (.inr (.inr (.inr (.inr (.inr (.inr (.inr (.inr e.symm))))))))) ).trans ((hal5.block g h8).trans hg)
      refine hK.out _ _ ?_ (fun hHeld2 => ?_)
      · exact ⟨BoxP.cell (hb5n _ _ b5 HN41.out), BoxI.cell (hb5n _ _ i5 HN42.out)⟩
      clear hK K hHeld
      have hHeld := hHeld2
      clear hHeld2
      try simp only [Act.put, List.setIfInBounds_toArray, List.set_cons_zero, List.set_cons_succ]
      have hadd := HGB.out.addCall (ci := id) (cm := m) (cn := nameT s3) hal5 hg9 (by show w9.ownsRow base 80 3 (.slice (some ⟨qq, 0, none⟩) ((nameS s3).calls.length + 1) cap2) ((nameS s3).calls.length + 1) (callC (nameS s3).calls ++ [.int .u64 (id : Int), .string (ba m), .string (ba (nameT s3))]); rw [hcn5]; exact hown9) (by rw [show (w5.alloc (.cells #[.int .u64 (id : Int), .string (ba m), .string (ba (nameT s3))] 80)).heap.size = w5.heap.size + 1 by simp]; exact hat9) HM.out HNG.out HIDB.out (by show (nameS s3).calls.length + 1 ≤ (nameS s3).cnt + 1; exact Nat.succ_le_succ HG5.out.ca)
      have HADD := Lib.hid hadd
      have HB9 := Lib.hid (hb5n _ _ b5 HN41.out)
      have HI9 := Lib.hid (hb5n _ _ i5 HN42.out)
      clear hadd
      refine take_at (i := 14) (v := ?_) (some 27) rfl rfl (by kernel_rfl) (by kernel_rfl) (by kernel_rfl) (fun _ _ _ h => h) (Or.inl ⟨by rfl, ?_⟩) (by assumption) ?_
      rotate_left
      · intro w hSw
        obtain ⟨z0, z1⟩ := hSw
        first | (go_simp; done) | (go_simp; with_reducible rfl)
      try simp only [Act.put, List.setIfInBounds_toArray, List.set_cons_zero, List.set_cons_succ]
      refine take_at (i := 15) (v := ?_) (some 28) rfl rfl (by kernel_rfl) (by kernel_rfl) (by kernel_rfl) (fun _ _ _ h => h) (Or.inl ⟨by rfl, ?_⟩) (by assumption) ?_
      rotate_left
      · intro w hSw
        obtain ⟨z0, z1⟩ := hSw
        first | (go_simp; done) | (go_simp; with_reducible rfl)
      try simp only [Act.put, List.setIfInBounds_toArray, List.set_cons_zero, List.set_cons_succ]
      refine take_at (i := 16) (v := ?_) (some 29) rfl rfl (by kernel_rfl) (by kernel_rfl) (by kernel_rfl) (fun _ _ _ h => h) (Or.inl ⟨by rfl, ?_⟩) (by assumption) ?_
      rotate_left
      · intro w hSw
        obtain ⟨z0, z1⟩ := hSw
        first | (go_simp; done) | (go_simp; with_reducible rfl)
      try simp only [Act.put, List.setIfInBounds_toArray, List.set_cons_zero, List.set_cons_succ]
      refine wpAnyH_ready (rs := [17]) (by kernel_rfl) (by simp) ?_
      refine AllReadyH.cons rfl (fun K hK => ?_) AllReadyH.nil
      go_simp
      have nb : w.heap.size ≠ M.gp := HGN.out
      have ni : g6 ≠ M.gp := HGI.out
      refine hK.out _ _ ?_ (fun hHeld2 => ?_)
      · exact ⟨BoxP.cell ((heap_setCell_other w9 ⟨M.gp, 9, none⟩ _ _ nb).trans HB9.out), BoxI.cell ((heap_setCell_other w9 ⟨M.gp, 9, none⟩ _ _ ni).trans HI9.out)⟩
      clear hK K hHeld
      have hHeld := hHeld2
      clear hHeld2
      try simp only [Act.put, List.setIfInBounds_toArray, List.set_cons_zero, List.set_cons_succ]
      refine wpAnyH_done (by kernel_rfl) ?_ _
      refine NoPanic.normal ?_
      clear hHeld
      obtain ⟨wF, hwF⟩ : ∃ wF, wF = w9.setCell ⟨M.gp, 9, none⟩ (.slice (some ⟨qq, 0, none⟩) (CN + 1) cap2) := ⟨_, rfl⟩
      obtain ⟨MF, hMF⟩ : ∃ MF : GM, MF = { ({ M4 with left := l5 } : GM) with cv := .slice (some ⟨qq, 0, none⟩) (CN + 1) cap2 } := ⟨_, rfl⟩
      obtain ⟨s5, hs5⟩ : ∃ s5 : PS, s5 = { ({ nameS s3 with cnt := (nameS s3).cnt + 1 } : PS) with calls := (nameS s3).calls ++ [(id, m, nameT s3)] } := ⟨_, rfl⟩
      have hbF : BoxP wF w.heap.size M.gp := by rw [hwF]; exact (heap_setCell_other w9 ⟨M.gp, 9, none⟩ _ _ nb).trans HB9.out
      have hiF : BoxI wF g6 id := by rw [hwF]; exact (heap_setCell_other w9 ⟨M.gp, 9, none⟩ _ _ ni).trans HI9.out
      have hadd : GR wF base MF s5 ∧ Touch w5 wF (OwnG { M4 with left := l5 }) ∧ ∀ j, OwnG MF j → OwnG { M4 with left := l5 } j ∨ w5.heap.size ≤ j := by rw [hwF, hMF, hs5, ← HGP4.out, ← HCN.out]; exact HADD.out
      rw [← hwF]
      obtain ⟨hgF, hTF, hOF⟩ := hadd
      have hgpF : MF.gp = M.gp := by rw [hMF]; exact HGP4.out
      have hlF : Live MF := by rw [hMF]; exact HL4.out
      have hs5f : s5.left = (nameS s3).left ∧ s5.nodes = (nameS s3).nodes := by rw [hs5]; exact ⟨rfl, rfl⟩
      have hwsz : w.heap.size < w5.heap.size := lt_of_heap2 b5
      have hgsz : g6 < w5.heap.size := lt_of_heap2 i5
      have hn1F : ¬ OwnG MF w.heap.size := fun e => by rcases hOF _ e with h9 | h9; exact HN41.out h9; omega
      have hn2F : ¬ OwnG MF g6 := fun e => by rcases hOF _ e with h9 | h9; exact HN42.out h9; omega
      have hwa2 := want_any wF base MF s5 hgF ⟨#[40]⟩
      rw [show str ⟨#[40]⟩ = c_lpar from rfl, hgpF] at hwa2
      have HWA2 := Lib.hid hwa2
      have e1F := hbF.cell
      have HBF := Lib.hid hbF
      have HIF := Lib.hid hiF
      have HN1F := Lib.hid hn1F
      have HN2F := Lib.hid hn2F
      have HGF := Lib.hid hgF
      have HTF := Lib.hid hTF
      have HOF := Lib.hid hOF
      have HGPF := Lib.hid hgpF
      have HLF := Lib.hid hlF
      have HS5F := Lib.hid hs5f
      have HS5 := Lib.hid hs5
      have HMF := Lib.hid hMF
      clear hwF hMF hs5 hbF hiF hgF hTF hOF hgpF hlF hs5f hwsz hgsz hn1F hn2F hwa2 y9 y9f y9x y9fx k9 f9 hnecv hownx hown5 hcn5 hown9 hg9 hat9 hlt9 hb5n hal5 hgl x9 b5 i5
      go_wp2_with (first
        | (go_at_call 45; (with_reducible refine (HWA2.out).mono ?_); rintro e w10 ⟨rfl, l10, hg10, hT10⟩; go_loud (
            have hb10 : BoxP w10 w.heap.size M.gp := (hT10.block _ (lt_of_heap2 HBF.out) (by show ¬ w.heap.size = MF.gp; rw [HGPF.out]; exact HGN.out)).trans HBF.out;
            have hi10 : BoxI w10 g6 id := (hT10.block _ (lt_of_heap2 HIF.out) (by show ¬ g6 = MF.gp; rw [HGPF.out]; exact HGI.out)).trans HIF.out;
            have e10 := hb10.cell;
            obtain ⟨M10, hM10⟩ : ∃ M10 : GM, M10 = { MF with left := l10 } := ⟨_, rfl⟩;
            rw [← hM10] at hg10;
            have hgp10 : M10.gp = M.gp := (by rw [hM10]; exact HGPF.out);
            have hw := ok_want c_lpar s5;
            have hnm := ok_name s3;
            have hnest := nestCall_any w10 base _ _ hg10 #[.pointer (some ⟨w.heap.size, 0, none⟩), .pointer (some ⟨g6, 0, none⟩)] (listS (exprS f id))
              (fun _ w1 hg1 hT1 => call1_any w1 base _ _ hg1 f id w.heap.size g6 HEX.out (by rw [hgp10]; exact (hT1.block _ (lt_of_heap2 hb10) (by show ¬ w.heap.size = M10.gp; rw [hgp10]; exact HGN.out)).trans hb10) ((hT1.block _ (lt_of_heap2 hi10) (by show ¬ g6 = M10.gp; rw [hgp10]; exact HGI.out)).trans hi10) (by rw [hM10]; exact HN1F.out) (by rw [hM10]; exact HN2F.out) (by rw [HID.out]; exact Nat.succ_pos _)
                (by show id ≤ (wantS c_lpar s5).nodes.length; have h1 := hw.nodes; have h2 := hnm.nodes; have h3 := HOK3.out.2.1; rw [HS5F.out.2] at h1; rw [HID.out]; unfold growId; omega) (by rw [hM10]; exact HLF.out)
                (by show (wantS c_lpar s5).left.length < f; have h1 := hw.left; have h2 := hnm.left; have h3 := HOK3.out.1; rw [HS5F.out.1] at h1; have := HF.out; omega))
              ((ok_list (ok_expr f id) _).depth);
            rw [hgp10] at hnest;
            have HM10 := Lib.hid hM10;
            have HNEST := Lib.hid hnest;
            have HT10 := Lib.hid hT10;
            clear hb10 hi10 hw hnm hnest hg10 hT10 hM10 hgp10))
        | (go_at_call 119; (with_reducible refine (HNEST.out).mono ?_); rintro e w11 ⟨rfl, hw11⟩; go_loud (
            have HW11 := Lib.hid hw11;
            clear hw11)))
      go_end0
      refine ⟨rfl, ?_⟩
      have hfin : callS (exprS f) u m s = nestS (listS (exprS f id)) (wantS c_lpar s5) := by rw [HS5.out, HS3.out, HID.out]; rfl
      rw [hfin]
      have g10 : GStep wF base MF (nestS (listS (exprS f id)) (wantS c_lpar s5)) w11 := GStep.trans (M1 := M10) (by rw [HM10.out]) (HT10.out.more fun j e => .inl e) (fun j h => by rw [HM10.out] at h; exact .inl h) (fun h => by rw [HM10.out]; exact h) HW11.out
      have g5 : GStep w5 base { M4 with left := l5 } (nestS (listS (exprS f id)) (wantS c_lpar s5)) w11 := GStep.trans (M1 := MF) (by rw [HMF.out]) HTF.out HOF.out (fun _ => HLF.out) g10
      have g4 : GStep w4 base M4 (nestS (listS (exprS f id)) (wantS c_lpar s5)) w11 := GStep.pre (ride_drew (Below.refl _ _)) (GStep.trans (M1 := { M4 with left := l5 }) rfl (HT5.out.more fun j e => .inl e) (fun j h => .inl h) (fun h => h) g5)
      have g3 := GStep.trans (M := M2) (M1 := M4) (by rw [HM4.out]) (HT4.out.more fun j e => .inl e) (fun j h => by rw [HM4.out] at h; exact .inl h) (fun h => by rw [HM4.out]; exact h) g4
      exact (GStep.trans HGP2.out HT2.out HO2.out HL2.out (GStep.pre HAL.out g3)).pre HB1.out
end Go.Proofs.YtecbaceinifjiaaGreatDoor
