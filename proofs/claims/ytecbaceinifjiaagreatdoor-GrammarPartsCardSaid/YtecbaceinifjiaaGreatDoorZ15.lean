/- GUnary, GList, ATake, GCall, GPure: joined by program (tools/merge.py). -/
import Derived.Test.YtecbaceinifjiaaGreatDoorZ14
import Derived.Test.YtecbaceinifjiaaGreatDoorZ1
import Derived.ProofKit
import Derived.Deep.RegionHeldLaw
namespace Go.Proofs.YtecbaceinifjiaaGreatDoor
open Go.RowKit
set_option linter.unusedSimpArgs false
set_option linter.unusedVariables false
set_option maxRecDepth 100000
attribute [local go_sem] Oper.semAt_some undef
theorem GStep.pre {w w1 w' : World} {base : Nat} {M : GM} {s' : PS} (hb : Below w.heap.size w w1) (h : GStep w1 base M s' w') : GStep w base M s' w' := by
  obtain ⟨M', h1, h2, h3, h4, h5⟩ := h
  refine ⟨M', h1, h2, (Touch.of_below hb _).trans h3 fun j e => .inl e, fun j hj => ?_, h5⟩
  rcases h4 j hj with h9 | h9
  · exact .inl h9
  · exact .inr (Nat.le_trans hb.size h9)
/-- A variable that a closure holds, in a block of its own. -/
def BoxP (w : World) (g gp : Nat) : Prop := w.heap[g]? = some (.cells #[.pointer (some ⟨gp, 0, none⟩)] 50 (0, 0))
def BoxI (w : World) (g id : Nat) : Prop := w.heap[g]? = some (.cells #[.int .u64 (id : Int)] 30 (0, 0))
theorem BoxP.cell {w : World} {g gp : Nat} (h : BoxP w g gp) : w.cell? ⟨g, 0, none⟩ = some (.pointer (some ⟨gp, 0, none⟩)) := by unfold World.cell?; rw [h]; rfl
theorem BoxI.cell {w : World} {g id : Nat} (h : BoxI w g id) : w.cell? ⟨g, 0, none⟩ = some (.int .u64 (id : Int)) := by unfold World.cell?; rw [h]; rfl
/-- A block that is none of the parser's stays. -/
theorem keep_block {w w' : World} {M : GM} {g : Nat} {o : Obj} (hT : Touch w w' (OwnG M)) (hg : w.heap[g]? = some o) (hn : ¬ OwnG M g) : w'.heap[g]? = some o := (hT.block g ((Array.getElem?_eq_some_iff.1 hg).1) hn).trans hg
set_option maxHeartbeats 2000000 in
theorem unary1_any (w : World) (base : Nat) (M : GM) (s' : PS) (id g1 g2 : Nat) (b1 : BoxP w g1 M.gp) (b2 : BoxI w g2 id)
    (H : Calls Tryz.prog 86 #[.pointer (some ⟨M.gp, 0, none⟩), .int .u64 (id : Int)] w fun e w' => e = .returned (.tuple #[]) ∧ GStep w base M s' w') :
    PartC 124 #[.pointer (some ⟨g1, 0, none⟩), .pointer (some ⟨g2, 0, none⟩)] w base M s' := by
  have c1 := b1.cell
  have c2 := b2.cell
  have HE := Lib.hid H
  clear b1 b2 H
  unfold PartC
  go_enter Tryz.func124, Tryz.ntmps124
  go_wp2_with (go_at_call 86; (with_reducible refine (HE.out).mono ?_); rintro e w2 ⟨rfl, hw2⟩; go_loud (
    have HW2 := Lib.hid hw2;
    clear hw2))
  go_end0
  exact ⟨rfl, HW2.out⟩
set_option maxHeartbeats 2000000 in
theorem call11_any (w : World) (base : Nat) (M : GM) (s' : PS) (id g1 g2 : Nat) (b1 : BoxP w g1 M.gp) (b2 : BoxI w g2 id)
    (H : Calls Tryz.prog 86 #[.pointer (some ⟨M.gp, 0, none⟩), .int .u64 (id : Int)] w fun e w' => e = .returned (.tuple #[]) ∧ GStep w base M s' w') :
    PartC 123 #[.pointer (some ⟨g1, 0, none⟩), .pointer (some ⟨g2, 0, none⟩)] w base M s' := by
  have c1 := b1.cell
  have c2 := b2.cell
  have HE := Lib.hid H
  clear b1 b2 H
  unfold PartC
  go_enter Tryz.func123, Tryz.ntmps123
  go_wp2_with (go_at_call 86; (with_reducible refine (HE.out).mono ?_); rintro e w2 ⟨rfl, hw2⟩; go_loud (
    have HW2 := Lib.hid hw2;
    clear hw2))
  go_end0
  exact ⟨rfl, HW2.out⟩
/-- What the contracts of the inner expressions say. -/
def ExC (f : Nat) (base : Nat) : Prop := ∀ (w : World) (M : GM) (s : PS) (u : Nat), GR w base M s → s.left.length < f → 0 < u → u ≤ s.nodes.length → Live M →
  Calls Tryz.prog 86 #[.pointer (some ⟨M.gp, 0, none⟩), .int .u64 (u : Int)] w fun e w' => e = .returned (.tuple #[]) ∧ GStep w base M (exprS f u s) w'
theorem grow_facts (u : Nat) (n : Nd) (s : PS) : (growS u n s).left = s.left ∧ (growS u n s).nodes.length = s.nodes.length + 1 ∧ (growS u n s).cnt = s.cnt ∧ (growS u n s).depth = s.depth := by
  refine ⟨rfl, ?_, rfl, rfl⟩
  show (if u = 0 then s.nodes ++ [n] else setN u (addKid (growId s)) (s.nodes ++ [n])).length = _
  split
  · rw [List.length_append]; rfl
  · unfold setN; rw [List.length_modify, List.length_append]; rfl
theorem okNd (k : Nat) (hk : k < 256) : NdOk (nd0 k) := ⟨hk, by show ((⟨#[]⟩ : ByteArray).size ≤ _); decide, by show (-9223372036854775808 : Int) ≤ 0 ∧ (0 : Int) ≤ _; omega, by show 0 < 256; omega, by show 0 < 18446744073709551616; omega⟩
set_option maxHeartbeats 8000000 in
theorem unary_any (w : World) (base : Nat) (M : GM) (s : PS) (h : GR w base M s) (f u kind : Nat) (hk : kind < 256) (hu : u ≤ s.nodes.length) (hl : Live M) (hf : s.left.length < f) (hs : s.left.length * 16 + (s.nodes.length + 1) + s.cnt ≤ 10000000) (hex : ExC f base)
    (hd : ∀ t : PS, (exprS f (growId s) t).depth = t.depth) :
    Calls Tryz.prog 103 #[.pointer (some ⟨M.gp, 0, none⟩), .int .u64 (u : Int), .int .u8 (kind : Int)] w fun e w' => e = .returned (.tuple #[]) ∧ GStep w base M (nestS (exprS f (growId s)) (growS u (nd0 kind) s)) w' := by
  have hmf : ∀ (fn : Fn) (first cap : Array Value) (w : World), (Instr.makeFunc fn first cap).run Tryz.prog w = .ok (.func fn first cap) w := fun _ _ _ _ => rfl
  obtain ⟨W1, hW1⟩ : ∃ W1, W1 = w.alloc (.cells #[.pointer (some ⟨M.gp, 0, none⟩)] 50) := ⟨_, rfl⟩
  have hb1 : Below w.heap.size w W1 := by rw [hW1]; exact (Below.refl _ _).alloc (Nat.le_refl _) _
  have hx1 : BoxP W1 w.heap.size M.gp := by unfold BoxP; rw [hW1]; exact Go.heap_alloc_new _ _
  have hno : ¬ OwnG M w.heap.size := fun e => Nat.lt_irrefl _ (h.own e).2
  have c1 := hx1.cell
  have HG := Lib.hid (grow_any W1 base M s (h.below hb1) u (nd0 kind) hu (okNd kind hk) rfl hs)
  unfold ndV nd0 at HG
  dsimp only at HG
  rw [show ((0 : Nat) : Int) = 0 from rfl] at HG
  have HB1 := Lib.hid hb1
  have HX1 := Lib.hid hx1
  have HNO := Lib.hid hno
  have HW1 := Lib.hid hW1
  have HEX := Lib.hid hex
  have HD := Lib.hid hd
  have HL := Lib.hid hl
  have HF := Lib.hid hf
  have HGN : Hid (w.heap.size ≠ M.gp) := Lib.hid (by have := h.gpL; omega)
  obtain ⟨id, hid⟩ : ∃ id, id = growId s := ⟨_, rfl⟩
  rw [← hid] at HG
  have HID := Lib.hid hid
  clear h hid hk hu hl hf hs hex hd hb1 hx1 hno hW1
  go_enter Tryz.func103, Tryz.ntmps103
  go_upto_region 1 with fail
  rw [← HW1.out]
  go_wp2_with (first
    | (go_at_call 30; (with_reducible refine (HG.out).mono ?_); rintro e w2 ⟨rfl, M2, hg2, hgp2, hT2, hO2, hl2⟩; go_loud (
        have hx2 := keep_block hT2 HX1.out HNO.out;
        have hal : Below w2.heap.size w2 (w2.alloc (.cells #[.int .u64 (id : Int)] 30)) := (Below.refl _ _).alloc (Nat.le_refl _) _;
        have hg3 := hg2.below hal;
        have bx1 : BoxP (w2.alloc (.cells #[.int .u64 (id : Int)] 30)) w.heap.size M.gp := (hal.block _ (lt_of_heap2 hx2)).trans hx2;
        have bx2 : BoxI (w2.alloc (.cells #[.int .u64 (id : Int)] 30)) w2.heap.size id := Go.heap_alloc_new _ _;
        have d1 := bx1.cell;
        have hne2 : w2.heap.size ≠ M2.gp := (by have := hg2.gpL; omega);
        have hne1 : w.heap.size ≠ M2.gp := (by rw [hgp2]; exact HGN.out);
        have hgf := grow_facts u (nd0 kind) s;
        have hnest := nestUnary_any _ base M2 _ hg3 #[.pointer (some ⟨w.heap.size, 0, none⟩), .pointer (some ⟨w2.heap.size, 0, none⟩)] (exprS f id)
          (fun _ w4 hg4 hT4 => unary1_any w4 base M2 _ id _ _ (by rw [hgp2]; exact (hT4.block _ (lt_of_heap2 bx1) hne1).trans bx1) ((hT4.block _ (lt_of_heap2 bx2) hne2).trans bx2)
            (HEX.out w4 M2 _ id hg4 (by show (growS u (nd0 kind) s).left.length < f; rw [hgf.1]; exact HF.out) (by rw [HID.out]; exact Nat.succ_pos _) (by show id ≤ (growS u (nd0 kind) s).nodes.length; rw [hgf.2.1, HID.out]; exact Nat.le_refl _) (hl2 HL.out)))
          (by rw [HID.out]; exact HD.out _);
        rw [hgp2] at hnest;
        have HNEST := Lib.hid hnest;
        have HGP2 := Lib.hid hgp2;
        have HT2 := Lib.hid hT2;
        have HO2 := Lib.hid hO2;
        have HL2 := Lib.hid hl2;
        have HAL := Lib.hid hal;
        clear hx2 hal hg3 bx1 bx2 hne1 hne2 hgf hnest hg2 hgp2 hT2 hO2 hl2))
    | (go_at_call 119; (with_reducible refine (HNEST.out).mono ?_); rintro e w5 ⟨rfl, hw5⟩; go_loud (
        have HW5 := Lib.hid hw5;
        clear hw5)))
  go_end0
  refine ⟨rfl, ?_⟩
  rw [← HID.out]
  exact (GStep.trans HGP2.out HT2.out HO2.out HL2.out (GStep.pre HAL.out HW5.out)).pre HB1.out
end Go.Proofs.YtecbaceinifjiaaGreatDoor
namespace Go.Proofs.YtecbaceinifjiaaGreatDoor
open Go.RowKit
set_option linter.unusedSimpArgs false
set_option linter.unusedVariables false
set_option maxRecDepth 100000
attribute [local go_sem] Oper.semAt_some undef
/-- How much is left, as the parser's own field tells it. -/
def muL (gp : Nat) (w : World) : Nat := match w.cell? ⟨gp, 0, none⟩ with
  | some (.slice _ n _) => n
  | _ => 0
theorem GR.mu {w : World} {base : Nat} {M : GM} {s : PS} (h : GR w base M s) : muL M.gp w = s.left.length := by
  unfold muL
  rw [h.cells.1.1]
  obtain ⟨A, c, e, _⟩ := h.left
  rw [e]
theorem isS_pos {t : List Nat} {s : PS} (h : isS t s = true) : 0 < s.left.length ∧ (nextS s).left.length + 1 = s.left.length := by
  unfold isS at h
  cases hs : s.left with
  | nil => rw [hs] at h; cases h
  | cons a r => exact ⟨by simp, by unfold nextS; rw [hs]; rfl⟩
theorem nextS_nodes (s : PS) : (nextS s).nodes = s.nodes := by
  unfold nextS
  cases s.left <;> rfl
theorem comma_stop {part : PS → PS} {s : PS} (h : isS c_comma s = false) : ∀ k, commaS part k s = s
  | 0 => rfl
  | k + 1 => by show (if isS c_comma s then _ else s) = s; rw [h, if_neg (by simp)]
/-- What a part has to be, wherever it stands from w on. -/
def PartsC (fn : FuncId) (caps : Array Value) (w : World) (base : Nat) (M : GM) (L0 N0 : Nat) (part : PS → PS) : Prop :=
  ∀ (wr : World) (M1 : GM) (s1 : PS), GR wr base M1 s1 → M1.gp = M.gp → Touch w wr (OwnG M) → (∀ j, OwnG M1 j → OwnG M j ∨ w.heap.size ≤ j) → (Live M → Live M1) → s1.left.length ≤ L0 → N0 ≤ s1.nodes.length → PartC fn caps wr base M1 (part s1)
def ListI (w : World) (base : Nat) (M : GM) (L0 N0 : Nat) (part : PS → PS) (S : PS) (wr : World) : Prop :=
  ∃ (k : Nat) (M1 : GM) (s1 : PS), GR wr base M1 s1 ∧ M1.gp = M.gp ∧ Touch w wr (OwnG M) ∧ (∀ j, OwnG M1 j → OwnG M j ∨ w.heap.size ≤ j) ∧ (Live M → Live M1) ∧ s1.left.length ≤ L0 ∧ N0 ≤ s1.nodes.length ∧ commaS part k s1 = S ∧ s1.left.length ≤ k
set_option maxHeartbeats 8000000 in
theorem listCall_any (w : World) (base : Nat) (M : GM) (s : PS) (h : GR w base M s) (caps : Array Value) (part : PS → PS) (hP : PartsC 123 caps w base M s.left.length s.nodes.length part)
    (hm : ∀ t : PS, t.left.length ≤ s.left.length → (part t).left.length ≤ t.left.length ∧ t.nodes.length ≤ (part t).nodes.length) :
    Calls Tryz.prog 70 #[.pointer (some ⟨M.gp, 0, none⟩), .func (.func 123) #[] caps] w fun e w' => e = .returned (.tuple #[]) ∧ GStep w base M (listS part s) w' := by
  have hta := take_any w base M s h ⟨#[41]⟩
  have hstr : str ⟨#[41]⟩ = c_rpar := rfl
  rw [hstr] at hta
  have HTA := Lib.hid hta
  have HH := Lib.hid h
  have HP := Lib.hid hP
  have HM := Lib.hid hm
  obtain ⟨b, hb⟩ : ∃ b, b = isS c_rpar s := ⟨_, rfl⟩
  rw [← hb] at HTA
  have HB := Lib.hid hb
  clear h hP hm hta hb hstr
  cases b
  · go_enter Tryz.func70, Tryz.ntmps70
    go_wp2_with (first
      | (go_at_call 65; (with_reducible refine (HTA.out).mono ?_); rintro e w1 ⟨rfl, hw1⟩; go_loud (
          have hts : takeS c_rpar s = s := (by unfold takeS; rw [← HB.out, if_neg (by simp)]);
          rw [hts] at hw1;
          obtain ⟨M1, hg1, hgp1, hT1, hO1, hl1⟩ := hw1.step;
          have hpc := HP.out w1 M1 s hg1 hgp1 hT1 hO1 hl1 (Nat.le_refl _) (Nat.le_refl _);
          unfold PartC at hpc;
          have HPC := Lib.hid hpc;
          have HGP1 := Lib.hid hgp1;
          have HT1 := Lib.hid hT1;
          have HO1 := Lib.hid hO1;
          have HL1 := Lib.hid hl1;
          clear hts hw1 hg1 hgp1 hT1 hO1 hl1 hpc))
      | (go_at_call 123; (with_reducible refine (HPC.out).mono ?_); rintro e w2 ⟨rfl, hw2⟩; go_loud (
          obtain ⟨M2, hg2, hgp2, hT2, hO2, hl2⟩ := GStep.trans HGP1.out HT1.out HO1.out HL1.out hw2;
          have hmm := HM.out s (Nat.le_refl _);
          have HST : Hid (ListI w base M s.left.length s.nodes.length part (commaS part (part s).left.length (part s)) w2) := Lib.hid ⟨_, M2, part s, hg2, hgp2, hT2, hO2, hl2, hmm.1, hmm.2, rfl, Nat.le_refl _⟩;
          clear hw2 hg2 hgp2 hT2 hO2 hl2 hmm)))
    go_loopw [] (fun wr => ListI w base M s.left.length s.nodes.length part (commaS part (part s).left.length (part s)) wr) (fun wr => muL M.gp wr)
    case atStart => exact HST.out
    case round =>
      obtain ⟨k, M1, s1, hg, hgp, hT, hO, hl, hL, hN, hC, hk⟩ := hrel
      have hta := take_any wr base M1 s1 hg ⟨#[44]⟩
      rw [show str ⟨#[44]⟩ = c_comma from rfl, hgp] at hta
      obtain ⟨b, hb⟩ : ∃ b, b = isS c_comma s1 := ⟨_, rfl⟩
      rw [← hb] at hta
      have HTC := Lib.hid hta
      have HBC := Lib.hid hb
      have HG := Lib.hid hg
      have HGP := Lib.hid hgp
      have HT := Lib.hid hT
      have HO := Lib.hid hO
      have HL := Lib.hid hl
      have HLL := Lib.hid hL
      have HNN := Lib.hid hN
      have HCC := Lib.hid hC
      have HK := Lib.hid hk
      have HMU := Lib.hid (show muL M.gp wr = s1.left.length by rw [← hgp]; exact hg.mu)
      clear hg hgp hT hO hl hL hN hC hk hta hb
      cases b
      · go_wp2_with (first
          | (go_at_call 65; (with_reducible refine (HTC.out).mono ?_); rintro e w5 ⟨rfl, hw5⟩; go_loud (
              have hts : takeS c_comma s1 = s1 := (by unfold takeS; rw [← HBC.out, if_neg (by simp)]);
              rw [hts] at hw5;
              obtain ⟨M5, hg5, hgp5, hT5, hO5, hl5⟩ := GStep.trans HGP.out HT.out HO.out HL.out hw5.step;
              have hwa := want_any w5 base M5 s1 hg5 ⟨#[41]⟩;
              rw [show str ⟨#[41]⟩ = c_rpar from rfl, hgp5] at hwa;
              have HWA := Lib.hid hwa;
              have HGP5 := Lib.hid hgp5;
              have HT5 := Lib.hid hT5;
              have HO5 := Lib.hid hO5;
              have HL5 := Lib.hid hl5;
              clear hts hw5 hg5 hgp5 hT5 hO5 hl5 hwa))
          | (go_at_call 45; (with_reducible refine (HWA.out).mono ?_); rintro e w6 ⟨rfl, hw6⟩; go_loud (
              have HW6 := Lib.hid hw6;
              clear hw6)))
        go_end0
        refine ⟨rfl, ?_⟩
        unfold listS
        rw [← HB.out, if_neg (by simp), ← HCC.out, comma_stop HBC.out.symm]
        exact GStep.trans HGP5.out HT5.out HO5.out HL5.out HW6.out.step
      · go_wp2_with (first
          | (go_at_call 65; (with_reducible refine (HTC.out).mono ?_); rintro e w5 ⟨rfl, hw5⟩; go_loud (
              have hts : takeS c_comma s1 = nextS s1 := (by unfold takeS; rw [← HBC.out, if_pos rfl]);
              rw [hts] at hw5;
              obtain ⟨M5, hg5, hgp5, hT5, hO5, hl5⟩ := GStep.trans HGP.out HT.out HO.out HL.out hw5.step;
              have hnx := isS_pos HBC.out.symm;
              have hpc := HP.out w5 M5 (nextS s1) hg5 hgp5 hT5 hO5 hl5 (by have := HLL.out; omega) (by rw [nextS_nodes]; exact HNN.out);
              unfold PartC at hpc;
              have HPC2 := Lib.hid hpc;
              have HNX := Lib.hid hnx;
              have HGP5 := Lib.hid hgp5;
              have HT5 := Lib.hid hT5;
              have HO5 := Lib.hid hO5;
              have HL5 := Lib.hid hl5;
              clear hts hw5 hg5 hgp5 hT5 hO5 hl5 hpc hnx))
          | (go_at_call 123; (with_reducible refine (HPC2.out).mono ?_); rintro e w6 ⟨rfl, hw6⟩; go_loud (
              have HW6 := Lib.hid hw6;
              clear hw6)))
        obtain ⟨M6, hg6, hgp6, hT6, hO6, hl6⟩ := GStep.trans HGP5.out HT5.out HO5.out HL5.out HW6.out
        have hmm := HM.out (nextS s1) (by have := HLL.out; have := HNX.out; omega)
        have hfin : ListI w base M s.left.length s.nodes.length part (commaS part (part s).left.length (part s)) w6 := by
          have hk := HK.out
          have hn := HNX.out
          obtain ⟨k', rfl⟩ : ∃ k', k = k' + 1 := ⟨k - 1, by omega⟩
          refine ⟨k', M6, part (nextS s1), hg6, hgp6, hT6, hO6, hl6, by have := HLL.out; omega, Nat.le_trans HNN.out (by rw [← nextS_nodes s1]; exact hmm.2), ?_, by omega⟩
          rw [← HCC.out]
          show _ = (if isS c_comma s1 then commaS part k' (part (nextS s1)) else s1)
          rw [← HBC.out, if_pos rfl]
        have hmu : muL M.gp w6 < muL M.gp wr := by
          rw [HMU.out, ← hgp6, hg6.mu]
          have := HNX.out
          omega
        first
          | (go_roundw; (case rel => exact hfin); (case measure => exact hmu))
          | (refine ⟨⟨_, _, _, _, hfin, rfl⟩, ?measure⟩; (case measure => exact hmu))
          | (refine ⟨hfin, ?measure⟩; (case measure => exact hmu))
  · go_enter Tryz.func70, Tryz.ntmps70
    go_wp2_with (go_at_call 65; (with_reducible refine (HTA.out).mono ?_); rintro e w1 ⟨rfl, hw1⟩; go_loud (
      have HW1 := Lib.hid hw1;
      clear hw1))
    refine bodyPost_ret (results_none (by rfl) _ _ _) rfl ?_
    refine ⟨rfl, ?_⟩
    have h1 := HW1.out
    unfold takeS at h1
    unfold listS
    rw [← HB.out, if_pos rfl] at h1 ⊢
    exact h1.step
set_option maxHeartbeats 8000000 in
theorem listFunc_any (w : World) (base : Nat) (M : GM) (s : PS) (h : GR w base M s) (caps : Array Value) (part : PS → PS) (hP : PartsC 71 caps w base M s.left.length s.nodes.length part)
    (hm : ∀ t : PS, t.left.length ≤ s.left.length → (part t).left.length ≤ t.left.length ∧ t.nodes.length ≤ (part t).nodes.length) :
    Calls Tryz.prog 70 #[.pointer (some ⟨M.gp, 0, none⟩), .func (.func 71) #[] caps] w fun e w' => e = .returned (.tuple #[]) ∧ GStep w base M (listS part s) w' := by
  have hta := take_any w base M s h ⟨#[41]⟩
  have hstr : str ⟨#[41]⟩ = c_rpar := rfl
  rw [hstr] at hta
  have HTA := Lib.hid hta
  have HH := Lib.hid h
  have HP := Lib.hid hP
  have HM := Lib.hid hm
  obtain ⟨b, hb⟩ : ∃ b, b = isS c_rpar s := ⟨_, rfl⟩
  rw [← hb] at HTA
  have HB := Lib.hid hb
  clear h hP hm hta hb hstr
  cases b
  · go_enter Tryz.func70, Tryz.ntmps70
    go_wp2_with (first
      | (go_at_call 65; (with_reducible refine (HTA.out).mono ?_); rintro e w1 ⟨rfl, hw1⟩; go_loud (
          have hts : takeS c_rpar s = s := (by unfold takeS; rw [← HB.out, if_neg (by simp)]);
          rw [hts] at hw1;
          obtain ⟨M1, hg1, hgp1, hT1, hO1, hl1⟩ := hw1.step;
          have hpc := HP.out w1 M1 s hg1 hgp1 hT1 hO1 hl1 (Nat.le_refl _) (Nat.le_refl _);
          unfold PartC at hpc;
          have HPC := Lib.hid hpc;
          have HGP1 := Lib.hid hgp1;
          have HT1 := Lib.hid hT1;
          have HO1 := Lib.hid hO1;
          have HL1 := Lib.hid hl1;
          clear hts hw1 hg1 hgp1 hT1 hO1 hl1 hpc))
      | (go_at_call 71; (with_reducible refine (HPC.out).mono ?_); rintro e w2 ⟨rfl, hw2⟩; go_loud (
          obtain ⟨M2, hg2, hgp2, hT2, hO2, hl2⟩ := GStep.trans HGP1.out HT1.out HO1.out HL1.out hw2;
          have hmm := HM.out s (Nat.le_refl _);
          have HST : Hid (ListI w base M s.left.length s.nodes.length part (commaS part (part s).left.length (part s)) w2) := Lib.hid ⟨_, M2, part s, hg2, hgp2, hT2, hO2, hl2, hmm.1, hmm.2, rfl, Nat.le_refl _⟩;
          clear hw2 hg2 hgp2 hT2 hO2 hl2 hmm)))
    go_loopw [] (fun wr => ListI w base M s.left.length s.nodes.length part (commaS part (part s).left.length (part s)) wr) (fun wr => muL M.gp wr)
    case atStart => exact HST.out
    case round =>
      obtain ⟨k, M1, s1, hg, hgp, hT, hO, hl, hL, hN, hC, hk⟩ := hrel
      have hta := take_any wr base M1 s1 hg ⟨#[44]⟩
      rw [show str ⟨#[44]⟩ = c_comma from rfl, hgp] at hta
      obtain ⟨b, hb⟩ : ∃ b, b = isS c_comma s1 := ⟨_, rfl⟩
      rw [← hb] at hta
      have HTC := Lib.hid hta
      have HBC := Lib.hid hb
      have HG := Lib.hid hg
      have HGP := Lib.hid hgp
      have HT := Lib.hid hT
      have HO := Lib.hid hO
      have HL := Lib.hid hl
      have HLL := Lib.hid hL
      have HNN := Lib.hid hN
      have HCC := Lib.hid hC
      have HK := Lib.hid hk
      have HMU := Lib.hid (show muL M.gp wr = s1.left.length by rw [← hgp]; exact hg.mu)
      clear hg hgp hT hO hl hL hN hC hk hta hb
      cases b
      · go_wp2_with (first
          | (go_at_call 65; (with_reducible refine (HTC.out).mono ?_); rintro e w5 ⟨rfl, hw5⟩; go_loud (
              have hts : takeS c_comma s1 = s1 := (by unfold takeS; rw [← HBC.out, if_neg (by simp)]);
              rw [hts] at hw5;
              obtain ⟨M5, hg5, hgp5, hT5, hO5, hl5⟩ := GStep.trans HGP.out HT.out HO.out HL.out hw5.step;
              have hwa := want_any w5 base M5 s1 hg5 ⟨#[41]⟩;
              rw [show str ⟨#[41]⟩ = c_rpar from rfl, hgp5] at hwa;
              have HWA := Lib.hid hwa;
              have HGP5 := Lib.hid hgp5;
              have HT5 := Lib.hid hT5;
              have HO5 := Lib.hid hO5;
              have HL5 := Lib.hid hl5;
              clear hts hw5 hg5 hgp5 hT5 hO5 hl5 hwa))
          | (go_at_call 45; (with_reducible refine (HWA.out).mono ?_); rintro e w6 ⟨rfl, hw6⟩; go_loud (
              have HW6 := Lib.hid hw6;
              clear hw6)))
        go_end0
        refine ⟨rfl, ?_⟩
        unfold listS
        rw [← HB.out, if_neg (by simp), ← HCC.out, comma_stop HBC.out.symm]
        exact GStep.trans HGP5.out HT5.out HO5.out HL5.out HW6.out.step
      · go_wp2_with (first
          | (go_at_call 65; (with_reducible refine (HTC.out).mono ?_); rintro e w5 ⟨rfl, hw5⟩; go_loud (
              have hts : takeS c_comma s1 = nextS s1 := (by unfold takeS; rw [← HBC.out, if_pos rfl]);
              rw [hts] at hw5;
              obtain ⟨M5, hg5, hgp5, hT5, hO5, hl5⟩ := GStep.trans HGP.out HT.out HO.out HL.out hw5.step;
              have hnx := isS_pos HBC.out.symm;
              have hpc := HP.out w5 M5 (nextS s1) hg5 hgp5 hT5 hO5 hl5 (by have := HLL.out; omega) (by rw [nextS_nodes]; exact HNN.out);
              unfold PartC at hpc;
              have HPC2 := Lib.hid hpc;
              have HNX := Lib.hid hnx;
              have HGP5 := Lib.hid hgp5;
              have HT5 := Lib.hid hT5;
              have HO5 := Lib.hid hO5;
              have HL5 := Lib.hid hl5;
              clear hts hw5 hg5 hgp5 hT5 hO5 hl5 hpc hnx))
          | (go_at_call 71; (with_reducible refine (HPC2.out).mono ?_); rintro e w6 ⟨rfl, hw6⟩; go_loud (
              have HW6 := Lib.hid hw6;
              clear hw6)))
        obtain ⟨M6, hg6, hgp6, hT6, hO6, hl6⟩ := GStep.trans HGP5.out HT5.out HO5.out HL5.out HW6.out
        have hmm := HM.out (nextS s1) (by have := HLL.out; have := HNX.out; omega)
        have hfin : ListI w base M s.left.length s.nodes.length part (commaS part (part s).left.length (part s)) w6 := by
          have hk := HK.out
          have hn := HNX.out
          obtain ⟨k', rfl⟩ : ∃ k', k = k' + 1 := ⟨k - 1, by omega⟩
          refine ⟨k', M6, part (nextS s1), hg6, hgp6, hT6, hO6, hl6, by have := HLL.out; omega, Nat.le_trans HNN.out (by rw [← nextS_nodes s1]; exact hmm.2), ?_, by omega⟩
          rw [← HCC.out]
          show _ = (if isS c_comma s1 then commaS part k' (part (nextS s1)) else s1)
          rw [← HBC.out, if_pos rfl]
        have hmu : muL M.gp w6 < muL M.gp wr := by
          rw [HMU.out, ← hgp6, hg6.mu]
          have := HNX.out
          omega
        first
          | (go_roundw; (case rel => exact hfin); (case measure => exact hmu))
          | (refine ⟨⟨_, _, _, _, hfin, rfl⟩, ?measure⟩; (case measure => exact hmu))
          | (refine ⟨hfin, ?measure⟩; (case measure => exact hmu))
  · go_enter Tryz.func70, Tryz.ntmps70
    go_wp2_with (go_at_call 65; (with_reducible refine (HTA.out).mono ?_); rintro e w1 ⟨rfl, hw1⟩; go_loud (
      have HW1 := Lib.hid hw1;
      clear hw1))
    refine bodyPost_ret (results_none (by rfl) _ _ _) rfl ?_
    refine ⟨rfl, ?_⟩
    have h1 := HW1.out
    unfold takeS at h1
    unfold listS
    rw [← HB.out, if_pos rfl] at h1 ⊢
    exact h1.step
end Go.Proofs.YtecbaceinifjiaaGreatDoor
namespace Go.Proofs.YtecbaceinifjiaaGreatDoor
open Go.RowKit
set_option linter.unusedSimpArgs false
set_option linter.unusedVariables false
theorem take_at {P : Program} {ops : Array Oper} {Q : Exit → Act → World → Prop} {md : Region.Mode} {S : World → Prop} {i : Nat} {oi : Oper} {v : Value} {fuel : Nat} {listed : Array Bool} {a : Act} {w : World} (d : Option Tmp)
    (hi : ops[i]? = some oi) (hd : oi.dst = d) (hs : Region.noSelect ops = true) (hf : Region.free md ops listed i = true) (hr : (Region.ready md ops listed).contains i = true)
    (hQ : ∀ c a w, Q (.panic c) (a.put d v) w → Q (.panic c) a w) (hy : YieldsIf P ops S oi v a) (hS : S w)
    (h : wpAnyH P md ops Q S fuel (listed.setIfInBounds i true) (a.put d v) w) : wpAnyH P md ops Q S (fuel + 1) listed a w := by
  subst hd
  exact wpAnyH_take hi hs hf hr hQ hy hS h
theorem wp_any_world {c : Code} {P : Program} {Q : Exit → Act → World → Prop} {a : Act} {w : World} (h : ∀ wy, wy = w → c.wp P Q a wy) : c.wp P Q a w := h w rfl
end Go.Proofs.YtecbaceinifjiaaGreatDoor
namespace Go.Proofs.YtecbaceinifjiaaGreatDoor
open Go.RowKit
set_option linter.unusedSimpArgs false
set_option linter.unusedVariables false
set_option maxRecDepth 100000
attribute [local go_sem] Oper.semAt_some undef
theorem callC_snoc (l : List (Nat × List Nat × List Nat)) (c : Nat × List Nat × List Nat) : callC (l ++ [c]) = callC l ++ [.int .u64 (c.1 : Int), .string (ba c.2.1), .string (ba c.2.2)] := by unfold callC; rw [List.flatMap_append]; simp
/-- One call more. -/
theorem GR.addCall {w x w5 : World} {base g cap : Nat} {M : GM} {s : PS} {ci : Nat} {cm cn : List Nat} (h : GR w base M s) (hx : Below w.heap.size w x) (hg : x.grownBy w5 M.cv.ownBlock)
    (hown : w5.ownsRow base 80 3 (.slice (some ⟨g, 0, none⟩) (s.calls.length + 1) cap) (s.calls.length + 1) (callC s.calls ++ [.int .u64 (ci : Int), .string (ba cm), .string (ba cn)])) (hloc : M.cv.ownBlock = some g ∨ g = x.heap.size) (hm : GoodN cm) (hn : GoodN cn) (hci : ci < 18446744073709551616) (hs : s.calls.length + 1 ≤ s.cnt) :
    GR (w5.setCell ⟨M.gp, 9, none⟩ (.slice (some ⟨g, 0, none⟩) (s.calls.length + 1) cap)) base { M with cv := .slice (some ⟨g, 0, none⟩) (s.calls.length + 1) cap } { s with calls := s.calls ++ [(ci, cm, cn)] } ∧
      Touch w (w5.setCell ⟨M.gp, 9, none⟩ (.slice (some ⟨g, 0, none⟩) (s.calls.length + 1) cap)) (OwnG M) ∧
      ∀ j, OwnG { M with cv := .slice (some ⟨g, 0, none⟩) (s.calls.length + 1) cap } j → OwnG M j ∨ w.heap.size ≤ j := by
  have h1 := h.below hx
  have hr : ∀ j, M.cv.ownBlock = some j → ∃ cs, x.heap[j]? = some (.cells cs 80 (0, 0)) := fun j e => own_ty h1.calls e
  have hst5 : w5.heap[M.gp]? = some (.cells (pcells M s) 59 (0, 0)) := (kept_cells hg hr (by decide) h1.st).trans h1.st
  obtain ⟨nv', hnv⟩ : ∃ v : Value, v = .slice (some ⟨g, 0, none⟩) (s.calls.length + 1) cap := ⟨_, rfl⟩
  rw [← hnv] at hown ⊢
  have hnd : NodeRow w5 base M.nv M.kvs s.nodes := h1.nodes.at_ (fun j cs hj => kept_cells hg hr (by decide) hj) (fun j cs hj => kept_cells hg hr (by decide) hj)
  have hsh : w5.ownsRow base 9 1 M.sv s.shown.length (strC s.shown) := ownsRow_at h1.shown fun j cs hj => kept_cells hg hr (by decide) hj
  have hR := (h1.rest hg hr (by decide)).at_ (y := w5.setCell ⟨M.gp, 9, none⟩ nv') hst5 fun j _ hj => heap_setCell_other w5 ⟨M.gp, 9, none⟩ j nv' hj
  refine ⟨⟨heap_setCell_same _ M.gp 9 _ _ _ hst5, hR.left, hnd.at_ (fun j cs hj => setSt_other hst5 (by decide) hj) (fun j cs hj => setSt_other hst5 (by decide) hj), hR.mods, hR.funs, hR.taken, hR.vis,
    ownsRow_at hsh fun j cs hj => setSt_other hst5 (by decide) hj, by rw [List.length_append, callC_snoc]; exact ownsRow_at hown fun j cs hj => setSt_other hst5 (by decide) hj, h.o1, h.o2, h.o3, h.o4, h.o5, h.n1, h.n2, h.n3, ?_, h.goodT, h.goodS, fun m hm2 => ?_, h.sum, h.sh, by rw [List.length_append]; exact hs, h.dep, h.flt, h.vs.on (((hx.mono h.hb).grown hg (Nat.le_trans h.hb hx.size) (fun g e => (h.own (.inr (.inr (.inr (.inr (.inr (.inr (.inr (.inr e))))))))).1)).setCell (p := ⟨M.gp, 9, none⟩) h.o1 _) h.gb, h.gb, h.vb⟩, ?_, ?_⟩
  · exact Nat.le_trans h.hb (Nat.le_trans hx.size (Nat.le_trans hg.size (by simp)))
  · rcases List.mem_append.1 hm2 with hm2 | hm2
    · exact h.goodC m hm2
    · rw [List.mem_singleton] at hm2; rw [hm2]; exact ⟨hm, hn, hci⟩
  · have hT : Touch w w5 (OwnG M) := (Touch.of_below hx _).trans (Touch.of_grown hg (S := OwnG M) fun j e => .inr (.inr (.inr (.inr (.inr (.inr (.inr (.inr e)))))))) fun j e => .inl e
    exact hT.setCell ⟨M.gp, 9, none⟩ _ (.inl (.inl rfl))
  · intro j hj
    rcases hj with e | e | e | e | e | e | e | e | e
    · exact .inl (.inl e)
    · exact .inl (.inr (.inl e))
    · exact .inl (.inr (.inr (.inl e)))
    · exact .inl (.inr (.inr (.inr (.inl e))))
    · exact .inl (.inr (.inr (.inr (.inr (.inl e)))))
    · exact .inl (.inr (.inr (.inr (.inr (.inr (.inl e))))))
    · exact .inl (.inr (.inr (.inr (.inr (.inr (.inr (.inl e)))))))
    · exact .inl (.inr (.inr (.inr (.inr (.inr (.inr (.inr (.inl e))))))))
    · rw [hnv] at e
      injection e with e
      subst e
      rcases hloc with h9 | h9
      · exact .inl (.inr (.inr (.inr (.inr (.inr (.inr (.inr (.inr h9))))))))
      · exact .inr (by show w.heap.size ≤ g; rw [h9]; exact hx.size)
theorem infoCall : (Tryz.prog.info? 80).map (fun i => (i.zero, i.size, i.bytes)) = some (some (.agg #[.int .u64 0, .string ⟨#[]⟩, .string ⟨#[]⟩]), 3, 40) := by kernel_rfl
end Go.Proofs.YtecbaceinifjiaaGreatDoor
namespace Go.Proofs.YtecbaceinifjiaaGreatDoor
open Go.RowKit
set_option linter.unusedSimpArgs false
set_option linter.unusedVariables false
/-- From s to s' nothing is won but by tokens: d more could have been made. -/
structure Ok (s s' : PS) (d : Nat) : Prop where
  left : s'.left.length ≤ s.left.length
  nodes : s.nodes.length ≤ s'.nodes.length
  depth : s'.depth = s.depth
  sum : s'.left.length * 16 + s'.nodes.length + s'.cnt + d ≤ s.left.length * 16 + s.nodes.length + s.cnt
theorem Ok.refl (s : PS) : Ok s s 0 := ⟨Nat.le_refl _, Nat.le_refl _, rfl, Nat.le_refl _⟩
theorem Ok.trans {a b c : PS} {d e : Nat} (h : Ok a b d) (k : Ok b c e) : Ok a c (d + e) := ⟨Nat.le_trans k.left h.left, Nat.le_trans h.nodes k.nodes, k.depth.trans h.depth, by have := h.sum; have := k.sum; omega⟩
theorem Ok.less {a b : PS} {d e : Nat} (h : Ok a b d) (he : e ≤ d) : Ok a b e := ⟨h.left, h.nodes, h.depth, by have := h.sum; omega⟩
theorem ok_fail (s : PS) : Ok s (failS s) 0 := ⟨Nat.zero_le _, Nat.le_refl _, rfl, by show 0 * 16 + s.nodes.length + s.cnt + 0 ≤ s.left.length * 16 + s.nodes.length + s.cnt; omega⟩
theorem ok_next (s : PS) : Ok s (nextS s) 0 := by
  unfold nextS
  cases hs : s.left with
  | nil => exact ok_fail s
  | cons t r => exact ⟨by rw [hs]; exact Nat.le_succ _, Nat.le_refl _, rfl, by rw [hs]; show r.length * 16 + s.nodes.length + s.cnt + 0 ≤ (r.length + 1) * 16 + s.nodes.length + s.cnt; omega⟩
theorem ok_next2 {s : PS} (h : 0 < s.left.length) : Ok s (nextS s) 16 := by
  unfold nextS
  cases hs : s.left with
  | nil => rw [hs] at h; exact absurd h (by simp)
  | cons t r => exact ⟨by rw [hs]; exact Nat.le_succ _, Nat.le_refl _, rfl, by rw [hs]; show r.length * 16 + s.nodes.length + s.cnt + 16 ≤ (r.length + 1) * 16 + s.nodes.length + s.cnt; omega⟩
theorem ok_want (t : List Nat) (s : PS) : Ok s (wantS t s) 0 := by
  unfold wantS
  split
  · exact ok_next s
  · exact ok_fail s
theorem ok_name (s : PS) : Ok s (nameS s) 0 := by
  unfold nameS
  split
  · exact ok_next s
  · exact (ok_next s).trans (ok_fail _)
theorem Ok.grow {a b : PS} {d : Nat} (h : Ok a b (d + 1)) (u : Nat) (n : Nd) : Ok a (growS u n b) d := by
  obtain ⟨h1, h2, h3, h4⟩ := grow_facts u n b
  refine ⟨by rw [h1]; exact h.left, by rw [h2]; exact Nat.le_succ_of_le h.nodes, by rw [h4]; exact h.depth, ?_⟩
  rw [h1, h2, h3]
  have := h.sum
  omega
theorem ok_nest {f : PS → PS} {s : PS} {d : Nat} (h : Ok { s with depth := s.depth + 1 } (f { s with depth := s.depth + 1 }) 0) : Ok s (nestS f s) 0 := by
  unfold nestS
  split
  · exact ok_fail s
  · exact ⟨h.left, h.nodes, by show (f { s with depth := s.depth + 1 }).depth - 1 = s.depth; rw [h.depth]; rfl, h.sum⟩
theorem ok_comma {part : PS → PS} (hp : ∀ t, Ok t (part t) 0) : ∀ (k : Nat) (s : PS), Ok s (commaS part k s) 0
  | 0, s => Ok.refl s
  | k + 1, s => by
    show Ok s (if isS c_comma s then commaS part k (part (nextS s)) else s) 0
    split
    · exact ((ok_next s).trans (hp _)).trans (ok_comma hp k _)
    · exact Ok.refl s
theorem ok_list {part : PS → PS} (hp : ∀ t, Ok t (part t) 0) (s : PS) : Ok s (listS part s) 0 := by
  unfold listS
  split
  · exact ok_next s
  · exact ((hp s).trans (ok_comma hp _ _)).trans (ok_want _ _)
theorem ok_call {ex : Nat → PS → PS} (hx : ∀ u t, Ok t (ex u t) 0) (u : Nat) (m : List Nat) {a s : PS} {d : Nat} (h : Ok a s (d + 2)) : Ok a (callS ex u m s) d := by
  unfold callS
  have h1 := ((h.grow u (nd0 19)).trans (ok_want c_dot _)).trans (ok_name _)
  have h2 : Ok a { nameS (wantS c_dot (growS u (nd0 19) s)) with calls := (nameS (wantS c_dot (growS u (nd0 19) s))).calls ++ [(growId s, m, nameT (wantS c_dot (growS u (nd0 19) s)))], cnt := (nameS (wantS c_dot (growS u (nd0 19) s))).cnt + 1 } d :=
    ⟨h1.left, h1.nodes, h1.depth, by have h9 := h1.sum; show (nameS (wantS c_dot (growS u (nd0 19) s))).left.length * 16 + (nameS (wantS c_dot (growS u (nd0 19) s))).nodes.length + ((nameS (wantS c_dot (growS u (nd0 19) s))).cnt + 1) + d ≤ _; omega⟩
  exact (h2.trans (ok_want c_lpar _)).trans (ok_nest (d := 0) (ok_list (hx _) _))
theorem ok_var (n : List Nat) (s : PS) : Ok s (varS n s) 0 := by
  unfold varS
  split
  · exact ⟨Nat.le_refl _, Nat.le_refl _, rfl, Nat.le_refl _⟩
  · exact Ok.refl s
theorem ok_num (id v : Nat) (s : PS) : Ok s (numOf id v s) 0 := by
  have h : (numOf id v s).nodes.length = s.nodes.length := by show (setN id _ s.nodes).length = _; unfold setN; rw [List.length_modify]
  exact ⟨Nat.le_refl _, by rw [h]; exact Nat.le_refl _, rfl, by rw [h]; exact Nat.le_refl _⟩
theorem ok_bin {ex : Nat → PS → PS} (hx : ∀ u t, Ok t (ex u t) 0) (u : Nat) {a s : PS} {d : Nat} (h : Ok a s (d + 1)) : Ok a (binS ex u s) d := by
  unfold binS
  refine (h.grow u (nd0 18)).trans (ok_nest (d := 0) ?_)
  dsimp only
  have h2 : ∀ t : PS, Ok t (if opG (nextT t).text = 0 then failS (nextS t) else nextS t) 0 := fun t => by
    split
    · exact (ok_next _).trans (ok_fail _)
    · exact ok_next _
  exact ((((hx _ _).trans (h2 _)).trans (ok_num _ _ _)).trans (hx _ _)).trans (ok_want _ _)
theorem ok_expr : ∀ (f u : Nat) (s : PS), Ok s (exprS f u s) 0
  | 0, u, s => Ok.refl s
  | f + 1, u, s => by
    show Ok s (if (nextT s).kind = 2 then growS u { nd0 13 with num := (valL (nextT s).text : Int) } (nextS s)
      else if (nextT s).kind = 1 then (if isS c_dot (nextS s) then callS (exprS f) u (nextT s).text (nextS s) else growS u { nd0 15 with ref := (nextS s).vis (nextT s).text } (varS (nextT s).text (nextS s)))
      else if (nextT s).text = c_true then growS u { nd0 14 with num := 1 } (nextS s)
      else if (nextT s).text = c_false then growS u (nd0 14) (nextS s)
      else if (nextT s).text = c_read then growS u (nd0 20) (nextS s)
      else if (nextT s).text = c_bang then nestS (exprS f (growId (nextS s))) (growS u (nd0 16) (nextS s))
      else if (nextT s).text = c_minus then nestS (exprS f (growId (nextS s))) (growS u (nd0 17) (nextS s))
      else if (nextT s).text = c_lpar then binS (exprS f) u (nextS s)
      else failS (nextS s)) 0
    rcases Nat.eq_zero_or_pos s.left.length with h0 | h0
    · have hl : s.left = [] := List.eq_nil_of_length_eq_zero h0
      have ht : nextT s = noTok := by unfold nextT; rw [hl]
      rw [ht]
      rw [if_neg (by decide), if_neg (by decide), if_neg (by decide), if_neg (by decide), if_neg (by decide), if_neg (by decide), if_neg (by decide), if_neg (by decide)]
      exact (ok_next s).trans (ok_fail _)
    · have hn := ok_next2 h0
      split
      · exact (hn.less (by omega)).grow u _
      · split
        · split
          · exact ok_call (fun u t => ok_expr f u t) u _ (hn.less (by omega))
          · exact (((hn.trans (ok_var _ _)).less (by omega)).grow u _)
        · split
          · exact (hn.less (by omega)).grow u _
          · split
            · exact (hn.less (by omega)).grow u _
            · split
              · exact (hn.less (by omega)).grow u _
              · split
                · exact ((hn.less (e := 1) (by omega)).grow u _).trans (ok_nest (d := 0) (ok_expr f _ _))
                · split
                  · exact ((hn.less (e := 1) (by omega)).grow u _).trans (ok_nest (d := 0) (ok_expr f _ _))
                  · split
                    · exact ok_bin (fun u t => ok_expr f u t) u (hn.less (by omega))
                    · exact (ok_next s).trans (ok_fail _)
end Go.Proofs.YtecbaceinifjiaaGreatDoor
