/- Contracts: a node is taken out of an arena. -/
import Derived.Test.YtogkeoainejfcaaASet
namespace Go.Proofs.Ytogkeoainejfcaa
open Go.RowKit
set_option linter.unusedSimpArgs false
set_option linter.unusedVariables false
set_option maxRecDepth 100000
set_option maxHeartbeats 8000000 in
theorem unset_any (w : World) (base ga gm gp id N : Nat) (F : PF) (vs : List (Nat × Value)) (ns : List (Nat × Nd)) (h : AR w base ga gm gp F vs ns N) (hid : id < 18446744073709551616) (hN : N + ((getL ns id).getD zeroNd).kids.length ≤ 999999990) :
    Calls Try.prog 42 #[.pointer (some ⟨ga, 0, none⟩), .int .u64 (id : Int)] w (SetR w base ga gm gp F (delL ns id) (N + ((getL ns id).getD zeroNd).kids.length)) := by
  obtain ⟨Ao, co, hold, hos, hook, _⟩ := h.nodes.get id
  obtain ⟨o, ho⟩ : ∃ o, o = (getL ns id).getD zeroNd := ⟨_, rfl⟩
  rw [← ho] at hold hos hook hN ⊢
  have q0 : w.cell? ⟨ga, 0, none⟩ = some (.map (some gm)) := by unfold World.cell?; rw [h.st]; rfl
  have q1 : w.cell? ⟨ga, 1, none⟩ = some (.map (some gp)) := by unfold World.cell?; rw [h.st]; rfl
  have HEX : Hid (∀ y, Below w.heap.size w y → Calls Try.prog 61 #[.map (some gp), .int .u64 (id : Int), .slice Ao o.kids.length co, .slice none 0 0] y (AddC y base gp F (cntOf (delL ns id)) (N + o.kids.length))) := Lib.hid fun y hy => by
    have hex := exchange_any y base gp id F (cntOf ns) N _ _ o.kids [] (h.par.below hy) hid ((hos.below hy).up hy.size) (IdSl.nil _ _) (fun k => by rw [ho]; exact cnt_le id k) (by simp; omega) (Nat.le_trans h.hb hy.size)
    rw [ho, exC_del, ← ho] at hex
    exact hex
  have hfk := fun x => run_kids x (o.kind : Int) (o.typ : Int) (o.ref : Int) o.num o.name (.slice Ao o.kids.length co)
  have HLK : Hid (∀ y, Below w.heap.size w y → y.cell? ⟨ga, 0, none⟩ = some (.map (some gm)) ∧ y.cell? ⟨ga, 1, none⟩ = some (.map (some gp)) ∧ (Instr.lookup 70 (.map (some gm)) (.int .u64 (id : Int)) false).run Try.prog y = .ok (.agg #[.int .u8 (o.kind : Int), .string o.name, .int .i64 o.num, .int .u8 (o.typ : Int), .int .u64 (o.ref : Int), .slice Ao o.kids.length co]) y) := Lib.hid fun y hy => ⟨(hy.cell (p := ⟨ga, 0, none⟩) (lt_of_heap2 h.st)).trans q0, (hy.cell (p := ⟨ga, 1, none⟩) (lt_of_heap2 h.st)).trans q1, run_look _ 33 Try.underlying70 _ (zeroNode _) (b := gm) (l := vs) (h.below hy).map id hid _ hold⟩
  have HH := Lib.hid h
  have HOLD := Lib.hid hold
  clear h hold hos ho
  go_enter Try.func42, Try.ntmps42
  go_wp2_with fail
  obtain ⟨_, _, hlk⟩ := HLK.out w.drew (Below.refl _ _).drew
  go_cut [] (fun wx => ∃ F1 : PF, ParC wx base gp F1 (cntOf (delL ns id)) (N + o.kids.length) ∧ Touch w wx (fun j => j = gp ∨ OwnsF F j) ∧ (∀ j, OwnsF F1 j → OwnsF F j ∨ w.heap.size ≤ j))
  case first =>
    go_region_law (go_simp; go_at_call 61; (with_reducible refine (HEX.out _ (ride_drew (Below.refl _ _))).mono ?_); rintro e w1 ⟨rfl, F1, hP1, hT1, hO1⟩)
    all_goals
      go_wp2_with fail
      go_meet
      exact ⟨F1, hP1, ((Touch.refl w _).drewN 1).trans hT1 (fun j e => .inl e), hO1⟩
  case rest =>
  obtain ⟨F1, hP1, hT1, hO1⟩ := hcut
  have HP1 := Lib.hid hP1
  have HO1 := Lib.hid hO1
  have HT1 := Lib.hid hT1
  have hst := HH.out.other (w' := wc) (hT1.more fun j e => .inr e) HH.out.st (by decide)
  have p0 : wc.cell? ⟨ga, 0, none⟩ = some (.map (some gm)) := by unfold World.cell?; rw [hst]; rfl
  have hM1 : MapV wc gm vs := HH.out.map.at_ (hT1.block gm HH.out.map.lt (fun e => by
    rcases e with e | e
    · exact HH.out.ne e
    · obtain ⟨es, clock, h1⟩ := HH.out.map.obj
      obtain ⟨cs, h2⟩ := e.ty HH.out.par.par
      rw [h1] at h2
      cases h2))
  have HM1 := Lib.hid hM1
  have HST := Lib.hid hst
  clear hP1 hO1 hT1 hM1 hst hlk hfk q0 q1
  go_wp2_with (at_delete; go_loud (
    refine wpList_less _ rfl _ _ 70 33 rfl Try.underlying70 gm vs rfl HM1.out id hid rfl ?_;
    intro w2 hM2 hT2;
    have HM2 := Lib.hid hM2;
    have HT2 := Lib.hid hT2;
    clear hM2 hT2))
  go_end0
  have hT2c : Touch wc w2 (fun j => j = gm) := Touch.turned HT2.out rfl
  have hTX : Touch w w2 (OwnA gm gp F) := (HT1.out.more (S' := OwnA gm gp F) fun j e => .inr e).trans hT2c (fun j e => .inl (.inl e))
  have hgm : ∃ es clock, wc.heap[gm]? = some (.map es clock) := HM1.out.obj
  have hF1 : ∀ j, OwnsF F1 j → j ≠ gm := fun j hj e => by
    obtain ⟨es, clock, h1⟩ := hgm
    obtain ⟨cs, h2⟩ := hj.ty HP1.out.par
    rw [e, h1] at h2
    cases h2
  have hne := HH.out.ne
  refine ⟨rfl, F1, _, ⟨(hT2c.block ga (lt_of_heap2 HST.out) (fun e => by
    obtain ⟨es, clock, h1⟩ := hgm
    have h2 := HST.out
    rw [e, h1] at h2
    cases h2)).trans HST.out, HM2.out, HH.out.rise.del id, ?_, ⟨HP1.out.par.touch (w' := w2) (S := fun j => j = gm) hT2c (fun e => hne e.symm) (fun j hj e => hF1 j hj e), HP1.out.cnt, HP1.out.rows, HP1.out.keys, HP1.out.few⟩, hne, HH.out.o1, HH.out.o2, HH.out.o3, Nat.le_trans HH.out.hb hTX.size⟩, hTX, HO1.out⟩
  have hkeep : ∀ (j : Nat) (cs : Array Value) (z : Nat × Nat), w.heap[j]? = some (.cells cs 24 z) → w2.heap[j]? = w.heap[j]? := fun j cs z hj => (HH.out.other hTX hj (by decide)).trans hj.symm
  exact NodesV.del (HH.out.nodes.keep hTX.size hkeep) id
end Go.Proofs.Ytogkeoainejfcaa
