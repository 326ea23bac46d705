/- APut, AUnset: joined by program (tools/merge.py). -/
import Derived.Test.YtdphpjlhkamadaaZ8
import Derived.Test.YtdphpjlhkamadaaZ7
namespace Go.Proofs.Ytdphpjlhkamadaa
open Go.RowKit
set_option linter.unusedSimpArgs false
set_option linter.unusedVariables false
set_option maxRecDepth 100000
def PutR (w : World) (base ga gm gp : Nat) (F : PF) (k : Int) (ns' : List (Nat × Nd)) (N' : Nat) (e : Ending) (w' : World) : Prop :=
  e = .returned (.int .i64 k) ∧ ∃ F' vs', AR w' base ga gm gp F' vs' ns' N' ∧ Touch w w' (OwnA gm gp F) ∧ (∀ j, OwnsF F' j → OwnsF F j ∨ w.heap.size ≤ j)
theorem run_count {w : World} (t e : TypeId) (ht : Try.prog.underlying t = some (.map 24 e)) {b : Nat} {l : List (Nat × Value)} (h : MapV w b l) (ty : TypeId) :
    (Builtin.len_ #[t] ty #[.map (some b)]).run Try.prog w = .ok (.int .i64 (l.length : Int)) w := by
  have h1 := h.own.len ht ty
  rw [mapD_size] at h1
  exact h1
theorem put_nil (w : World) (x kv : Value) (n : Nd) : Calls Try.prog 27 #[.pointer none, x, ndV n kv] w (fun e w' => e = .returned (.int .i64 3) ∧ Below w.heap.size w w') := by
  unfold ndV
  go_enter Try.func27, Try.ntmps27
  go_wp2_with fail
  go_ret
  exact ⟨rfl, (Below.refl _ _).alloc (Nat.le_refl _) _⟩
theorem AR.putR {w w' : World} {base ga gm gp N : Nat} {F : PF} {vs : List (Nat × Value)} {ns : List (Nat × Nd)} (h : AR w base ga gm gp F vs ns N) (hb : Below w.heap.size w w') (k : Int) : PutR w base ga gm gp F k ns N (.returned (.int .i64 k)) w' :=
  ⟨rfl, F, vs, h.below hb, (Touch.of_below hb (fun _ => False)).more (fun _ e => e.elim), fun j hj => .inl hj⟩
theorem put_zero (w : World) (base ga gm gp N : Nat) (F : PF) (vs : List (Nat × Value)) (ns : List (Nat × Nd)) (kv : Value) (n : Nd) (h : AR w base ga gm gp F vs ns N) :
    Calls Try.prog 27 #[.pointer (some ⟨ga, 0, none⟩), .int .u64 0, ndV n kv] w (PutR w base ga gm gp F 1 ns N) := by
  have HH := Lib.hid h
  clear h
  unfold ndV
  go_enter Try.func27, Try.ntmps27
  go_wp2_with fail
  go_ret
  exact HH.out.putR ((Below.refl _ _).alloc (Nat.le_refl _) _) 1
set_option maxHeartbeats 4000000 in
theorem put_full (w : World) (base ga gm gp id N : Nat) (F : PF) (vs : List (Nat × Value)) (ns : List (Nat × Nd)) (kv : Value) (n : Nd) (h : AR w base ga gm gp F vs ns N) (hid : id < 18446744073709551616) (h0 : id ≠ 0) (hh : hasL ns id = false) (hl : 20000 ≤ ns.length) :
    Calls Try.prog 27 #[.pointer (some ⟨ga, 0, none⟩), .int .u64 (id : Int), ndV n kv] w (PutR w base ga gm gp F 5 ns N) := by
  have hz : ¬ (id : Int) = 0 := by omega
  have hz2 : ((id : Int) == 0) = false := by rw [beq_eq_false_iff_ne]; exact hz
  have hlen := nodes_len h.nodes h.map.rise h.rise
  have hv : ¬ ((vs.length : Int) < 20000) := by omega
  have hv2 : (20000 : Int) ≤ vs.length := by omega
  have HAS : Hid (∀ y, Below w.heap.size w y → Calls Try.prog 57 #[.pointer (some ⟨ga, 0, none⟩), .int .u64 (id : Int)] y (fun e w' => e = .returned (.bool false) ∧ Below y.heap.size y w')) := Lib.hid fun y hy => by
    have := has_any y base ga gm gp id N F vs ns (h.below hy) hid
    rw [hh] at this
    exact this
  have HH := Lib.hid h
  clear h hlen
  unfold ndV
  go_enter Try.func27, Try.ntmps27
  go_wp2_with (first
    | (go_at_call 57; (with_reducible refine (HAS.out _ (ride_alloc (Below.refl _ _) _)).mono ?_); rintro e w1 ⟨rfl, hb1⟩; go_loud (
        have hbw := ride_call hb1 (ride_alloc (Below.refl w.heap.size w) _);
        have q0 : w1.cell? ⟨ga, 0, none⟩ = some (.map (some gm)) := (by unfold World.cell?; rw [(HH.out.below hbw).st]; rfl);
        have q1 := run_count 70 33 Try.underlying70 (HH.out.below hbw).map 3;
        have HBW := Lib.hid hbw;
        clear hb1 hbw)))
  go_ret
  exact HH.out.putR HBW.out 5
set_option maxHeartbeats 4000000 in
theorem put_good (w : World) (base ga gm gp id N : Nat) (F : PF) (vs : List (Nat × Value)) (ns : List (Nat × Nd)) (n : Nd) (A : Option Addr) (c : Nat) (h : AR w base ga gm gp F vs ns N) (hid : id < 18446744073709551616) (h0 : id ≠ 0) (hh : hasL ns id = true ∨ ns.length < 20000) (hv : NodeV w (ndV n (.slice A n.kids.length c)) n) (hs : IdSl w w.heap.size (.slice A n.kids.length c) n.kids)
    (hN : N + ((getL ns id).getD zeroNd).kids.length + n.kids.length ≤ 999999990) (hns : ns.length ≤ 1000000000) :
    Calls Try.prog 27 #[.pointer (some ⟨ga, 0, none⟩), .int .u64 (id : Int), ndV n (.slice A n.kids.length c)] w (PutR w base ga gm gp F 0 (putL' ns id n) (N + ((getL ns id).getD zeroNd).kids.length + n.kids.length)) := by
  have hz : ¬ (id : Int) = 0 := by omega
  have hz2 : ((id : Int) == 0) = false := by rw [beq_eq_false_iff_ne]; exact hz
  have hlen := nodes_len h.nodes h.map.rise h.rise
  obtain ⟨N', hN'⟩ : ∃ N', N' = N + ((getL ns id).getD zeroNd).kids.length + n.kids.length := ⟨_, rfl⟩
  have HSET : Hid (∀ y A c, Below w.heap.size w y → NodeV y (ndV n (.slice A n.kids.length c)) n → Calls Try.prog 38 #[.pointer (some ⟨ga, 0, none⟩), .int .u64 (id : Int), ndV n (.slice A n.kids.length c)] y (SetR y base ga gm gp F (putL' ns id n) N')) := Lib.hid fun y A c hy hn => by
    rw [hN']
    exact set_any y base ga gm gp id N F vs ns _ n (h.below hy) hn hid hN hns
  have HW : Hid (∀ y, Below w.heap.size w y → Calls Try.prog 17 #[ndV n (.slice A n.kids.length c)] y (WholeR y n)) := Lib.hid fun y hy => whole_any y n A c (hv.below hy) ((hs.below hy).up hy.size)
  have HAS : Hid (∀ y, Below w.heap.size w y → Calls Try.prog 57 #[.pointer (some ⟨ga, 0, none⟩), .int .u64 (id : Int)] y (fun e w' => e = .returned (.bool (hasL ns id)) ∧ Below y.heap.size y w')) := Lib.hid fun y hy => has_any y base ga gm gp id N F vs ns (h.below hy) hid
  rw [← hN']
  have HH := Lib.hid h
  clear h hv hs
  unfold ndV
  rcases hb : hasL ns id with _ | _
  · rw [hb] at HAS
    have hv : ((vs.length : Int) < 20000) := by
      rcases hh with hh | hh
      · rw [hb] at hh; cases hh
      · omega
    have hv2 : ¬ (20000 : Int) ≤ vs.length := by omega
    clear hlen hh hN hns hN'
    go_enter Try.func27, Try.ntmps27
    go_wp2_with (first
      | (go_at_call 57; (with_reducible refine (HAS.out _ (ride_alloc (Below.refl _ _) _)).mono ?_); rintro e w1 ⟨rfl, hb1⟩; go_loud (
          have hbw := ride_call hb1 (ride_alloc (Below.refl w.heap.size w) _);
          have q0 : w1.cell? ⟨ga, 0, none⟩ = some (.map (some gm)) := (by unfold World.cell?; rw [(HH.out.below hbw).st]; rfl);
          have q1 := run_count 70 33 Try.underlying70 (HH.out.below hbw).map 3;
          obtain ⟨b0, b1, b2, b3, b4, b5, b6⟩ := box_cells ((hb1.block w.heap.size (by simp)).trans (Go.heap_alloc_new w _));
          have HBW := Lib.hid hbw;
          clear hb1 hbw))
      | (go_at_call 17; (refine (HW.out _ HBW.out).mono ?_); rintro e w2 ⟨A1, c1, rfl, hI, hfr, hb2⟩; go_loud (
          unfold ndV;
          have HI := Lib.hid hI;
          have HB2 := Lib.hid (HBW.out.trans (hb2.mono HBW.out.size));
          clear hI hfr hb2))
      | (go_at_call 38; (refine (HSET.out _ A1 c1 HB2.out HI.out).mono ?_); rintro e w3 ⟨rfl, F1, vs1, hA, hT, hO⟩; go_loud (
          have HA := Lib.hid hA;
          have HT := Lib.hid hT;
          have HO := Lib.hid hO;
          clear hA hT hO)))
    go_ret
    exact ⟨rfl, F1, vs1, HA.out, ((Touch.of_below HB2.out (fun _ => False)).more (S' := OwnA gm gp F) (fun _ e => e.elim)).trans HT.out (fun j e => .inl e), fun j hj => (HO.out j hj).imp (fun h => h) fun h => Nat.le_trans HB2.out.size h⟩
  · rw [hb] at HAS
    clear hlen hh hN hns hN'
    go_enter Try.func27, Try.ntmps27
    go_wp2_with (first
      | (go_at_call 57; (with_reducible refine (HAS.out _ (ride_alloc (Below.refl _ _) _)).mono ?_); rintro e w1 ⟨rfl, hb1⟩; go_loud (
          have hbw := ride_call hb1 (ride_alloc (Below.refl w.heap.size w) _);
          obtain ⟨b0, b1, b2, b3, b4, b5, b6⟩ := box_cells ((hb1.block w.heap.size (by simp)).trans (Go.heap_alloc_new w _));
          have HBW := Lib.hid hbw;
          clear hb1 hbw))
      | (go_at_call 17; (refine (HW.out _ HBW.out).mono ?_); rintro e w2 ⟨A1, c1, rfl, hI, hfr, hb2⟩; go_loud (
          unfold ndV;
          have HI := Lib.hid hI;
          have HB2 := Lib.hid (HBW.out.trans (hb2.mono HBW.out.size));
          clear hI hfr hb2))
      | (go_at_call 38; (refine (HSET.out _ A1 c1 HB2.out HI.out).mono ?_); rintro e w3 ⟨rfl, F1, vs1, hA, hT, hO⟩; go_loud (
          have HA := Lib.hid hA;
          have HT := Lib.hid hT;
          have HO := Lib.hid hO;
          clear hA hT hO)))
    go_ret
    exact ⟨rfl, F1, vs1, HA.out, ((Touch.of_below HB2.out (fun _ => False)).more (S' := OwnA gm gp F) (fun _ e => e.elim)).trans HT.out (fun j e => .inl e), fun j hj => (HO.out j hj).imp (fun h => h) fun h => Nat.le_trans HB2.out.size h⟩
end Go.Proofs.Ytdphpjlhkamadaa
namespace Go.Proofs.Ytdphpjlhkamadaa
open Go.RowKit
set_option linter.unusedSimpArgs false
set_option linter.unusedVariables false
set_option maxRecDepth 100000
set_option maxHeartbeats 8000000 in
theorem unset_any (w : World) (base ga gm gp id N : Nat) (F : PF) (vs : List (Nat × Value)) (ns : List (Nat × Nd)) (h : AR w base ga gm gp F vs ns N) (hid : id < 18446744073709551616) (hN : N + ((getL ns id).getD zeroNd).kids.length ≤ 999999990) :
    Calls Try.prog 42 #[.pointer (some ⟨ga, 0, none⟩), .int .u64 (id : Int)] w (SetR w base ga gm gp F (delL ns id) (N + ((getL ns id).getD zeroNd).kids.length)) := by
  obtain ⟨Ao, co, hold, hos, hook, _⟩ := h.nodes.get id
  obtain ⟨o, ho⟩ : ∃ o, o = (getL ns id).getD zeroNd := ⟨_, rfl⟩
  rw [← ho] at hold hos hook hN ⊢
  have q0 : w.cell? ⟨ga, 0, none⟩ = some (.map (some gm)) := by unfold World.cell?; rw [h.st]; rfl
  have q1 : w.cell? ⟨ga, 1, none⟩ = some (.map (some gp)) := by unfold World.cell?; rw [h.st]; rfl
  have HEX : Hid (∀ y, Below w.heap.size w y → Calls Try.prog 61 #[.map (some gp), .int .u64 (id : Int), .slice Ao o.kids.length co, .slice none 0 0] y (AddC y base gp F (cntOf (delL ns id)) (N + o.kids.length))) := Lib.hid fun y hy => by
    have hex := exchange_any y base gp id F (cntOf ns) N _ _ o.kids [] (h.par.below hy) hid ((hos.below hy).up hy.size) (IdSl.nil _ _) (fun k => by rw [ho]; exact cnt_le id k) (by simp; omega) (Nat.le_trans h.hb hy.size)
    rw [ho, exC_del, ← ho] at hex
    exact hex
  have hfk := fun x => run_kids x (o.kind : Int) (o.typ : Int) (o.ref : Int) o.num o.name (.slice Ao o.kids.length co)
  have HLK : Hid (∀ y, Below w.heap.size w y → y.cell? ⟨ga, 0, none⟩ = some (.map (some gm)) ∧ y.cell? ⟨ga, 1, none⟩ = some (.map (some gp)) ∧ (Instr.lookup 70 (.map (some gm)) (.int .u64 (id : Int)) false).run Try.prog y = .ok (.agg #[.int .u8 (o.kind : Int), .string o.name, .int .i64 o.num, .int .u8 (o.typ : Int), .int .u64 (o.ref : Int), .slice Ao o.kids.length co]) y) := Lib.hid fun y hy => ⟨(hy.cell (p := ⟨ga, 0, none⟩) (lt_of_heap2 h.st)).trans q0, (hy.cell (p := ⟨ga, 1, none⟩) (lt_of_heap2 h.st)).trans q1, run_look _ 33 Try.underlying70 _ (zeroNode _) (b := gm) (l := vs) (h.below hy).map id hid _ hold⟩
  have HH := Lib.hid h
  have HOLD := Lib.hid hold
  clear h hold hos ho
  go_enter Try.func42, Try.ntmps42
  go_wp2_with fail
  obtain ⟨_, _, hlk⟩ := HLK.out w.drew (Below.refl _ _).drew
  go_cut [] (fun wx => ∃ F1 : PF, ParC wx base gp F1 (cntOf (delL ns id)) (N + o.kids.length) ∧ Touch w wx (fun j => j = gp ∨ OwnsF F j) ∧ (∀ j, OwnsF F1 j → OwnsF F j ∨ w.heap.size ≤ j))
  case first =>
    go_region_law (go_simp; go_at_call 61; (with_reducible refine (HEX.out _ (ride_drew (Below.refl _ _))).mono ?_); rintro e w1 ⟨rfl, F1, hP1, hT1, hO1⟩)
    all_goals
      go_wp2_with fail
      go_meet
      exact ⟨F1, hP1, ((Touch.refl w _).drewN 1).trans hT1 (fun j e => .inl e), hO1⟩
  case rest =>
  obtain ⟨F1, hP1, hT1, hO1⟩ := hcut
  have HP1 := Lib.hid hP1
  have HO1 := Lib.hid hO1
  have HT1 := Lib.hid hT1
  have hst := HH.out.other (w' := wc) (hT1.more fun j e => .inr e) HH.out.st (by decide)
  have p0 : wc.cell? ⟨ga, 0, none⟩ = some (.map (some gm)) := by unfold World.cell?; rw [hst]; rfl
  have hM1 : MapV wc gm vs := HH.out.map.at_ (hT1.block gm HH.out.map.lt (fun e => by
    rcases e with e | e
    · exact HH.out.ne e
    · obtain ⟨es, clock, h1⟩ := HH.out.map.obj
      obtain ⟨cs, h2⟩ := e.ty HH.out.par.par
      rw [h1] at h2
      cases h2))
  have HM1 := Lib.hid hM1
  have HST := Lib.hid hst
  clear hP1 hO1 hT1 hM1 hst hlk hfk q0 q1
  go_wp2_with (at_delete; go_loud (
    refine wpList_less _ rfl _ _ 70 33 rfl Try.underlying70 gm vs rfl HM1.out id hid rfl ?_;
    intro w2 hM2 hT2;
    have HM2 := Lib.hid hM2;
    have HT2 := Lib.hid hT2;
    clear hM2 hT2))
  go_end0
  have hT2c : Touch wc w2 (fun j => j = gm) := Touch.turned HT2.out rfl
  have hTX : Touch w w2 (OwnA gm gp F) := (HT1.out.more (S' := OwnA gm gp F) fun j e => .inr e).trans hT2c (fun j e => .inl (.inl e))
  have hgm : ∃ es clock, wc.heap[gm]? = some (.map es clock) := HM1.out.obj
  have hF1 : ∀ j, OwnsF F1 j → j ≠ gm := fun j hj e => by
    obtain ⟨es, clock, h1⟩ := hgm
    obtain ⟨cs, h2⟩ := hj.ty HP1.out.par
    rw [e, h1] at h2
    cases h2
  have hne := HH.out.ne
  refine ⟨rfl, F1, _, ⟨(hT2c.block ga (lt_of_heap2 HST.out) (fun e => by
    obtain ⟨es, clock, h1⟩ := hgm
    have h2 := HST.out
    rw [e, h1] at h2
    cases h2)).trans HST.out, HM2.out, HH.out.rise.del id, ?_, ⟨HP1.out.par.touch (w' := w2) (S := fun j => j = gm) hT2c (fun e => hne e.symm) (fun j hj e => hF1 j hj e), HP1.out.cnt, HP1.out.rows, HP1.out.keys, HP1.out.few⟩, hne, HH.out.o1, HH.out.o2, HH.out.o3, Nat.le_trans HH.out.hb hTX.size⟩, hTX, HO1.out⟩
  have hkeep : ∀ (j : Nat) (cs : Array Value) (z : Nat × Nat), w.heap[j]? = some (.cells cs 24 z) → w2.heap[j]? = w.heap[j]? := fun j cs z hj => (HH.out.other hTX hj (by decide)).trans hj.symm
  exact NodesV.del (HH.out.nodes.keep hTX.size hkeep) id
end Go.Proofs.Ytdphpjlhkamadaa
