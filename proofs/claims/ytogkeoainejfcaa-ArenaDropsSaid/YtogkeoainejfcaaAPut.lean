/- Contracts: Put. -/
import Derived.Test.YtogkeoainejfcaaAAsk
namespace Go.Proofs.Ytogkeoainejfcaa
open Go.RowKit
set_option linter.unusedSimpArgs false
set_option linter.unusedVariables false
set_option maxRecDepth 100000
def PutR (w : World) (base ga gm gp : Nat) (F : PF) (k : Int) (ns' : List (Nat × Nd)) (N' : Nat) (e : Ending) (w' : World) : Prop :=
  e = .returned (.int .i64 k) ∧ ∃ F' vs', AR w' base ga gm gp F' vs' ns' N' ∧ Touch w w' (OwnA gm gp F) ∧ (∀ j, OwnsF F' j → OwnsF F j ∨ w.heap.size ≤ j)
theorem run_count {w : World} (t e : TypeId) (ht : Try.prog.underlying t = some (.map 24 e)) {b : Nat} {l : List (Nat × Value)} (h : MapV w b l) (ty : TypeId) :
    (Builtin.len_ #[t] ty #[.map (some b)]).run Try.prog w = .ok (.int .i64 (l.length : Int)) w := by
  have h1 := h.own.len ht ty
  rw [mapD_size] at h1
  exact h1
theorem put_nil (w : World) (x kv : Value) (n : Nd) : Calls Try.prog 27 #[.pointer none, x, ndV n kv] w (fun e w' => e = .returned (.int .i64 3) ∧ Below w.heap.size w w') := by
  unfold ndV
  go_enter Try.func27, Try.ntmps27
  go_wp2_with fail
  go_ret
  exact ⟨rfl, (Below.refl _ _).alloc (Nat.le_refl _) _⟩
theorem AR.putR {w w' : World} {base ga gm gp N : Nat} {F : PF} {vs : List (Nat × Value)} {ns : List (Nat × Nd)} (h : AR w base ga gm gp F vs ns N) (hb : Below w.heap.size w w') (k : Int) : PutR w base ga gm gp F k ns N (.returned (.int .i64 k)) w' :=
  ⟨rfl, F, vs, h.below hb, (Touch.of_below hb (fun _ => False)).more (fun _ e => e.elim), fun j hj => .inl hj⟩
theorem put_zero (w : World) (base ga gm gp N : Nat) (F : PF) (vs : List (Nat × Value)) (ns : List (Nat × Nd)) (kv : Value) (n : Nd) (h : AR w base ga gm gp F vs ns N) :
    Calls Try.prog 27 #[.pointer (some ⟨ga, 0, none⟩), .int .u64 0, ndV n kv] w (PutR w base ga gm gp F 1 ns N) := by
  have HH := Lib.hid h
  clear h
  unfold ndV
  go_enter Try.func27, Try.ntmps27
  go_wp2_with fail
  go_ret
  exact HH.out.putR ((Below.refl _ _).alloc (Nat.le_refl _) _) 1
set_option maxHeartbeats 4000000 in
theorem put_full (w : World) (base ga gm gp id N : Nat) (F : PF) (vs : List (Nat × Value)) (ns : List (Nat × Nd)) (kv : Value) (n : Nd) (h : AR w base ga gm gp F vs ns N) (hid : id < 18446744073709551616) (h0 : id ≠ 0) (hh : hasL ns id = false) (hl : 20000 ≤ ns.length) :
    Calls Try.prog 27 #[.pointer (some ⟨ga, 0, none⟩), .int .u64 (id : Int), ndV n kv] w (PutR w base ga gm gp F 5 ns N) := by
  have hz : ¬ (id : Int) = 0 := by omega
  have hz2 : ((id : Int) == 0) = false := by rw [beq_eq_false_iff_ne]; exact hz
  have hlen := nodes_len h.nodes h.map.rise h.rise
  have hv : ¬ ((vs.length : Int) < 20000) := by omega
  have hv2 : (20000 : Int) ≤ vs.length := by omega
  have HAS : Hid (∀ y, Below w.heap.size w y → Calls Try.prog 57 #[.pointer (some ⟨ga, 0, none⟩), .int .u64 (id : Int)] y (fun e w' => e = .returned (.bool false) ∧ Below y.heap.size y w')) := Lib.hid fun y hy => by
    have := has_any y base ga gm gp id N F vs ns (h.below hy) hid
    rw [hh] at this
    exact this
  have HH := Lib.hid h
  clear h hlen
  unfold ndV
  go_enter Try.func27, Try.ntmps27
  go_wp2_with (first
    | (go_at_call 57; (with_reducible refine (HAS.out _ (ride_alloc (Below.refl _ _) _)).mono ?_); rintro e w1 ⟨rfl, hb1⟩; go_loud (
        have hbw := ride_call hb1 (ride_alloc (Below.refl w.heap.size w) _);
        have q0 : w1.cell? ⟨ga, 0, none⟩ = some (.map (some gm)) := (by unfold World.cell?; rw [(HH.out.below hbw).st]; rfl);
        have q1 := run_count 70 33 Try.underlying70 (HH.out.below hbw).map 3;
        have HBW := Lib.hid hbw;
        clear hb1 hbw)))
  go_ret
  exact HH.out.putR HBW.out 5
set_option maxHeartbeats 4000000 in
theorem put_good (w : World) (base ga gm gp id N : Nat) (F : PF) (vs : List (Nat × Value)) (ns : List (Nat × Nd)) (n : Nd) (A : Option Addr) (c : Nat) (h : AR w base ga gm gp F vs ns N) (hid : id < 18446744073709551616) (h0 : id ≠ 0) (hh : hasL ns id = true ∨ ns.length < 20000) (hv : NodeV w (ndV n (.slice A n.kids.length c)) n) (hs : IdSl w w.heap.size (.slice A n.kids.length c) n.kids)
    (hN : N + ((getL ns id).getD zeroNd).kids.length + n.kids.length ≤ 999999990) (hns : ns.length ≤ 1000000000) :
    Calls Try.prog 27 #[.pointer (some ⟨ga, 0, none⟩), .int .u64 (id : Int), ndV n (.slice A n.kids.length c)] w (PutR w base ga gm gp F 0 (putL' ns id n) (N + ((getL ns id).getD zeroNd).kids.length + n.kids.length)) := by
  have hz : ¬ (id : Int) = 0 := by omega
  have hz2 : ((id : Int) == 0) = false := by rw [beq_eq_false_iff_ne]; exact hz
  have hlen := nodes_len h.nodes h.map.rise h.rise
  obtain ⟨N', hN'⟩ : ∃ N', N' = N + ((getL ns id).getD zeroNd).kids.length + n.kids.length := ⟨_, rfl⟩
  have HSET : Hid (∀ y A c, Below w.heap.size w y → NodeV y (ndV n (.slice A n.kids.length c)) n → Calls Try.prog 38 #[.pointer (some ⟨ga, 0, none⟩), .int .u64 (id : Int), ndV n (.slice A n.kids.length c)] y (SetR y base ga gm gp F (putL' ns id n) N')) := Lib.hid fun y A c hy hn => by
    rw [hN']
    exact set_any y base ga gm gp id N F vs ns _ n (h.below hy) hn hid hN hns
  have HW : Hid (∀ y, Below w.heap.size w y → Calls Try.prog 17 #[ndV n (.slice A n.kids.length c)] y (WholeR y n)) := Lib.hid fun y hy => whole_any y n A c (hv.below hy) ((hs.below hy).up hy.size)
  have HAS : Hid (∀ y, Below w.heap.size w y → Calls Try.prog 57 #[.pointer (some ⟨ga, 0, none⟩), .int .u64 (id : Int)] y (fun e w' => e = .returned (.bool (hasL ns id)) ∧ Below y.heap.size y w')) := Lib.hid fun y hy => has_any y base ga gm gp id N F vs ns (h.below hy) hid
  rw [← hN']
  have HH := Lib.hid h
  clear h hv hs
  unfold ndV
  rcases hb : hasL ns id with _ | _
  · rw [hb] at HAS
    have hv : ((vs.length : Int) < 20000) := by
      rcases hh with hh | hh
      · rw [hb] at hh; cases hh
      · omega
    have hv2 : ¬ (20000 : Int) ≤ vs.length := by omega
    clear hlen hh hN hns hN'
    go_enter Try.func27, Try.ntmps27
    go_wp2_with (first
      | (go_at_call 57; (with_reducible refine (HAS.out _ (ride_alloc (Below.refl _ _) _)).mono ?_); rintro e w1 ⟨rfl, hb1⟩; go_loud (
          have hbw := ride_call hb1 (ride_alloc (Below.refl w.heap.size w) _);
          have q0 : w1.cell? ⟨ga, 0, none⟩ = some (.map (some gm)) := (by unfold World.cell?; rw [(HH.out.below hbw).st]; rfl);
          have q1 := run_count 70 33 Try.underlying70 (HH.out.below hbw).map 3;
          obtain ⟨b0, b1, b2, b3, b4, b5, b6⟩ := box_cells ((hb1.block w.heap.size (by simp)).trans (Go.heap_alloc_new w _));
          have HBW := Lib.hid hbw;
          clear hb1 hbw))
      | (go_at_call 17; (refine (HW.out _ HBW.out).mono ?_); rintro e w2 ⟨A1, c1, rfl, hI, hfr, hb2⟩; go_loud (
          unfold ndV;
          have HI := Lib.hid hI;
          have HB2 := Lib.hid (HBW.out.trans (hb2.mono HBW.out.size));
          clear hI hfr hb2))
      | (go_at_call 38; (refine (HSET.out _ A1 c1 HB2.out HI.out).mono ?_); rintro e w3 ⟨rfl, F1, vs1, hA, hT, hO⟩; go_loud (
          have HA := Lib.hid hA;
          have HT := Lib.hid hT;
          have HO := Lib.hid hO;
          clear hA hT hO)))
    go_ret
    exact ⟨rfl, F1, vs1, HA.out, ((Touch.of_below HB2.out (fun _ => False)).more (S' := OwnA gm gp F) (fun _ e => e.elim)).trans HT.out (fun j e => .inl e), fun j hj => (HO.out j hj).imp (fun h => h) fun h => Nat.le_trans HB2.out.size h⟩
  · rw [hb] at HAS
    clear hlen hh hN hns hN'
    go_enter Try.func27, Try.ntmps27
    go_wp2_with (first
      | (go_at_call 57; (with_reducible refine (HAS.out _ (ride_alloc (Below.refl _ _) _)).mono ?_); rintro e w1 ⟨rfl, hb1⟩; go_loud (
          have hbw := ride_call hb1 (ride_alloc (Below.refl w.heap.size w) _);
          obtain ⟨b0, b1, b2, b3, b4, b5, b6⟩ := box_cells ((hb1.block w.heap.size (by simp)).trans (Go.heap_alloc_new w _));
          have HBW := Lib.hid hbw;
          clear hb1 hbw))
      | (go_at_call 17; (refine (HW.out _ HBW.out).mono ?_); rintro e w2 ⟨A1, c1, rfl, hI, hfr, hb2⟩; go_loud (
          unfold ndV;
          have HI := Lib.hid hI;
          have HB2 := Lib.hid (HBW.out.trans (hb2.mono HBW.out.size));
          clear hI hfr hb2))
      | (go_at_call 38; (refine (HSET.out _ A1 c1 HB2.out HI.out).mono ?_); rintro e w3 ⟨rfl, F1, vs1, hA, hT, hO⟩; go_loud (
          have HA := Lib.hid hA;
          have HT := Lib.hid hT;
          have HO := Lib.hid hO;
          clear hA hT hO)))
    go_ret
    exact ⟨rfl, F1, vs1, HA.out, ((Touch.of_below HB2.out (fun _ => False)).more (S' := OwnA gm gp F) (fun _ e => e.elim)).trans HT.out (fun j e => .inl e), fun j hj => (HO.out j hj).imp (fun h => h) fun h => Nat.le_trans HB2.out.size h⟩
end Go.Proofs.Ytogkeoainejfcaa
