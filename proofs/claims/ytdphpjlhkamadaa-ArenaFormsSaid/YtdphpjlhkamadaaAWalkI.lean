/- The iterator that Walk tells: it yields each node that was found, with kids of its own. -/
import Derived.Test.YtdphpjlhkamadaaZ15
namespace Go.Proofs.Ytdphpjlhkamadaa
open Go.RowKit Go.Shelf
set_option linter.unusedSimpArgs false
set_option linter.unusedVariables false
set_option maxRecDepth 100000
attribute [local go_sem] Oper.semAt_some
/-- What is yielded: which one, and where its kids lie. -/
abbrev WAt := Nat × Option Addr × Nat
def wNo (xs : List WAt) : List Nat := xs.map fun x => x.1
theorem wNo_snoc (xs : List WAt) (x : WAt) : wNo (xs ++ [x]) = wNo xs ++ [x.1] := by unfold wNo; rw [List.map_append]; rfl
theorem wNo_length (xs : List WAt) : (wNo xs).length = xs.length := by unfold wNo; rw [List.length_map]
def wNode (ns : List (Nat × Nd)) (L : List Nat) (x : WAt) : Nd := ndOf ns (L.getD x.1 0)
def wVal (ns : List (Nat × Nd)) (L : List Nat) (x : WAt) : Value := ndV (wNode ns L x) (.slice x.2.1 (wNode ns L x).kids.length x.2.2)
def wEnc (ns : List (Nat × Nd)) (L : List Nat) (x : WAt) : Array Value := #[.int .u64 ((L.getD x.1 0 : Nat) : Int), wVal ns L x]
def WOk (B0 : Nat) (ns : List (Nat × Nd)) (L : List Nat) (pre : List WAt) (x : WAt) (W : World) : Prop := x.1 = pre.length ∧ NodeV W (wVal ns L x) (wNode ns L x) ∧ ∀ ad, x.2.1 = some ad → B0 ≤ ad.block
theorem six (n : Nd) (kv : Value) : (ndCells (ndV n kv)).length = 6 := rfl
def YR (B0 : Nat) (J Jx : List WAt → World → Prop) (xs : List WAt) (W W' : World) : Bool → Prop
  | true => J xs W' ∧ KpW B0 W W'
  | false => Jx xs W'
theorem yr_of {B0 : Nat} {J Jx : List WAt → World → Prop} {xs : List WAt} {W W' : World} {e : Ending} (h : (e = .returned (.bool true) ∧ J xs W' ∧ KpW B0 W W') ∨ (e = .returned (.bool false) ∧ Jx xs W')) : ∃ b, e = .returned (.bool b) ∧ YR B0 J Jx xs W W' b := by
  rcases h with ⟨e, h⟩ | ⟨e, h⟩
  · exact ⟨true, e, h⟩
  · exact ⟨false, e, h⟩
set_option maxHeartbeats 4000000 in
theorem walk1_in (n : Nat) (hn : 1 ≤ n) (l B0 B c : Nat) (A : Option Addr) (vs : List (Nat × Value)) (ns : List (Nat × Nd)) (L : List Nat) (J Jx : List WAt → World → Prop) (W : World) (hJ : AbidesFrom W.heap.size J)
    (hY : ∀ pre x W, J pre W → WOk B0 ns L pre x W → pre.length < L.length → YieldAt Fence.wide (n - 1) Try.prog l (wEnc ns L x) W fun e W' =>
      (e = .returned (.bool true) ∧ J (pre ++ [x]) W' ∧ KpW B0 W W') ∨ (e = .returned (.bool false) ∧ Jx (pre ++ [x]) W'))
    (hr : WRow W B0 B A c vs ns L) (h0 : J [] W) :
    CallsIn Fence.wide n Try.prog 63 #[.func (.yield l) #[] #[], .pointer (some ⟨B, 0, none⟩)] W fun e W' => (∃ v, e = .returned v) ∧
      ((∃ ys : List WAt, wNo ys = List.range L.length ∧ J ys W') ∨ (∃ pre : List WAt, (wNo pre = List.range pre.length ∧ pre.length ≤ L.length) ∧ Jx pre W')) := by
  have q0 : W.cell? ⟨B, 0, none⟩ = some (.slice A L.length c) := by unfold World.cell?; rw [hr.box]; rfl
  obtain ⟨N, hN⟩ : ∃ N, N = L.length := ⟨_, rfl⟩
  rw [← hN] at q0 ⊢
  have HN := Lib.hid hN
  have HJ0 := Lib.hid h0
  have HR := Lib.hid hr
  clear h0 hN hr
  refine callsIn_of_wp Try.func63 rfl trivial ?_ rfl
  simp only [Try.ntmps63, List.size_toArray, List.length_cons, List.length_nil, Nat.reduceAdd, Nat.reduceSub, Array.replicate_succ, Array.replicate_zero, List.push_toArray, List.append_toArray, List.nil_append, List.cons_append]
  gi_wp2
  gi_loopw [7] (fun i wr => ∃ k : Nat, k ≤ N ∧ i = .int .i64 (k : Int) ∧ (∃ pre : List WAt, wNo pre = List.range k ∧ J pre wr) ∧ KpW B0 W wr) (fun i _ => N - (intOf i).toNat)
  case atStart => exact ⟨0, Nat.zero_le _, rfl, ⟨[], rfl, HJ0.out⟩, KpW.refl _ _⟩
  case round =>
    obtain ⟨k, hk, rfl, ⟨pre, hpre, hJs⟩, hkp⟩ := hrel
    have hprel : pre.length = k := by have := congrArg List.length hpre; rw [wNo_length, List.length_range] at this; exact this
    have HPRE := Lib.hid hpre
    have HPREL := Lib.hid hprel
    have HRW := Lib.hid (HR.out.keep hkp)
    have HKP := Lib.hid hkp
    clear hpre hprel hkp
    by_cases hlt : k < N
    · have hltI : (k : Int) < (N : Int) := by omega
      obtain ⟨x, hx⟩ : ∃ x, L[k]? = some x := by rw [HN.out] at hlt; exact ⟨_, List.getElem?_eq_getElem hlt⟩
      obtain ⟨Ak, ck, hval, hids, hok⟩ := HRW.out.kids x (List.mem_of_getElem? hx)
      obtain ⟨g, cur, hA, hg, hcur, hcut⟩ : ∃ g cur, A = some ⟨g, 0, none⟩ ∧ g < B0 ∧ wr.heap[g]? = some (.cells cur 112 (0, 0)) ∧ cur.toList.take (L.length * 7) = fCells vs L := by
        rcases HRW.out.row with e | e
        · rw [e] at hx; cases hx
        · exact e
      subst hA
      obtain ⟨o, ho⟩ : ∃ o, o = ndOf ns x := ⟨_, rfl⟩
      rw [← ho] at hval hids hok
      have hcell : ∀ j v, j < 7 → (Value.int .u64 (x : Int) :: ndCells (valOf vs x))[j]? = some v → wr.cell? ⟨g, k * 7 + j, none⟩ = some v := fun j v hj hv => by
        have h1 := fCells_at (vs := vs) (k := k) (x := x) (j := j) (fun y hy => by obtain ⟨A, c, e, _⟩ := HRW.out.kids y hy; rw [e]; rfl) hx hj
        rw [hv, ← hcut, List.getElem?_take_of_lt (by have := (List.getElem?_eq_some_iff.1 hx).1; omega)] at h1
        unfold World.cell?
        rw [hcur]
        dsimp only
        rw [← h1]
        simp
      rw [hval] at hcell
      have e0 : wr.cell? ⟨g, k * 7, none⟩ = some (.int .u64 (x : Int)) := hcell 0 _ (by omega) rfl
      have e1 : wr.cell? ⟨g, k * 7 + 1, none⟩ = some (.int .u8 (o.kind : Int)) := hcell 1 _ (by omega) rfl
      have e2 : wr.cell? ⟨g, k * 7 + 2, none⟩ = some (.string o.name) := hcell 2 _ (by omega) rfl
      have e3 : wr.cell? ⟨g, k * 7 + 3, none⟩ = some (.int .i64 o.num) := hcell 3 _ (by omega) rfl
      have e4 : wr.cell? ⟨g, k * 7 + 4, none⟩ = some (.int .u8 (o.typ : Int)) := hcell 4 _ (by omega) rfl
      have e5 : wr.cell? ⟨g, k * 7 + 5, none⟩ = some (.int .u64 (o.ref : Int)) := hcell 5 _ (by omega) rfl
      have e6 : wr.cell? ⟨g, k * 7 + 6, none⟩ = some (.slice Ak o.kids.length ck) := hcell 6 _ (by omega) rfl
      clear hcell
      have HIDS := Lib.hid hids
      have HOK := Lib.hid hok
      have HX := Lib.hid hx
      have hnk : wVal ns L = fun x : WAt => ndV (wNode ns L x) (.slice x.2.1 (wNode ns L x).kids.length x.2.2) := rfl
      have hnode : ∀ a c, wNode ns L (k, a, c) = o := fun a c => by
        unfold wNode
        rw [ho, List.getD_eq_getElem?_getD, hx]
        rfl
      have henc : ∀ a c, wEnc ns L (k, a, c) = #[.int .u64 (x : Int), .agg #[.int .u8 (o.kind : Int), .string o.name, .int .i64 o.num, .int .u8 (o.typ : Int), .int .u64 (o.ref : Int), .slice a o.kids.length c]] := fun a c => by
        unfold wEnc wVal
        rw [hnode, List.getD_eq_getElem?_getD, hx]
        rfl
      have HNODE := Lib.hid hnode
      have HENC := Lib.hid henc
      obtain ⟨W1, hW1⟩ : ∃ W1, W1 = wr.alloc (.cells #[.int .u64 (x : Int), .int .u8 (o.kind : Int), .string o.name, .int .i64 o.num, .int .u8 (o.typ : Int), .int .u64 (o.ref : Int), .slice Ak o.kids.length ck] 112) := ⟨_, rfl⟩
      have hb1 : Below wr.heap.size wr W1 := by rw [hW1]; exact (Below.refl _ _).alloc (Nat.le_refl _) _
      have hbx : W1.heap[wr.heap.size]? = some (.cells #[.int .u64 (x : Int), .int .u8 (o.kind : Int), .string o.name, .int .i64 o.num, .int .u8 (o.typ : Int), .int .u64 (o.ref : Int), .slice Ak o.kids.length ck] 112 (0, 0)) := by rw [hW1]; exact Go.heap_alloc_new _ _
      have HB1 := Lib.hid hb1
      have HWH : Hid (∀ y, Below wr.heap.size wr y → CallsIn Fence.wide (n - 1) Try.prog 17 #[.agg #[.int .u8 (o.kind : Int), .string o.name, .int .i64 o.num, .int .u8 (o.typ : Int), .int .u64 (o.ref : Int), .slice Ak o.kids.length ck]] y (WholeR y o)) := Lib.hid fun y hy => by
        have hi := (HIDS.out.below (hy.mono HRW.out.size)).up (Nat.le_trans HRW.out.size hy.size)
        exact callsIn_wide.2 (whole_any y o Ak ck ⟨⟨Ak, ck, rfl, hi⟩, HOK.out⟩ hi)
      have HJW : Hid (∀ y, Below wr.heap.size wr y → J pre y) := Lib.hid fun y hy => hJ pre wr y none hJs ⟨hy.os, hy.tape, hy.output, hy.size, fun j hj _ => hy.block j hj⟩ (fun r e => by cases e)
      have HYY := Lib.hid hY
      clear hids hok hx hcur hcut hval hnk hnode henc hb1 hY ho hJs
      gi_wp2
      rw [← hW1]
      obtain ⟨z0, z1, z2, z3, z4, z5, z6⟩ : W1.cell? ⟨wr.heap.size, 0, none⟩ = some (.int .u64 (x : Int)) ∧ W1.cell? ⟨wr.heap.size, 1, none⟩ = some (.int .u8 (o.kind : Int)) ∧ W1.cell? ⟨wr.heap.size, 2, none⟩ = some (.string o.name) ∧ W1.cell? ⟨wr.heap.size, 3, none⟩ = some (.int .i64 o.num) ∧ W1.cell? ⟨wr.heap.size, 4, none⟩ = some (.int .u8 (o.typ : Int)) ∧ W1.cell? ⟨wr.heap.size, 5, none⟩ = some (.int .u64 (o.ref : Int)) ∧ W1.cell? ⟨wr.heap.size, 6, none⟩ = some (.slice Ak o.kids.length ck) := by
        unfold World.cell?; rw [hbx]; exact ⟨rfl, rfl, rfl, rfl, rfl, rfl, rfl⟩
      have hsz1 : W1.heap.size = wr.heap.size + 1 := by rw [hW1]; simp
      have HSZ := Lib.hid hsz1
      clear hW1 hbx hsz1 e0 e1 e2 e3 e4 e5 e6
      have hdr : Below wr.heap.size wr W1.drew := HB1.out.trans ⟨rfl, rfl, rfl, Nat.le_refl _, fun _ _ => rfl⟩
      have HDR := Lib.hid hdr
      clear hdr
      gi_region_with (first
        | (refine And.intro trivial ?_; gi_at_call 17; go_loud (
            (with_reducible refine ((HWH.out _ HDR.out).mono ?_));
            rintro e w2 ⟨A1, c1, rfl, hn1, hfr1, hb2⟩;
            have hb3 : Below wr.heap.size wr w2 := HDR.out.trans (hb2.mono HDR.out.size);
            obtain ⟨fn, tmps, assign, body, hy, hR⟩ := HYY.out pre (k, A1, c1) w2 (HJW.out w2 hb3) ⟨HPREL.out.symm, by unfold wVal; rw [HNODE.out]; exact hn1, fun ad e => Nat.le_trans (Nat.le_trans HRW.out.size HDR.out.size) (hfr1 ad e)⟩ (by rw [HPREL.out, ← HN.out]; exact hlt);
            rw [HENC.out] at hy;
            unfold ndV;
            have HRD := Lib.hid hR;
            have HB3 := Lib.hid hb3;
            have HFR1 := Lib.hid hfr1;
            have d0 : w2.cell? ⟨wr.heap.size, 0, none⟩ = some (.int .u64 (x : Int)) := (hb2.cell (p := ⟨wr.heap.size, 0, none⟩) (by have := HSZ.out; show wr.heap.size < W1.heap.size; omega)).trans z0;
            clear hR hn1 hfr1 hb2 hb3))
        | (refine HRD.out.mono ?_; rintro e W3 hE; go_loud (
            obtain ⟨bb, rfl, hyr⟩ := yr_of hE;
            have HYR := Lib.hid hyr;
            clear hyr hE;
            dsimp only)))
      all_goals
        have hno : wNo (pre ++ [(k, A1, c1)]) = List.range (k + 1) := by rw [wNo_snoc, HPRE.out, List.range_succ]
        have HNO := Lib.hid hno
        have HW64 : Hid (wrap64 ((k : Int) + 1) = ((k + 1 : Nat) : Int)) := Lib.hid (by have := HRW.out.long; have := HN.out; unfold wrap64; omega)
        clear hno
        cases bb with
        | false =>
          gi_wp2
          refine bodyPost_ret (results_none rfl _ _ _) rfl ?_
          refine ⟨⟨_, rfl⟩, .inr ⟨pre ++ [(k, A1, c1)], ⟨?_, ?_⟩, HYR.out⟩⟩
          · rw [HNO.out, List.length_append, HPREL.out]; rfl
          · rw [List.length_append, HPREL.out]
            have : ([(k, A1, c1)] : List WAt).length = 1 := rfl
            omega
        | true =>
          gi_wp2
          go_roundw
          case rel => exact ⟨k + 1, by omega, by rw [HW64.out], ⟨_, HNO.out, HYR.out.1⟩, HKP.out.trans ((KpW.below (HB3.out.mono HRW.out.size)).trans HYR.out.2)⟩
          case measure => rw [HW64.out]; simp [intOf]; omega
    · have hltI : ¬ (k : Int) < (N : Int) := by omega
      gi_wp2
      go_end0
      exact ⟨⟨_, rfl⟩, .inl ⟨pre, by rw [HPRE.out]; congr 1; omega, hJs⟩⟩
theorem walk_tells (n : Nat) (hn : 1 ≤ n) (B c : Nat) (A : Option Addr) (vs : List (Nat × Value)) (ns : List (Nat × Nd)) (L : List Nat) (w : World) (hr : WRow w w.heap.size B A c vs ns L) :
    SeqTells n Try.prog 63 #[.pointer (some ⟨B, 0, none⟩)] (wEnc ns L) (WOk w.heap.size ns L) (KpW w.heap.size) (fun ys => wNo ys = List.range L.length) (fun pre => wNo pre = List.range pre.length ∧ pre.length ≤ L.length) L.length w := fun l J Jx W hW hJ _ hY h0 =>
  walk1_in n hn l w.heap.size B c A vs ns L J Jx W hJ hY (hr.keep (KpW.below hW)) h0
end Go.Proofs.Ytdphpjlhkamadaa
