/- Contracts: an arena is copied. -/
import Derived.Maps.RangeWalk
import Derived.Test.YtogkeoainejfcaaADrop
namespace Go.Proofs.Ytogkeoainejfcaa
open Go.RowKit Go.Shelf
open Go.Maps (Keyed)
set_option linter.unusedSimpArgs false
set_option linter.unusedVariables false
set_option maxRecDepth 100000
attribute [local go_sem] Oper.semAt_some undef
abbrev RangesV (w : World) (b r n : Nat) (vs : List (Nat × Value)) (left : Lit → Bool) (cnt : Nat) : Prop := w.ranges Try.prog 24 heldE b r n (mapD vs) left cnt
theorem ranges_at {w w' : World} {b r n cnt : Nat} {vs : List (Nat × Value)} {left : Lit → Bool} (h : RangesV w b r n vs left cnt) (hb : w'.heap[b]? = w.heap[b]?) (hr : w'.heap[r]? = w.heap[r]?) : RangesV w' b r n vs left cnt := by
  obtain ⟨es, clock, since, seen, c0, h1, F, hs, hD, h2, rest⟩ := h
  exact ⟨es, clock, since, seen, c0, hb.trans h1, F, hs, hD, hr.trans h2, rest⟩
theorem ranges_iter {w : World} {b r n cnt : Nat} {vs : List (Nat × Value)} {left : Lit → Bool} (h : RangesV w b r n vs left cnt) : ∃ m since seen c0, w.heap[r]? = some (.mapIter m since seen c0) := by
  obtain ⟨es, clock, since, seen, c0, h1, F, hs, hD, h2, rest⟩ := h
  exact ⟨_, _, _, _, h2⟩
theorem keyInv (key : Value) (kl : Lit) (h : keyOf Try.prog 24 key = some kl) : ∃ x : Nat, key = .int .u64 (x : Int) := by
  obtain ⟨x, rfl, rfl, hw⟩ := Maps.keyOf_int_inv Try.underlying24 h
  have h1 : 0 ≤ x := by
    simp [Lit.wf, IntKind.min, IntKind.max, IntKind.signed, IntKind.bits] at hw
    exact hw.1
  exact ⟨x.toNat, by rw [Int.toNat_of_nonneg h1]⟩
theorem keyIs {x : Nat} {kl : Lit} (h : keyOf Try.prog 24 (.int .u64 (x : Int)) = some kl) : kl = keyL x ∧ x < 18446744073709551616 := by
  obtain ⟨y, e, rfl, hw⟩ := Maps.keyOf_int_inv Try.underlying24 h
  injection e with _ e
  subst e
  refine ⟨rfl, ?_⟩
  simp [Lit.wf, IntKind.min, IntKind.max, IntKind.signed, IntKind.bits] at hw
  omega
theorem valIs {vs : List (Nat × Value)} {x : Nat} {c : Value} {y : DataW Value × List MemPlace} (hv : heldE c = some y) (hat : ∀ zd, (mapD vs).atKey (keyL x) zd = y.1) : getL vs x = some c := by
  unfold heldE at hv
  injection hv with hv
  subst hv
  have h1 := hat (.map [])
  rw [mapD_at] at h1
  cases hg : getL vs x with
  | none => rw [hg] at h1; cases h1
  | some v => rw [hg] at h1; injection h1 with h1; rw [h1]
/-- Where a copy stands: what is in it, and what is still to come. -/
structure CopyI (w : World) (gm r : Nat) (vs : List (Nat × Value)) (ns : List (Nat × Nd)) (ga2 gm2 gp2 : Nat) (left : Lit → Bool) (cnt : Nat) (done : List Nat) (W : World) : Prop where
  below : Below w.heap.size w W
  rng : RangesV W gm r vs.length vs left cnt
  once : done.Nodup
  node : ∀ x ∈ done, hasL ns x = true
  left_ : ∀ k, hasL ns k = true → left (keyL k) = !decide (k ∈ done)
  ar : ∃ F2 vs2 ns2, AR W w.heap.size ga2 gm2 gp2 F2 vs2 ns2 (sumU ns [] - sumU ns done) ∧ ∀ k, getL ns2 k = if k ∈ done then getL ns k else none
theorem CopyI.end_ {w W : World} {gm r : Nat} {vs : List (Nat × Value)} {ns : List (Nat × Nd)} {ga2 gm2 gp2 cnt : Nat} {left : Lit → Bool} {done : List Nat} (hr : Rise ns) (h : CopyI w gm r vs ns ga2 gm2 gp2 left cnt done W) (hl : ∀ kl, left kl = false) : ∃ F2 vs2, AR W w.heap.size ga2 gm2 gp2 F2 vs2 ns (sumU ns []) := by
  obtain ⟨F2, vs2, ns2, hA, hg⟩ := h.ar
  have e : ns2 = ns := rise_ext hA.rise hr fun k => by
    rw [hg k]
    split
    · rfl
    · rename_i hk
      cases hh : getL ns k with
      | none => rfl
      | some n =>
        have h1 := h.left_ k (by unfold hasL; rw [hh]; rfl)
        rw [hl, decide_eq_false hk] at h1
        cases h1
  subst e
  exact ⟨F2, vs2, hA.more (Nat.sub_le _ _)⟩
theorem copy_nil (w : World) : Calls Try.prog 10 #[.pointer none] w (fun e w' => e = .returned (.pointer none) ∧ Below w.heap.size w w') := by
  go_enter Try.func10, Try.ntmps10
  go_wp2_with fail
  go_ret
  exact ⟨rfl, Below.refl _ _⟩
theorem rise_le {α : Type} {m : List (Nat × α)} {ns : List (Nat × Nd)} (hr : Rise m) (hn : ∀ p ∈ m, hasL ns p.1 = true) : m.length ≤ ns.length := by
  rw [← List.length_map (f := Prod.fst)]
  refine nodup_le ?_ fun x hx => ?_
  · have h1 := hr
    unfold Rise at h1
    unfold List.Nodup
    rw [List.pairwise_map]
    exact h1.imp fun h2 => by omega
  · obtain ⟨p, hp, rfl⟩ := List.mem_map.1 hx
    exact hn p hp
theorem AR.iter {w w' : World} {base ga gm gp N r : Nat} {F : PF} {vs : List (Nat × Value)} {ns : List (Nat × Nd)} (h : AR w base ga gm gp F vs ns N) (hg : w.grownBy w' (some r)) (hi : ∃ m since seen c0, w.heap[r]? = some (.mapIter m since seen c0)) : AR w' base ga gm gp F vs ns N := by
  obtain ⟨m, since, seen, c0, hi⟩ := hi
  refine h.keep (S := fun j => j = r) (Touch.of_grown hg fun j e => by injection e with e; exact e.symm) fun j hS => ?_
  rw [hS]
  refine ⟨fun e => ?_, fun hO => ?_, fun cs z e => ?_⟩
  · rw [e, h.st] at hi; cases hi
  · rcases h.obj hO with ⟨es, cl, h1⟩ | ⟨cs, h1⟩
    · rw [h1] at hi; cases hi
    · rw [h1] at hi; cases hi
  · rw [e] at hi; cases hi
/-- One more node is in the copy. -/
theorem CopyI.next {w W W' : World} {gm r x : Nat} {vs : List (Nat × Value)} {ns : List (Nat × Nd)} {ga2 gm2 gp2 cnt' : Nat} {left : Lit → Bool} {done : List Nat} {F2 : PF} {ns2 : List (Nat × Nd)} {e : Ending} (hr : Rise ns) (hb : Below w.heap.size w W) (hrng : RangesV W gm r vs.length vs (fun z => left z && !z.sameKey (keyL x)) cnt') (honce : done.Nodup) (hnode : ∀ x ∈ done, hasL ns x = true)
    (hleft : ∀ k, hasL ns k = true → left (keyL k) = !decide (k ∈ done)) (hx : hasL ns x = true) (hlx : left (keyL x) = true) {vs2 : List (Nat × Value)} (hA : AR W w.heap.size ga2 gm2 gp2 F2 vs2 ns2 (sumU ns [] - sumU ns done)) (hg : ∀ k, getL ns2 k = if k ∈ done then getL ns k else none) (hgm : gm < w.heap.size)
    (hS : SetR W w.heap.size ga2 gm2 gp2 F2 (putL' ns2 x (ndOf ns x)) (sumU ns [] - sumU ns done + ((getL ns2 x).getD zeroNd).kids.length + (ndOf ns x).kids.length) e W') : CopyI w gm r vs ns ga2 gm2 gp2 (fun z => left z && !z.sameKey (keyL x)) cnt' (done ++ [x]) W' := by
  obtain ⟨_, F', vs', hA', hT, hO⟩ := hS
  have hxd : x ∉ done := fun hm => by
    have h1 := hleft x hx
    rw [hlx, decide_eq_true hm] at h1
    cases h1
  have hx2 := hx
  unfold hasL at hx2
  obtain ⟨n, hn⟩ := Option.isSome_iff_exists.1 hx2
  have hnd : ndOf ns x = n := by unfold ndOf; rw [hn]; rfl
  have hsum := sumU_some hr hn hxd
  have hle := sumU_le (ns := ns) done
  have hz : ((getL ns2 x).getD zeroNd).kids.length = 0 := by rw [hg x, if_neg hxd]; rfl
  obtain ⟨m, since, seen, c0, hi⟩ := ranges_iter hrng
  have hno : ∀ j, OwnA gm2 gp2 F2 j → w.heap.size ≤ j ∧ j ≠ r := fun j hj => ⟨hA.low hj, fun e => by
    rw [← e] at hi
    rcases hA.obj hj with ⟨es, cl, h1⟩ | ⟨cs, h1⟩
    · rw [h1] at hi; cases hi
    · rw [h1] at hi; cases hi⟩
  refine ⟨hb.trans (hT.below hb.size fun j hj => (hno j hj).1), ranges_at hrng (hT.block gm (Nat.lt_of_lt_of_le hgm hb.size) fun hj => by have := (hno _ hj).1; omega) (hT.block r (lt_of_heap2 hi) fun hj => (hno _ hj).2 rfl), ?_, fun y hy => ?_, fun k hk => ?_, F', vs', putL' ns2 x (ndOf ns x), ?_, fun k => ?_⟩
  · rw [List.nodup_append]
    exact ⟨honce, by simp, fun a ha b hb2 e => by simp at hb2; rw [e, hb2] at ha; exact hxd ha⟩
  · rcases List.mem_append.1 hy with hy | hy
    · exact hnode y hy
    · rw [List.mem_singleton] at hy; rw [hy]; exact hx
  · rw [hleft k hk, key_same]
    by_cases e : k = x <;> by_cases e2 : k ∈ done <;> simp [e, e2]
  · refine hA'.more ?_
    rw [hz, hnd]
    omega
  · rw [getL_put hA.rise, hg k]
    by_cases e : k = x
    · rw [if_pos e, if_pos (by rw [e]; simp), e, hnd, hn]
    · rw [if_neg e]
      by_cases e2 : k ∈ done <;> simp [e, e2]
def CopyR (w : World) (ns : List (Nat × Nd)) (e : Ending) (w' : World) : Prop := ∃ ga gm gp F vs, e = .returned (.pointer (some ⟨ga, 0, none⟩)) ∧ AR w' w.heap.size ga gm gp F vs ns (sumU ns []) ∧ Below w.heap.size w w'
set_option maxHeartbeats 4000000 in
theorem copy_any (w : World) (base ga gm gp N : Nat) (F : PF) (vs : List (Nat × Value)) (ns : List (Nat × Nd)) (h : AR w base ga gm gp F vs ns N) (hfew : sumU ns [] ≤ 400000000) (hns : ns.length ≤ 1000000) :
    Calls Try.prog 10 #[.pointer (some ⟨ga, 0, none⟩)] w (CopyR w ns) := by
  have HE := Lib.hid (empty_any w)
  have HH := Lib.hid h
  clear h
  go_enter Try.func10, Try.ntmps10
  go_wp2_with (first
    | (go_at_call 37; (with_reducible refine (HE.out).mono ?_); rintro e w1 ⟨ga2, gm2, gp2, rfl, hA2, hb1⟩; go_loud (
        have q0 : w1.cell? ⟨ga, 0, none⟩ = some (.map (some gm)) := (hb1.cell (p := ⟨ga, 0, none⟩) (lt_of_heap2 HH.out.st)).trans (by unfold World.cell?; rw [HH.out.st]; rfl);
        have HA2 := Lib.hid hA2;
        have HB1 := Lib.hid hb1;
        clear hA2 hb1))
    | (at_range; go_loud (
        refine wpList_range_own w1 rfl _ _ rfl 24 33 idKeyed Try.underlying70 heldE gm vs.length (mapD vs) rfl (HH.out.below HB1.out).map.own ?_;
        intro w2 hr2 hg2 hs2;
        have HR2 := Lib.hid hr2;
        have HG2 := Lib.hid hg2;
        clear hr2 hg2)))
  go_frame
  obtain ⟨r, hr⟩ : ∃ r, r = w1.heap.size := ⟨_, rfl⟩
  rw [← hr]
  have hgm : gm < w.heap.size := HH.out.map.lt
  have hwr : w.heap.size ≤ r := by rw [hr]; exact HB1.out.size
  have HR := Lib.hid hr
  have hI0 : CopyI w gm r vs ns ga2 gm2 gp2 (Maps.has (mapD vs)) (Maps.size (mapD vs)) [] w2 := by
    have hb2 := HB1.out.grown HG2.out HB1.out.size (fun k e => by cases e)
    refine ⟨hb2, by rw [hr]; exact HR2.out, List.nodup_nil, by simp, fun k hk => ?_, [], [], [], ?_, fun k => rfl⟩
    · rw [mapD_has]
      obtain ⟨_, _, _, _, _, hh⟩ := HH.out.nodes.get k
      show hasL vs k = _
      rw [hh, hk]
      rfl
    · exact (HA2.out.keep (Touch.of_grown HG2.out (S := fun _ => False) fun j e => by cases e) fun j e => e.elim).more (Nat.zero_le _)
  have HI0 := Lib.hid hI0
  clear hI0 hr
  go_loopw [14] (fun _ wr => ∃ left cnt done, CopyI w gm r vs ns ga2 gm2 gp2 left cnt done wr) (fun _ wr => wr.rangeLeft gm r)
  case atStart => exact ⟨_, _, _, HI0.out⟩
  case round =>
    obtain ⟨left, cnt, done, hI⟩ := hrel
    obtain ⟨hb, hrng, honce, hnode, hleft, F2, vs2, ns2, hA, hg⟩ := hI
    have hcnt := hrng.left_eq
    have HI := Lib.hid (⟨hb, hrng, honce, hnode, hleft, F2, vs2, ns2, hA, hg⟩ : CopyI w gm r vs ns ga2 gm2 gp2 left cnt done wr)
    rcases hrng.next idKeyed 0 with ⟨h0, hl, hrun⟩ | ⟨key, v, kl, y, w3, cnt', hkey, hlk, hv, hat, hrun, hrg3, hlt, hgr, hsz, hen⟩
    · have HL := Lib.hid hl
      clear hb hrng honce hnode hleft hA hg hl
      go_wp2_with fail
      go_ret
      obtain ⟨F3, vs3, h3⟩ := HI.out.end_ HH.out.rise HL.out
      exact ⟨ga2, gm2, gp2, F3, vs3, rfl, h3, HI.out.below⟩
    · obtain ⟨x, rfl⟩ := keyInv key kl hkey
      obtain ⟨rfl, hx⟩ := keyIs hkey
      have hgx := valIs hv hat
      have hb3 : Below w.heap.size w w3 := hb.grown hgr hb.size (fun k e => by injection e with e; omega)
      obtain ⟨Ao, co, hold, hos, hook, hhas⟩ := HH.out.nodes.get x
      rw [hgx] at hold
      have hhx : hasL ns x = true := by rw [← hhas]; unfold hasL; rw [hgx]; rfl
      obtain ⟨o, ho⟩ : ∃ o, o = ndOf ns x := ⟨_, rfl⟩
      rw [show (getL ns x).getD zeroNd = o from ho.symm] at hold hos hook
      have hvo : v = ndV o (.slice Ao o.kids.length co) := hold
      subst hvo
      unfold ndV at hrun hen
      have hA3 := hA.iter hgr (ranges_iter hrng)
      have hx2 : x ∉ done := fun hm => by
        have h1 := hleft x hhx
        rw [hlk, decide_eq_true hm] at h1
        cases h1
      have hz : ((getL ns2 x).getD zeroNd).kids.length = 0 := by rw [hg x, if_neg hx2]; rfl
      have hn2 : ns2.length ≤ ns.length := rise_le hA.rise fun p hp => by
        have h1 := getL_of_mem hA.rise (k := p.1) (v := p.2) hp
        rw [hg] at h1
        split at h1
        · unfold hasL; rw [h1]; rfl
        · cases h1
      have hkb : o.kids.length ≤ sumU ns [] := by
        have h1 := sumU_some HH.out.rise (x := x) (n := o) (done := []) (by rw [ho]; unfold ndOf; unfold hasL at hhx; obtain ⟨q, hq⟩ := Option.isSome_iff_exists.1 hhx; rw [hq]; rfl) (by simp)
        omega
      have HWH : Hid (∀ z, Below w.heap.size w z → Calls Try.prog 17 #[.agg #[.int .u8 (o.kind : Int), .string o.name, .int .i64 o.num, .int .u8 (o.typ : Int), .int .u64 (o.ref : Int), .slice Ao o.kids.length co]] z (WholeR z o)) := Lib.hid fun z hz => by
        have hi := (hos.below hz).up hz.size
        exact whole_any z o Ao co ⟨⟨Ao, co, rfl, hi⟩, hook⟩ hi
      have HA3 := Lib.hid hA3
      have HB3 := Lib.hid hb3
      have HRG := Lib.hid hrg3
      have HON := Lib.hid honce
      have HND := Lib.hid hnode
      have HLF := Lib.hid hleft
      have HLK := Lib.hid hlk
      have HHX := Lib.hid hhx
      have HG := Lib.hid hg
      have HZ := Lib.hid hz
      have HN2 := Lib.hid hn2
      have HO := Lib.hid ho
      have HKB := Lib.hid hkb
      have HC := Lib.hid hcnt
      have HLT := Lib.hid hlt
      clear hb hrng honce hnode hleft hA hg hkey hlk hv hat hrg3 hlt hgr hsz hgx hb3 hold hos hook hhas hhx hA3 hx2 hz hn2 ho hkb hcnt
      go_wp2_with (first
        | (go_at_call 17; go_loud (
            have hb4 := HB3.out.alloc HB3.out.size (.cells #[.int .u8 (o.kind : Int), .string o.name, .int .i64 o.num, .int .u8 (o.typ : Int), .int .u64 (o.ref : Int), .slice Ao o.kids.length co] 33);
            (with_reducible refine (HWH.out _ hb4).mono ?_);
            rintro e w5 ⟨A1, c1, rfl, hn5, hfr5, hb5⟩;
            have hb34 : Below w3.heap.size w3 (w3.alloc (.cells #[.int .u8 (o.kind : Int), .string o.name, .int .i64 o.num, .int .u8 (o.typ : Int), .int .u64 (o.ref : Int), .slice Ao o.kids.length co] 33)) := (Below.refl _ _).alloc (Nat.le_refl _) _;
            have hb35 := hb34.trans (hb5.mono hb34.size);
            have hset := set_any w5 w.heap.size ga2 gm2 gp2 x _ F2 vs2 ns2 _ o (HA3.out.below hb35) hn5 hx (by rw [HZ.out]; have := HKB.out; omega) (by have := HN2.out; omega);
            unfold ndV at hset ⊢;
            have HSET := Lib.hid hset;
            have HB35 := Lib.hid hb35;
            clear hset hb34 hb35 hb4 hb5 hn5 hfr5))
        | (go_at_call 38; go_loud (
            (with_reducible refine (HSET.out).mono ?_);
            rintro e w6 hS6;
            have hS7 := hS6;
            obtain ⟨rfl, _⟩ := hS7;
            have HS6 := Lib.hid hS6;
            clear hS6)))
      have hS := HS6.out
      rw [HO.out] at hS
      obtain ⟨mm, since, seen, c0, hi⟩ := ranges_iter HRG.out
      have hnx := CopyI.next HH.out.rise (HB3.out.trans (HB35.out.mono HB3.out.size)) (ranges_at HRG.out (HB35.out.block gm (Nat.lt_of_lt_of_le hgm HB3.out.size)) (HB35.out.block r (lt_of_heap2 hi))) HON.out HND.out HLF.out HHX.out HLK.out (HA3.out.below HB35.out) HG.out hgm hS
      go_roundw
      case rel => exact ⟨_, _, _, hnx⟩
      case measure =>
        rw [hnx.rng.left_eq, HC.out]
        exact HLT.out
end Go.Proofs.Ytogkeoainejfcaa
