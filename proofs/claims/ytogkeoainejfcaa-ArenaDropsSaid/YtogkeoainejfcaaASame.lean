/- Contracts: are two arenas the same. -/
import Derived.Test.YtogkeoainejfcaaAEq
namespace Go.Proofs.Ytogkeoainejfcaa
open Go.RowKit Go.Shelf
open Go.Maps (Keyed)
set_option linter.unusedSimpArgs false
set_option linter.unusedVariables false
set_option maxRecDepth 100000
attribute [local go_sem] Oper.semAt_some undef
theorem rise_same {ns ns' : List (Nat × Nd)} (hr : Rise ns) (hr' : Rise ns') (hl : ns.length = ns'.length) (h : ∀ k, hasL ns k = true → getL ns' k = getL ns k) : ns = ns' := by
  refine rise_ext hr hr' fun k => ?_
  cases hk : hasL ns k with
  | true => exact (h k hk).symm
  | false =>
    have h1 : getL ns k = none := by
      unfold hasL at hk
      cases hg : getL ns k with
      | none => rfl
      | some n => rw [hg] at hk; cases hk
    rw [h1]
    cases hg : getL ns' k with
    | none => rfl
    | some n =>
      exfalso
      have hno : k ∉ ns.map Prod.fst := fun hm => by
        obtain ⟨p, hp, rfl⟩ := List.mem_map.1 hm
        have := getL_of_mem hr (k := p.1) (v := p.2) hp
        rw [h1] at this
        cases this
      have hle := nodup_le (ns := ns') (done := k :: ns.map Prod.fst) (List.nodup_cons.2 ⟨hno, by
        unfold List.Nodup
        rw [List.pairwise_map]
        exact List.Pairwise.imp (fun h2 => by omega) hr⟩) (fun x hx => by
        rcases List.mem_cons.1 hx with rfl | hx
        · unfold hasL; rw [hg]; rfl
        · obtain ⟨p, hp, rfl⟩ := List.mem_map.1 hx
          have h2 := getL_of_mem hr (k := p.1) (v := p.2) hp
          have h3 := h p.1 (by unfold hasL; rw [h2]; rfl)
          unfold hasL
          rw [h3, h2]
          rfl)
      rw [List.length_cons, List.length_map] at hle
      omega
set_option maxHeartbeats 4000000 in
theorem eqFunc_any (w : World) (gm gm' : Nat) (vs vs' : List (Nat × Value)) (ns ns' : List (Nat × Nd)) (hM : MapV w gm vs) (hM' : MapV w gm' vs') (hN : NodesV w vs ns) (hN' : NodesV w vs' ns') (hr : Rise ns) (hr' : Rise ns') (hns : ns.length ≤ 1000000) :
    Calls Try.prog 53 #[.map (some gm), .map (some gm'), .func (.func 54) #[] #[]] w (BoolR w (ns = ns')) := by
  have hl := nodes_len hN hM.rise hr
  have hl' := nodes_len hN' hM'.rise hr'
  have q1 := run_count 70 33 Try.underlying70 hM 3
  have q2 := run_count 70 33 Try.underlying70 hM' 3
  rw [hl] at q1
  rw [hl'] at q2
  have HM := Lib.hid hM
  have HM' := Lib.hid hM'
  have HN := Lib.hid hN
  have HN' := Lib.hid hN'
  have HL := Lib.hid hl
  have HL' := Lib.hid hl'
  clear hM hM' hN hN' hl hl'
  by_cases hne : ns.length = ns'.length
  case neg =>
    have z1 : ((ns.length : Int) != (ns'.length : Int)) = true := by simp; omega
    have z2 : ¬ (ns.length : Int) = (ns'.length : Int) := by omega
    go_enter Try.func53, Try.ntmps53
    go_wp2_with (first
      | (at_len; (
        refine wpList_count w rfl _ 70 33 rfl Try.underlying70 gm vs rfl HM.out ?_;
        rw [HL.out]))
      | (at_len; (
        refine wpList_count w rfl _ 70 33 rfl Try.underlying70 gm' vs' rfl HM'.out ?_;
        rw [HL'.out])))
    go_ret
    exact ⟨⟨false, rfl, by simp; intro e; exact hne (by rw [e])⟩, Below.refl _ _⟩
  obtain ⟨M, hMM⟩ : ∃ M, M = ns.length := ⟨_, rfl⟩
  rw [← hMM] at q1
  rw [← hne, ← hMM] at q2
  have HLM : Hid (vs.length = M) := Lib.hid (HL.out.trans hMM.symm)
  have HLM' : Hid (vs'.length = M) := Lib.hid (HL'.out.trans (hne.symm.trans hMM.symm))
  have HNE := Lib.hid hne
  clear hMM hne
  go_enter Try.func53, Try.ntmps53
  go_wp2_with (first
    | (at_len; (
      refine wpList_count w rfl _ 70 33 rfl Try.underlying70 gm vs rfl HM.out ?_;
      rw [HLM.out]))
    | (at_len; (
      refine wpList_count w rfl _ 70 33 rfl Try.underlying70 gm' vs' rfl HM'.out ?_;
      rw [HLM'.out]))
    | (at_range; go_loud (
        refine wpList_range_own w rfl _ _ rfl 24 33 idKeyed Try.underlying70 heldE gm vs.length (mapD vs) rfl HM.out.own ?_;
        intro w2 hr2 hg2 hs2;
        have HR2 := Lib.hid hr2;
        have HG2 := Lib.hid hg2;
        clear hr2 hg2)))
  go_frame
  obtain ⟨r, hrr⟩ : ∃ r, r = w.heap.size := ⟨_, rfl⟩
  rw [← hrr]
  have HRR := Lib.hid hrr
  clear hrr q1 q2
  go_loopw [18] (fun _ wr => ∃ left cnt, RangesV wr gm r vs.length vs left cnt ∧ Below w.heap.size w wr ∧ ∀ k, hasL ns k = true → left (keyL k) = false → getL ns' k = getL ns k) (fun _ wr => wr.rangeLeft gm r)
  case atStart =>
    refine ⟨Maps.has (mapD vs), _, by rw [HRR.out]; exact HR2.out, (Below.refl _ _).grown HG2.out (Nat.le_refl _) (fun k e => by cases e), fun k hk hlk => ?_⟩
    rw [mapD_has] at hlk
    obtain ⟨_, _, _, _, _, hh⟩ := HN.out.get k
    rw [← hh] at hk
    unfold hasL at hk
    rw [hlk] at hk
    cases hk
  case round =>
    obtain ⟨left, cnt, hrng, hb, hsub⟩ := hrel
    have hcnt := hrng.left_eq
    have HS := Lib.hid hsub
    have HB := Lib.hid hb
    have HRG0 := Lib.hid hrng
    rcases hrng.next idKeyed 0 with ⟨h0, hl, hrun⟩ | ⟨key, v, kl, y, w3, cnt', hkey, hlk, hv, hat, hrun, hrg3, hlt, hgr, hsz, hen⟩
    · have HLL := Lib.hid hl
      clear hb hrng hsub hl
      go_wp2_with fail
      go_ret
      exact ⟨⟨true, rfl, by simp; exact rise_same hr hr' HNE.out fun k hk => HS.out k hk (HLL.out _)⟩, HB.out⟩
    · obtain ⟨x, rfl⟩ := keyInv key kl hkey
      obtain ⟨rfl, hx⟩ := keyIs hkey
      have hgx := valIs hv hat
      have hb3 : Below w.heap.size w w3 := hb.grown hgr hb.size (fun k e => by injection e with e; have := HRR.out; omega)
      obtain ⟨Ao, co, hold, hos, hook, hhas⟩ := HN.out.get x
      rw [hgx] at hold
      have hhx : hasL ns x = true := by rw [← hhas]; unfold hasL; rw [hgx]; rfl
      obtain ⟨o, ho⟩ : ∃ o, o = ndOf ns x := ⟨_, rfl⟩
      rw [show (getL ns x).getD zeroNd = o from ho.symm] at hold hos hook
      have hvo : v = ndV o (.slice Ao o.kids.length co) := hold
      subst hvo
      unfold ndV at hrun hen
      obtain ⟨Ap, cp, hold', hos', hook', hhas'⟩ := HN'.out.get x
      obtain ⟨p, hp⟩ : ∃ p, p = ndOf ns' x := ⟨_, rfl⟩
      rw [show (getL ns' x).getD zeroNd = p from hp.symm] at hold' hos' hook'
      have hM3 : ∀ z, Below w.heap.size w z → MapV z gm' vs' := fun z hz => HM'.out.at_ (hz.block _ HM'.out.lt)
      have HM3 := Lib.hid hM3
      have HOLD := Lib.hid hold'
      have HHAS := Lib.hid hhas'
      have HEQ : Hid (∀ z, Below w.heap.size w z → Calls Try.prog 54 #[.agg #[.int .u8 (o.kind : Int), .string o.name, .int .i64 o.num, .int .u8 (o.typ : Int), .int .u64 (o.ref : Int), .slice Ao o.kids.length co], .agg #[.int .u8 (p.kind : Int), .string p.name, .int .i64 p.num, .int .u8 (p.typ : Int), .int .u64 (p.ref : Int), .slice Ap p.kids.length cp]] z (BoolR z (o = p))) := Lib.hid fun z hz => equal_any z o p co cp Ao Ap ((hos.below hz).up hz.size) ((hos'.below hz).up hz.size)
      have HB3 := Lib.hid hb3
      have HRG := Lib.hid hrg3
      have HHX := Lib.hid hhx
      have HO := Lib.hid ho
      have HP := Lib.hid hp
      have HC := Lib.hid hcnt
      have HLT := Lib.hid hlt
      have HLK := Lib.hid hlk
      clear hb hrng hsub hkey hlk hv hat hrg3 hlt hgr hsz hgx hb3 hold hos hook hhas hhx ho hp hcnt hold' hos' hook' hhas' hM3
      cases hh : hasL ns' x with
      | false =>
        rw [hh] at HHAS
        go_wp2_with (at_lookup; go_loud (
          refine wpList_lookOk _ rfl _ _ 70 33 rfl Try.underlying70 (ndV zeroNd (.slice none 0 0)) (zeroNode _) gm' vs' rfl (HM3.out _ (HB3.out.alloc HB3.out.size _)) x hx rfl ?_;
          rw [HHAS.out, HOLD.out];
          unfold ndV))
        go_ret
        exact ⟨⟨false, rfl, by simp; intro e; rw [e, hh] at HHX; exact absurd HHX.out (by simp)⟩, (HB3.out.alloc HB3.out.size _).alloc (by have := HB3.out.size; simp; omega) _⟩
      | true =>
        rw [hh] at HHAS
        by_cases hop : o = p
        · subst hop
          go_wp2_with (first
            | (at_lookup; go_loud (
              refine wpList_lookOk _ rfl _ _ 70 33 rfl Try.underlying70 (ndV zeroNd (.slice none 0 0)) (zeroNode _) gm' vs' rfl (HM3.out _ (HB3.out.alloc HB3.out.size _)) x hx rfl ?_;
              rw [HHAS.out, HOLD.out];
              unfold ndV))
            | (go_at_call 54; go_loud (
              have hb5 := (HB3.out.alloc HB3.out.size (.cells #[.int .u8 (o.kind : Int), .string o.name, .int .i64 o.num, .int .u8 (o.typ : Int), .int .u64 (o.ref : Int), .slice Ao o.kids.length co] 33)).alloc (by have := HB3.out.size; simp; omega) (.cells #[.int .u8 (o.kind : Int), .string o.name, .int .i64 o.num, .int .u8 (o.typ : Int), .int .u64 (o.ref : Int), .slice Ap o.kids.length cp] 33);
              (with_reducible refine (HEQ.out _ hb5).mono ?_);
              rintro e w6 ⟨⟨b, rfl, hbi⟩, hb6⟩;
              obtain rfl : b = true := hbi.2 rfl;
              have hb36 : Below w3.heap.size w3 w6 := (((Below.refl _ _).alloc (Nat.le_refl _) (.cells #[.int .u8 (o.kind : Int), .string o.name, .int .i64 o.num, .int .u8 (o.typ : Int), .int .u64 (o.ref : Int), .slice Ao o.kids.length co] 33)).alloc (by simp) (.cells #[.int .u8 (o.kind : Int), .string o.name, .int .i64 o.num, .int .u8 (o.typ : Int), .int .u64 (o.ref : Int), .slice Ap o.kids.length cp] 33)).trans (hb6.mono (by simp; omega));
              have HB36 := Lib.hid hb36;
              clear hbi hb6 hb5 hb36)))
          obtain ⟨mm, since, seen, c0, hi⟩ := ranges_iter HRG.out
          have hnx := ranges_at HRG.out (w' := w6) (HB36.out.block gm (Nat.lt_of_lt_of_le HM.out.lt HB3.out.size)) (HB36.out.block r (lt_of_heap2 hi))
          go_roundw
          case rel =>
            refine ⟨_, _, hnx, HB3.out.trans (HB36.out.mono HB3.out.size), fun k hk hlk => ?_⟩
            rw [key_same] at hlk
            by_cases e : k = x
            · rw [e]
              have h1 := HHX.out
              unfold hasL at h1 hh
              obtain ⟨q, hq⟩ := Option.isSome_iff_exists.1 h1
              obtain ⟨q', hq'⟩ := Option.isSome_iff_exists.1 hh
              have e1 : o = q := by rw [HO.out]; unfold ndOf; rw [hq]; rfl
              have e2 : o = q' := by rw [HP.out]; unfold ndOf; rw [hq']; rfl
              rw [hq, hq', ← e1, ← e2]
            · exact HS.out k hk (by simpa [e] using hlk)
          case measure =>
            rw [hnx.left_eq, HC.out]
            exact HLT.out
        · go_wp2_with (first
            | (at_lookup; go_loud (
              refine wpList_lookOk _ rfl _ _ 70 33 rfl Try.underlying70 (ndV zeroNd (.slice none 0 0)) (zeroNode _) gm' vs' rfl (HM3.out _ (HB3.out.alloc HB3.out.size _)) x hx rfl ?_;
              rw [HHAS.out, HOLD.out];
              unfold ndV))
            | (go_at_call 54; go_loud (
              have hb5 := (HB3.out.alloc HB3.out.size (.cells #[.int .u8 (o.kind : Int), .string o.name, .int .i64 o.num, .int .u8 (o.typ : Int), .int .u64 (o.ref : Int), .slice Ao o.kids.length co] 33)).alloc (by have := HB3.out.size; simp; omega) (.cells #[.int .u8 (p.kind : Int), .string p.name, .int .i64 p.num, .int .u8 (p.typ : Int), .int .u64 (p.ref : Int), .slice Ap p.kids.length cp] 33);
              (with_reducible refine (HEQ.out _ hb5).mono ?_);
              rintro e w6 ⟨⟨b, rfl, hbi⟩, hb6⟩;
              obtain rfl : b = false := by cases b; rfl; exact absurd (hbi.1 rfl) hop;
              have HB6 := Lib.hid (hb5.trans (hb6.mono hb5.size));
              clear hbi hb6 hb5)))
          go_ret
          exact ⟨⟨false, rfl, by simp; intro e; exact hop (by rw [HO.out, HP.out, e])⟩, HB6.out⟩
theorem same_nils (w : World) : Calls Try.prog 23 #[.pointer none, .pointer none] w (fun e w' => e = .returned (.bool true) ∧ Below w.heap.size w w') := by
  go_enter Try.func23, Try.ntmps23
  go_wp2_with fail
  go_ret
  exact ⟨rfl, Below.refl _ _⟩
theorem same_one (w : World) (p : Addr) : Calls Try.prog 23 #[.pointer (some p), .pointer none] w (fun e w' => e = .returned (.bool false) ∧ Below w.heap.size w w') := by
  go_enter Try.func23, Try.ntmps23
  go_wp2_with fail
  go_ret
  exact ⟨rfl, Below.refl _ _⟩
set_option maxHeartbeats 2000000 in
theorem same_any (w : World) {base ga gm gp N base' ga' gm' gp' N' : Nat} {F F' : PF} {vs vs' : List (Nat × Value)} {ns ns' : List (Nat × Nd)} (h : AR w base ga gm gp F vs ns N) (h' : AR w base' ga' gm' gp' F' vs' ns' N') (hns : ns.length ≤ 1000000) :
    Calls Try.prog 23 #[.pointer (some ⟨ga, 0, none⟩), .pointer (some ⟨ga', 0, none⟩)] w (BoolR w (ns = ns')) := by
  have q0 : w.cell? ⟨ga, 0, none⟩ = some (.map (some gm)) := by unfold World.cell?; rw [h.st]; rfl
  have q1 : w.cell? ⟨ga', 0, none⟩ = some (.map (some gm')) := by unfold World.cell?; rw [h'.st]; rfl
  have HEF := Lib.hid (fun y (hy : Below w.heap.size w y) => eqFunc_any y gm gm' vs vs' ns ns' (h.below hy).map (h'.below hy).map (h.below hy).nodes (h'.below hy).nodes h.rise h'.rise hns)
  clear h h'
  go_enter Try.func23, Try.ntmps23
  go_wp2_with fail
  go_region_law (go_simp; go_at_call 53; (with_reducible refine (HEF.out _ (ride_drew (Below.refl _ _))).mono ?_); rintro e w1 ⟨⟨b, rfl, hbi⟩, hb1⟩)
  all_goals
    go_wp2_with fail
    go_ret
    exact ⟨⟨b, rfl, hbi⟩, (ride_drew (Below.refl _ _)).trans hb1⟩
end Go.Proofs.Ytogkeoainejfcaa
