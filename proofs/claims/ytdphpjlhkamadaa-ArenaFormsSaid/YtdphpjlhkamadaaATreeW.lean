/- Contracts: whether an arena is a tree. -/
import Derived.Test.YtdphpjlhkamadaaZ17
namespace Go.Proofs.Ytdphpjlhkamadaa
open Go.RowKit Go.Shelf
set_option linter.unusedSimpArgs false
set_option linter.unusedVariables false
set_option maxRecDepth 100000
attribute [local go_sem] Oper.semAt_some undef
theorem run_kind (x : World) (k y r : Int) (m : Int) (s : ByteArray) (v : Value) : (Instr.field 33 (.agg #[.int .u8 k, .string s, .int .i64 m, .int .u8 y, .int .u64 r, v]) 0).run Try.prog x = .ok (.int .u8 k) x := by kernel_rfl
theorem zeroInt (w : World) : (zeroValue 3).run Try.prog w = .ok (.int .i64 0) w := by kernel_rfl
theorem bool_res {fn : Func} {T : Array Value} {W : World} {a : Addr} {b : Bool} {p : Tmp} (h : fn.results = #[.cell p 4]) (hT : T.getD p undef = .pointer (some a)) (hc : W.cell? a = some (.bool b)) : (results fn T).run Try.prog W = .ok (.bool b) W := by
  rw [results_one h, hT]
  simp [asAddr, Result.andThen, go_sem, hc]
theorem walkF_ok {ns : List (Nat × Nd)} : ∀ (f : Nat) (left done : List Nat), done.Nodup → (∀ x ∈ done, hasL ns x = true) → (walkF ns f left done).Nodup ∧ ∀ x ∈ walkF ns f left done, hasL ns x = true
  | 0, _, done, h, k => ⟨h, k⟩
  | f + 1, [], done, h, k => ⟨h, k⟩
  | f + 1, x :: left, done, h, k => by
    cases hg : getL ns x with
    | none => rw [walkF_none hg]; exact walkF_ok f left done h k
    | some n =>
      by_cases hd : x ∈ done
      · rw [walkF_again hd]; exact walkF_ok f left done h k
      · rw [walkF_some hg hd]
        refine walkF_ok f _ _ ?_ fun y hy => ?_
        · rw [List.nodup_append]
          exact ⟨h, by simp, fun a ha b hb e => by simp at hb; rw [e, hb] at ha; exact hd ha⟩
        · rcases List.mem_append.1 hy with hy | hy
          · exact k y hy
          · simp at hy
            rw [hy]
            unfold hasL
            rw [hg]
            rfl
theorem walkL_ok (ns : List (Nat × Nd)) (id : Nat) : (walkL ns id).Nodup ∧ ∀ x ∈ walkL ns id, hasL ns x = true := walkF_ok _ _ _ List.nodup_nil (by simp)
theorem walkL_le (ns : List (Nat × Nd)) (id : Nat) : (walkL ns id).length ≤ ns.length := nodup_le (walkL_ok ns id).1 (walkL_ok ns id).2
theorem MapV.small' {w : World} {b : Nat} {vs : List (Nat × Value)} {ns : List (Nat × Nd)} (h : MapV w b vs) (hn : NodesV w vs ns) {y : Nat} (hy : hasL ns y = true) : y < 18446744073709551616 := by
  obtain ⟨_, _, _, _, _, hh⟩ := hn.get y
  rw [hy] at hh
  unfold hasL at hh
  obtain ⟨v, hv⟩ := Option.isSome_iff_exists.1 hh
  exact h.small _ (getL_mem hv)
theorem tree_nil (w : World) : Calls Try.prog 32 #[.pointer none] w (fun e w' => e = .returned (.bool false) ∧ Below w.heap.size w w') := by
  refine callsIn_wide.1 (callsIn_of_wp_marks (n := 5) Try.func32 rfl trivial ((wpIn_wide (n := 5)).2 ?_))
  simp only [Try.ntmps32, List.size_toArray, List.length_cons, List.length_nil, Nat.reduceAdd, Nat.reduceSub, Array.replicate_succ, Array.replicate_zero, List.push_toArray, List.append_toArray, List.nil_append, List.cons_append]
  go_wp2_with fail
  refine leaves_marked (B := w.heap.size) [] _ (Marked.nil _ _) fun w' hu => ⟨_, bool_res (p := 2) rfl rfl (b := false) ?_, rfl, (((Below.refl _ _).alloc (Nat.le_refl _) _).alloc (by simp) _).trans hu.1⟩
  have h1 := hu.2 (w.heap.size + 1) _ (alloc2 w (.cells #[.pointer none] 26) #[.bool false] 4 (0, 0)) (fun x e => by cases e)
  unfold World.cell?
  rw [h1]
  rfl
set_option maxHeartbeats 4000000 in
theorem tree_any (w : World) (base ga gm gp N : Nat) (F : PF) (vs : List (Nat × Value)) (ns : List (Nat × Nd)) (h : AR w base ga gm gp F vs ns N) (hfew : sumU ns [] ≤ 900000000) (hns : ns.length ≤ 1000000) :
    Calls Try.prog 32 #[.pointer (some ⟨ga, 0, none⟩)] w (fun e w' => e = .returned (.bool (treeB ns)) ∧ Below w.heap.size w w') := by
  obtain ⟨Ao, co, hold, hos, hook, hhas⟩ := h.nodes.get 1
  obtain ⟨o, ho⟩ : ∃ o, o = ndOf ns 1 := ⟨_, rfl⟩
  rw [show (getL ns 1).getD zeroNd = o from ho.symm] at hold
  have HLK : Hid (∀ y, Below w.heap.size w y → y.cell? ⟨ga, 0, none⟩ = some (.map (some gm)) ∧ (Instr.lookup 70 (.map (some gm)) (.int .u64 1) false).run Try.prog y = .ok (.agg #[.int .u8 (o.kind : Int), .string o.name, .int .i64 o.num, .int .u8 (o.typ : Int), .int .u64 (o.ref : Int), .slice Ao o.kids.length co]) y) := Lib.hid fun y hy => by
    refine ⟨(hy.cell (p := ⟨ga, 0, none⟩) (lt_of_heap2 h.st)).trans (by unfold World.cell?; rw [h.st]; rfl), ?_⟩
    exact run_look _ 33 Try.underlying70 _ (zeroNode _) (b := gm) (l := vs) (h.below hy).map 1 (by decide) _ hold
  have HO := Lib.hid ho
  have HH := Lib.hid h
  have hmm := @run_makeMap Try.prog
  clear ho hold hos hook hhas h
  refine callsIn_wide.1 (callsIn_of_wp_marks (n := 5) Try.func32 rfl trivial ((wpIn_wide (n := 5)).2 ?_))
  simp only [Try.ntmps32, List.size_toArray, List.length_cons, List.length_nil, Nat.reduceAdd, Nat.reduceSub, Array.replicate_succ, Array.replicate_zero, List.push_toArray, List.append_toArray, List.nil_append, List.cons_append]
  obtain ⟨l0, l1⟩ := HLK.out ((w.alloc (.cells #[.pointer (some ⟨ga, 0, none⟩)] 26)).alloc (.cells #[.bool false] 4)) (((Below.refl _ _).alloc (Nat.le_refl _) _).alloc (by simp) _)
  have hkd := run_kind
  by_cases hk : o.kind = 1
  · have hk2 : (o.kind : Int) = 1 := by omega
    have hm1 : MapV (((w.alloc (.cells #[.pointer (some ⟨ga, 0, none⟩)] 26)).alloc (.cells #[.bool false] 4)).alloc (.map #[] 0)) (w.heap.size + 1 + 1) [] := by
      have h1 := MapV.made ((w.alloc (.cells #[.pointer (some ⟨ga, 0, none⟩)] 26)).alloc (.cells #[.bool false] 4))
      rw [show ((w.alloc (.cells #[.pointer (some ⟨ga, 0, none⟩)] 26)).alloc (.cells #[.bool false] 4)).heap.size = w.heap.size + 1 + 1 by simp] at h1
      exact h1
    obtain ⟨w3, hr3, hM3, hT3⟩ := run_store 105 3 Try.underlying105 hm1 (by decide) 1 (by decide) (.int .i64 1)
    rw [show ((1 : Nat) : Int) = 1 from rfl] at hr3
    have hb3 : Below w.heap.size w w3 := ((((Below.refl _ _).alloc (Nat.le_refl _) _).alloc (by simp) _).alloc (by simp; omega) _).grown hT3.grown (by simp; omega) (fun k e => by injection e with e; omega)
    have hs3 : w3.heap.size = w.heap.size + 3 := by
      obtain ⟨es, cl, es', cl', _, e⟩ := hT3
      rw [e]
      simp [ChangeMaps.setBlock]
    have hA3 : w3.heap[w.heap.size]? = some (.cells #[.pointer (some ⟨ga, 0, none⟩)] 26 (0, 0)) := by
      refine turned_keeps hT3 (by omega) ?_
      rw [heap_alloc_lt _ _ (by simp; omega), heap_alloc_lt _ _ (by simp)]
      exact Go.heap_alloc_new _ _
    have hR3 : w3.heap[w.heap.size + 1]? = some (.cells #[.bool false] 4 (0, 0)) := by
      refine turned_keeps hT3 (by omega) ?_
      rw [heap_alloc_lt _ _ (by simp)]
      exact alloc2 _ _ _ _ _
    obtain ⟨w4, hw4⟩ : ∃ w4, w4 = (w3.alloc (.cells #[.map (some (w.heap.size + 1 + 1))] 105)).alloc (.cells #[.int .i64 0] 3) := ⟨_, rfl⟩
    have hb4 : Below w3.heap.size w3 w4 := by rw [hw4]; exact ((Below.refl _ _).alloc (Nat.le_refl _) _).alloc (by simp) _
    have hD4 : w4.heap[w3.heap.size]? = some (.cells #[.map (some (w.heap.size + 1 + 1))] 105 (0, 0)) := by rw [hw4, heap_alloc_lt _ _ (by simp)]; exact Go.heap_alloc_new _ _
    have hW4 : w4.heap[w3.heap.size + 1]? = some (.cells #[.int .i64 0] 3 (0, 0)) := by rw [hw4]; exact alloc2 _ _ _ _ _
    have hA4 := (hb4.block _ (lt_of_heap2 hA3)).trans hA3
    have hR4 := (hb4.block _ (lt_of_heap2 hR3)).trans hR3
    have hM4 := hM3.at_ (w' := w4) (hb4.block _ hM3.lt)
    have hbw4 : Below w.heap.size w w4 := hb3.trans (hb4.mono (by omega))
    have q1 : w4.cell? ⟨w.heap.size, 0, none⟩ = some (.pointer (some ⟨ga, 0, none⟩)) := cell_box hA4
    subst hw4
    have hwk := walk_any _ base ga gm gp 1 N F vs ns (HH.out.below hbw4) (by decide) hfew hns
    rw [show ((1 : Nat) : Int) = 1 from rfl] at hwk
    have HWK := Lib.hid hwk
    clear hwk
    have HA4 := Lib.hid hA4
    have HR4 := Lib.hid hR4
    have HM4 := Lib.hid hM4
    have HD4 := Lib.hid hD4
    have HW4 := Lib.hid hW4
    have HBW4 := Lib.hid hbw4
    have HS3 := Lib.hid hs3
    clear hm1 hM3 hT3 hb3 hs3 hA3 hR3 hb4 hD4 hW4 hA4 hR4 hM4 hbw4
    go_wp2_with (first
      | (go_at_call 41; (with_reducible refine (HWK.out).mono ?_); rintro e w5 ⟨B, A, c, rfl, hB1, hB2, hB3, hB4⟩; go_loud (
          have HB1 := Lib.hid hB1;
          have HB2 := Lib.hid hB2;
          have HB3 := Lib.hid hB3;
          have HB4 := Lib.hid hB4;
          clear hB1 hB2 hB3 hB4)))
    have hko : (ndOf ns 1).kind = 1 := by rw [← HO.out]; exact hk
    have hle := walkL_le ns 1
    obtain ⟨L, hL⟩ : ∃ L, L = walkL ns 1 := ⟨_, rfl⟩
    rw [← hL] at HB2 HB3 hle
    have hrow := WRow.start (HH.out.below HBW4.out) HB2.out HB3.out HB4.out (Nat.le_trans hle hns)
    have hbw5 : Below w.heap.size w w5 := HBW4.out.trans (HB4.out.mono HBW4.out.size)
    have hI0 : TreeI w w3.heap.size ga ns L (([] : List WAt).length) w5 := ⟨[(1, 1)], rfl, DmOk.start (has_root hko), hbw5, (HB4.out.block _ (lt_of_heap2 HA4.out)).trans HA4.out, (HB4.out.block _ (lt_of_heap2 HR4.out)).trans HR4.out, (HB4.out.block _ (lt_of_heap2 HD4.out)).trans HD4.out, (HB4.out.block _ (lt_of_heap2 HW4.out)).trans HW4.out, HM4.out.at_ (HB4.out.block _ HM4.out.lt)⟩
    have hszs : w.heap.size + 1 + 1 < w5.heap.size ∧ w3.heap.size + 1 < w5.heap.size := by
      have h1 := HB4.out.size
      have h2 := HS3.out
      simp at h1
      omega
    have HRW := Lib.hid hrow
    have HI0 := Lib.hid hI0
    have HSZ := Lib.hid hszs
    have HL := Lib.hid hL
    have HKO := Lib.hid hko
    have HB5 := Lib.hid hbw5
    clear hrow hI0 hszs hL hko hle hbw5 q1 l0 l1 hmm hr3
    refine (wpIn_wide (n := 5)).1 ?_
    refine range_tells (ps := #[24, 25]) (by omega) 63 _ rfl (enters_of Try.func63 (by kernel_rfl) rfl) (walk_tells (5 - 1) (by omega) B c A vs ns L w5 HRW.out) (fun _ => rfl) KpW.trans (fun W l o' hl => KpW.putObj W l o' hl)
      (fun pre W => TreeI w w3.heap.size ga ns L pre.length W) (fun c pre W => c = .ret ∧ TreeX w ns L W) (treeI_own (Nat.le_of_lt (by have := HSZ.out; omega)) HSZ.out.1) (fun c => treeX_own c (Nat.le_of_lt (by have := HSZ.out; omega))) HI0.out
      (fun T pre x a' W => TreeA w5.heap.size ns L T pre x a' W) (fun pre x a' => treeA_own pre x a') ?assign ?body ?done ?stop
    case assign =>
      intro l pre x W K hI hOk hK
      rw [enc_tmps]
      have hK2 := hK
      obtain ⟨hx, hnv, hfr⟩ := hOk
      obtain ⟨hids, hok⟩ := NodeV.ids hnv
      have HIDS := Lib.hid hids
      have HI := Lib.hid hI
      clear hI hids hnv
      unfold wVal ndV
      simp only [List.setIfInBounds_toArray, List.set_cons_zero, List.set_cons_succ]
      gi_wp2
      have hbl : Below W.heap.size W (W.alloc (.cells #[.int .u8 ((wNode ns L x).kind : Int), .string (wNode ns L x).name, .int .i64 (wNode ns L x).num, .int .u8 ((wNode ns L x).typ : Int), .int .u64 ((wNode ns L x).ref : Int), .slice x.2.1 (wNode ns L x).kids.length x.2.2] 33)) := (Below.refl _ _).alloc (Nat.le_refl _) _
      obtain ⟨dm, h1, h2, h3⟩ := HI.out
      exact hK2 _ _ ((TreeK.below (sM := w.heap.size + 1 + 1) hbl).keeps HSZ.out.1) ((TreeK.below (sM := w.heap.size + 1 + 1) hbl).kp) ⟨dm, h1, h2, h3.go hbl⟩ ⟨hx, W.heap.size, Nat.zero_le _, rfl, Go.heap_alloc_new _ _, (HIDS.out.below hbl).up hbl.size, hok⟩
    case body =>
      rintro l pre x a' W hl ⟨dm, hdm, hdo, hw⟩ ⟨hx, p, _, rfl, hbox, hids, hok⟩ hlen
      obtain ⟨k, hk⟩ : ∃ k, k = pre.length := ⟨_, rfl⟩
      rw [← hk] at hdm hw hlen
      obtain ⟨y, hy⟩ : ∃ y, L[k]? = some y := ⟨_, List.getElem?_eq_getElem hlen⟩
      obtain ⟨xi, A1, c1⟩ := x
      have hxk : xi = k := hx.trans hk.symm
      subst hxk
      have hyd : L.getD xi 0 = y := by rw [List.getD_eq_getElem?_getD, hy]; rfl
      have hnd : wNode ns L (xi, A1, c1) = ndOf ns y := by unfold wNode; rw [hyd]
      unfold wVal ndV
      dsimp only at hbox hids hok hyd ⊢
      rw [hnd] at hbox hids hok ⊢
      rw [hyd]
      obtain ⟨q, hq⟩ : ∃ q, q = ndOf ns y := ⟨_, rfl⟩
      rw [← hq] at hbox hids hok ⊢
      have hsucc : (pre ++ [(xi, A1, c1)]).length = xi + 1 := by rw [List.length_append, ← hk]; rfl
      have htake : L.take (xi + 1) = L.take xi ++ [y] := by rw [List.take_add_one, hy]; rfl
      have hxb : xi < 1000000 := by
        have h1 := walkL_le ns 1
        rw [← HL.out] at h1
        omega
      have hy64 : y < 18446744073709551616 := HH.out.map.small' HH.out.nodes ((walkL_ok ns 1).2 y (by rw [← HL.out]; exact List.mem_of_getElem? hy))
      have hw64 : wrap64 ((xi : Int) + 1) = (xi : Int) + 1 := by unfold wrap64; omega
      have h8 := hw.count (by have := HS3.out; omega)
      rw [show ((xi + 1 : Nat) : Int) = (xi : Int) + 1 from by omega] at h8
      have k8 : TreeK (w.heap.size + 1 + 1) W (W.setCell ⟨w3.heap.size + 1, 0, none⟩ (.int .i64 ((xi : Int) + 1))) := TreeK.setCell hw.c (by unfold lyingT; decide) _
      have e1 := cell_box hw.c
      have e2 := frozen_of_row W (w3.heap.size + 1) 0 _ _ hw.c
      have a8 := cell_box h8.a
      have d8 := cell_box h8.d
      have r8 := cell_box h8.r
      have f8 := frozen_of_row _ (w.heap.size + 1) 0 _ _ h8.r
      obtain ⟨b0, b1, b2, b3, b4, b5, b6⟩ := box_cells (k8.cells _ _ _ _ hbox (by unfold lyingT; decide))
      obtain ⟨d, hd⟩ : ∃ d, d = depL dm y := ⟨_, rfl⟩
      have l8 := run_look 105 3 Try.underlying105 _ (zeroInt _) h8.m y hy64 _ (depV dm y)
      rw [← hd] at l8
      have HW8 := Lib.hid h8
      have HK8 := Lib.hid k8
      have HW := Lib.hid hw
      have HBOX := Lib.hid hbox
      have HIDS := Lib.hid hids
      have HOK := Lib.hid hok
      have HDM := Lib.hid hdm
      have HDO := Lib.hid hdo
      have HQ := Lib.hid hq
      have HD := Lib.hid hd
      have HSC := Lib.hid hsucc
      have HTK := Lib.hid htake
      have HKP := Lib.hid hk
      clear h8 k8 hw hbox hids hok hdm hdo hq hd hsucc htake hy hyd hnd hx hk hlen
      simp only [List.setIfInBounds_toArray, List.set_cons_zero, List.set_cons_succ]
      have HHAS : Hid (∀ z : Nat, z < 18446744073709551616 → ∀ y', Below w.heap.size w y' → CallsIn (Fence.wide.inRound l) 2 Try.prog 57 #[.pointer (some ⟨ga, 0, none⟩), .int .u64 (z : Int)] y' (fun e w' => e = .returned (.bool (hasL ns z)) ∧ Below y'.heap.size y' w')) := Lib.hid fun z hz y' hy' => CallsIn.inRound l (callsIn_wide.2 (has_any y' base ga gm gp z N F vs ns (HH.out.below hy') hz))
      have href := HOK.out.ref
      by_cases hA : 200 < d
      · have hAI : (200 : Int) < (d : Int) := by omega
        have hAD : decide ((200 : Int) < (d : Int)) = true := decide_eq_true hAI
        gi_wp2_with (first
          | (exfalso; rename_i h1 h2; unfold undef at h1; cases h1; done)
          | (exfalso; rename_i h1; unfold undef at h1; cases h1; done)
          | (refine And.intro trivial ?_; gi_at_call 57; go_loud (
              (with_reducible refine ((HHAS.out _ href _ HW8.out.below).mono ?_));
              rintro e w9 ⟨rfl, hb9⟩;
              have hw9 := HW8.out.go hb9;
              have r8 := cell_box hw9.r;
              have f8 := frozen_of_row _ (w.heap.size + 1) 0 _ _ hw9.r;
              have hk9 := HK8.out.trans (TreeK.below hb9);
              obtain ⟨v0, v1, v2, v3, v4, v5, v6⟩ := box_cells (hk9.cells _ _ _ _ HBOX.out (by unfold lyingT; decide));
              have HW9 := Lib.hid hw9;
              have HK9 := Lib.hid hk9;
              clear hw9 hk9 hb9;
              skip))
          | (refine And.intro trivial ?_))
        obtain ⟨g1, g2, g3⟩ := HW8.out.fail
        refine ⟨(HK8.out.trans g3).keeps HSZ.out.1, rfl, go_bad HTK.out HDM.out ?_, g1, g2⟩
        unfold stepT
        rw [if_pos (.inl (by rw [← HD.out]; exact hA))]
      · have hAI : ¬ (200 : Int) < (d : Int) := by omega
        have hAD : decide ((200 : Int) < (d : Int)) = false := decide_eq_false hAI
        by_cases hR : q.ref = 0
        · have hRI : (q.ref : Int) = 0 := by omega
          have hRD : ((q.ref : Int) != 0) = false := by rw [hRI]; rfl
          gi_wp2_with (first
            | (exfalso; rename_i h1 h2; unfold undef at h1; cases h1; done)
            | (exfalso; rename_i h1; unfold undef at h1; cases h1; done)
            | (refine And.intro trivial ?_; gi_at_call 57; go_loud (
                (with_reducible refine ((HHAS.out _ href _ HW8.out.below).mono ?_));
                rintro e w9 ⟨rfl, hb9⟩;
                have hw9 := HW8.out.go hb9;
                have r8 := cell_box hw9.r;
                have f8 := frozen_of_row _ (w.heap.size + 1) 0 _ _ hw9.r;
                have hk9 := HK8.out.trans (TreeK.below hb9);
                obtain ⟨v0, v1, v2, v3, v4, v5, v6⟩ := box_cells (hk9.cells _ _ _ _ HBOX.out (by unfold lyingT; decide));
                have HW9 := Lib.hid hw9;
                have HK9 := Lib.hid hk9;
                clear hw9 hk9 hb9;
                skip))
            | (refine And.intro trivial ?_))
          have hgood : ¬ badAt ns dm y := by
            rintro (h | ⟨h, _⟩)
            · rw [← HD.out] at h; exact hA h
            · rw [← HQ.out] at h; exact h hR
          have HGOOD := Lib.hid hgood
          obtain ⟨w9, hw9⟩ : ∃ w9, w9 = W.setCell ⟨w3.heap.size + 1, 0, none⟩ (.int .i64 ((xi : Int) + 1)) := ⟨_, rfl⟩
          have HW9 : Hid (TreeW w w3.heap.size ga (xi + 1) dm w9) := Lib.hid (by rw [hw9]; exact HW8.out)
          have HK9 : Hid (TreeK (w.heap.size + 1 + 1) W w9) := Lib.hid (by rw [hw9]; exact HK8.out)
          rw [← hw9]
          clear hgood hw9 b0 b1 b2 b3 b4 b5 b6 a8 d8 r8 f8 e1 e2 l8 hRI hRD hAI hAD hw64
          obtain ⟨M, hM⟩ : ∃ M, M = q.kids.length := ⟨_, rfl⟩
          rw [← hM]
          have HM := Lib.hid hM
          clear hM
          gi_loopw [47] (fun jv wr => ∃ (i : Nat) (dm' : List (Nat × Nat)), i ≤ M ∧ jv = .int .i64 (i : Int) ∧ kidsGo ns y (q.kids.take i) dm = some dm' ∧ DmOk ns dm' ∧ depL dm' y ≤ 200 ∧ TreeW w w3.heap.size ga (xi + 1) dm' wr ∧ TreeK (w.heap.size + 1 + 1) W wr) (fun jv _ => M - (intOf jv).toNat)
          case atStart => exact ⟨0, dm, Nat.zero_le _, rfl, rfl, HDO.out, by rw [← HD.out]; omega, HW9.out, HK9.out⟩
          case round =>
            obtain ⟨i, dm', hi, rfl, hgo, hok', hdy, hw', hk'⟩ := hrel
            have HGO := Lib.hid hgo
            have HOK2 := Lib.hid hok'
            have HDYL := Lib.hid hdy
            have HWW := Lib.hid hw'
            have HKK := Lib.hid hk'
            by_cases hlt : i < M
            · obtain ⟨z, hz⟩ : ∃ z, q.kids[i]? = some z := by rw [HM.out] at hlt; exact ⟨_, List.getElem?_eq_getElem hlt⟩
              obtain ⟨ad, hA1, _, hcell⟩ := (hk'.ids HIDS.out).at_ hz
              have hz64 := HIDS.out.small z (List.mem_of_getElem? hz)
              have hltI : (i : Int) < (M : Int) := by omega
              have a9 := cell_box hw'.a
              have hnext := kidsGo_next hgo hz
              have HZ := Lib.hid hnext
              obtain ⟨hz1, hhz⟩ : ∃ b, b = hasL ns z := ⟨_, rfl⟩
              obtain ⟨dz, hdz⟩ : ∃ d, d = depL dm' z := ⟨_, rfl⟩
              obtain ⟨dy, hdyy⟩ : ∃ d, d = depL dm' y := ⟨_, rfl⟩
              have HHZ := Lib.hid hhz
              have HDZ := Lib.hid hdz
              have HDY := Lib.hid hdyy
              have HLEN : Hid ((mapL iv dm').length < maxLen) := Lib.hid (by rw [mapL_length]; have := hok'.few; unfold maxLen; omega)
              have hdyb : dy ≤ 200 := by rw [hdyy]; exact hdy
              have hiM : i < 1000000000 := by have := HIDS.out.long; have := HM.out; omega
              have HWI : Hid (wrap64 ((i : Int) + 1) = ((i + 1 : Nat) : Int)) := Lib.hid (by unfold wrap64; omega)
              clear hgo hok' hdy hw' hk' hnext hz hhz hdz hdyy hi
              subst hA1
              cases hz1 with
              | false =>
                gi_wp2_with (first
                  | (exfalso; rename_i h1 h2; unfold undef at h1; cases h1; done)
                  | (exfalso; rename_i h1; unfold undef at h1; cases h1; done)
                  | (refine And.intro trivial ?_; gi_at_call 57; go_loud (
                      (with_reducible refine ((HHAS.out _ hz64 _ HWW.out.below).mono ?_));
                      rintro e w10 ⟨rfl, hb10⟩;
                      have hw10 := HWW.out.go hb10;
                      have r10 := cell_box hw10.r;
                      have f10 := frozen_of_row _ (w.heap.size + 1) 0 _ _ hw10.r;
                      have d10 := cell_box hw10.d;
                      have hk10 := HKK.out.trans (TreeK.below hb10);
                      have l10z := run_look 105 3 Try.underlying105 _ (zeroInt _) hw10.m z hz64 _ (depV dm' z);
                      have l10y := run_look 105 3 Try.underlying105 _ (zeroInt _) hw10.m y hy64 _ (depV dm' y);
                      rw [← HDZ.out] at l10z;
                      rw [← HDY.out] at l10y;
                      obtain ⟨w11, hr11, hM11, hT11⟩ := run_store 105 3 Try.underlying105 hw10.m HLEN.out z hz64 (.int .i64 ((dy : Int) + 1));
                      have HW10 := Lib.hid hw10;
                      have HK10 := Lib.hid hk10;
                      have HM11 := Lib.hid hM11;
                      have HT11 := Lib.hid hT11;
                      clear hw10 hk10 hb10 hM11 hT11;
                      rw [← HHZ.out]))
                  | (refine And.intro trivial ?_))
                obtain ⟨g1, g2, g3⟩ := HW10.out.fail
                refine ⟨(HK10.out.trans g3).keeps HSZ.out.1, rfl, go_bad HTK.out HDM.out ?_, g1, g2⟩
                unfold stepT
                split
                · rfl
                · rw [← HQ.out]
                  refine kidsGo_none (k := i + 1) ?_
                  rw [HZ.out, if_neg (by rw [← HHZ.out]; simp)]
              | true =>
                by_cases hdz0 : 0 < dz
                · have hdzD : decide (0 < dz) = true := decide_eq_true hdz0
                  gi_wp2_with (first
                    | (exfalso; rename_i h1 h2; unfold undef at h1; cases h1; done)
                    | (exfalso; rename_i h1; unfold undef at h1; cases h1; done)
                    | (refine And.intro trivial ?_; gi_at_call 57; go_loud (
                        (with_reducible refine ((HHAS.out _ hz64 _ HWW.out.below).mono ?_));
                        rintro e w10 ⟨rfl, hb10⟩;
                        have hw10 := HWW.out.go hb10;
                        have r10 := cell_box hw10.r;
                        have f10 := frozen_of_row _ (w.heap.size + 1) 0 _ _ hw10.r;
                        have d10 := cell_box hw10.d;
                        have hk10 := HKK.out.trans (TreeK.below hb10);
                        have l10z := run_look 105 3 Try.underlying105 _ (zeroInt _) hw10.m z hz64 _ (depV dm' z);
                        have l10y := run_look 105 3 Try.underlying105 _ (zeroInt _) hw10.m y hy64 _ (depV dm' y);
                        rw [← HDZ.out] at l10z;
                        rw [← HDY.out] at l10y;
                        obtain ⟨w11, hr11, hM11, hT11⟩ := run_store 105 3 Try.underlying105 hw10.m HLEN.out z hz64 (.int .i64 ((dy : Int) + 1));
                        have HW10 := Lib.hid hw10;
                        have HK10 := Lib.hid hk10;
                        have HM11 := Lib.hid hM11;
                        have HT11 := Lib.hid hT11;
                        clear hw10 hk10 hb10 hM11 hT11;
                        rw [← HHZ.out]))
                    | (refine And.intro trivial ?_))
                  obtain ⟨g1, g2, g3⟩ := HW10.out.fail
                  refine ⟨(HK10.out.trans g3).keeps HSZ.out.1, rfl, go_bad HTK.out HDM.out ?_, g1, g2⟩
                  unfold stepT
                  split
                  · rfl
                  · rw [← HQ.out]
                    refine kidsGo_none (k := i + 1) ?_
                    rw [HZ.out, if_neg (by rw [← HDZ.out]; omega)]
                · obtain rfl : dz = 0 := by omega
                  clear hdz0
                  gi_wp2_with (first
                    | (exfalso; rename_i h1 h2; unfold undef at h1; cases h1; done)
                    | (exfalso; rename_i h1; unfold undef at h1; cases h1; done)
                    | (refine And.intro trivial ?_; gi_at_call 57; go_loud (
                        (with_reducible refine ((HHAS.out _ hz64 _ HWW.out.below).mono ?_));
                        rintro e w10 ⟨rfl, hb10⟩;
                        have hw10 := HWW.out.go hb10;
                        have r10 := cell_box hw10.r;
                        have f10 := frozen_of_row _ (w.heap.size + 1) 0 _ _ hw10.r;
                        have d10 := cell_box hw10.d;
                        have hk10 := HKK.out.trans (TreeK.below hb10);
                        have l10z := run_look 105 3 Try.underlying105 _ (zeroInt _) hw10.m z hz64 _ (depV dm' z);
                        have l10y := run_look 105 3 Try.underlying105 _ (zeroInt _) hw10.m y hy64 _ (depV dm' y);
                        rw [← HDZ.out] at l10z;
                        rw [← HDY.out] at l10y;
                        obtain ⟨w11, hr11, hM11, hT11⟩ := run_store 105 3 Try.underlying105 hw10.m HLEN.out z hz64 (.int .i64 ((dy : Int) + 1));
                        have HW10 := Lib.hid hw10;
                        have HK10 := Lib.hid hk10;
                        have HM11 := Lib.hid hM11;
                        have HT11 := Lib.hid hT11;
                        clear hw10 hk10 hb10 hM11 hT11;
                        rw [← HHZ.out]))
                    | (refine And.intro trivial ?_))
                  have hw11 := HW10.out.put (by rw [← putL_map (f := iv) dm' z (dy + 1)] ; exact HM11.out) HT11.out
                  go_roundw
                  case rel =>
                    refine ⟨i + 1, putL' dm' z (dy + 1), by omega, rfl, ?_, ?_, ?_, hw11, HK10.out.trans (TreeK.turned HT11.out HW10.out.m.obj)⟩
                    · rw [HZ.out, if_pos ⟨HHZ.out.symm, HDZ.out.symm⟩, ← HDY.out]
                    · rw [HDY.out]
                      exact HOK2.out.put HDYL.out HHZ.out.symm
                    · rw [HDY.out]
                      exact depL_put HOK2.out HDYL.out HDZ.out.symm
                  case measure =>
                    simp [intOf]
                    omega
            · have hltI : ¬ (i : Int) < (M : Int) := by omega
              have hiM : i = M := by omega
              subst hiM
              clear hgo hok' hdy hw' hk' hlt hi
              gi_wp2
              refine ⟨HKK.out.keeps HSZ.out.1, HKK.out.kp, dm', ?_, HOK2.out, ?_⟩
              · rw [HSC.out, HTK.out, treeGo_snoc, HDM.out]
                show stepT ns y dm = _
                unfold stepT
                rw [if_neg HGOOD.out, ← HQ.out, ← HGO.out, HM.out, List.take_length]
              · rw [HSC.out]
                exact HWW.out
        · have hRD : ((q.ref : Int) != 0) = true := by simp; omega
          obtain ⟨hb, hhb⟩ : ∃ b, b = hasL ns q.ref := ⟨_, rfl⟩
          have HHB := Lib.hid hhb
          clear hhb
          cases hb with
          | false =>
            gi_wp2_with (first
              | (exfalso; rename_i h1 h2; unfold undef at h1; cases h1; done)
              | (exfalso; rename_i h1; unfold undef at h1; cases h1; done)
              | (refine And.intro trivial ?_; gi_at_call 57; go_loud (
                  (with_reducible refine ((HHAS.out _ href _ HW8.out.below).mono ?_));
                  rintro e w9 ⟨rfl, hb9⟩;
                  have hw9 := HW8.out.go hb9;
                  have r8 := cell_box hw9.r;
                  have f8 := frozen_of_row _ (w.heap.size + 1) 0 _ _ hw9.r;
                  have hk9 := HK8.out.trans (TreeK.below hb9);
                  obtain ⟨v0, v1, v2, v3, v4, v5, v6⟩ := box_cells (hk9.cells _ _ _ _ HBOX.out (by unfold lyingT; decide));
                  have HW9 := Lib.hid hw9;
                  have HK9 := Lib.hid hk9;
                  clear hw9 hk9 hb9;
                  rw [← HHB.out]))
              | (refine And.intro trivial ?_))
            obtain ⟨g1, g2, g3⟩ := HW9.out.fail
            refine ⟨(HK9.out.trans g3).keeps HSZ.out.1, rfl, go_bad HTK.out HDM.out ?_, g1, g2⟩
            unfold stepT
            rw [if_pos (.inr ⟨by rw [← HQ.out]; exact hR, by rw [← HQ.out]; exact HHB.out.symm⟩)]
          | true =>
            gi_wp2_with (first
              | (exfalso; rename_i h1 h2; unfold undef at h1; cases h1; done)
              | (exfalso; rename_i h1; unfold undef at h1; cases h1; done)
              | (refine And.intro trivial ?_; gi_at_call 57; go_loud (
                  (with_reducible refine ((HHAS.out _ href _ HW8.out.below).mono ?_));
                  rintro e w9 ⟨rfl, hb9⟩;
                  have hw9 := HW8.out.go hb9;
                  have r8 := cell_box hw9.r;
                  have f8 := frozen_of_row _ (w.heap.size + 1) 0 _ _ hw9.r;
                  have hk9 := HK8.out.trans (TreeK.below hb9);
                  obtain ⟨v0, v1, v2, v3, v4, v5, v6⟩ := box_cells (hk9.cells _ _ _ _ HBOX.out (by unfold lyingT; decide));
                  have HW9 := Lib.hid hw9;
                  have HK9 := Lib.hid hk9;
                  clear hw9 hk9 hb9;
                  rw [← HHB.out]))
              | (refine And.intro trivial ?_))
            have hgood : ¬ badAt ns dm y := by
              rintro (h | ⟨_, h⟩)
              · rw [← HD.out] at h; exact hA h
              · rw [← HQ.out, ← HHB.out] at h; cases h
            have HGOOD := Lib.hid hgood
            clear hgood b0 b1 b2 b3 b4 b5 b6 a8 d8 r8 f8 e1 e2 l8 hRD hAI hAD hw64 v0 v1 v2 v3 v4 v5 v6
            obtain ⟨M, hM⟩ : ∃ M, M = q.kids.length := ⟨_, rfl⟩
            rw [← hM]
            have HM := Lib.hid hM
            clear hM
            gi_loopw [47] (fun jv wr => ∃ (i : Nat) (dm' : List (Nat × Nat)), i ≤ M ∧ jv = .int .i64 (i : Int) ∧ kidsGo ns y (q.kids.take i) dm = some dm' ∧ DmOk ns dm' ∧ depL dm' y ≤ 200 ∧ TreeW w w3.heap.size ga (xi + 1) dm' wr ∧ TreeK (w.heap.size + 1 + 1) W wr) (fun jv _ => M - (intOf jv).toNat)
            case atStart => exact ⟨0, dm, Nat.zero_le _, rfl, rfl, HDO.out, by rw [← HD.out]; omega, HW9.out, HK9.out⟩
            case round =>
              obtain ⟨i, dm', hi, rfl, hgo, hok', hdy, hw', hk'⟩ := hrel
              have HGO := Lib.hid hgo
              have HOK2 := Lib.hid hok'
              have HDYL := Lib.hid hdy
              have HWW := Lib.hid hw'
              have HKK := Lib.hid hk'
              by_cases hlt : i < M
              · obtain ⟨z, hz⟩ : ∃ z, q.kids[i]? = some z := by rw [HM.out] at hlt; exact ⟨_, List.getElem?_eq_getElem hlt⟩
                obtain ⟨ad, hA1, _, hcell⟩ := (hk'.ids HIDS.out).at_ hz
                have hz64 := HIDS.out.small z (List.mem_of_getElem? hz)
                have hltI : (i : Int) < (M : Int) := by omega
                have a9 := cell_box hw'.a
                have hnext := kidsGo_next hgo hz
                have HZ := Lib.hid hnext
                obtain ⟨hz1, hhz⟩ : ∃ b, b = hasL ns z := ⟨_, rfl⟩
                obtain ⟨dz, hdz⟩ : ∃ d, d = depL dm' z := ⟨_, rfl⟩
                obtain ⟨dy, hdyy⟩ : ∃ d, d = depL dm' y := ⟨_, rfl⟩
                have HHZ := Lib.hid hhz
                have HDZ := Lib.hid hdz
                have HDY := Lib.hid hdyy
                have HLEN : Hid ((mapL iv dm').length < maxLen) := Lib.hid (by rw [mapL_length]; have := hok'.few; unfold maxLen; omega)
                have hdyb : dy ≤ 200 := by rw [hdyy]; exact hdy
                have hiM : i < 1000000000 := by have := HIDS.out.long; have := HM.out; omega
                have HWI : Hid (wrap64 ((i : Int) + 1) = ((i + 1 : Nat) : Int)) := Lib.hid (by unfold wrap64; omega)
                clear hgo hok' hdy hw' hk' hnext hz hhz hdz hdyy hi
                subst hA1
                cases hz1 with
                | false =>
                  gi_wp2_with (first
                    | (exfalso; rename_i h1 h2; unfold undef at h1; cases h1; done)
                    | (exfalso; rename_i h1; unfold undef at h1; cases h1; done)
                    | (refine And.intro trivial ?_; gi_at_call 57; go_loud (
                        (with_reducible refine ((HHAS.out _ hz64 _ HWW.out.below).mono ?_));
                        rintro e w10 ⟨rfl, hb10⟩;
                        have hw10 := HWW.out.go hb10;
                        have r10 := cell_box hw10.r;
                        have f10 := frozen_of_row _ (w.heap.size + 1) 0 _ _ hw10.r;
                        have d10 := cell_box hw10.d;
                        have hk10 := HKK.out.trans (TreeK.below hb10);
                        have l10z := run_look 105 3 Try.underlying105 _ (zeroInt _) hw10.m z hz64 _ (depV dm' z);
                        have l10y := run_look 105 3 Try.underlying105 _ (zeroInt _) hw10.m y hy64 _ (depV dm' y);
                        rw [← HDZ.out] at l10z;
                        rw [← HDY.out] at l10y;
                        obtain ⟨w11, hr11, hM11, hT11⟩ := run_store 105 3 Try.underlying105 hw10.m HLEN.out z hz64 (.int .i64 ((dy : Int) + 1));
                        have HW10 := Lib.hid hw10;
                        have HK10 := Lib.hid hk10;
                        have HM11 := Lib.hid hM11;
                        have HT11 := Lib.hid hT11;
                        clear hw10 hk10 hb10 hM11 hT11;
                        rw [← HHZ.out]))
                    | (refine And.intro trivial ?_))
                  obtain ⟨g1, g2, g3⟩ := HW10.out.fail
                  refine ⟨(HK10.out.trans g3).keeps HSZ.out.1, rfl, go_bad HTK.out HDM.out ?_, g1, g2⟩
                  unfold stepT
                  split
                  · rfl
                  · rw [← HQ.out]
                    refine kidsGo_none (k := i + 1) ?_
                    rw [HZ.out, if_neg (by rw [← HHZ.out]; simp)]
                | true =>
                  by_cases hdz0 : 0 < dz
                  · have hdzD : decide (0 < dz) = true := decide_eq_true hdz0
                    gi_wp2_with (first
                      | (exfalso; rename_i h1 h2; unfold undef at h1; cases h1; done)
                      | (exfalso; rename_i h1; unfold undef at h1; cases h1; done)
                      | (refine And.intro trivial ?_; gi_at_call 57; go_loud (
                          (with_reducible refine ((HHAS.out _ hz64 _ HWW.out.below).mono ?_));
                          rintro e w10 ⟨rfl, hb10⟩;
                          have hw10 := HWW.out.go hb10;
                          have r10 := cell_box hw10.r;
                          have f10 := frozen_of_row _ (w.heap.size + 1) 0 _ _ hw10.r;
                          have d10 := cell_box hw10.d;
                          have hk10 := HKK.out.trans (TreeK.below hb10);
                          have l10z := run_look 105 3 Try.underlying105 _ (zeroInt _) hw10.m z hz64 _ (depV dm' z);
                          have l10y := run_look 105 3 Try.underlying105 _ (zeroInt _) hw10.m y hy64 _ (depV dm' y);
                          rw [← HDZ.out] at l10z;
                          rw [← HDY.out] at l10y;
                          obtain ⟨w11, hr11, hM11, hT11⟩ := run_store 105 3 Try.underlying105 hw10.m HLEN.out z hz64 (.int .i64 ((dy : Int) + 1));
                          have HW10 := Lib.hid hw10;
                          have HK10 := Lib.hid hk10;
                          have HM11 := Lib.hid hM11;
                          have HT11 := Lib.hid hT11;
                          clear hw10 hk10 hb10 hM11 hT11;
                          rw [← HHZ.out]))
                      | (refine And.intro trivial ?_))
                    obtain ⟨g1, g2, g3⟩ := HW10.out.fail
                    refine ⟨(HK10.out.trans g3).keeps HSZ.out.1, rfl, go_bad HTK.out HDM.out ?_, g1, g2⟩
                    unfold stepT
                    split
                    · rfl
                    · rw [← HQ.out]
                      refine kidsGo_none (k := i + 1) ?_
                      rw [HZ.out, if_neg (by rw [← HDZ.out]; omega)]
                  · obtain rfl : dz = 0 := by omega
                    clear hdz0
                    gi_wp2_with (first
                      | (exfalso; rename_i h1 h2; unfold undef at h1; cases h1; done)
                      | (exfalso; rename_i h1; unfold undef at h1; cases h1; done)
                      | (refine And.intro trivial ?_; gi_at_call 57; go_loud (
                          (with_reducible refine ((HHAS.out _ hz64 _ HWW.out.below).mono ?_));
                          rintro e w10 ⟨rfl, hb10⟩;
                          have hw10 := HWW.out.go hb10;
                          have r10 := cell_box hw10.r;
                          have f10 := frozen_of_row _ (w.heap.size + 1) 0 _ _ hw10.r;
                          have d10 := cell_box hw10.d;
                          have hk10 := HKK.out.trans (TreeK.below hb10);
                          have l10z := run_look 105 3 Try.underlying105 _ (zeroInt _) hw10.m z hz64 _ (depV dm' z);
                          have l10y := run_look 105 3 Try.underlying105 _ (zeroInt _) hw10.m y hy64 _ (depV dm' y);
                          rw [← HDZ.out] at l10z;
                          rw [← HDY.out] at l10y;
                          obtain ⟨w11, hr11, hM11, hT11⟩ := run_store 105 3 Try.underlying105 hw10.m HLEN.out z hz64 (.int .i64 ((dy : Int) + 1));
                          have HW10 := Lib.hid hw10;
                          have HK10 := Lib.hid hk10;
                          have HM11 := Lib.hid hM11;
                          have HT11 := Lib.hid hT11;
                          clear hw10 hk10 hb10 hM11 hT11;
                          rw [← HHZ.out]))
                      | (refine And.intro trivial ?_))
                    have hw11 := HW10.out.put (by rw [← putL_map (f := iv) dm' z (dy + 1)] ; exact HM11.out) HT11.out
                    go_roundw
                    case rel =>
                      refine ⟨i + 1, putL' dm' z (dy + 1), by omega, rfl, ?_, ?_, ?_, hw11, HK10.out.trans (TreeK.turned HT11.out HW10.out.m.obj)⟩
                      · rw [HZ.out, if_pos ⟨HHZ.out.symm, HDZ.out.symm⟩, ← HDY.out]
                      · rw [HDY.out]
                        exact HOK2.out.put HDYL.out HHZ.out.symm
                      · rw [HDY.out]
                        exact depL_put HOK2.out HDYL.out HDZ.out.symm
                    case measure =>
                      simp [intOf]
                      omega
              · have hltI : ¬ (i : Int) < (M : Int) := by omega
                have hiM : i = M := by omega
                subst hiM
                clear hgo hok' hdy hw' hk' hlt hi
                gi_wp2
                refine ⟨HKK.out.keeps HSZ.out.1, HKK.out.kp, dm', ?_, HOK2.out, ?_⟩
                · rw [HSC.out, HTK.out, treeGo_snoc, HDM.out]
                  show stepT ns y dm = _
                  unfold stepT
                  rw [if_neg HGOOD.out, ← HQ.out, ← HGO.out, HM.out, List.take_length]
                · rw [HSC.out]
                  exact HWW.out
    case done =>
      intro D xs W hD hS hI hK
      obtain ⟨dm, hdm, hdo, hw⟩ := hI
      have hxl : xs.length = L.length := by have := congrArg List.length hS; rw [wNo_length, List.length_range] at this; exact this
      rw [hxl] at hdm hw
      rw [List.take_length] at hdm
      obtain ⟨k, hk⟩ : ∃ k, k = L.length := ⟨_, rfl⟩
      rw [← hk] at hw
      have har := HH.out.below hw.below
      have hln := nodes_len har.nodes har.map.rise har.rise
      have q1 : W.drew.cell? ⟨w3.heap.size + 1, 0, none⟩ = some (.int .i64 (k : Int)) := cell_box hw.c
      have q2 : W.drew.cell? ⟨w.heap.size, 0, none⟩ = some (.pointer (some ⟨ga, 0, none⟩)) := cell_box hw.a
      have q3 : W.drew.cell? ⟨ga, 0, none⟩ = some (.map (some gm)) := by
        show W.cell? _ = _
        unfold World.cell?; rw [har.st]; rfl
      have q4 := run_count (w := W.drew) 70 33 Try.underlying70 (har.map.at_ rfl) 3
      rw [hln] at q4
      have q5 : W.drew.cell? ⟨w.heap.size + 1, 0, none⟩ = some (.bool false) := cell_box hw.r
      have q6 : W.drew.frozen? ⟨w.heap.size + 1, 0, none⟩ = false := frozen_of_row W (w.heap.size + 1) 0 _ _ hw.r
      have HW := Lib.hid hw
      have HKD := Lib.hid hK
      have HDM := Lib.hid hdm
      have HKL := Lib.hid hk
      have HDD := Lib.hid hD
      have hmk : Marked w.heap.size [D] (W.setCell ⟨w.heap.size + 1, 0, none⟩ (.bool ((k : Int) == (ns.length : Int)))).drew := by
        refine (Marked.nil w.heap.size _).more (Nat.le_trans HB5.out.size hD) (fun E hE => by cases hE) ?_
        exact (heap_setCell_other W ⟨w.heap.size + 1, 0, none⟩ _ _ (fun e => by rw [e] at hK; rw [hw.r] at hK; cases hK)).trans hK
      have HMK := Lib.hid hmk
      clear hdm hdo hw hxl har hln hK hk hD hmk hS
      go_wp2_with fail
      go_region
      all_goals
        go_wp2_with fail
        refine leaves_marked (B := w.heap.size) [D] _ HMK.out fun w' hu => ⟨_, bool_res (p := 2) rfl rfl (b := ((k : Int) == (ns.length : Int))) ?_, ?_, (ride_drew (HW.out.below.setCell (p := ⟨w.heap.size + 1, 0, none⟩) (Nat.le_succ _) _)).trans hu.1⟩
        · have h1 := hu.2 (w.heap.size + 1) (.cells #[.bool ((k : Int) == (ns.length : Int))] 4 (0, 0)) ((heap_setCell_same W (w.heap.size + 1) 0 _ _ _ HW.out.r).trans rfl) (fun x e => by cases e)
          unfold World.cell?
          rw [h1]
          rfl
        · rw [treeB_some HKO.out (by rw [← HL.out]; exact HDM.out), ← HL.out, ← HKL.out]
          congr 2
          rw [Bool.eq_iff_iff]
          simp
          omega
    case stop =>
      rintro D c pre W hD hSp ⟨rfl, hX1, hX2, hX3⟩ hK
      have hmk : Marked w.heap.size [D] W := (Marked.nil w.heap.size _).more (Nat.le_trans HB5.out.size hD) (fun E hE => by cases hE) hK
      refine wpIn_wide.2 ?_
      go_wp2_with fail
      refine leaves_marked (B := w.heap.size) [D] _ hmk fun w' hu => ⟨_, bool_res (p := 2) rfl rfl (b := false) ?_, ?_, hX2.trans hu.1⟩
      · have h1 := hu.2 (w.heap.size + 1) _ hX3 (fun x e => by cases e)
        unfold World.cell?
        rw [h1]
        rfl
      · rw [treeB_none (by rw [← HL.out]; exact hX1)]
  · have hk2 : ((o.kind : Int) != 1) = true := by simp; omega
    go_wp2_with fail
    have hko : (ndOf ns 1).kind ≠ 1 := by rw [← HO.out]; exact hk
    refine leaves_marked (B := w.heap.size) [] _ (Marked.nil _ _) fun w' hu => ⟨_, bool_res (p := 2) rfl rfl (b := false) ?_, by rw [treeB_kind hko], (((Below.refl _ _).alloc (Nat.le_refl _) _).alloc (by simp) _).trans hu.1⟩
    have h1 := hu.2 (w.heap.size + 1) _ (alloc2 w (.cells #[.pointer (some ⟨ga, 0, none⟩)] 26) #[.bool false] 4 (0, 0)) (fun x e => by cases e)
    unfold World.cell?
    rw [h1]
    rfl
end Go.Proofs.Ytdphpjlhkamadaa
