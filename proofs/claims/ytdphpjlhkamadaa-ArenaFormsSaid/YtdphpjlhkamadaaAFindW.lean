/- Contracts: a node and everything below it is found. -/
import Derived.Test.YtdphpjlhkamadaaAFindP
namespace Go.Proofs.Ytdphpjlhkamadaa
open Go.RowKit Go.Shelf
set_option linter.unusedSimpArgs false
set_option linter.unusedVariables false
set_option maxRecDepth 100000
attribute [local go_sem] Oper.semAt_some
/-- The slots of find at the head of its loop. -/
def FindSlots (ga id gs : Nat) (fv lp : Value) (T : Array Value) : Prop :=
  ∃ (u8 u9 u10 u11 u12 u13 u14 u15 u21 u22 u23 u24 u25 u26 u27 u28 u29 u30 u31 u32 u33 u34 u35 u36 u37 u38 u39 u40 u41 u42 u43 u44 u45 u46 u47 u48 u49 u50 u51 u52 u53 u54 u55 u56 u57 u58 u59 u60 u61 u62 u63 u64 u65 u66 u67 u68 u69 u70 u71 u72 : Value), T = #[.pointer (some ⟨ga, 0, none⟩), .int .u64 (id : Int), undef, undef, .slice none 0 0, fv, .map (some gs), lp, u8, u9, u10, u11, u12, u13, u14, u15, .pointer (some ⟨ga, 0, none⟩), .bool false, .map (some gs), .int .u64 (id : Int), .slice (some ⟨gs + 1, 0, none⟩) 1 1, u21, u22, u23, u24, u25, u26, u27, u28, u29, u30, u31, u32, u33, u34, u35, u36, u37, u38, u39, u40, u41, u42, u43, u44, u45, u46, u47, u48, u49, u50, u51, u52, u53, u54, u55, u56, u57, u58, u59, u60, u61, u62, u63, u64, u65, u66, u67, u68, u69, u70, u71, u72, undef]
/-- What find keeps at the head of its loop: its slots, the marks of the ranges that were, the world. -/
def FLoop (w : World) (vs : List (Nat × Value)) (ns : List (Nat × Nd)) (ga id : Nat) (T : Array Value) (Ds : List Nat) (wr : World) : Prop :=
  ∃ fv lp left done, FindSlots ga id w.heap.size fv lp T ∧ WalkAt ns id left done ∧ FindAt w wr vs w.heap.size fv lp left done ∧ Marked w.heap.size Ds wr
def findMu (ns : List (Nat × Nd)) (T : Array Value) (wr : World) : Nat := (sumU ns [] + 1) * (ns.length - lenV (T.getD 5 undef)) + leftLen wr (T.getD 7 undef)
def FindEnd (w : World) (vs : List (Nat × Value)) (ns : List (Nat × Nd)) (ga id m0 : Nat) (a : Act) (wr : World) : Prop := ∃ Ds, a.defers = marks Ds ∧ FLoop w vs ns ga id a.tmps Ds wr ∧ findMu ns a.tmps wr < m0
theorem find_loop {P : Program} {c : Code} {Q : Exit → Act → World → Prop} {T : Array Value} {wr w : World} {vs : List (Nat × Value)} {ns : List (Nat × Nd)} {ga id : Nat} (h₀ : FLoop w vs ns ga id T [] wr)
    (round : ∀ T Ds wr m0, FLoop w vs ns ga id T Ds wr → findMu ns T wr = m0 → c.wp P (Exit.then (FindEnd w vs ns ga id m0) Q) { tmps := T, defers := marks Ds } wr) : (Code.loop c).wp P Q { tmps := T, defers := [] } wr :=
  wp_loop_marks (Ds := []) (FLoop w vs ns ga id) (findMu ns) h₀ fun T Ds wr h => round T Ds wr _ h rfl
set_option maxHeartbeats 4000000 in
theorem found_any (w : World) (base ga gm gp id N : Nat) (F : PF) (vs : List (Nat × Value)) (ns : List (Nat × Nd)) (h : AR w base ga gm gp F vs ns N) (hid : id < 18446744073709551616) (hfew : sumU ns [] ≤ 900000000) (hns : ns.length ≤ 1000000) :
    Calls Try.prog 62 #[.pointer (some ⟨ga, 0, none⟩), .int .u64 (id : Int)] w (fun e w' => ∃ v, e = .returned v ∧ w'.ownsRow w.heap.size 112 7 v (walkL ns id).length (fCells vs (walkL ns id)) ∧ Below w.heap.size w w') := by
  have hmm := @run_makeMap Try.prog
  have HH := Lib.hid h
  clear h
  refine callsIn_wide.1 (callsIn_of_wp_marks (n := 5) Try.func62 rfl trivial ((wpIn_wide (n := 5)).2 ?_))
  simp only [Try.ntmps62, List.size_toArray, List.length_cons, List.length_nil, Nat.reduceAdd, Nat.reduceSub, Array.replicate_succ, Array.replicate_zero, List.push_toArray, List.append_toArray, List.nil_append, List.cons_append]
  go_wp2_with fail
  refine find_loop (w := w) (vs := vs) (ns := ns) (ga := ga) (id := id) ?atStart ?round
  case atStart =>
    have hb1 : Below (w.alloc (.map #[] 0)).heap.size (w.alloc (.map #[] 0)) (((w.alloc (.map #[] 0)).alloc (.cells #[.int .u64 (id : Int)] 24)).alloc (.cells #[.slice (some ⟨w.heap.size + 1, 0, none⟩) 1 1] 30)) := ((Below.refl _ _).alloc (Nat.le_refl _) _).alloc (by simp) _
    have s2 : ((w.alloc (.map #[] 0)).alloc (.cells #[.int .u64 (id : Int)] 24)).heap.size = w.heap.size + 1 + 1 := by simp
    have hst := Go.heap_alloc_new ((w.alloc (.map #[] 0)).alloc (.cells #[.int .u64 (id : Int)] 24)) (.cells #[.slice (some ⟨w.heap.size + 1, 0, none⟩) 1 1] 30)
    rw [s2] at hst
    have h3 : (((w.alloc (.map #[] 0)).alloc (.cells #[.int .u64 (id : Int)] 24)).alloc (.cells #[.slice (some ⟨w.heap.size + 1, 0, none⟩) 1 1] 30)).heap[w.heap.size + 1]? = some (.cells #[.int .u64 (id : Int)] 24 (0, 0)) := (heap_alloc_lt _ _ (by simp)).trans (alloc2 _ _ _ _ _)
    refine ⟨_, _, [id], [], ⟨_, _, _, _, _, _, _, _, _, _, _, _, _, _, _, _, _, _, _, _, _, _, _, _, _, _, _, _, _, _, _, _, _, _, _, _, _, _, _, _, _, _, _, _, _, _, _, _, _, _, _, _, _, _, _, _, _, _, _, _, rfl⟩, WalkAt.start ns id, ⟨(((Below.refl _ _).alloc (Nat.le_refl _) _).alloc (by simp) _).alloc (by simp; omega) _, ⟨[], SeenOf.nil, (MapV.made w).at_ (hb1.block _ (by simp))⟩, Nat.le_refl _, (fun y hy => by simp at hy; rw [hy]; exact hid), World.ownsRow_nil _ _ _ _, w.heap.size + 1 + 1, some ⟨w.heap.size + 1, 0, none⟩, 1, rfl, by omega, hst, rfl, .inr ⟨w.heap.size + 1, 1, #[.int .u64 (id : Int)], rfl, by omega, h3, Nat.le_refl _, by unfold maxLen; omega, rfl, rfl⟩⟩, Marked.nil _ _⟩
  case round =>
    rintro T Ds wr m0 ⟨u5, u7, left, done, ⟨u8, u9, u10, u11, u12, u13, u14, u15, u21, u22, u23, u24, u25, u26, u27, u28, u29, u30, u31, u32, u33, u34, u35, u36, u37, u38, u39, u40, u41, u42, u43, u44, u45, u46, u47, u48, u49, u50, u51, u52, u53, u54, u55, u56, u57, u58, u59, u60, u61, u62, u63, u64, u65, u66, u67, u68, u69, u70, u71, u72, rfl⟩, hw, hf, hmk⟩ hm0
    replace hm0 : (sumU ns [] + 1) * (ns.length - lenV u5) + leftLen wr u7 = m0 := hm0
    have HM0 := Lib.hid hm0
    have HMK := Lib.hid hmk
    clear hm0 hmk
    obtain ⟨b, A, c, rfl, hbb, hbx, hlo⟩ := hf.left_
    have q0 : wr.cell? ⟨b, 0, none⟩ = some (.slice A left.length c) := by unfold World.cell?; rw [hbx]; rfl
    cases left with
    | nil =>
      have hend := hw.end_
      have hfo := hf.found
      have hbl := hf.below
      rw [hend] at hfo
      have HFO := Lib.hid hfo
      have HBL := Lib.hid hbl
      clear hf hlo hbx hfo hbl hend hw
      go_wp2_with fail
      refine leaves_marked Ds _ HMK.out fun w' hu => ⟨_, results_tmp rfl _ _ _, _, rfl, ownsRow_at HFO.out fun g cs hg => ?_, HBL.out.trans hu.1⟩
      rw [hu.2 g _ hg (fun x e => by cases e), hg]
    | cons x rest =>
      obtain ⟨n, hn⟩ : ∃ n, n = rest.length := ⟨_, rfl⟩
      have hlen : (x :: rest).length = n + 1 := by rw [List.length_cons, hn]
      have HN := Lib.hid hn
      rw [hlen] at q0 hbx hlo
      have hx : (ids (x :: rest).reverse)[n]? = some (.int .u64 (x : Int)) := by
        rw [ids_at, List.reverse_cons, hn, ← List.length_reverse, List.getElem?_append_right (Nat.le_refl _), Nat.sub_self]
        rfl
      obtain ⟨ad, hA, hadb, hcx⟩ := (Lies.of_own hlo) n _ hx
      subst hA
      have hnb : n ≤ 900000000 := by have := hw.few; rw [hlen] at this; omega
      have hfz := frozen_of_row wr b 0 _ _ hbx
      have hbw1 : Below w.heap.size w (wr.setCell ⟨b, 0, none⟩ (.slice (some ad) n c)) := hf.below.setCell hbb _
      have q1 : (wr.setCell ⟨b, 0, none⟩ (.slice (some ad) n c)).cell? ⟨ga, 0, none⟩ = some (.map (some gm)) := by
        rw [hbw1.cell (p := ⟨ga, 0, none⟩) (lt_of_heap2 HH.out.st)]
        unfold World.cell?; rw [HH.out.st]; rfl
      obtain ⟨Ao, co, hold, hos, hook, hhas⟩ := HH.out.nodes.get x
      obtain ⟨o, ho⟩ : ∃ o, o = (getL ns x).getD zeroNd := ⟨_, rfl⟩
      rw [← ho] at hold hos hook
      have HOLD := Lib.hid hold
      have HHAS := Lib.hid hhas
      have HMX := Lib.hid (HH.out.below hbw1).map
      obtain ⟨sl, hsl, hms⟩ := hf.seen
      have hbs : b ≠ w.heap.size := fun e => by
        obtain ⟨es, clock, h1⟩ := hms.obj
        rw [← e, hbx] at h1
        cases h1
      have HMS : Hid (∀ y, Below wr.heap.size (wr.setCell ⟨b, 0, none⟩ (.slice (some ad) n c)) y → MapV y w.heap.size sl) := Lib.hid fun y hy => hms.at_ ((hy.block _ hms.lt).trans (heap_setCell_other _ ⟨b, 0, none⟩ _ _ (fun e => hbs e.symm)))
      obtain ⟨hlk1, hlk2⟩ := hsl.look x
      have HLK1 := Lib.hid hlk1
      have HLK2 := Lib.hid hlk2
      have HCB : Hid (∀ y, Below wr.heap.size (wr.setCell ⟨b, 0, none⟩ (.slice (some ad) n c)) y → y.cell? ⟨b, 0, none⟩ = some (.slice (some ad) n c)) := Lib.hid fun y hy => (hy.cell (p := ⟨b, 0, none⟩) (lt_of_heap2 hbx)).trans (by unfold World.cell?; rw [heap_setCell_same wr b 0 _ _ _ hbx]; rfl)
      have hnc : (n : Int) ≤ (c : Int) := by
        rcases hlo.2 with ⟨e, _⟩ | ⟨g, cap, cur, e, _, _, hc, _⟩
        · cases e
        · injection e with _ _ e
          omega
      have HSL := Lib.hid hsl
      have hxs : x < 18446744073709551616 := hf.small x (by simp)
      have HO := Lib.hid ho
      have HOS := Lib.hid hos
      clear hold hhas hsl hms hos hook ho hlk1 hlk2 hbs
      have HF := Lib.hid hf
      have HW := Lib.hid hw
      have HLO := Lib.hid hlo
      have HBX := Lib.hid hbx
      clear hf hw hlo hbx hx hn hlen hbw1
      by_cases hd : x ∈ done
      · have hdd : decide (x ∈ done) = true := decide_eq_true hd
        rw [hdd] at HLK2
        go_wp2_with (first
          | (at_lookup; refine wpList_lookOk _ rfl _ _ 70 33 rfl Try.underlying70 (ndV zeroNd (.slice none 0 0)) (zeroNode _) gm vs rfl HMX.out x hxs rfl ?_; rw [HHAS.out, HOLD.out]; unfold ndV)
          | (at_lookup; go_loud (
             refine wpList_lookOk _ rfl _ _ 132 133 rfl Try.underlying132 (.agg #[]) (zeroUnit _) w.heap.size sl rfl (HMS.out _ ((Below.refl _ _).alloc (by simp [World.setCell]) _)) x hxs rfl ?_;
             rw [HLK1.out, HLK2.out];
             have q2 := HCB.out _ (((Below.refl _ _).alloc (by simp [World.setCell]) (.cells #[.int .u8 (o.kind : Int), .string o.name, .int .i64 o.num, .int .u8 (o.typ : Int), .int .u64 (o.ref : Int), .slice Ao o.kids.length co] 33)).alloc (by simp [World.setCell]) (.cells #[] 133)))))
        have hy3 := (((Below.refl wr.heap.size (wr.setCell ⟨b, 0, none⟩ (.slice (some ad) n c))).alloc (by simp [World.setCell]) (.cells #[.int .u8 (o.kind : Int), .string o.name, .int .i64 o.num, .int .u8 (o.typ : Int), .int .u64 (o.ref : Int), .slice Ao o.kids.length co] 33)).alloc (by simp [World.setCell]) (.cells #[] 133)).alloc (by simp [World.setCell]; omega) (.cells #[.slice (some ad) n c] 30)
        have hB3 := Go.heap_alloc_new (((wr.setCell ⟨b, 0, none⟩ (.slice (some ad) n c)).alloc (.cells #[.int .u8 (o.kind : Int), .string o.name, .int .i64 o.num, .int .u8 (o.typ : Int), .int .u64 (o.ref : Int), .slice Ao o.kids.length co] 33)).alloc (.cells #[] 133)) (.cells #[.slice (some ad) n c] 30)
        rw [show (((wr.setCell ⟨b, 0, none⟩ (.slice (some ad) n c)).alloc (.cells #[.int .u8 (o.kind : Int), .string o.name, .int .i64 o.num, .int .u8 (o.typ : Int), .int .u64 (o.ref : Int), .slice Ao o.kids.length co] 33)).alloc (.cells #[] 133)).heap.size = wr.heap.size + 1 + 1 by simp [World.setCell]] at hB3
        have hfa := HF.out.less HN.out HBX.out hbb HLO.out hy3 hB3 (by have := HF.out.below.size; omega)
        refine ⟨Ds, rfl, ⟨_, _, rest, done, ⟨_, _, _, _, _, _, _, _, _, _, _, _, _, _, _, _, _, _, _, _, _, _, _, _, _, _, _, _, _, _, _, _, _, _, _, _, _, _, _, _, _, _, _, _, _, _, _, _, _, _, _, _, _, _, _, _, _, _, _, _, rfl⟩, HW.out.skip (.inr hd), hfa, HMK.out.at_ fun D hD => (hy3.block D (lt_of_heap2 hD)).trans ((heap_setCell_other _ ⟨b, 0, none⟩ _ _ (fun e => by rw [e, HBX.out] at hD; cases hD)).trans hD)⟩, ?_⟩
        rw [← HM0.out]
        refine Nat.add_lt_add_left ?_ _
        show lenV _ < lenV _
        rw [show World.cell? _ _ = some (Value.slice (some ad) n c) from by unfold World.cell?; rw [hB3]; rfl, q0]
        exact Nat.lt_succ_self n
      · have hdd : decide (x ∈ done) = false := decide_eq_false hd
        rw [hdd] at HLK2
        rcases hh : hasL ns x with _ | _
        · rw [hh] at HHAS
          go_wp2_with (first
            | (at_lookup; refine wpList_lookOk _ rfl _ _ 70 33 rfl Try.underlying70 (ndV zeroNd (.slice none 0 0)) (zeroNode _) gm vs rfl HMX.out x hxs rfl ?_; rw [HHAS.out, HOLD.out]; unfold ndV)
            | (at_lookup; go_loud (
               refine wpList_lookOk _ rfl _ _ 132 133 rfl Try.underlying132 (.agg #[]) (zeroUnit _) w.heap.size sl rfl (HMS.out _ ((Below.refl _ _).alloc (by simp [World.setCell]) _)) x hxs rfl ?_;
               rw [HLK1.out, HLK2.out];
               have q2 := HCB.out _ (((Below.refl _ _).alloc (by simp [World.setCell]) (.cells #[.int .u8 (o.kind : Int), .string o.name, .int .i64 o.num, .int .u8 (o.typ : Int), .int .u64 (o.ref : Int), .slice Ao o.kids.length co] 33)).alloc (by simp [World.setCell]) (.cells #[] 133)))))
          have hy3 := (((Below.refl wr.heap.size (wr.setCell ⟨b, 0, none⟩ (.slice (some ad) n c))).alloc (by simp [World.setCell]) (.cells #[.int .u8 (o.kind : Int), .string o.name, .int .i64 o.num, .int .u8 (o.typ : Int), .int .u64 (o.ref : Int), .slice Ao o.kids.length co] 33)).alloc (by simp [World.setCell]) (.cells #[] 133)).alloc (by simp [World.setCell]; omega) (.cells #[.slice (some ad) n c] 30)
          have hB3 := Go.heap_alloc_new (((wr.setCell ⟨b, 0, none⟩ (.slice (some ad) n c)).alloc (.cells #[.int .u8 (o.kind : Int), .string o.name, .int .i64 o.num, .int .u8 (o.typ : Int), .int .u64 (o.ref : Int), .slice Ao o.kids.length co] 33)).alloc (.cells #[] 133)) (.cells #[.slice (some ad) n c] 30)
          rw [show (((wr.setCell ⟨b, 0, none⟩ (.slice (some ad) n c)).alloc (.cells #[.int .u8 (o.kind : Int), .string o.name, .int .i64 o.num, .int .u8 (o.typ : Int), .int .u64 (o.ref : Int), .slice Ao o.kids.length co] 33)).alloc (.cells #[] 133)).heap.size = wr.heap.size + 1 + 1 by simp [World.setCell]] at hB3
          have hfa := HF.out.less HN.out HBX.out hbb HLO.out hy3 hB3 (by have := HF.out.below.size; omega)
          refine ⟨Ds, rfl, ⟨_, _, rest, done, ⟨_, _, _, _, _, _, _, _, _, _, _, _, _, _, _, _, _, _, _, _, _, _, _, _, _, _, _, _, _, _, _, _, _, _, _, _, _, _, _, _, _, _, _, _, _, _, _, _, _, _, _, _, _, _, _, _, _, _, _, _, rfl⟩, HW.out.skip (.inl hh), hfa, HMK.out.at_ fun D hD => (hy3.block D (lt_of_heap2 hD)).trans ((heap_setCell_other _ ⟨b, 0, none⟩ _ _ (fun e => by rw [e, HBX.out] at hD; cases hD)).trans hD)⟩, ?_⟩
          rw [← HM0.out]
          refine Nat.add_lt_add_left ?_ _
          show lenV _ < lenV _
          rw [show World.cell? _ _ = some (Value.slice (some ad) n c) from by unfold World.cell?; rw [hB3]; rfl, q0]
          exact Nat.lt_succ_self n
        · rw [hh] at HHAS
          obtain ⟨Af, cf, rfl⟩ : ∃ A c, u5 = .slice A done.length c := by
            rcases HF.out.found.2 with ⟨e, h0⟩ | ⟨g, cap, cur, e, _⟩
            · exact ⟨none, 0, by rw [e, h0]⟩
            · exact ⟨_, _, e⟩
          obtain ⟨i7, hi7, hz7, hs7, hb7⟩ := info_parts infoFound
          have HCH := fun y => Lib.hid (callsIn_wide.1 (back_in 1 Ao o.kids.length co y))
          go_wp2_with (first
            | (at_lookup; refine wpList_lookOk _ rfl _ _ 70 33 rfl Try.underlying70 (ndV zeroNd (.slice none 0 0)) (zeroNode _) gm vs rfl HMX.out x hxs rfl ?_; rw [HHAS.out, HOLD.out]; unfold ndV)
            | (at_lookup; go_loud (
               refine wpList_lookOk _ rfl _ _ 132 133 rfl Try.underlying132 (.agg #[]) (zeroUnit _) w.heap.size sl rfl (HMS.out _ ((Below.refl _ _).alloc (by simp [World.setCell]) _)) x hxs rfl ?_;
               rw [HLK1.out, HLK2.out];
               have q2 := HCB.out _ (((Below.refl _ _).alloc (by simp [World.setCell]) (.cells #[.int .u8 (o.kind : Int), .string o.name, .int .i64 o.num, .int .u8 (o.typ : Int), .int .u64 (o.ref : Int), .slice Ao o.kids.length co] 33)).alloc (by simp [World.setCell]) (.cells #[] 133))))
            | (at_mapUpdate; go_loud (
               refine wpList_store _ rfl _ _ _ 132 133 rfl Try.underlying132 w.heap.size sl rfl (HMS.out _ (((Below.refl _ _).alloc (by simp [World.setCell]) _).alloc (by simp [World.setCell]) _)) (by have := HSL.out.few HW.out.node; unfold maxLen; omega) x hxs rfl (.agg #[]) rfl ?_;
               intro w5 hM5 hT5;
               have hnb5 := turned_keeps hT5 (j := wr.heap.size) (by have := HF.out.below.size; have := HF.out.gs0; have := (HMS.out _ (Below.refl _ _)).lt; simp [World.setCell] at this; omega) ((heap_alloc_lt _ _ (by simp [World.setCell])).trans (node_new wr ⟨b, 0, none⟩ _ _));
               obtain ⟨b0, b1, b2, b3, b4, b5, b6⟩ := box_cells hnb5;
               have HNB5 := Lib.hid hnb5;
               have HFO5 := Lib.hid (found_at HF.out HBX.out hT5 trivial trivial (o1 := .cells #[.int .u8 (o.kind : Int), .string o.name, .int .i64 o.num, .int .u8 (o.typ : Int), .int .u64 (o.ref : Int), .slice Ao o.kids.length co] 33) (o2 := .cells #[] 133) (v := .slice (some ad) n c) rfl (o3 := .cells #[.int .u64 (x : Int), .int .u8 (o.kind : Int), .string o.name, .int .i64 o.num, .int .u8 (o.typ : Int), .int .u64 (o.ref : Int), .slice Ao o.kids.length co] 112));
               clear hnb5;
               have HM5 := Lib.hid hM5;
               have HT5 := Lib.hid hT5;
               clear hM5 hT5))
            | (at_builtin; go_loud (
               refine wpList_append_own_at _ rfl _ _ 108 rfl w.heap.size 112 i7 (.agg #[.int .u64 0, .int .u8 0, .string ⟨#[]⟩, .int .i64 0, .int .u8 0, .int .u64 0, .slice none 0 0]) 7 80 Try.underlying108 hi7 hz7 hs7 hb7 rfl (by decide) (.slice Af done.length cf) done.length (fCells vs done) rfl HFO5.out ⟨w5.heap.size, 0, none⟩ 1 1 [.int .u64 (x : Int), .int .u8 (o.kind : Int), .string o.name, .int .i64 o.num, .int .u8 (o.typ : Int), .int .u64 (o.ref : Int), .slice Ao o.kids.length co] rfl rfl (found_lie w5) found_one (by have := nodup_le HW.out.once HW.out.node; unfold maxLen; omega) (by have := nodup_le HW.out.once HW.out.node; omega) (by have h1 := (Touch.turned (S := fun k => k = w.heap.size) HT5.out rfl).size; simp [World.setCell] at h1; have := HF.out.below.size; simp; omega) ?_;
               intro v' w6 hown' hgrow hnil hloc;
               have hnb6 := grown_keeps hgrow HFO5.out ((heap_alloc_lt _ _ (lt_of_heap2 HNB5.out)).trans HNB5.out) (by decide);
               obtain ⟨_, _, _, _, _, d5, _⟩ := box_cells hnb6;
               have HNB6 := Lib.hid hnb6;
               clear hnb6;
               have HO6 := Lib.hid hown';
               have HG6 := Lib.hid hgrow;
               have HL6 := Lib.hid hloc;
               clear hown' hgrow hnil hloc))
            | (go_at_call 80; (with_reducible refine ((HCH _).out).mono ?_); rintro e w7 ⟨rfl, rfl⟩))
          have hbx2 := HF.out.below
          have hwr : w.heap.size ≤ wr.heap.size := hbx2.size
          have hgl := (HMS.out _ (Below.refl _ _)).lt
          have h5 : Below w.heap.size w w5 := ((((hbx2.setCell hbb _).alloc (by simp [World.setCell]; omega) _).alloc (by simp [World.setCell]; omega) _).grown HT5.out.grown (by simp [World.setCell]; omega) (fun k e => by injection e with e; omega))
          have hb6 : Below w.heap.size w w6 := (h5.alloc h5.size _).grown HG6.out (by simp; have := h5.size; omega) (fun k e => (World.ownsRow.lt HFO5.out k e).1)
          obtain ⟨hI0, hbB⟩ := back_start HF.out HN.out HBX.out HLO.out HT5.out HM5.out HFO5.out (by rw [HO.out] at *; exact HO6.out) HG6.out HOLD.out hb6 HMK.out
          obtain ⟨W4, hW4⟩ : ∃ W4, W4 = w6.alloc (.cells #[.slice Ao o.kids.length co] 30) := ⟨_, rfl⟩
          obtain ⟨Bs, hBs⟩ : ∃ B, B = w6.heap.size := ⟨_, rfl⟩
          rw [← hW4, ← hBs] at hI0
          rw [← hBs] at hbB
          have hBsW : W4.heap[Bs]? = some (.cells #[.slice Ao o.kids.length co] 30 (0, 0)) := by rw [hW4, hBs]; exact Go.heap_alloc_new _ _
          have hI1 : BackI w b Bs w.heap.size (putL' sl x (.agg #[])) v' (.slice Ao o.kids.length co) (done.length + 1) (fCells vs (done ++ [x])) Ds (rest.reverse ++ ([] : List (At_ o.kids)).map (fun k => o.kids[k.1])) W4 := by rw [List.map_nil, List.append_nil]; exact hI0
          clear hI0
          have hkids : IdSl w w.heap.size (.slice Ao o.kids.length co) o.kids := HOS.out
          have hBsl := lt_of_heap2 hBsW
          have HBC : Hid (W4.cell? ⟨Bs, 0, none⟩ = some (.slice Ao o.kids.length co)) := Lib.hid (by unfold World.cell?; rw [hBsW]; rfl)
          have hWs : w.heap.size < W4.heap.size := by rw [hW4, World.size_alloc]; have := hb6.size; omega
          have HI0 := Lib.hid hI1
          have hDW : ∀ D ∈ Ds, D < W4.heap.size := fun D hD => by obtain ⟨_, _, _, _, _, _, _, _, _, h8⟩ := hI1; exact lt_of_heap2 (h8.shut D hD)
          have hAo : ∀ ad, Ao = some ad → ad.block < W4.heap.size := fun ad e => by obtain ⟨⟨A', c', e2, _, _, h3⟩, _⟩ := hkids; injection e2 with e2 _ _; exact Nat.lt_of_lt_of_le (h3 ad (e2 ▸ e)).1 (Nat.le_of_lt hWs)
          have HBB := Lib.hid hbB
          have HDW := Lib.hid hDW
          have HKD := Lib.hid hkids
          have HB4 : Hid (Below w.heap.size w W4) := Lib.hid (by rw [hW4]; exact hb6.alloc hb6.size _)
          rw [← hW4, ← hBs]
          clear hI1 hkids hBsW hW4 hBs hb6 hbB hDW b0 b1 b2 b3 b4 b5 b6 d5 q0 q1 hfz
          refine (wpIn_wide (n := 5)).1 ?_
          refine range_two (p := 66) (p2 := 67) (q := 15) (by omega) 89 _ rfl (enters_of Try.func89 (by kernel_rfl) rfl)
            (e1 := fun k : At_ o.kids => .int .i64 (k.1 : Int)) (e2 := fun k : At_ o.kids => .int .u64 (o.kids[k.1] : Int))
            (back_stops (5 - 1) (by omega) Bs Ao co o.kids HKD.out.long W4 hBsl (fun ad e => by obtain ⟨⟨A', c', e2, _, _, h3⟩, _⟩ := HKD.out; injection e2 with e2 _ _; exact Nat.lt_of_lt_of_le (h3 ad (e2 ▸ e)).1 (Nat.le_of_lt hWs)) HBC.out (fun i k hk => by obtain ⟨ad, e, _, hc⟩ := (HKD.out.below HB4.out).at_ hk; exact ⟨ad, e, hc⟩))
            KpB.trans (kpB_putObj hBsl hAo)
            (fun pre W => BackI w b Bs w.heap.size (putL' sl x (.agg #[])) v' (.slice Ao o.kids.length co) (done.length + 1) (fCells vs (done ++ [x])) Ds (rest.reverse ++ pre.map (fun k => o.kids[k.1])) W) (backI_own (Nat.le_of_lt hWs) hWs HDW.out) HI0.out ?assign ?body ?done
          case assign =>
            intro l x W K hK
            simp only [List.setIfInBounds_toArray, List.set_cons_zero, List.set_cons_succ] at hK ⊢
            gi_wp2
            exact hK
          case body =>
            rintro l pre kk W hI hlt
            obtain ⟨A2, c2, i1, i2, i3, i4, i5, i6, i7, i8⟩ := hI
            obtain ⟨lw, hlw⟩ : ∃ lw, lw = rest.reverse ++ pre.map (fun k => o.kids[k.1]) := ⟨_, rfl⟩
            rw [← hlw] at i1 i3 i7
            obtain ⟨kd, hkd⟩ : ∃ kd, kd = o.kids[kk.1] := ⟨_, rfl⟩
            rw [← hkd]
            have hll : lw.length ≤ 1900000000 := by
              have h1 := HKD.out.long
              rw [hlw, List.length_append, List.length_reverse, List.length_map, ← HN.out]
              omega
            have z0 : W.cell? ⟨b, 0, none⟩ = some (.slice A2 lw.length c2) := by unfold World.cell?; rw [i1]; rfl
            obtain ⟨m, hm⟩ : ∃ m, m = lw.length := ⟨_, rfl⟩
            rw [← hm] at i1 i3 z0 hll
            have HLM := Lib.hid hm
            have hBb : Bs ≠ b := by have := HBB.out; omega
            have HI8 := Lib.hid i8
            have HI1 := Lib.hid i1
            have HI2 := Lib.hid i2
            have HI3 := Lib.hid i3
            have HI4 := Lib.hid i4
            have HI5 := Lib.hid i5
            have HI6 := Lib.hid i6
            have HI7 := Lib.hid i7
            have HLW := Lib.hid hlw
            have HKK := Lib.hid hkd
            obtain ⟨ii0, hii0, hiz0, his0, hib0⟩ := info_parts infoId
            have hwl : w.heap.size ≤ W.heap.size := i6.size
            clear i1 i2 i3 i4 i5 i6 i7 i8 hlw hkd hm
            simp only [List.setIfInBounds_toArray, List.set_cons_zero, List.set_cons_succ]
            gi_wp2_with (gi_at_builtin; go_loud (
              refine wpListIn_append_own _ (by rfl) _ _ _ (by rfl) w.heap.size 24 ii0 _ 1 8 Try.underlying30 hii0 hiz0 his0 hib0 (by rfl) (by omega) (.slice A2 m c2) m (ids lw) (by rfl) (ownsRow_at HI3.out (fun g cs h => heap_alloc_lt _ _ (lt_of_heap2 h))) _ 1 1 [.int .u64 (kd : Int)] (by rfl) (by rfl) (World.news_of_block (Go.heap_alloc_new _ _)) (by intro u hu; simp at hu; rcases hu with rfl; rfl) (by unfold maxLen; omega) (by omega) (by simp; omega) ?_;
              intro v8 w8 hown8 hg8 hnil8;
              obtain ⟨g8, k8, rfl, _, hlt8⟩ := hown8.form (by omega);
              have hb8 := grown_keeps hg8 (ownsRow_at HI3.out (fun g cs h => heap_alloc_lt _ (.cells #[.int .u64 (kd : Int)] 24) (lt_of_heap2 h))) ((heap_alloc_lt _ _ (lt_of_heap2 HI1.out)).trans HI1.out) (by decide);
              have z8 := frozen_of_row w8 b 0 _ _ hb8;
              have y8 := cell_box hb8;
              have HB8 := Lib.hid hb8;
              have HO8 := Lib.hid hown8;
              have HG8 := Lib.hid hg8;
              clear hown8 hg8 hnil8 hb8))
            have hfin := back_end (D := W4.heap.size) (Ao := Ao) (kd := kd) HLM.out hbb hBb (Nat.le_refl _) (fun ad e => by obtain ⟨⟨A', c', e2, _, _, h3⟩, _⟩ := HKD.out; injection e2 with e2 _ _; exact (h3 ad (e2 ▸ e)).1) (by rw [HKK.out]; exact HKD.out.small _ (List.getElem_mem _)) HI1.out HI2.out HI3.out HI4.out HI5.out HI6.out HI7.out HI8.out HG8.out HO8.out HB8.out
            rw [HLW.out, HKK.out, List.append_assoc] at hfin
            obtain ⟨f1, f2, f3⟩ := hfin
            refine ⟨f1, f2, ?_⟩
            dsimp only
            rw [List.map_append]
            exact f3
          case done =>
            intro D xs W hD hS hI hK
            have hnext := back_done hS HSL.out hbb (Nat.le_refl _) hI
            obtain ⟨A2, c2, i1, _, _, i4, _, _, _, i8⟩ := hI
            obtain ⟨mm, hmm2⟩ : ∃ mm, mm = (rest.reverse ++ xs.map (fun k => o.kids[k.1])).length := ⟨_, rfl⟩
            rw [← hmm2] at i1
            have z0 : W.cell? ⟨b, 0, none⟩ = some (.slice A2 mm c2) := by unfold World.cell?; rw [i1]; rfl
            have hv6 : lenV v' = done.length + 1 := by
              obtain ⟨g6, k6, e6, _⟩ := i4.form (by omega)
              rw [e6]; rfl
            have HI8 := Lib.hid (i8.more (D := D) (Nat.le_trans (Nat.le_of_lt hWs) hD) (fun E hE => Nat.lt_of_lt_of_le (HDW.out E hE) hD) hK)
            obtain ⟨hren, hml⟩ := hnext.renew i1
            have HNX := Lib.hid hren
            have HML := Lib.hid hml
            have HV6 := Lib.hid hv6
            clear i1 i4 i8 hnext hren hml hS hK hD hmm2 hv6
            go_wp2
            have hget : getL ns x = some o := by
              obtain ⟨q, hq⟩ : ∃ q, getL ns x = some q := Option.isSome_iff_exists.1 hh
              rw [HO.out, hq]; rfl
            have hstep := HW.out.step HH.out.rise hget hd
            refine ⟨D :: Ds, rfl, ⟨_, _, o.kids ++ rest, done ++ [x], ⟨_, _, _, _, _, _, _, _, _, _, _, _, _, _, _, _, _, _, _, _, _, _, _, _, _, _, _, _, _, _, _, _, _, _, _, _, _, _, _, _, _, _, _, _, _, _, _, _, _, _, _, _, _, _, _, _, _, _, _, _, rfl⟩, hstep, HNX.out, HI8.out.at_ fun E hE => (heap_alloc_lt _ _ (lt_of_heap2 hE)).trans hE⟩, ?_⟩
            rw [← HM0.out]
            show (sumU ns [] + 1) * (ns.length - lenV v') + leftLen _ (.pointer (some ⟨W.heap.size, 0, none⟩)) < _
            have hl2 : leftLen (W.alloc (.cells #[.slice A2 mm c2] 30)) (.pointer (some ⟨W.heap.size, 0, none⟩)) = mm := by
              unfold leftLen
              dsimp only
              rw [show (W.alloc (.cells #[.slice A2 mm c2] 30)).cell? ⟨W.heap.size, 0, none⟩ = some (.slice A2 mm c2) by unfold World.cell?; rw [Go.heap_alloc_new]; rfl]
              rfl
            rw [hl2, HV6.out]
            have h5 := hstep.few
            have h6 := nodup_le hstep.once hstep.node
            rw [List.length_append] at h6
            refine mu_less h6 (by rw [HML.out]; omega) ?_
            show 1 ≤ lenV ((wr.cell? ⟨b, 0, none⟩).getD undef)
            rw [cell_box HBX.out]
            exact Nat.succ_le_succ (Nat.zero_le n)
end Go.Proofs.Ytdphpjlhkamadaa
