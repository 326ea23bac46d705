/- ANil, AAwake, AFormsM: joined by program (tools/merge.py). -/
import Derived.Test.YtdphpjlhkamadaaZ46
import Derived.Test.YtdphpjlhkamadaaZ20
import Derived.Test.YtdphpjlhkamadaaZ38
import Derived.Test.YtdphpjlhkamadaaZ27
import Derived.Test.YtdphpjlhkamadaaTpRefLay
import Derived.Test.YtdphpjlhkamadaaARPut
import Derived.Test.YtdphpjlhkamadaaZ44
import Derived.Laws.BitsAllLaws
namespace Go.Proofs.Ytdphpjlhkamadaa
open Go.RowKit Go.Shelf
set_option linter.unusedSimpArgs false
set_option linter.unusedVariables false
set_option maxRecDepth 100000
attribute [local go_sem] Oper.semAt_some undef
theorem ids_nil (w : World) : Calls Try.prog 29 #[.pointer none] w (fun e w' => e = .returned (.slice none 0 0) ∧ Below w.heap.size w w') := by
  go_enter Try.func29, Try.ntmps29
  go_wp2_with fail
  go_ret
  exact ⟨rfl, Below.refl _ _⟩
theorem bytes_nil (w : World) : Calls Try.prog 19 #[.pointer none] w (fun e w' => e = .returned (.slice none 0 0) ∧ Below w.heap.size w w') := by
  go_enter Try.func19, Try.ntmps19
  go_wp2_with fail
  go_ret
  exact ⟨rfl, Below.refl _ _⟩
/-- What told keeps while it ranges over nothing. -/
def ToldI (w0 : World) (W : World) : Prop := Below w0.heap.size w0 W ∧ W.heap[w0.heap.size + 1]? = some (.cells #[.slice none 0 0] 30 (0, 0))
theorem toldI_own {w0 : World} {B : Nat} {α : Type} (hB : w0.heap.size ≤ B) : OwnFrom B (fun (_ : List α) W => ToldI w0 W) := fun pre W W' row hs hg hr =>
  ⟨hs.1.trans ⟨hg.os, hg.tape, hg.output, hg.size, fun j hj => hg.block j (Nat.lt_of_lt_of_le hj hs.1.size) fun e => by have := (hr j e.symm).1; omega⟩, grown_cells hg hr hs.2⟩
set_option maxHeartbeats 4000000 in
theorem told_nil (w : World) (id : Nat) (m : Int) : Calls Try.prog 30 #[.pointer none, .int .u64 (id : Int), .int .i64 m] w (fun e w' => e = .returned (.slice none 0 0) ∧ Below w.heap.size w w') := by
  obtain ⟨w1, hw1⟩ : ∃ w1, w1 = (w.alloc (.cells #[.int .i64 m] 3)).alloc (.cells #[.slice none 0 0] 30) := ⟨_, rfl⟩
  have hb1 : Below w.heap.size w w1 := by rw [hw1]; exact ((Below.refl _ _).alloc (Nat.le_refl _) _).alloc (by simp) _
  have hx1 : w1.heap[w.heap.size + 1]? = some (.cells #[.slice none 0 0] 30 (0, 0)) := by rw [hw1]; exact alloc2 _ _ _ _ _
  have HWK := Lib.hid (walk_nil w1 (.int .u64 (id : Int)) [])
  subst hw1
  have HB1 := Lib.hid hb1
  have HX1 := Lib.hid hx1
  clear hb1 hx1
  refine callsIn_wide.1 (callsIn_of_wp_marks (n := 5) Try.func30 rfl trivial ((wpIn_wide (n := 5)).2 ?_))
  simp only [Try.ntmps30, List.size_toArray, List.length_cons, List.length_nil, Nat.reduceAdd, Nat.reduceSub, Array.replicate_succ, Array.replicate_zero, List.push_toArray, List.append_toArray, List.nil_append, List.cons_append]
  go_wp2_with (go_at_call 41; (with_reducible refine (HWK.out).mono ?_); rintro e w5 ⟨B, A, c, rfl, hB1, hB2, hB3, hB4⟩; go_loud (
          have HC1 := Lib.hid hB1;
          have HC2 := Lib.hid hB2;
          have HC4 := Lib.hid hB4;
          clear hB1 hB2 hB3 hB4))
  have hrow : WRow w5 w5.heap.size B A c [] [] [] := ⟨HC2.out, lt_of_heap2 HC2.out, Nat.le_refl _, .inl rfl, fun x hx => (nomatch hx), by simp⟩
  have hb5 : Below w.heap.size w w5 := HB1.out.trans (HC4.out.mono HB1.out.size)
  have hI0 : ToldI w w5 := ⟨hb5, (HC4.out.block _ (lt_of_heap2 HX1.out)).trans HX1.out⟩
  have HRW := Lib.hid hrow
  have HB5 := Lib.hid hb5
  have HI0 := Lib.hid hI0
  clear hrow hb5 hI0
  refine (wpIn_wide (n := 5)).1 ?_
  refine range_tells (ps := #[12, 13]) (by omega) 63 _ rfl (enters_of Try.func63 (by kernel_rfl) rfl) (walk_tells (5 - 1) (by omega) B c A [] [] [] w5 HRW.out) (fun _ => rfl) KpW.trans (fun W l o' hl => KpW.putObj W l o' hl)
    (fun _ W => ToldI w W) (fun _ _ _ => False) (toldI_own HB5.out.size) (fun _ _ _ _ _ hs _ _ => hs) HI0.out
    (fun _ _ _ _ _ => True) (fun _ _ _ _ _ _ _ _ _ _ => trivial) ?assign ?body ?done (fun _ _ _ _ _ _ hs _ => hs.elim)
  case assign =>
    intro l pre x W K hI hOk hK
    rw [enc_tmps2]
    simp only [List.setIfInBounds_toArray, List.set_cons_zero, List.set_cons_succ]
    gi_wp2
    exact hK _ _ (KeepsFrom.refl _ _) (KpW.refl _ _) hI trivial
  case body =>
    intro l pre x a' W hl hI hx hlen
    exact absurd hlen (Nat.not_lt_zero _)
  case done =>
    intro D xs W hD hS hI hK
    have q1 := cell_box hI.2
    have hmk : Marked w.heap.size [D] W := (Marked.nil w.heap.size _).more (Nat.le_trans HB5.out.size hD) (fun E hE => by cases hE) hK
    have HI := Lib.hid hI
    have HMK := Lib.hid hmk
    clear hI hmk hS hK hD
    go_wp2_with fail
    refine leaves_marked (B := w.heap.size) [D] _ HMK.out fun w' hu => ⟨_, results_tmp rfl _ _ _, rfl, HI.out.1.trans hu.1⟩
end Go.Proofs.Ytdphpjlhkamadaa
namespace Go.Proofs.Ytdphpjlhkamadaa
open Go.RowKit Go.Shelf
set_option linter.unusedSimpArgs false
set_option linter.unusedVariables false
set_option maxRecDepth 100000
attribute [local go_sem] Oper.semAt_some undef
def modNd : Nd := ⟨2, ⟨#[]⟩, 0, 0, 0, []⟩
theorem tree_new : treeB [(1, progNd)] = true := by rfl
theorem tree_two : treeB (putL' [(1, progNd)] 2 modNd) = false := by rfl
set_option maxHeartbeats 2000000 in
theorem awake_true (w : World) : Calls Try.prog 8 #[] w (fun e w' => e = .returned (.bool true) ∧ Below w.heap.size w w') := by
  have HN := Lib.hid (new_any w)
  go_enter Try.func8, Try.ntmps8
  go_wp2_with (first
    | (go_at_call 36; (with_reducible refine (HN.out).mono ?_); rintro e w1 ⟨ga, gm, gp, F, vs, rfl, hA, hb1⟩; go_loud (
        have HA := Lib.hid hA;
        have HB1 := Lib.hid hb1;
        have HRT := Lib.hid (root_any w1 ⟨ga, 0, none⟩);
        clear hA hb1))
    | (go_at_call 26; (with_reducible refine (HRT.out).mono ?_); rintro e w2 ⟨rfl, hb2⟩; go_loud (
        have HB2 := Lib.hid (HB1.out.trans (hb2.mono HB1.out.size));
        have HA2 := Lib.hid (HA.out.below hb2);
        have ht := tree_any w2 _ ga gm gp 0 F vs [(1, progNd)] HA2.out (by decide) (by decide);
        rw [tree_new] at ht;
        have HT := Lib.hid ht;
        clear hb2 ht))
    | (go_at_call 32; (with_reducible refine (HT2.out).mono ?_); rintro e w6 ⟨rfl, hb6⟩; go_loud (
        have HB6 := Lib.hid (HB5.out.trans (hb6.mono HB5.out.size));
        have hl := len_any w6 _ ga gm gp _ F5 vs5 _ (HA5.out.below hb6);
        have HL := Lib.hid hl;
        clear hb6 hl))
    | (go_at_call 32; (with_reducible refine (HT.out).mono ?_); rintro e w3 ⟨rfl, hb3⟩; go_loud (
        have HB3 := Lib.hid (HB2.out.trans (hb3.mono HB2.out.size));
        have HA3 := Lib.hid (HA2.out.below hb3);
        have hput : Calls Try.prog 27 #[.pointer (some ⟨ga, 0, none⟩), .int .u64 2, .agg #[.int .u8 2, .string ⟨#[]⟩, .int .i64 0, .int .u8 0, .int .u64 0, .slice none 0 0]] w3 (PutR w3 w.heap.size ga gm gp F 0 (putL' [(1, progNd)] 2 modNd) 0) := put_good w3 _ ga gm gp 2 0 F vs [(1, progNd)] modNd none 0 HA3.out (by decide) (by decide) (.inr (by decide)) ⟨⟨none, 0, rfl, IdSl.nil _ _⟩, ⟨by decide, by decide, by decide, by decide, by decide⟩⟩ (IdSl.nil _ _) (by decide) (by decide);
        have HP := Lib.hid hput;
        clear hb3 hput))
    | (go_at_call 27; (with_reducible refine (HP.out).mono ?_); rintro e w5 ⟨rfl, F5, vs5, hA5, hT5, hO5⟩; go_loud (
        have HA5 := Lib.hid hA5;
        have HB5 := Lib.hid (HB3.out.trans (hT5.below HB3.out.size fun j hj => HA3.out.low hj));
        have ht2 := tree_any w5 _ ga gm gp 0 F5 vs5 _ hA5 (by decide) (by decide);
        rw [tree_two] at ht2;
        have HT2 := Lib.hid ht2;
        clear hA5 hT5 hO5 ht2))
    | (go_at_call 28; (with_reducible refine (HL.out).mono ?_); rintro e w7 ⟨rfl, hb7⟩; go_loud (
        rw [show (((putL' [(1, progNd)] 2 modNd).length : Nat) : Int) = 2 from rfl];
        have HB7 := Lib.hid (HB6.out.trans (hb7.mono HB6.out.size));
        clear hb7)))
  go_ret
  exact ⟨rfl, HB7.out⟩
end Go.Proofs.Ytdphpjlhkamadaa
namespace Go.Proofs.Ytdphpjlhkamadaa
open Go.RowKit Go.Shelf
set_option linter.unusedSimpArgs false
set_option linter.unusedVariables false
set_option maxRecDepth 100000
theorem flat_len : ∀ {ks : List Nat}, (∀ k ∈ ks, k < 18446744073709551616) → (ks.flatMap num).length ≤ 10 * ks.length
  | [], _ => by simp
  | k :: ks, h => by
    rw [List.flatMap_cons, List.length_append, List.length_cons]
    have h1 := num_length64 (h k (by simp))
    have h2 := flat_len (ks := ks) fun x hx => h x (by simp [hx])
    omega
theorem node_len {n : Nd} (h : Fit n) (hk : n.kids.length ≤ 12) : (nodeB n).length ≤ 300 := by
  have h1 := num_length64 (n := n.name.size) (by have := h.name; omega)
  have h2 := num_length64 (zig_lt h.ok.num.1 (by have := h.ok.num.2; omega))
  have h3 := num_length64 h.ok.ref
  have h4 := num_length64 h.few
  have h5 := flat_len h.kids
  have h6 := h.name
  unfold nodeB headB
  simp only [List.length_append, List.length_cons, List.length_nil, str_length]
  omega
theorem nodes_blen : ∀ (ns : List (Nat × Nd)) (b : Nat), (∀ p ∈ ns, LaidOk p ∧ p.2.kids.length ≤ 12) → (nodesB b ns).length ≤ 310 * ns.length
  | [], _, _ => by simp [nodesB]
  | p :: r, b, h => by
    show (num (p.1 - b) ++ nodeB p.2 ++ nodesB p.1 r).length ≤ _
    have hp := h p (by simp)
    have h1 := num_length64 (n := p.1 - b) (by have := hp.1.2.2; omega)
    have h2 := node_len hp.1.1 hp.2
    have h3 := nodes_blen r p.1 fun q hq => h q (by simp [hq])
    simp only [List.length_append, List.length_cons]
    omega
theorem arena_len {ns : List (Nat × Nd)} (h0 : ∀ p ∈ ns, LaidOk p) (hf : Few ns 30) : 0 < (arenaB ns).length ∧ (arenaB ns).length ≤ 10000 := by
  have h1 := nodes_blen ns 0 fun p hp => ⟨h0 p hp, hf.kids p hp⟩
  have h2 := hf.len
  have h3 := num_length64 (n := ns.length) (by omega)
  have h4 := num_pos ns.length
  unfold arenaB
  rw [List.length_append]
  omega
theorem laid_again {ns : List (Nat × Nd)} (h0 : ∀ p ∈ ns, LaidOk p) (hf : Few ns 30) : parseL (arenaB ns) = some ns :=
  arena_again hf.rise (fun p hp => (h0 p hp).2.1) (fun p hp => (h0 p hp).2.2) (fun p hp => (h0 p hp).1) (by have := hf.len; omega)
theorem parse_none (w : World) (v : Value) (l : List Nat) (hp : Bytes w w.heap.size v l) (hl : l.length ≤ 1048576) (hn : parseL l = none) :
    Calls Try.prog 20 #[v] w fun e w' => e = .returned (.tuple #[.pointer none, .int .i64 2]) ∧ Below w.heap.size w w' :=
  (parse_any w v l hp hl).mono fun e w' ⟨h, hb⟩ => by
    rcases h with ⟨_, h⟩ | ⟨ns, b, ga, gm, gp, F, vs, N, h, _⟩
    · exact ⟨h, hb⟩
    · rw [hn] at h; cases h
theorem parse_some (w : World) (v : Value) (l : List Nat) (ns : List (Nat × Nd)) (hp : Bytes w w.heap.size v l) (hl : l.length ≤ 1048576) (hn : parseL l = some ns) :
    Calls Try.prog 20 #[v] w fun e w' => ∃ (b ga gm gp : Nat) (F : PF) (vs : List (Nat × Value)) (N : Nat), e = .returned (.tuple #[.pointer (some ⟨ga, 0, none⟩), .int .i64 0]) ∧ AR w' b ga gm gp F vs ns N ∧ Below w.heap.size w w' :=
  (parse_any w v l hp hl).mono fun e w' ⟨h, hb⟩ => by
    rcases h with ⟨h, _⟩ | ⟨ns', b, ga, gm, gp, F, vs, N, h, he, _, hA, _⟩
    · rw [hn] at h; cases h
    · rw [hn] at h
      injection h with h
      subst h
      exact ⟨b, ga, gm, gp, F, vs, N, he, hA, hb⟩
theorem same_bytes (w : World) (v u : Value) (l m : List Nat) (hp : Bytes w w.heap.size v l) (hq : Bytes w w.heap.size u m) (b : Bool) (hb : decide (l = m) = b) :
    Calls Try.prog 21 #[v, u] w fun e w' => e = .returned (.bool b) ∧ Below w.heap.size w w' :=
  (tp_same_any w v u l m hp hq).mono fun e w' ⟨he, q, hw⟩ => by
    subst hw
    rw [hb] at he
    exact ⟨he, by simpa using (below_drewN (Below.refl w.heap.size w) q)⟩
theorem parts_one {y : World} {v : Value} {l : List Nat} {B gx : Nat} (hy : y.heap[gx]? = some (.cells #[v] 42 (0, 0))) (h : Bytes y B v l) (hB : B ≤ y.heap.size) : Parts y y.heap.size (.slice (some ⟨gx, 0, none⟩) 1 1) [l] := by
  refine parts_block hy (lt_of_heap hy) rfl rfl ?_ (by unfold maxLen; simp)
  intro j u l e1 e3
  match j, e1, e3 with
  | 0, e1, e3 => simp at e1 e3; subst e1 e3; exact h.up hB
  | j + 1, e1, e3 => simp at e1
theorem join_one (w : World) (v : Value) (l : List Nat) (h : Bytes w w.heap.size v l) (hl : l.length ≤ 1048576) :
    Calls Try.prog 24 #[.slice (some ⟨w.heap.size, 0, none⟩) 1 1] (w.alloc (.cells #[v] 42)) fun e w' => ∃ A n c, e = .returned (.slice A n c) ∧ Mine w' w.heap.size A n c l ∧ Below w.heap.size w w' := by
  have hb := (Below.refl w.heap.size w).alloc (Nat.le_refl _) (.cells #[v] 42)
  have hP := parts_one (Go.heap_alloc_new w (.cells #[v] 42)) (h.below hb) (by simp)
  have e : [l].flatten = l := by simp
  have hJ := join_mine _ _ _ hP (by rw [e]; exact h.small) (by rw [e]; exact hl)
  rw [e] at hJ
  exact hJ.mono fun e w' ⟨A, n, c, he, hM, hB⟩ => ⟨A, n, c, he, hM.lower (by simp), below_on hb hB⟩
theorem mine_at {w : World} {base m c : Nat} {A : Option Addr} {l : List Nat} (h : Mine w base A m c l) {k : Nat} (hk : k < m) : ∃ g b, A = some ⟨g, 0, none⟩ ∧ base ≤ g ∧ l[k]? = some b ∧ b < 256 ∧ w.cell? ⟨g, k, none⟩ = some (.int .u8 (b : Int)) ∧ w.frozen? ⟨g, k, none⟩ = false := by
  obtain ⟨hl, ⟨_, h0⟩ | ⟨g, cap, cur, hv, h1, h2, h3⟩⟩ := id h.own
  · omega
  · have hA : A = some ⟨g, 0, none⟩ := by injection hv
    subst hA
    have hlk : k < l.length := by rw [← h.len]; exact hk
    have hb := List.getElem?_eq_getElem hlk
    refine ⟨g, l[k], rfl, h1, hb, h.small _ (List.getElem_mem hlk), ?_, h.own.frozenAt k⟩
    rw [h.own.cellAt k (by omega), byt_at, hb]
    rfl
theorem mine_set {w : World} {base n c g i b : Nat} {l : List Nat} (h : Mine w base (some ⟨g, 0, none⟩) n c l) (hb : b < 256) : Mine (w.setCell ⟨g, i, none⟩ (.int .u8 (b : Int))) base (some ⟨g, 0, none⟩) n c (l.set i b) := by
  refine ⟨?_, by rw [List.length_set]; exact h.len, ?_⟩
  · have h1 := (h.own.stored i (.int .u8 (b : Int))).1
    have e : byt (l.set i b) = (byt l).set i (.int .u8 (b : Int)) := by unfold byt; rw [List.map_set]
    rw [e]
    exact h1
  · intro d hd
    rcases List.mem_or_eq_of_mem_set hd with h2 | h2
    · exact h.small d h2
    · rw [h2]; exact hb
def Row3 (w : World) (s : Value) : Prop := ∃ A n c l, s = .slice A n c ∧ Bytes w w.heap.size s l ∧ l.length ≤ 20000
theorem three_at {we wr : World} {g k : Nat} {s0 s1 s2 : Value} (hrow : we.heap[g]? = some (.cells #[s0, s1, s2] 42 (0, 0))) (h0 : Row3 we s0) (h1 : Row3 we s1) (h2 : Row3 we s2) (hb : Below we.heap.size we wr) (hk : k < 3) :
    ∃ A n c l, wr.cell? ⟨g, k, none⟩ = some (.slice A n c) ∧ Bytes wr wr.heap.size (.slice A n c) l ∧ n = l.length ∧ n ≤ 20000 := by
  have hr := (hb.block _ (lt_of_heap hrow)).trans hrow
  obtain ⟨s, hs, hR⟩ : ∃ s, #[s0, s1, s2][k]? = some s ∧ Row3 we s := by
    match k, hk with
    | 0, _ => exact ⟨s0, rfl, h0⟩
    | 1, _ => exact ⟨s1, rfl, h1⟩
    | 2, _ => exact ⟨s2, rfl, h2⟩
  obtain ⟨A, n, c, l, rfl, hB, hl⟩ := hR
  have hn : n = l.length := by
    obtain ⟨⟨A1, c1, hv, _⟩, _, _⟩ := id hB
    injection hv
  refine ⟨A, n, c, l, ?_, hB.along hb, hn, by omega⟩
  rw [cell_of_row wr g k _ _ _ hr]
  exact hs
theorem bytes_of_cells {W : World} {A : Option Addr} {L C : Nat} {zs : List Int} (hl : L ≤ C) (hm : C ≤ maxLen) (hz : zs.length = C) (hw : ∀ n ∈ zs, (Lit.int .u8 n).wf = true) (x : Addr) (hA : A = some x)
    (hc : ∀ i, i < zs.length → W.cell? (x.add i) = some (.int .u8 (zs.getD i 0))) : ∃ l, Bytes W W.heap.size (.slice A L C) l := by
  subst hA
  obtain ⟨l, hb, _⟩ := bytes_of_row (w := W) (a := some x) (len := L) (cap := C) (zs := zs) (.inr ⟨x, rfl, hl, hm, hz, hc, hw⟩)
  exact ⟨l, hb⟩
theorem RowsIn.up2 {w : World} {B B' n : Nat} {A : Option Addr} {rs : List (Nat × Nd)} (h : RowsIn w B A n rs) (hB : B ≤ B') : RowsIn w B' A n rs := ⟨h.len, h.long, fun k p hp => by
  obtain ⟨ad, q, Ak, ck, e1, e2, hq, c0, c1, c2, c3, c4, c5, c6, hi, h7⟩ := h.row k p hp
  exact ⟨ad, q, Ak, ck, e1, e2, Nat.lt_of_lt_of_le hq hB, c0, c1, c2, c3, c4, c5, c6, hi.up hB, h7⟩⟩
theorem rows_good {w : World} {B n : Nat} {A : Option Addr} {rs : List (Nat × Nd)} (h : RowsIn w B A n rs) : ∀ p ∈ rs, NdOk p.2 ∧ (∀ k ∈ p.2.kids, k < 18446744073709551616) ∧ p.1 < 18446744073709551616 := by
  intro p hp
  obtain ⟨k, hk, e⟩ := List.mem_iff_getElem.1 hp
  have hk2 : rs[k]? = some p := by rw [List.getElem?_eq_getElem hk, e]
  obtain ⟨ad, q, Ak, ck, _, _, _, _, _, _, _, _, _, _, hi, h7, h8⟩ := h.row k p hk2
  exact ⟨h7, hi.small, h8⟩
end Go.Proofs.Ytdphpjlhkamadaa
