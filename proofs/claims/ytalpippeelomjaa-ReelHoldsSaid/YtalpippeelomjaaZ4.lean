/- Same, Join, Law: joined by program (tools/merge.py). -/
import Derived.Test.YtalpippeelomjaaZ1
import Derived.Deep.QuietTactic
import Derived.BigQuiet
import Derived.Test.YtalpippeelomjaaZ2
import Derived.Laws.AppendOwnNone
import Derived.Test.YtalpippeelomjaaZ3
import Derived.Deep.RegionHeld3
import Derived.Deep.MidRow
import Derived.Deep.WholeRow
import Derived.OpenShut
namespace Go.Proofs.Ytalpippeelomjaa
open Go.RowKit

def SameR (w : World) (n : Nat) (l m : List Nat) (i : Value) (wr : World) : Prop :=
  ∃ k q : Nat, k ≤ n ∧ i = .int .i64 (k : Int) ∧ l.take k = m.take k ∧ wr = w.drewN q
def Quietly (w : World) (v : Value) (e : Ending) (w' : World) : Prop := e = .returned v ∧ ∃ q, w' = w.drewN q

set_option maxRecDepth 100000 in
set_option maxHeartbeats 1000000 in
theorem same_any (w : World) (v u : Value) (l m : List Nat) (hp : Bytes w w.heap.size v l) (hq : Bytes w w.heap.size u m) :
    Calls Try.prog 39 #[v, u] w (Quietly w (.bool (decide (l = m)))) := by
  obtain ⟨⟨A, c, rfl, hlies, _⟩, hsm, hlong⟩ := hp
  obtain ⟨⟨A2, c2, rfl, hlies2, _⟩, hsm2, hlong2⟩ := hq
  unfold maxLen at hlong hlong2
  have HL := Lib.hid hlies
  have HS := Lib.hid hsm
  have HL2 := Lib.hid hlies2
  have HS2 := Lib.hid hsm2
  clear hlies hsm hlies2 hsm2
  obtain ⟨n, hn⟩ : ∃ n, n = l.length := ⟨_, rfl⟩
  obtain ⟨n2, hn2⟩ : ∃ n2, n2 = m.length := ⟨_, rfl⟩
  rw [← hn] at hlong ⊢
  rw [← hn2] at hlong2 ⊢
  by_cases hne : n = n2
  · subst hne
    have HN := Lib.hid hn
    have HN2 := Lib.hid hn2
    clear hn hn2
    go_enter Try.func39, Try.ntmps39
    go_wp2
    go_loopw [13] (fun i wr => SameR w n l m i wr) (fun i _ => n - (intOf i).toNat)
    case atStart => exact ⟨0, 0, by omega, rfl, rfl, rfl⟩
    case round =>
      obtain ⟨k, q, hk, rfl, heq, rfl⟩ := hrel
      have HE := Lib.hid heq
      clear heq
      by_cases hlt : k < n
      · obtain ⟨b, hb1⟩ : ∃ b, l[k]? = some b := ⟨_, List.getElem?_eq_getElem (by rw [← HN.out]; exact hlt)⟩
        obtain ⟨d, hd1⟩ : ∃ d, m[k]? = some d := ⟨_, List.getElem?_eq_getElem (by rw [← HN2.out]; exact hlt)⟩
        obtain ⟨ad, hA, hbb, hc0⟩ := HL.out k (.int .u8 (b : Int)) (by rw [byt_at, hb1]; rfl)
        obtain ⟨ad2, hA2, hbb2, hc2⟩ := HL2.out k (.int .u8 (d : Int)) (by rw [byt_at, hd1]; rfl)
        subst hA
        subst hA2
        have h1 : (w.drewN q).cell? (ad.add k) = some (.int .u8 (b : Int)) := hc0
        have h2 : (w.drewN q).cell? (ad2.add k) = some (.int .u8 (d : Int)) := hc2
        have Hb1 := Lib.hid hb1
        have Hd1 := Lib.hid hd1
        clear hb1 hd1
        by_cases hbd : b = d
        · subst hbd
          go_wp2
          go_quiet (fail)
          go_wp2
          go_roundw
          case rel => exact ⟨k + 1, _, by omega, by go_num, by rw [List.take_add_one, List.take_add_one, HE.out, Hb1.out, Hd1.out], rfl⟩
          case measure => simp [intOf]; omega
        · have hne : ((b : Int) != (d : Int)) = true := by simp; omega
          go_wp2
          go_quiet (fail)
          go_wp2
          go_ret
          refine ⟨congrArg Ending.returned (congrArg Value.bool (Eq.symm (decide_eq_false ?_))), _, World.drewN_drewN _ _ _⟩
          intro e
          have h1 := Hb1.out
          rw [e, Hd1.out] at h1
          exact hbd (Option.some.inj h1).symm
      · go_wp2
        go_ret
        refine ⟨congrArg Ending.returned (congrArg Value.bool (Eq.symm (decide_eq_true ?_))), _, rfl⟩
        obtain rfl : k = n := by omega
        have h := HE.out
        rw [HN.out, List.take_length, ← HN.out, HN2.out, List.take_length] at h
        exact h
  · have hnl : ¬ l = m := fun e => hne (by rw [hn, hn2, e])
    have hd : ((n : Int) != (n2 : Int)) = true := by simp; omega
    have HX := Lib.hid hnl
    clear hnl hn hn2
    go_enter Try.func39, Try.ntmps39
    go_wp2
    go_ret
    exact ⟨congrArg Ending.returned (congrArg Value.bool (Eq.symm (decide_eq_false HX.out))), 0, rfl⟩
end Go.Proofs.Ytalpippeelomjaa
namespace Go.Proofs.Ytalpippeelomjaa
open Go.RowKit

def JoinR (W : World) (n : Nat) (ls : List (List Nat)) (out i : Value) (wr : World) : Prop :=
  ∃ k : Nat, k ≤ n ∧ i = .int .i64 (k : Int) ∧ Own wr W.heap.size out (ls.take k).flatten ∧ Below W.heap.size W wr
theorem flatten_take_le (ls : List (List Nat)) (k : Nat) : (ls.take k).flatten.length ≤ ls.flatten.length := by
  have h : ls.flatten = (ls.take k).flatten ++ (ls.drop k).flatten := by rw [← List.flatten_append, List.take_append_drop]
  rw [h, List.length_append]
  omega
theorem flatten_next {ls : List (List Nat)} {k : Nat} {l : List Nat} (h : ls[k]? = some l) : (ls.take (k + 1)).flatten = (ls.take k).flatten ++ l := by
  rw [List.take_add_one, h, List.flatten_append]
  simp
theorem one_byt (l : List Nat) : ∀ u ∈ byt l, u.oneCell' = true := by
  intro u hu
  unfold byt at hu
  obtain ⟨b, _, rfl⟩ := List.mem_map.1 hu
  rfl
theorem Lies.cells {w : World} {B : Nat} {ad : Addr} {vs : List Value} (h : Lies w B (some ad) vs) (j : Nat) (u : Value) (hj : vs[j]? = some u) : w.cell? (ad.add j) = some u := by
  obtain ⟨ad', e, _, hc⟩ := h j u hj
  injection e with e
  rw [e]
  exact hc
theorem Lies.empty {w : World} {B : Nat} {vs : List Value} (h : Lies w B none vs) : vs = [] := by
  rcases vs with _ | ⟨v, r⟩
  · rfl
  · obtain ⟨ad, e, _⟩ := h 0 v rfl
    cases e
theorem own_of_row {w : World} {base N : Nat} {v : Value} {l : List Nat} (h : w.ownsRow base 5 1 v N (byt l)) : Own w base v l := by
  have h1 := h.1
  rw [byt_length] at h1
  obtain rfl : N = l.length := by omega
  exact h
theorem own_more {w : World} {base k N : Nat} {v : Value} {ls : List (List Nat)} {l : List Nat} (hl : ls[k]? = some l)
    (h : w.ownsRow base 5 1 v N (byt (ls.take k).flatten ++ byt l)) : Own w base v (ls.take (k + 1)).flatten := by
  rw [← byt_append, ← flatten_next hl] at h
  exact own_of_row h

set_option maxRecDepth 100000 in
set_option maxHeartbeats 1000000 in
theorem join_any (w : World) (v : Value) (ls : List (List Nat)) (hp : Parts w w.heap.size v ls) (htot : ls.flatten.length ≤ 1048576) :
    Calls Try.prog 57 #[v] w fun e w' => ∃ u, e = .returned u ∧ Own w' w.heap.size u ls.flatten ∧ Below w.heap.size w w' := by
  obtain ⟨⟨A, c, vs, rfl, hvl, hlies, hbytes⟩, hlong⟩ := hp
  unfold maxLen at hlong
  obtain ⟨i0, hi0, hz0, hz1, hz2⟩ := info_parts infoByte
  have HV := Lib.hid hvl
  have HL := Lib.hid hlies
  have HB := Lib.hid hbytes
  clear hvl hlies hbytes
  obtain ⟨n, hn⟩ : ∃ n, n = ls.length := ⟨_, rfl⟩
  rw [← hn] at hlong ⊢
  have HN := Lib.hid hn
  have HI := Lib.hid hi0
  have H0 := Lib.hid hz0
  have H1 := Lib.hid hz1
  have H2 := Lib.hid hz2
  have HT := Lib.hid htot
  clear hn hi0 hz0 hz1 hz2 htot
  go_enter Try.func57, Try.ntmps57
  go_wp2
  go_loopw [3, 8] (fun out i wr => JoinR w n ls out i wr) (fun _ i _ => n - (intOf i).toNat)
  case atStart => exact ⟨0, by omega, rfl, own_nil _ _, Below.refl _ _⟩
  case round =>
    obtain ⟨k, hk, rfl, hown, hb⟩ := hrel
    by_cases hlt : k < n
    · obtain ⟨l, hl⟩ : ∃ l, ls[k]? = some l := ⟨_, List.getElem?_eq_getElem (by rw [← HN.out]; exact hlt)⟩
      obtain ⟨u, hu⟩ : ∃ u, vs[k]? = some u := ⟨_, List.getElem?_eq_getElem (by rw [HV.out, ← HN.out]; exact hlt)⟩
      obtain ⟨⟨A1, c1, rfl, hlies1, _, hn1⟩, hsm, hlong1⟩ := HB.out k u l hu hl
      obtain ⟨ad, hA, hbb, hc0⟩ := HL.out k _ hu
      subst hA
      have hc := (hb.cell (p := ad.add k) (by rw [addr_add_block]; exact hbb)).trans hc0
      have hlies2 := hlies1.below hb
      have hmore : (ls.take k).flatten.length + l.length ≤ 1048576 := by
        have h1 := flatten_take_le ls (k + 1)
        rw [flatten_next hl, List.length_append] at h1
        have := HT.out
        omega
      have HL1 := Lib.hid hlies2
      have Hl := Lib.hid hl
      have HM := Lib.hid hmore
      have HO := Lib.hid hown
      clear hlies1 hlies2 hsm hl hu hc0 hlong1 hmore
      rcases A1 with _ | ad1
      · have hl0 : l = [] := by
          have h1 := HL1.out.empty
          rw [← List.length_eq_zero_iff, ← byt_length, h1]
          rfl
        obtain rfl : c1 = 0 := hn1 rfl
        subst hl0
        clear hn1
        go_wp2_with (at_builtin; refine wpList_append_own_none rfl _ _ 43 rfl w.heap.size 5 i0 1 Try.underlying43 HI.out _ _ _ rfl HO.out rfl ?_)
        go_roundw
        case rel => exact ⟨k + 1, by omega, by go_num, by rw [flatten_next Hl.out, List.append_nil]; exact HO.out, hb⟩
        case measure => simp [intOf]; omega
      · clear hn1
        go_wp2_with (at_builtin; refine wpList_append_own _ rfl _ _ 43 rfl w.heap.size 5 i0 (.int .u8 0) 1 1 Try.underlying43 HI.out H0.out H1.out H2.out rfl (by decide) _ _ _ rfl HO.out ad1 l.length c1 (byt l) rfl ?c1 ?c2 ?c3 ?c4 ?c5 ?c6 ?_)
        case c1 => rw [byt_length]; omega
        case c2 => exact HL1.out.cells
        case c3 => exact one_byt l
        case c4 => have := HM.out; unfold maxLen; omega
        case c5 => have := HM.out; omega
        case c6 => exact hb.size
        intro v' w1 hown1 hg1 _
        have hbel := hb.grown hg1 hb.size (fun g hg => (World.ownsRow.lt HO.out g hg).1)
        have HO2 := Lib.hid (own_more Hl.out hown1)
        have HB2 := Lib.hid hbel
        clear hown1 hbel hg1 hb
        go_wp2
        go_roundw
        case rel => exact ⟨k + 1, by omega, by go_num, HO2.out, HB2.out⟩
        case measure => simp [intOf]; omega
    · go_wp2
      go_ret
      refine ⟨_, rfl, ?_, hb⟩
      obtain rfl : k = n := by omega
      rw [HN.out, List.take_length] at hown
      exact hown
end Go.Proofs.Ytalpippeelomjaa
namespace Go.Proofs.Ytalpippeelomjaa
open Go.RowKit

/-- A slice of bytes that came in reads as bytes. -/
theorem bytes_of_row {w : World} {a : Option Addr} {len cap : Nat} {zs : List Int}
    (h : (a = none ∧ len = 0 ∧ cap = 0 ∧ zs = []) ∨ ∃ x, a = some x ∧ len ≤ cap ∧ cap ≤ maxLen ∧ zs.length = cap ∧ (∀ i, i < zs.length → w.cell? (x.add i) = some (.int .u8 (zs.getD i 0))) ∧ ∀ n ∈ zs, (Lit.int .u8 n).wf = true) :
    ∃ l, Bytes w w.heap.size (.slice a len cap) l ∧ len = l.length := by
  rcases h with ⟨rfl, rfl, rfl, rfl⟩ | ⟨x, rfl, hl, hm, hz, hc, hw⟩
  · exact ⟨[], Bytes.none_ _ _, rfl⟩
  · have hlen : ((zs.take len).map Int.toNat).length = len := by rw [List.length_map, List.length_take]; omega
    refine ⟨(zs.take len).map Int.toNat, ⟨⟨some x, cap, by rw [hlen], ?_, by rw [hlen]; exact hl, fun e => by cases e⟩, ?_, by rw [hlen]; omega⟩, hlen.symm⟩
    · intro j v hj
      have hjl : j < len := by
        rcases Nat.lt_or_ge j len with h1 | h1
        · exact h1
        · rw [List.getElem?_eq_none (by rw [byt_length, hlen]; exact h1)] at hj; cases hj
      have hcell := hc j (by omega)
      have hb := World.block_lt_of_cell? w _ hcell
      rw [addr_add_block] at hb
      refine ⟨x, rfl, hb, ?_⟩
      rw [hcell]
      rw [byt_at, List.getElem?_map, List.getElem?_take, if_pos hjl, List.getElem?_eq_getElem (by omega)] at hj
      simp only [Option.map_some, Option.some.injEq] at hj
      rw [← hj]
      have hz0 : (zs.getD j 0) = zs[j]'(by omega) := by rw [List.getD_eq_getElem?_getD, List.getElem?_eq_getElem (by omega)]; rfl
      have hwf := bounds_u8 (hw _ (List.getElem_mem (by omega : j < zs.length)))
      rw [hz0]
      congr 2
      omega
    · intro b hb
      obtain ⟨n, hn, rfl⟩ := List.mem_map.1 hb
      have hwf := bounds_u8 (hw n (List.mem_of_mem_take hn))
      omega

/-- The table of sum.Make as a list of cells. -/
def tabL : List Value := (tabTo 256).toList
theorem tabL_length : tabL.length = 256 := by unfold tabL; rw [Array.length_toList, tabTo_size]
theorem tabL_one : ∀ v ∈ tabL, v.oneCell' = true := by
  intro v hv
  unfold tabL at hv
  have h := tabTo_one 256
  rw [Array.all_eq_true_iff_forall_mem] at h
  exact h v (by simpa using hv)
theorem tabL_info : (Try.prog.info? 141).map (·.size) = some tabL.length := by rw [tabL_length]; kernel_rfl
theorem tabL_under : Try.prog.underlying 141 = some (.array 256 22) := by kernel_rfl

/-- What a law knows of the table C in its hands. -/
structure Table (C : List Value) : Prop where
  length : C.length = 256
  one : ∀ v ∈ C, v.oneCell' = true
  at_ : ∀ i, i < 256 → C.toArray[i]? = some (.int .u32 ((zk 8 i : Nat) : Int))
  info : (Try.prog.info? 141).map (·.size) = some C.length
theorem table_tabL : Table tabL := ⟨tabL_length, tabL_one, fun i h => by
  have := tab_at i h
  unfold tabL
  simpa using this, tabL_info⟩
theorem make_list (w : World) : Calls Try.prog 90 #[] w fun e w' => ∃ C, Table C ∧ e = .returned (.agg C.toArray) ∧ Below w.heap.size w w' := by
  refine (make_any w).mono fun e w' h => ⟨tabL, table_tabL, ?_, h.2⟩
  rw [h.1]
  unfold tabL
  rw [Array.toArray_toList]
theorem sum_list (C : List Value) (hC : Table C) (w : World) (v : Value) (ls : List (List Nat)) (hp : Parts w w.heap.size v ls) :
    Calls Try.prog 100 #[.agg C.toArray, v] w fun e w' => e = .returned (.int .u32 (crc ls.flatten : Int)) ∧ w' = w.alloc (.cells C.toArray 141) :=
  sum_core C.toArray hC.at_ w v ls hp

/-- A whole row stored into a block that has just been made. -/
theorem wpList_store_new {P : Program} {w : World} {ops : Array Oper} {rest : List Oper} {o : Oper} {a : Act} {Q : Exit → Act → World → Prop} (hgd : o.guard = none) (ty : TypeId) (x y : Operand) (ho : o.op = .store ty x y)
    (c : Array Value) (C : List Value) (hx : a.eval x = .pointer (some ⟨w.heap.size, 0, none⟩)) (hy : a.eval y = .agg C.toArray) (t : TypeId) (hi : (P.info? ty).map (·.size) = some C.length)
    (hold : c.size = C.length) (h1 : ∀ v ∈ C, v.oneCell' = true) (h : wpList P ops Q rest (a.put o.dst undef) (w.alloc (.cells C.toArray t))) : wpList P ops Q (o :: rest) a (w.alloc (.cells c t)) := by
  refine wpList_store_row hgd ty x y ho w.heap.size C.toArray hx hy t c (Go.heap_alloc_new w _) (by simpa using hi) (by simpa using hold) (by simpa using h1) ?_
  have e : (w.alloc (.cells c t)).setRow w.heap.size C.toArray = w.alloc (.cells C.toArray t) := by
    unfold World.setRow World.alloc
    congr 1
    apply Array.ext_getElem?
    intro k
    simp only [Array.getElem?_modify, Array.getElem?_push]
    by_cases hk : k = w.heap.size
    · subst hk
      simp
    · simp [hk]
      intro e
      exact absurd e.symm hk
  rw [e]
  exact h
theorem range_new (w : World) (C : List Value) (t : TypeId) : (w.alloc (.cells C.toArray t)).rangeAt w.heap.size 0 C := fun j v h => by
  rw [Nat.zero_add, World.cell?_alloc_at _ _ _ _ rfl]
  simpa using h
theorem range_below {B : Nat} {w w' : World} {g o : Nat} {C : List Value} (h : w.rangeAt g o C) (hb : Below B w w') (hg : g < B) : w'.rangeAt g o C := fun j v hj =>
  (hb.cell (p := ⟨g, o + j, none⟩) hg).trans (h j v hj)
/-- The slice with these three parts owns, in blocks from base on, just the bytes l. -/
structure Mine (w : World) (base : Nat) (A : Option Addr) (m c : Nat) (l : List Nat) : Prop where
  own : w.ownsRow base 5 1 (.slice A m c) m (byt l)
  len : m = l.length
  small : ∀ b ∈ l, b < 256
theorem Mine.of_own {w : World} {base : Nat} {v : Value} {l : List Nat} (h : Own w base v l) (hs : ∀ b ∈ l, b < 256) : ∃ A m c, v = .slice A m c ∧ Mine w base A m c l := by
  obtain ⟨A, c, rfl, _, _, _, ho⟩ := h.form
  exact ⟨A, _, c, rfl, ho, rfl, hs⟩
section
variable {w w' : World} {base m c B : Nat} {A : Option Addr} {l : List Nat}
theorem Mine.bytes (h : Mine w base A m c l) : Bytes w w.heap.size (.slice A m c) l := by
  have h1 := h.own
  rw [h.len] at h1 ⊢
  exact Own.bytes h1 h.small
theorem ownsRow_below {w w' : World} {base n size : Nat} {t : TypeId} {v : Value} {xs : List Value} (h : w.ownsRow base t size v n xs) (hb : Below w.heap.size w w') : w'.ownsRow base t size v n xs := by
  obtain ⟨hl, hv⟩ := id h
  refine ⟨hl, ?_⟩
  rcases hv with hv | ⟨g, cap, cur, rfl, h1, h2, h3⟩
  · exact .inl hv
  · refine .inr ⟨g, cap, cur, rfl, h1, ?_, h3⟩
    rw [hb.block g ?_]
    · exact h2
    · rcases Nat.lt_or_ge g w.heap.size with hlt | hge
      · exact hlt
      · rw [Array.getElem?_eq_none hge] at h2; cases h2
theorem Mine.below (h : Mine w base A m c l) (hb : Below w.heap.size w w') : Mine w' base A m c l := ⟨ownsRow_below h.own hb, h.len, h.small⟩
theorem Mine.at_ (h : Mine w base A m c l) {k : Nat} (hk : k < m) : ∃ g b, A = some ⟨g, 0, none⟩ ∧ base ≤ g ∧ l[k]? = some b ∧ b < 256 ∧ w.cell? ⟨g, k, none⟩ = some (.int .u8 (b : Int)) ∧ w.frozen? ⟨g, k, none⟩ = false := by
  obtain ⟨hl, ⟨_, h0⟩ | ⟨g, cap, cur, hv, h1, h2, h3⟩⟩ := id h.own
  · omega
  · have hA : A = some ⟨g, 0, none⟩ := by injection hv
    subst hA
    have hlk : k < l.length := by rw [← h.len]; exact hk
    have hb := List.getElem?_eq_getElem hlk
    refine ⟨g, l[k], rfl, h1, hb, h.small _ (List.getElem_mem hlk), ?_, frozen_of_row w g k cur _ h2⟩
    rw [h.own.cellAt k (by omega), byt_at, hb]
    rfl
end
theorem Bytes.cap {w : World} {B m c : Nat} {A : Option Addr} {q : List Nat} (h : Bytes w B (.slice A m c) q) : m ≤ c := by
  obtain ⟨⟨A1, c1, hv, _, hc, _⟩, _, _⟩ := h
  injection hv with h1 h2 h3
  omega
theorem small_take {l : List Nat} (h : ∀ b ∈ l, b < 256) (k : Nat) : ∀ b ∈ l.take k, b < 256 := fun b hb => h b (List.mem_of_mem_take hb)
theorem cut_mine (w : World) (v : Value) (l : List Nat) (most : Nat) (m : Int) (hm : m = (most : Int)) (hp : Bytes w w.heap.size v l) (hmost : most ≤ 1048576) :
    Calls Try.prog 29 #[v, .int .i64 m] w fun e w' => ∃ A n c, e = .returned (.slice A n c) ∧ Mine w' w.heap.size A n c (l.take most) ∧ Below w.heap.size w w' :=
  (cut_at w v l most m hm hp hmost).mono fun e w' ⟨u, he, ho, hb⟩ => by
    obtain ⟨A, n, c, rfl, hM⟩ := Mine.of_own ho (small_take hp.small most)
    exact ⟨A, n, c, he, hM, hb⟩
theorem join_mine (w : World) (v : Value) (ls : List (List Nat)) (hp : Parts w w.heap.size v ls) (hs : ∀ b ∈ ls.flatten, b < 256) (htot : ls.flatten.length ≤ 1048576) :
    Calls Try.prog 57 #[v] w fun e w' => ∃ A n c, e = .returned (.slice A n c) ∧ Mine w' w.heap.size A n c ls.flatten ∧ Below w.heap.size w w' :=
  (join_any w v ls hp htot).mono fun e w' ⟨u, he, ho, hb⟩ => by
    obtain ⟨A, n, c, rfl, hM⟩ := Mine.of_own ho hs
    exact ⟨A, n, c, he, hM, hb⟩
/-- The lesser of two, behind a name. -/
def lesser (x y : Nat) : Nat := if x ≤ y then x else y
theorem lesser_le (x y : Nat) : lesser x y ≤ y := by unfold lesser; split <;> omega
theorem ite_lesser (x y : Nat) : (if (y : Int) < (x : Int) then (y : Int) else (x : Int)) = ((lesser x y : Nat) : Int) := by
  unfold lesser
  by_cases h : x ≤ y
  · rw [if_pos h, if_neg (by omega)]
  · rw [if_neg h, if_pos (by omega)]
theorem run_lesser (x y : Nat) (w : World) : (Builtin.min_ #[3, 3] 3 #[.int .i64 (x : Int), .int .i64 (y : Int)]).run Try.prog w = .ok (.int .i64 ((lesser x y : Nat) : Int)) w := by
  rw [← ite_lesser]
  go_simp
/-- WHAT A DRAWN REGION KEEPS: the table's row; all that was there before. -/
theorem held_alloc {W x : World} {g : Nat} {C : List Value} (h : x.rangeAt g 0 C ∧ Below W.heap.size W x) (hg : g < W.heap.size) (o : Obj) : (x.alloc o).rangeAt g 0 C ∧ Below W.heap.size W (x.alloc o) :=
  ⟨range_below h.1 ((Below.refl _ _).alloc (Nat.le_refl _) o) (Nat.lt_of_lt_of_le hg h.2.size), h.2.alloc h.2.size o⟩
theorem held_size {W x : World} {g : Nat} {C : List Value} (h : x.rangeAt g 0 C ∧ Below W.heap.size W x) : W.heap.size ≤ x.heap.size := h.2.size
theorem held_bytes {W x : World} {g : Nat} {C : List Value} {v : Value} {q : List Nat} (hb : Bytes W W.heap.size v q) (h : x.rangeAt g 0 C ∧ Below W.heap.size W x) : Bytes x W.heap.size v q := hb.below h.2
theorem new_drew (w : World) (o : Obj) (g : Nat) (hg : g = w.heap.size) : (w.alloc o).drew.heap[g]? = some o := by
  rw [hg]
  exact Go.heap_alloc_new w o
theorem sum_one {C : List Value} (hC : Table C) {y : World} {v : Value} {q : List Nat} {B gx : Nat} (hy : y.heap[gx]? = some (.cells #[v] 43 (0, 0))) (h : Bytes y B v q) (hB : B ≤ y.heap.size) :
    Calls Try.prog 100 #[.agg C.toArray, .slice (some ⟨gx, 0, none⟩) 1 1] y fun e w' => e = .returned (.int .u32 (crc q : Int)) ∧ w' = y.alloc (.cells C.toArray 141) := by
  have hP : Parts y y.heap.size (.slice (some ⟨gx, 0, none⟩) 1 1) [q] := by
    refine parts_block hy ?_ rfl rfl ?_ (by unfold maxLen; simp)
    · rcases Nat.lt_or_ge gx y.heap.size with h1 | h1
      · exact h1
      · rw [Array.getElem?_eq_none h1] at hy; cases hy
    intro j u l h1 h2
    match j, h1, h2 with
    | 0, h1, h2 =>
      simp at h1 h2
      subst h1 h2
      exact h.up hB
    | j + 1, h1, h2 => simp at h1
  have hs := sum_list C hC _ _ [q] hP
  have e : [q].flatten = q := by simp
  rw [e] at hs
  exact hs
theorem Bytes.first {w : World} {B m c k : Nat} {A : Option Addr} {q : List Nat} (h : Bytes w B (.slice A m c) q) (hk : k ≤ m) : Bytes w B (.slice A k c) (q.take k) := by
  obtain ⟨⟨A', c', hv, hl, hc, hn⟩, hs, hm⟩ := h
  injection hv with h1 h2 h3
  subst h1 h2 h3
  have e : (q.take k).length = k := by rw [List.length_take]; omega
  exact ⟨⟨A, c, by rw [e], by rw [byt_take]; exact hl.first k, by rw [e]; omega, hn⟩, small_take hs k, by rw [e]; omega⟩
theorem Bytes.rest {w : World} {B m c k : Nat} {A : Option Addr} {q : List Nat} (h : Bytes w B (.slice A m c) q) (hk : k ≤ m) : Bytes w B (.slice (if c = k then A else A.map (·.add k)) (m - k) (c - k)) (q.drop k) := by
  obtain ⟨⟨A', c', hv, hl, hc, hn⟩, hs, hm⟩ := h
  injection hv with h1 h2 h3
  subst h1 h2 h3
  have e : (q.drop k).length = q.length - k := List.length_drop
  refine ⟨⟨_, _, by rw [e], by rw [byt_drop]; exact hl.rest (by rw [byt_length]) hk hc, by rw [e]; omega, ?_⟩, fun b hb => hs b (List.mem_of_mem_drop hb), by rw [e]; omega⟩
  intro hn2
  by_cases hck : c = k
  · omega
  · rw [if_neg hck] at hn2
    rw [hn (by cases A with | none => rfl | some a => cases hn2)]
    omega
theorem sum_two {C : List Value} (hC : Table C) {y : World} {v u : Value} {q : List Nat} {k B gx : Nat} (hy : y.heap[gx]? = some (.cells #[v, u] 43 (0, 0))) (h : Bytes y B v (q.take k)) (h2 : Bytes y B u (q.drop k)) (hB : B ≤ y.heap.size) :
    Calls Try.prog 100 #[.agg C.toArray, .slice (some ⟨gx, 0, none⟩) 2 2] y fun e w' => e = .returned (.int .u32 (crc q : Int)) ∧ w' = y.alloc (.cells C.toArray 141) := by
  have hP : Parts y y.heap.size (.slice (some ⟨gx, 0, none⟩) 2 2) [q.take k, q.drop k] := by
    refine parts_block hy ?_ rfl rfl ?_ (by unfold maxLen; simp)
    · rcases Nat.lt_or_ge gx y.heap.size with h1 | h1
      · exact h1
      · rw [Array.getElem?_eq_none h1] at hy; cases hy
    intro j u l h1 h3
    match j, h1, h3 with
    | 0, h1, h3 =>
      simp at h1 h3
      subst h1 h3
      exact h.up hB
    | 1, h1, h3 =>
      simp at h1 h3
      subst h1 h3
      exact h2.up hB
    | j + 2, h1, h3 => simp at h1
  have hs := sum_list C hC _ _ [q.take k, q.drop k] hP
  have e : [q.take k, q.drop k].flatten = q := by simp
  rw [e] at hs
  exact hs
theorem sum_none {C : List Value} (hC : Table C) (w : World) :
    Calls Try.prog 100 #[.agg C.toArray, .slice none 0 0] w fun e w' => e = .returned (.int .u32 0) ∧ w' = w.alloc (.cells C.toArray 141) := by
  have hs := sum_list C hC w _ [] (Parts.none_ w w.heap.size)
  exact hs
/-- A step of a drawn region, taken first; the slot that it writes is written out. -/
theorem take_at {P : Program} {ops : Array Oper} {Q : Exit → Act → World → Prop} {md : Region.Mode} {S : World → Prop} {i : Nat} {oi : Oper} {v : Value} {fuel : Nat} {listed : Array Bool} {a : Act} {w : World} (d : Option Tmp)
    (hi : ops[i]? = some oi) (hd : oi.dst = d) (hs : Region.noSelect ops = true) (hf : Region.free md ops listed i = true) (hr : (Region.ready md ops listed).contains i = true)
    (hQ : ∀ c a w, Q (.panic c) (a.put d v) w → Q (.panic c) a w) (hy : YieldsIf P ops S oi v a) (hS : S w)
    (h : wpAnyH P md ops Q S fuel (listed.setIfInBounds i true) (a.put d v) w) : wpAnyH P md ops Q S (fuel + 1) listed a w := by
  subst hd
  exact wpAnyH_take hi hs hf hr hQ hy hS h
/-- The world behind a region, under a name of its own. -/
theorem gen_world {R : World → Prop} {G : World → Prop} {x : World} (h : R x) (k : ∀ X, R X → G X) : G x := k x h
/-- append(v, p...), v the call's own, p whatever slice of bytes (nil too). -/
theorem wpList_append_bytes {P : Program} {w : World} {ops : Array Oper} {rest : List Oper} {o : Oper} {a : Act} {Q : Exit → Act → World → Prop} (hgd : o.guard = none) (s x : Operand) (t : TypeId)
    (ho : o.op = .call { callee := .builtin .append, args := #[s, x], argTypes := #[t, t] })
    (base : Nat) (e : TypeId) (i : TypeInfo) (z : Value) (ht : P.underlying t = some (.slice e)) (hi : P.info? e = some i) (hz : i.zero = some z)
    (hsize : i.size = 1) (hby : i.bytes = 1) (hzs : z.cells.size = 1)
    (v : Value) (N : Nat) (xs : List Value) (hs : a.eval s = v) (hown : w.ownsRow base e 1 v N xs)
    (A : Option Addr) (n c B : Nat) (l : List Nat) (hx : a.eval x = .slice A n c) (hb : Bytes w B (.slice A n c) l)
    (hmax : N + n ≤ 140737488355328) (hbase : base ≤ w.heap.size)
    (h : ∀ v' w', w'.ownsRow base e 1 v' (N + n) (xs ++ byt l) → w.grownBy w' v.ownBlock → wpList P ops Q rest (a.put o.dst v') w') : wpList P ops Q (o :: rest) a w := by
  obtain ⟨⟨A1, c1, hv, hl, hc, hn⟩, _, _⟩ := hb
  injection hv with h1 h2 h3
  subst h1 h2 h3
  rcases A with _ | ad
  · have hl0 : l = [] := by
      have h1 := hl.empty
      rw [← List.length_eq_zero_iff, ← byt_length, h1]
      rfl
    subst hl0
    have hc0 := hn rfl
    subst hc0
    exact wpList_append_own_none hgd s x t ho base e i 1 ht hi v N xs hs hown hx (h v w (by simpa [byt] using hown) (World.grownBy.refl w _))
  · exact wpList_append_own w hgd s x t ho base e i z 1 1 ht hi hz hsize hby hzs (by decide) v N xs hs hown ad _ c (byt l) hx (by rw [byt_length]; omega) hl.cells (one_byt l) (by unfold maxLen; omega) (by omega) hbase
      (fun v' w' h1 h2 _ => h v' w' h1 h2)
end Go.Proofs.Ytalpippeelomjaa
