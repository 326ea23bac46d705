/- LChunk, LConcat: joined by program (tools/merge.py). -/
import Derived.RangeFuncBox
import Derived.RangeFuncNested
import Derived.RangeFuncCalls
import Derived.RangeFuncLeaves
import Derived.Shelf.Abstract
import Derived.Shelf.RegionOpen
import Derived.WalkKit
import Derived.OwnWalkIn
import Derived.TacticsInMore
import Derived.LoopNIn
import Derived.LoopIn
import Derived.Maps.AppendAt
import Derived.Test.YtalpippeelomjaaZ25
import Derived.Lib.AppendZeros
namespace Go.Proofs.Ytalpippeelomjaa
open Go.RowKit Go.Shelf
set_option linter.unusedSimpArgs false
set_option linter.unusedVariables false
attribute [local go_sem] Oper.semAt_some
/-- The k-th part of a slice. -/
def chunkE (N k : Nat) : Nat := min (487 * k + 487) N
def chunkV (A : Option Addr) (N k : Nat) : Value := .slice (A.map (fun x => x.add (487 * k))) (chunkE N k - 487 * k) (chunkE N k - 487 * k)
/-- What a round keeps: the two variables of the iterator. -/
def KpC (B1 B2 : Nat) (W W' : World) : Prop := W'.cell? ⟨B1, 0, none⟩ = W.cell? ⟨B1, 0, none⟩ ∧ W'.cell? ⟨B2, 0, none⟩ = W.cell? ⟨B2, 0, none⟩
theorem KpC.trans {B1 B2 : Nat} {A B C : World} (h : KpC B1 B2 A B) (k : KpC B1 B2 B C) : KpC B1 B2 A C := ⟨k.1.trans h.1, k.2.trans h.2⟩
theorem KpC.put {B1 B2 : Nat} (W : World) (l : Nat) (o' : Obj) (h1 : B1 ≠ l) (h2 : B2 ≠ l) : KpC B1 B2 W (W.putObj l o') :=
  ⟨World.cell?_of_block (World.putObj_heap_other h1), World.cell?_of_block (World.putObj_heap_other h2)⟩
def chunkM (N : Nat) : Nat := (N + 486) / 487
/-- A part's place. -/
abbrev Part (N : Nat) := { k : Nat // k < chunkM N }
def partNo {N : Nat} (l : List (Part N)) : List Nat := l.map fun x => x.1
theorem partNo_snoc {N : Nat} (l : List (Part N)) (x : Part N) : partNo (l ++ [x]) = partNo l ++ [x.1] := by unfold partNo; rw [List.map_append]; rfl
theorem partNo_length {N : Nat} (l : List (Part N)) : (partNo l).length = l.length := by unfold partNo; rw [List.length_map]
set_option maxRecDepth 100000 in
set_option maxHeartbeats 2000000 in
theorem chunk1_in (n : Nat) (hn : 1 ≤ n) (l B1 B2 : Nat) (A : Option Addr) (N c : Nat) (hN : N ≤ 1048576) (hNc : N ≤ c) (J Jx : List (Part N) → World → Prop) (W : World) (hJ : AbidesFrom W.heap.size J)
    (hY : ∀ pre x W, J pre W → pre.length < chunkM N → YieldAt Fence.wide (n - 1) Try.prog l #[chunkV A N x.1] W fun e W' =>
      (e = .returned (.bool true) ∧ J (pre ++ [x]) W' ∧ KpC B1 B2 W W') ∨ (e = .returned (.bool false) ∧ Jx (pre ++ [x]) W'))
    (hB1 : W.cell? ⟨B1, 0, none⟩ = some (.slice A N c)) (hB2 : W.cell? ⟨B2, 0, none⟩ = some (.int .i64 487)) (h0 : J [] W) :
    CallsIn Fence.wide n Try.prog 94 #[.func (.yield l) #[] #[], .pointer (some ⟨B1, 0, none⟩), .pointer (some ⟨B2, 0, none⟩)] W fun e W' => (∃ v, e = .returned v) ∧
      ((∃ ys : List (Part N), partNo ys = List.range (chunkM N) ∧ J ys W') ∨ (∃ pre : List (Part N), True ∧ Jx pre W')) := by
  refine callsIn_of_wp Try.func94 rfl trivial ?_ rfl
  simp only [Try.ntmps94, List.size_toArray, List.length_cons, List.length_nil, Nat.reduceAdd, Nat.reduceSub, Array.replicate_succ, Array.replicate_zero, List.push_toArray, List.append_toArray, List.nil_append, List.cons_append]
  gi_wp2
  gi_loopw [4] (fun i wr => ∃ k : Nat, k ≤ chunkM N ∧ i = .int .i64 ((487 * k : Nat) : Int) ∧ (∃ pre : List (Part N), partNo pre = List.range k ∧ J pre wr) ∧ KpC B1 B2 W wr)
    (fun i _ => 487 * chunkM N - (intOf i).toNat)
  case atStart => exact ⟨0, Nat.zero_le _, rfl, ⟨[], rfl, h0⟩, rfl, rfl⟩
  case round =>
    obtain ⟨k, hk, rfl, ⟨pre, hpre, hJs⟩, hnx⟩ := hrel
    have hprel : pre.length = k := by have := congrArg List.length hpre; rw [partNo_length, List.length_range] at this; exact this
    have HPRE := Lib.hid hpre
    have HPREL := Lib.hid hprel
    clear hpre hprel
    have c1 := hnx.1.trans hB1
    have c2 := hnx.2.trans hB2
    obtain ⟨I, hI⟩ : ∃ I, I = 487 * k := ⟨_, rfl⟩
    obtain ⟨M, hM⟩ : ∃ M, M = chunkM N := ⟨_, rfl⟩
    have hMN : 487 * M < N + 487 ∧ N ≤ 487 * M := by rw [hM]; unfold chunkM; omega
    rw [← hI]
    rw [← hM] at hk
    have HIE := Lib.hid hI
    have HME := Lib.hid hM
    by_cases hlt : k < M
    · have hJd : J pre wr.drew := hJ _ wr wr.drew none hJs ⟨rfl, rfl, rfl, Nat.le_refl _, fun _ _ _ => rfl⟩ (fun r e => by cases e)
      obtain ⟨kk, hkk⟩ : ∃ kk : Part N, kk.1 = k := ⟨⟨k, by rw [← hM]; exact hlt⟩, rfl⟩
      obtain ⟨fn, tmps, assign, body, hy, hR⟩ := hY _ kk wr.drew hJd (by rw [HPREL.out, ← hM]; exact hlt)
      have hIN : (I : Int) < (N : Int) := by omega
      have hIN2 : (I : Int) ≤ (N : Int) := by omega
      have hIc : (I : Int) ≤ (c : Int) := by omega
      have hI0 : (0 : Int) ≤ (I : Int) := by omega
      obtain ⟨Z, hZ⟩ : ∃ Z, Z = chunkE N k - 487 * k := ⟨_, rfl⟩
      have hZb : 0 < Z ∧ I + Z ≤ N ∧ (if ((N - I : Nat) : Int) < 487 then ((N - I : Nat) : Int) else 487) = (Z : Int) := by
        rw [hZ]
        unfold chunkE
        by_cases hh : 487 * k + 487 ≤ N
        · rw [Nat.min_eq_left hh, if_neg (by omega)]
          omega
        · rw [Nat.min_eq_right (by omega), if_pos (by omega)]
          omega
      obtain ⟨hZ0, hZN, hZI⟩ := hZb
      have hcv : chunkV A N kk.1 = .slice (A.map (fun x => x.add I)) Z Z := by
        rw [hkk]
        unfold chunkV
        rw [← hZ, hI]
      rw [hcv] at hy
      have HZI := Lib.hid hZI
      have HY := Lib.hid hy
      have HR := Lib.hid hR
      have HKK := Lib.hid hkk
      clear hI hM hR hZ hZI hcv hy hkk
      gi_wp2
      refine wpIn_wide.2 ?_
      go_region
      rw [HZI.out]
      have hy := HY.out
      gi_wp2
      refine HR.out.mono ?_
      rintro e W3 (⟨rfl, hJ3, hk3⟩ | ⟨rfl, hJx3⟩)
      · have c23 : W3.cell? ⟨B2, 0, none⟩ = some (.int .i64 487) := hk3.2.trans c2
        gi_wp2
        go_roundw
        case rel => exact ⟨k + 1, by have := HME.out; omega, int_i64 (by have := HIE.out; omega), ⟨_, by rw [partNo_snoc, HPRE.out, List.range_succ, HKK.out], hJ3⟩, hnx.trans hk3⟩
        case measure => simp [intOf]; have := HIE.out; have := HME.out; omega
      · gi_wp2
        refine bodyPost_ret (results_none rfl _ _ _) rfl ?_
        exact ⟨⟨_, rfl⟩, .inr ⟨_, trivial, hJx3⟩⟩
    · obtain rfl : k = M := by omega
      have hIN : ¬ (I : Int) < (N : Int) := by omega
      clear hI hM
      gi_wp2
      go_end0
      exact ⟨⟨_, rfl⟩, .inl ⟨pre, by rw [HPRE.out, HME.out], hJs⟩⟩
set_option maxHeartbeats 1000000 in
theorem chunk_in (n : Nat) (A : Option Addr) (N c : Nat) (w : World) :
    CallsIn Fence.wide n Try.prog 77 #[.slice A N c, .int .i64 487] w fun e w' => e = .returned (.func (.func 94) #[] #[.pointer (some ⟨w.heap.size, 0, none⟩), .pointer (some ⟨w.heap.size + 1, 0, none⟩)]) ∧ w' = (w.alloc (.cells #[.slice A N c] 43)).alloc (.cells #[.int .i64 487] 3) := by
  refine callsIn_of_wp Try.func77 rfl trivial ?_ rfl
  simp only [Try.ntmps77, List.size_toArray, List.length_cons, List.length_nil, Nat.reduceAdd, Nat.reduceSub, Array.replicate_succ, Array.replicate_zero, List.push_toArray, List.append_toArray, List.nil_append, List.cons_append]
  gi_wp2
  go_ret
  exact ⟨rfl, rfl⟩
theorem chunk_stops (n : Nat) (hn : 1 ≤ n) (B1 B2 : Nat) (A : Option Addr) (N c : Nat) (hN : N ≤ 1048576) (hNc : N ≤ c) (w : World) (h1 : B1 < w.heap.size) (h2 : B2 < w.heap.size)
    (hB1 : w.cell? ⟨B1, 0, none⟩ = some (.slice A N c)) (hB2 : w.cell? ⟨B2, 0, none⟩ = some (.int .i64 487)) :
    SeqStopsK Fence.wide n Try.prog 94 #[.pointer (some ⟨B1, 0, none⟩), .pointer (some ⟨B2, 0, none⟩)] (fun k : Part N => #[chunkV A N k.1]) (KpC B1 B2) (fun ys => partNo ys = List.range (chunkM N)) (fun pre => True) (chunkM N) w := fun l J Jx W hW hJ _ hY h0 =>
  chunk1_in n hn l B1 B2 A N c hN hNc J Jx W hJ hY ((hW.cell (p := ⟨B1, 0, none⟩) h1).trans hB1) ((hW.cell (p := ⟨B2, 0, none⟩) h2).trans hB2) h0
end Go.Proofs.Ytalpippeelomjaa
namespace Go.Proofs.Ytalpippeelomjaa
open Go.RowKit
set_option linter.unusedSimpArgs false
set_option linter.unusedVariables false
theorem zeros_size (z : Value) (n : Nat) (h : z.cells.size = 1) : (Builtin.zeroCells z.cells n).size = n := by
  unfold Builtin.zeroCells
  simp [h]
/-- What Grow leaves of nil: a row of no bytes. -/
def GrowR (w : World) (e : Ending) (w' : World) : Prop := ∃ v, e = .returned v ∧ w'.ownsRow w.heap.size 5 1 v 0 [] ∧ Below w.heap.size w w'
set_option maxRecDepth 100000 in
set_option maxHeartbeats 1000000 in
theorem grow_nil (w : World) (n : Nat) (hn : n ≤ 1048576) :
    Calls Try.prog 93 #[.slice none 0 0, .int .i64 (n : Int)] w (GrowR w) := by
  obtain ⟨i0, hi0, hz0, hz1, hz2⟩ := info_parts infoByte
  have h1 : ¬ (n : Int) < 0 := by omega
  by_cases h0 : 0 < n
  · have hr := Lib.run_append_nil_zeros (P := Try.prog) w 43 3 43 5 i0 (.int .u8 0) .i64 .i64 Try.underlying43 Try.underlying3 hi0 hz0 n h0 (by rw [hz1]; omega) (by omega) (by rw [hz2]; omega)
    have hge := grownCap_ge w n 0 5
    have hle := grownCap_le_maxLen w n 0 5 (by unfold maxLen; omega)
    obtain ⟨C, hC⟩ : ∃ C, C = grownCap w n 0 5 := ⟨_, rfl⟩
    obtain ⟨Z, hZ⟩ : ∃ Z, Z = (Builtin.zeroCells (Value.int .u8 0).cells n ++ Builtin.zeroCells (Value.int .u8 0).cells (C - n)) := ⟨_, rfl⟩
    rw [← hC] at hr hge hle
    rw [← hZ] at hr
    have hZs : Z.size = C := by rw [hZ, Array.size_append, zeros_size _ _ rfl, zeros_size _ _ rfl]; omega
    have HR := Lib.hid hr
    have HZ := Lib.hid hZs
    have HLE := Lib.hid hle
    have hn0 : (n : Int) > 0 := by omega
    clear hi0 hz0 hz1 hz2 hC hZ hr hZs hle
    go_enter Try.func93, Try.ntmps93
    go_wp2_with (at_builtin; go_loud (refine Lib.wpList_append_run _ rfl _ _ _ _ rfl _ _ rfl rfl _ _ HR.out ?_))
    go_ret
    refine ⟨_, rfl, ⟨rfl, .inr ⟨w.heap.size, C, Z, rfl, Nat.le_refl _, Go.heap_alloc_new _ _, Nat.zero_le _, HLE.out, by rw [HZ.out]; omega, by simp⟩⟩, ((Below.refl _ w).drew).alloc (Nat.le_refl _) _⟩
  · obtain rfl : n = 0 := by omega
    clear hi0 hz0 hz1 hz2
    go_enter Try.func93, Try.ntmps93
    go_wp2
    go_ret
    exact ⟨_, rfl, World.ownsRow_nil _ _ _ _, Below.refl _ _⟩
def CatN (w : World) (n : Nat) (ls : List (List Nat)) (s i : Value) (wr : World) : Prop := ∃ k : Nat, k ≤ n ∧ i = .int .i64 (k : Int) ∧ s = .int .i64 ((ls.take k).flatten.length : Int) ∧ w = wr
def CatS (W : World) (n : Nat) (ls : List (List Nat)) (out i : Value) (wr : World) : Prop :=
  ∃ k : Nat, k ≤ n ∧ i = .int .i64 (k : Int) ∧ Own wr W.heap.size out (ls.take k).flatten ∧ Below W.heap.size W wr
set_option maxRecDepth 100000 in
set_option maxHeartbeats 2000000 in
theorem concat_any (w : World) (v : Value) (ls : List (List Nat)) (hp : Parts w w.heap.size v ls) (hne : ∀ l ∈ ls, l ≠ []) (hs : ∀ b ∈ ls.flatten, b < 256) (htot : ls.flatten.length ≤ 1048576) :
    Calls Try.prog 76 #[v] w fun e w' => ∃ A m c, e = .returned (.slice A m c) ∧ Mine w' w.heap.size A m c ls.flatten ∧ Below w.heap.size w w' := by
  obtain ⟨⟨A, c, vs, rfl, hvl, hlies, hbytes⟩, hlong⟩ := hp
  unfold maxLen at hlong
  obtain ⟨i0, hi0, hz0, hz1, hz2⟩ := info_parts infoByte
  have HV := Lib.hid hvl
  have HL := Lib.hid hlies
  have HB := Lib.hid hbytes
  clear hvl hlies hbytes
  obtain ⟨n, hn⟩ : ∃ n, n = ls.length := ⟨_, rfl⟩
  rw [← hn] at hlong ⊢
  have HN := Lib.hid hn
  have HI := Lib.hid hi0
  have H0 := Lib.hid hz0
  have H1 := Lib.hid hz1
  have H2 := Lib.hid hz2
  have HT := Lib.hid htot
  have HNE := Lib.hid hne
  have HS := Lib.hid hs
  have HLEN : Hid (∀ k, (ls.take k).flatten.length ≤ 1048576) := Lib.hid (fun k => by have := flatten_take_le ls k; omega)
  clear hn hi0 hz0 hz1 hz2 htot hne hs
  go_enter Try.func76, Try.ntmps76
  go_wp2
  go_loopw [3, 11] (fun s i wr => CatN w n ls s i wr) (fun _ i _ => n - (intOf i).toNat)
  case atStart => exact ⟨0, by omega, rfl, rfl, rfl⟩
  case round =>
    obtain ⟨k, hk, rfl, rfl, rfl⟩ := hrel
    obtain ⟨T, hT⟩ : ∃ T, T = (ls.take k).flatten.length := ⟨_, rfl⟩
    have hTl := HLEN.out k
    rw [← hT] at hTl ⊢
    have HTE := Lib.hid hT
    clear hT
    by_cases hlt : k < n
    · obtain ⟨l, hl⟩ : ∃ l, ls[k]? = some l := ⟨_, List.getElem?_eq_getElem (by rw [← HN.out]; exact hlt)⟩
      obtain ⟨u, hu⟩ : ∃ u, vs[k]? = some u := ⟨_, List.getElem?_eq_getElem (by rw [HV.out, ← HN.out]; exact hlt)⟩
      obtain ⟨⟨A1, c1, rfl, _, _, _⟩, _, _⟩ := HB.out k u l hu hl
      obtain ⟨ad, hA, hbb, hc0⟩ := HL.out k _ hu
      subst hA
      have hnx := flatten_next hl
      have hTl2 := HLEN.out (k + 1)
      have HNX := Lib.hid hnx
      rw [hnx, List.length_append, ← HTE.out] at hTl2
      obtain ⟨q, hq⟩ : ∃ q, q = l.length := ⟨_, rfl⟩
      rw [← hq] at hTl2 hc0
      have HQ := Lib.hid hq
      have hneg : ¬ (T : Int) + (q : Int) < 0 := by omega
      clear hl hu hbb hnx hq
      go_wp2
      go_roundw
      case rel => exact ⟨k + 1, by omega, by go_num, int_i64 (by rw [HNX.out, List.length_append, ← HTE.out, ← HQ.out]; omega), rfl⟩
      case measure => simp [intOf]; omega
    · obtain rfl : k = n := by omega
      have HG := hide (grow_nil w T hTl)
      go_wp2_with (go_at_call 93; (with_reducible refine (unhide HG).mono ?_); rintro e w1 ⟨v1, rfl, hO1, hb1⟩)
      have HO1 := Lib.hid hO1
      have HB1 := Lib.hid hb1
      clear hO1 hb1
      go_loopw [6, 27] (fun out i wr => CatS w k ls out i wr) (fun _ i _ => k - (intOf i).toNat)
      case atStart => exact ⟨0, by omega, rfl, HO1.out, HB1.out⟩
      case round =>
        obtain ⟨j, hj, rfl, hown, hb⟩ := hrel
        by_cases hlt2 : j < k
        · obtain ⟨l, hl⟩ : ∃ l, ls[j]? = some l := ⟨_, List.getElem?_eq_getElem (by rw [← HN.out]; exact hlt2)⟩
          obtain ⟨u, hu⟩ : ∃ u, vs[j]? = some u := ⟨_, List.getElem?_eq_getElem (by rw [HV.out, ← HN.out]; exact hlt2)⟩
          obtain ⟨⟨A1, c1, rfl, hlies1, _, hn1⟩, hsm, hlong1⟩ := HB.out j u l hu hl
          have hl0 := HNE.out l (List.mem_of_getElem? hl)
          obtain ⟨ad1, rfl⟩ : ∃ ad1, A1 = some ad1 := by
            rcases A1 with _ | ad1
            · exfalso
              have h1 := hlies1.empty
              exact hl0 (by rw [← List.length_eq_zero_iff, ← byt_length, h1]; rfl)
            · exact ⟨ad1, rfl⟩
          obtain ⟨ad, hA, hbb, hc0⟩ := HL.out j _ hu
          subst hA
          have hc := (hb.cell (p := ad.add j) (by rw [addr_add_block]; exact hbb)).trans hc0
          have hlies2 := hlies1.below hb
          have hmore : (ls.take j).flatten.length + l.length ≤ 1048576 := by
            have h1 := HLEN.out (j + 1)
            rw [flatten_next hl, List.length_append] at h1
            exact h1
          have HL1 := Lib.hid hlies2
          have Hl := Lib.hid hl
          have HM := Lib.hid hmore
          have HO := Lib.hid hown
          have HB3 := Lib.hid hb
          have HLL : Hid ((byt l).length = l.length * 1) := Lib.hid (by rw [byt_length]; omega)
          clear hlies1 hlies2 hsm hl hu hc0 hlong1 hmore hn1 hl0 hown hb
          go_wp2_with (at_builtin; go_loud (refine wpList_append_own _ rfl _ _ 43 rfl w.heap.size 5 i0 (.int .u8 0) 1 1 Try.underlying43 HI.out H0.out H1.out H2.out rfl (by decide) _ _ _ rfl HO.out ad1 l.length c1 (byt l) rfl HLL.out HL1.out.cells (one_byt l) (by have := HM.out; unfold maxLen; omega) (by have := HM.out; omega) HB3.out.size ?_); intro v' w3 hown3 hg3 hx3)
          have hbel := HB3.out.grown hg3 HB3.out.size (fun g hg => (World.ownsRow.lt HO.out g hg).1)
          have HO2 := Lib.hid (own_more Hl.out hown3)
          have HB2 := Lib.hid hbel
          clear hown3 hbel hg3 hx3
          go_roundw
          case rel => exact ⟨j + 1, by omega, by go_num, HO2.out, HB2.out⟩
          case measure => simp [intOf]; omega
        · obtain rfl : j = k := by omega
          rw [HN.out, List.take_length] at hown
          obtain ⟨A2, n2, c2, rfl, hM⟩ := Mine.of_own hown HS.out
          have HM := Lib.hid hM
          have HB3 := Lib.hid hb
          clear hown hM hb
          go_wp2
          go_ret
          exact ⟨A2, n2, c2, rfl, HM.out, HB3.out⟩
end Go.Proofs.Ytalpippeelomjaa
