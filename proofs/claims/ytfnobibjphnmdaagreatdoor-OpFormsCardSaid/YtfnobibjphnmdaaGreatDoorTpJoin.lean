/- Contracts: what the reference's Join answers: all parts behind one another, in memory of its own. Of parts that have together at most a million bytes. -/
import Derived.Test.YtfnobibjphnmdaaGreatDoorTpCut
import Derived.Laws.AppendOwnNone
namespace Go.Proofs.YtfnobibjphnmdaaGreatDoor
open Go.RowKit

def JoinR (W : World) (n : Nat) (ls : List (List Nat)) (out i : Value) (wr : World) : Prop :=
  ∃ k : Nat, k ≤ n ∧ i = .int .i64 (k : Int) ∧ Own wr W.heap.size out (ls.take k).flatten ∧ Below W.heap.size W wr
theorem flatten_take_le (ls : List (List Nat)) (k : Nat) : (ls.take k).flatten.length ≤ ls.flatten.length := by
  have h : ls.flatten = (ls.take k).flatten ++ (ls.drop k).flatten := by rw [← List.flatten_append, List.take_append_drop]
  rw [h, List.length_append]
  omega
theorem flatten_next {ls : List (List Nat)} {k : Nat} {l : List Nat} (h : ls[k]? = some l) : (ls.take (k + 1)).flatten = (ls.take k).flatten ++ l := by
  rw [List.take_add_one, h, List.flatten_append]
  simp
theorem one_byt (l : List Nat) : ∀ u ∈ byt l, u.oneCell' = true := by
  intro u hu
  unfold byt at hu
  obtain ⟨b, _, rfl⟩ := List.mem_map.1 hu
  rfl
theorem Lies.cells {w : World} {B : Nat} {ad : Addr} {vs : List Value} (h : Lies w B (some ad) vs) (j : Nat) (u : Value) (hj : vs[j]? = some u) : w.cell? (ad.add j) = some u := by
  obtain ⟨ad', e, _, hc⟩ := h j u hj
  injection e with e
  rw [e]
  exact hc
theorem Lies.empty {w : World} {B : Nat} {vs : List Value} (h : Lies w B none vs) : vs = [] := by
  rcases vs with _ | ⟨v, r⟩
  · rfl
  · obtain ⟨ad, e, _⟩ := h 0 v rfl
    cases e
theorem own_of_row {w : World} {base N : Nat} {v : Value} {l : List Nat} (h : w.ownsRow base 5 1 v N (byt l)) : Own w base v l := by
  have h1 := h.1
  rw [byt_length] at h1
  obtain rfl : N = l.length := by omega
  exact h
theorem own_more {w : World} {base k N : Nat} {v : Value} {ls : List (List Nat)} {l : List Nat} (hl : ls[k]? = some l)
    (h : w.ownsRow base 5 1 v N (byt (ls.take k).flatten ++ byt l)) : Own w base v (ls.take (k + 1)).flatten := by
  rw [← byt_append, ← flatten_next hl] at h
  exact own_of_row h

set_option maxRecDepth 100000 in
set_option maxHeartbeats 1000000 in
theorem tp_join_any (w : World) (v : Value) (ls : List (List Nat)) (hp : Parts w w.heap.size v ls) (htot : ls.flatten.length ≤ 1048576) :
    Calls Tryz.prog 17 #[v] w fun e w' => ∃ u, e = .returned u ∧ Own w' w.heap.size u ls.flatten ∧ Below w.heap.size w w' := by
  obtain ⟨⟨A, c, vs, rfl, hvl, hlies, hbytes⟩, hlong⟩ := hp
  unfold maxLen at hlong
  obtain ⟨i0, hi0, hz0, hz1, hz2⟩ := info_parts infoByte
  have HV := Lib.hid hvl
  have HL := Lib.hid hlies
  have HB := Lib.hid hbytes
  clear hvl hlies hbytes
  obtain ⟨n, hn⟩ : ∃ n, n = ls.length := ⟨_, rfl⟩
  rw [← hn] at hlong ⊢
  have HN := Lib.hid hn
  have HI := Lib.hid hi0
  have H0 := Lib.hid hz0
  have H1 := Lib.hid hz1
  have H2 := Lib.hid hz2
  have HT := Lib.hid htot
  clear hn hi0 hz0 hz1 hz2 htot
  go_enter Tryz.func17, Tryz.ntmps17
  go_wp2
  go_loopw [3, 8] (fun out i wr => JoinR w n ls out i wr) (fun _ i _ => n - (intOf i).toNat)
  case atStart => exact ⟨0, by omega, rfl, own_nil _ _, Below.refl _ _⟩
  case round =>
    obtain ⟨k, hk, rfl, hown, hb⟩ := hrel
    by_cases hlt : k < n
    · obtain ⟨l, hl⟩ : ∃ l, ls[k]? = some l := ⟨_, List.getElem?_eq_getElem (by rw [← HN.out]; exact hlt)⟩
      obtain ⟨u, hu⟩ : ∃ u, vs[k]? = some u := ⟨_, List.getElem?_eq_getElem (by rw [HV.out, ← HN.out]; exact hlt)⟩
      obtain ⟨⟨A1, c1, rfl, hlies1, _, hn1⟩, hsm, hlong1⟩ := HB.out k u l hu hl
      obtain ⟨ad, hA, hbb, hc0⟩ := HL.out k _ hu
      subst hA
      have hc := (hb.cell (p := ad.add k) (by rw [addr_add_block]; exact hbb)).trans hc0
      have hlies2 := hlies1.below hb
      have hmore : (ls.take k).flatten.length + l.length ≤ 1048576 := by
        have h1 := flatten_take_le ls (k + 1)
        rw [flatten_next hl, List.length_append] at h1
        have := HT.out
        omega
      have HL1 := Lib.hid hlies2
      have Hl := Lib.hid hl
      have HM := Lib.hid hmore
      have HO := Lib.hid hown
      clear hlies1 hlies2 hsm hl hu hc0 hlong1 hmore
      rcases A1 with _ | ad1
      · have hl0 : l = [] := by
          have h1 := HL1.out.empty
          rw [← List.length_eq_zero_iff, ← byt_length, h1]
          rfl
        obtain rfl : c1 = 0 := hn1 rfl
        subst hl0
        clear hn1
        go_wp2_with (at_builtin; refine wpList_append_own_none rfl _ _ 26 rfl w.heap.size 5 i0 1 Tryz.underlying26 HI.out _ _ _ rfl HO.out rfl ?_)
        go_roundw
        case rel => exact ⟨k + 1, by omega, by go_num, by rw [flatten_next Hl.out, List.append_nil]; exact HO.out, hb⟩
        case measure => simp [intOf]; omega
      · clear hn1
        go_wp2_with (at_builtin; refine wpList_append_own _ rfl _ _ 26 rfl w.heap.size 5 i0 (.int .u8 0) 1 1 Tryz.underlying26 HI.out H0.out H1.out H2.out rfl (by decide) _ _ _ rfl HO.out ad1 l.length c1 (byt l) rfl ?c1 ?c2 ?c3 ?c4 ?c5 ?c6 ?_)
        case c1 => rw [byt_length]; omega
        case c2 => exact HL1.out.cells
        case c3 => exact one_byt l
        case c4 => have := HM.out; unfold maxLen; omega
        case c5 => have := HM.out; omega
        case c6 => exact hb.size
        intro v' w1 hown1 hg1 _
        have hbel := hb.grown hg1 hb.size (fun g hg => (World.ownsRow.lt HO.out g hg).1)
        have HO2 := Lib.hid (own_more Hl.out hown1)
        have HB2 := Lib.hid hbel
        clear hown1 hbel hg1 hb
        go_wp2
        go_roundw
        case rel => exact ⟨k + 1, by omega, by go_num, HO2.out, HB2.out⟩
        case measure => simp [intOf]; omega
    · go_wp2
      go_ret
      refine ⟨_, rfl, ?_, hb⟩
      obtain rfl : k = n := by omega
      rw [HN.out, List.take_length] at hown
      exact hown
end Go.Proofs.YtfnobibjphnmdaaGreatDoor
