/- TpJoin, TpSame: joined by program (tools/merge.py). -/
import Derived.Test.YtdphpjlhkamadaaZ24
import Derived.Laws.AppendOwnNone
import Derived.Test.YtdphpjlhkamadaaZ1
import Derived.Deep.QuietTactic
import Derived.BigQuiet
namespace Go.Proofs.Ytdphpjlhkamadaa
open Go.RowKit

def JoinR (W : World) (n : Nat) (ls : List (List Nat)) (out i : Value) (wr : World) : Prop :=
  ∃ k : Nat, k ≤ n ∧ i = .int .i64 (k : Int) ∧ Own wr W.heap.size out (ls.take k).flatten ∧ Below W.heap.size W wr
theorem flatten_take_le (ls : List (List Nat)) (k : Nat) : (ls.take k).flatten.length ≤ ls.flatten.length := by
  have h : ls.flatten = (ls.take k).flatten ++ (ls.drop k).flatten := by rw [← List.flatten_append, List.take_append_drop]
  rw [h, List.length_append]
  omega
theorem flatten_next {ls : List (List Nat)} {k : Nat} {l : List Nat} (h : ls[k]? = some l) : (ls.take (k + 1)).flatten = (ls.take k).flatten ++ l := by
  rw [List.take_add_one, h, List.flatten_append]
  simp
theorem one_byt (l : List Nat) : ∀ u ∈ byt l, u.oneCell' = true := by
  intro u hu
  unfold byt at hu
  obtain ⟨b, _, rfl⟩ := List.mem_map.1 hu
  rfl
theorem Lies.cells {w : World} {B : Nat} {ad : Addr} {vs : List Value} (h : Lies w B (some ad) vs) (j : Nat) (u : Value) (hj : vs[j]? = some u) : w.cell? (ad.add j) = some u := by
  obtain ⟨ad', e, _, hc⟩ := h j u hj
  injection e with e
  rw [e]
  exact hc
theorem Lies.empty {w : World} {B : Nat} {vs : List Value} (h : Lies w B none vs) : vs = [] := by
  rcases vs with _ | ⟨v, r⟩
  · rfl
  · obtain ⟨ad, e, _⟩ := h 0 v rfl
    cases e
theorem own_of_row {w : World} {base N : Nat} {v : Value} {l : List Nat} (h : w.ownsRow base 5 1 v N (byt l)) : Own w base v l := by
  have h1 := h.1
  rw [byt_length] at h1
  obtain rfl : N = l.length := by omega
  exact h
theorem own_more {w : World} {base k N : Nat} {v : Value} {ls : List (List Nat)} {l : List Nat} (hl : ls[k]? = some l)
    (h : w.ownsRow base 5 1 v N (byt (ls.take k).flatten ++ byt l)) : Own w base v (ls.take (k + 1)).flatten := by
  rw [← byt_append, ← flatten_next hl] at h
  exact own_of_row h

set_option maxRecDepth 100000 in
set_option maxHeartbeats 1000000 in
theorem join_any (w : World) (v : Value) (ls : List (List Nat)) (hp : Parts w w.heap.size v ls) (htot : ls.flatten.length ≤ 1048576) :
    Calls Try.prog 24 #[v] w fun e w' => ∃ u, e = .returned u ∧ Own w' w.heap.size u ls.flatten ∧ Below w.heap.size w w' := by
  obtain ⟨⟨A, c, vs, rfl, hvl, hlies, hbytes⟩, hlong⟩ := hp
  unfold maxLen at hlong
  obtain ⟨i0, hi0, hz0, hz1, hz2⟩ := info_parts infoByte
  have HV := Lib.hid hvl
  have HL := Lib.hid hlies
  have HB := Lib.hid hbytes
  clear hvl hlies hbytes
  obtain ⟨n, hn⟩ : ∃ n, n = ls.length := ⟨_, rfl⟩
  rw [← hn] at hlong ⊢
  have HN := Lib.hid hn
  have HI := Lib.hid hi0
  have H0 := Lib.hid hz0
  have H1 := Lib.hid hz1
  have H2 := Lib.hid hz2
  have HT := Lib.hid htot
  clear hn hi0 hz0 hz1 hz2 htot
  go_enter Try.func24, Try.ntmps24
  go_wp2
  go_loopw [3, 8] (fun out i wr => JoinR w n ls out i wr) (fun _ i _ => n - (intOf i).toNat)
  case atStart => exact ⟨0, by omega, rfl, own_nil _ _, Below.refl _ _⟩
  case round =>
    obtain ⟨k, hk, rfl, hown, hb⟩ := hrel
    by_cases hlt : k < n
    · obtain ⟨l, hl⟩ : ∃ l, ls[k]? = some l := ⟨_, List.getElem?_eq_getElem (by rw [← HN.out]; exact hlt)⟩
      obtain ⟨u, hu⟩ : ∃ u, vs[k]? = some u := ⟨_, List.getElem?_eq_getElem (by rw [HV.out, ← HN.out]; exact hlt)⟩
      obtain ⟨⟨A1, c1, rfl, hlies1, _, hn1⟩, hsm, hlong1⟩ := HB.out k u l hu hl
      obtain ⟨ad, hA, hbb, hc0⟩ := HL.out k _ hu
      subst hA
      have hc := (hb.cell (p := ad.add k) (by rw [addr_add_block]; exact hbb)).trans hc0
      have hlies2 := hlies1.below hb
      have hmore : (ls.take k).flatten.length + l.length ≤ 1048576 := by
        have h1 := flatten_take_le ls (k + 1)
        rw [flatten_next hl, List.length_append] at h1
        have := HT.out
        omega
      have HL1 := Lib.hid hlies2
      have Hl := Lib.hid hl
      have HM := Lib.hid hmore
      have HO := Lib.hid hown
      clear hlies1 hlies2 hsm hl hu hc0 hlong1 hmore
      rcases A1 with _ | ad1
      · have hl0 : l = [] := by
          have h1 := HL1.out.empty
          rw [← List.length_eq_zero_iff, ← byt_length, h1]
          rfl
        obtain rfl : c1 = 0 := hn1 rfl
        subst hl0
        clear hn1
        go_wp2_with (at_builtin; refine wpList_append_own_none rfl _ _ 42 rfl w.heap.size 5 i0 1 Try.underlying42 HI.out _ _ _ rfl HO.out rfl ?_)
        go_roundw
        case rel => exact ⟨k + 1, by omega, by go_num, by rw [flatten_next Hl.out, List.append_nil]; exact HO.out, hb⟩
        case measure => simp [intOf]; omega
      · clear hn1
        go_wp2_with (at_builtin; refine wpList_append_own _ rfl _ _ 42 rfl w.heap.size 5 i0 (.int .u8 0) 1 1 Try.underlying42 HI.out H0.out H1.out H2.out rfl (by decide) _ _ _ rfl HO.out ad1 l.length c1 (byt l) rfl ?c1 ?c2 ?c3 ?c4 ?c5 ?c6 ?_)
        case c1 => rw [byt_length]; omega
        case c2 => exact HL1.out.cells
        case c3 => exact one_byt l
        case c4 => have := HM.out; unfold maxLen; omega
        case c5 => have := HM.out; omega
        case c6 => exact hb.size
        intro v' w1 hown1 hg1 _
        have hbel := hb.grown hg1 hb.size (fun g hg => (World.ownsRow.lt HO.out g hg).1)
        have HO2 := Lib.hid (own_more Hl.out hown1)
        have HB2 := Lib.hid hbel
        clear hown1 hbel hg1 hb
        go_wp2
        go_roundw
        case rel => exact ⟨k + 1, by omega, by go_num, HO2.out, HB2.out⟩
        case measure => simp [intOf]; omega
    · go_wp2
      go_ret
      refine ⟨_, rfl, ?_, hb⟩
      obtain rfl : k = n := by omega
      rw [HN.out, List.take_length] at hown
      exact hown
end Go.Proofs.Ytdphpjlhkamadaa
namespace Go.Proofs.Ytdphpjlhkamadaa
open Go.RowKit

def SameR (w : World) (n : Nat) (l m : List Nat) (i : Value) (wr : World) : Prop :=
  ∃ k q : Nat, k ≤ n ∧ i = .int .i64 (k : Int) ∧ l.take k = m.take k ∧ wr = w.drewN q
def Quietly (w : World) (v : Value) (e : Ending) (w' : World) : Prop := e = .returned v ∧ ∃ q, w' = w.drewN q

set_option maxRecDepth 100000 in
set_option maxHeartbeats 1000000 in
theorem tp_same_any (w : World) (v u : Value) (l m : List Nat) (hp : Bytes w w.heap.size v l) (hq : Bytes w w.heap.size u m) :
    Calls Try.prog 21 #[v, u] w (Quietly w (.bool (decide (l = m)))) := by
  obtain ⟨⟨A, c, rfl, hlies, _⟩, hsm, hlong⟩ := hp
  obtain ⟨⟨A2, c2, rfl, hlies2, _⟩, hsm2, hlong2⟩ := hq
  unfold maxLen at hlong hlong2
  have HL := Lib.hid hlies
  have HS := Lib.hid hsm
  have HL2 := Lib.hid hlies2
  have HS2 := Lib.hid hsm2
  clear hlies hsm hlies2 hsm2
  obtain ⟨n, hn⟩ : ∃ n, n = l.length := ⟨_, rfl⟩
  obtain ⟨n2, hn2⟩ : ∃ n2, n2 = m.length := ⟨_, rfl⟩
  rw [← hn] at hlong ⊢
  rw [← hn2] at hlong2 ⊢
  by_cases hne : n = n2
  · subst hne
    have HN := Lib.hid hn
    have HN2 := Lib.hid hn2
    clear hn hn2
    go_enter Try.func21, Try.ntmps21
    go_wp2
    go_loopw [13] (fun i wr => SameR w n l m i wr) (fun i _ => n - (intOf i).toNat)
    case atStart => exact ⟨0, 0, by omega, rfl, rfl, rfl⟩
    case round =>
      obtain ⟨k, q, hk, rfl, heq, rfl⟩ := hrel
      have HE := Lib.hid heq
      clear heq
      by_cases hlt : k < n
      · obtain ⟨b, hb1⟩ : ∃ b, l[k]? = some b := ⟨_, List.getElem?_eq_getElem (by rw [← HN.out]; exact hlt)⟩
        obtain ⟨d, hd1⟩ : ∃ d, m[k]? = some d := ⟨_, List.getElem?_eq_getElem (by rw [← HN2.out]; exact hlt)⟩
        obtain ⟨ad, hA, hbb, hc0⟩ := HL.out k (.int .u8 (b : Int)) (by rw [byt_at, hb1]; rfl)
        obtain ⟨ad2, hA2, hbb2, hc2⟩ := HL2.out k (.int .u8 (d : Int)) (by rw [byt_at, hd1]; rfl)
        subst hA
        subst hA2
        have h1 : (w.drewN q).cell? (ad.add k) = some (.int .u8 (b : Int)) := hc0
        have h2 : (w.drewN q).cell? (ad2.add k) = some (.int .u8 (d : Int)) := hc2
        have Hb1 := Lib.hid hb1
        have Hd1 := Lib.hid hd1
        clear hb1 hd1
        by_cases hbd : b = d
        · subst hbd
          go_wp2
          go_quiet (fail)
          go_wp2
          go_roundw
          case rel => exact ⟨k + 1, _, by omega, by go_num, by rw [List.take_add_one, List.take_add_one, HE.out, Hb1.out, Hd1.out], rfl⟩
          case measure => simp [intOf]; omega
        · have hne : ((b : Int) != (d : Int)) = true := by simp; omega
          go_wp2
          go_quiet (fail)
          go_wp2
          go_ret
          refine ⟨congrArg Ending.returned (congrArg Value.bool (Eq.symm (decide_eq_false ?_))), _, World.drewN_drewN _ _ _⟩
          intro e
          have h1 := Hb1.out
          rw [e, Hd1.out] at h1
          exact hbd (Option.some.inj h1).symm
      · go_wp2
        go_ret
        refine ⟨congrArg Ending.returned (congrArg Value.bool (Eq.symm (decide_eq_true ?_))), _, rfl⟩
        obtain rfl : k = n := by omega
        have h := HE.out
        rw [HN.out, List.take_length, ← HN.out, HN2.out, List.take_length] at h
        exact h
  · have hnl : ¬ l = m := fun e => hne (by rw [hn, hn2, e])
    have hd : ((n : Int) != (n2 : Int)) = true := by simp; omega
    have HX := Lib.hid hnl
    clear hnl hn hn2
    go_enter Try.func21, Try.ntmps21
    go_wp2
    go_ret
    exact ⟨congrArg Ending.returned (congrArg Value.bool (Eq.symm (decide_eq_false HX.out))), 0, rfl⟩
end Go.Proofs.Ytdphpjlhkamadaa
