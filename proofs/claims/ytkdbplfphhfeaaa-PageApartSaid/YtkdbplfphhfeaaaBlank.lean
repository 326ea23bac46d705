/- Contracts: whether bytes are all noughts (Blank); whether two slices are alike (slices.Equal); a copy of bytes (slices.Clone); whether a page is full, whether two are alike. -/
import Derived.Test.YtkdbplfphhfeaaaWord
import Derived.Deep.QuietTactic
import Derived.BigQuiet
import Derived.Lib.SliceRun
namespace Go.Proofs.Ytkdbplfphhfeaaa
open Go.RowKit
set_option linter.unusedSimpArgs false
set_option linter.unusedVariables false

def BlankR (w : World) (n : Nat) (l : List Nat) (t : Value) (x : World) : Prop :=
  ∃ k : Nat, k ≤ n ∧ t = .int .i64 (k : Int) ∧ (∀ b ∈ l.take k, b = 0) ∧ x = w
set_option maxRecDepth 100000 in
set_option maxHeartbeats 2000000 in
theorem blank_any (w : World) (v : Value) (l : List Nat) (hp : Bytes w w.heap.size v l) :
    Calls Try.prog 19 #[v] w fun e w' => e = .returned (.bool (decide (∀ b ∈ l, b = 0))) ∧ w = w' := by
  obtain ⟨⟨A, c, rfl, hlies, _⟩, hsm, hlong⟩ := hp
  unfold maxLen at hlong
  have HL := Lib.hid hlies
  clear hlies hsm
  obtain ⟨n, hn⟩ : ∃ n, n = l.length := ⟨_, rfl⟩
  rw [← hn] at hlong ⊢
  have HN := Lib.hid hn
  clear hn
  go_enter Try.func19, Try.ntmps19
  go_wp2
  go_loopw [7] (fun t x => BlankR w n l t x) (fun t _ => n - (intOf t).toNat)
  case atStart => exact ⟨0, by omega, rfl, by simp, rfl⟩
  case round =>
    obtain ⟨k, hk, rfl, hz, rfl⟩ := hrel
    have HZ := Lib.hid hz
    clear hz
    by_cases hlt : k < n
    · obtain ⟨b, hb⟩ : ∃ b, l[k]? = some b := ⟨_, List.getElem?_eq_getElem (by rw [← HN.out]; omega)⟩
      obtain ⟨ad, hA, hbb, hc0⟩ := HL.out k (.int .u8 (b : Int)) (by rw [byt_at, hb]; rfl)
      subst hA
      have Hb := Lib.hid hb
      clear hb
      by_cases hb0 : b = 0
      · subst hb0
        go_wp2
        go_roundw
        case rel =>
          refine ⟨k + 1, by omega, by go_num, fun d hd => ?_, rfl⟩
          rw [List.take_add_one, Hb.out] at hd
          rcases List.mem_append.1 hd with h | h
          · exact HZ.out d h
          · simpa using h
        case measure => simp [intOf]; omega
      · have hb1 : ((b : Int) != 0) = true := by simp; omega
        have hb2 : ¬ (b : Int) = 0 := by omega
        have Hb0 := Lib.hid hb0
        clear hb0
        go_wp2
        go_ret
        refine ⟨congrArg Ending.returned (congrArg Value.bool (Eq.symm (decide_eq_false fun h => ?_))), rfl⟩
        exact Hb0.out (h b (List.mem_of_getElem? Hb.out))
    · go_wp2
      go_ret
      refine ⟨congrArg Ending.returned (congrArg Value.bool (Eq.symm (decide_eq_true ?_))), rfl⟩
      have h := HZ.out
      rw [List.take_of_length_le (by rw [← HN.out]; omega)] at h
      exact h

set_option maxRecDepth 100000 in
set_option maxHeartbeats 1000000 in
theorem equal_any (w : World) (v u : Value) (l m : List Nat) (hp : Bytes w w.heap.size v l) (hq : Bytes w w.heap.size u m) :
    Calls Try.prog 23 #[v, u] w (Quietly w (.bool (decide (l = m)))) := by
  obtain ⟨⟨A, c, rfl, hlies, _⟩, hsm, hlong⟩ := hp
  obtain ⟨⟨A2, c2, rfl, hlies2, _⟩, hsm2, hlong2⟩ := hq
  unfold maxLen at hlong hlong2
  have HL := Lib.hid hlies
  have HS := Lib.hid hsm
  have HL2 := Lib.hid hlies2
  have HS2 := Lib.hid hsm2
  clear hlies hsm hlies2 hsm2
  obtain ⟨n, hn⟩ : ∃ n, n = l.length := ⟨_, rfl⟩
  obtain ⟨n2, hn2⟩ : ∃ n2, n2 = m.length := ⟨_, rfl⟩
  rw [← hn] at hlong ⊢
  rw [← hn2] at hlong2 ⊢
  by_cases hne : n = n2
  · subst hne
    have HN := Lib.hid hn
    have HN2 := Lib.hid hn2
    clear hn hn2
    go_enter Try.func23, Try.ntmps23
    go_wp2
    go_loopw [13] (fun i wr => SameR w n l m i wr) (fun i _ => n - (intOf i).toNat)
    case atStart => exact ⟨0, 0, by omega, rfl, rfl, rfl⟩
    case round =>
      obtain ⟨k, q, hk, rfl, heq, rfl⟩ := hrel
      have HE := Lib.hid heq
      clear heq
      by_cases hlt : k < n
      · obtain ⟨b, hb1⟩ : ∃ b, l[k]? = some b := ⟨_, List.getElem?_eq_getElem (by rw [← HN.out]; exact hlt)⟩
        obtain ⟨d, hd1⟩ : ∃ d, m[k]? = some d := ⟨_, List.getElem?_eq_getElem (by rw [← HN2.out]; exact hlt)⟩
        obtain ⟨ad, hA, hbb, hc0⟩ := HL.out k (.int .u8 (b : Int)) (by rw [byt_at, hb1]; rfl)
        obtain ⟨ad2, hA2, hbb2, hc2⟩ := HL2.out k (.int .u8 (d : Int)) (by rw [byt_at, hd1]; rfl)
        subst hA
        subst hA2
        have h1 : (w.drewN q).cell? (ad.add k) = some (.int .u8 (b : Int)) := hc0
        have h2 : (w.drewN q).cell? (ad2.add k) = some (.int .u8 (d : Int)) := hc2
        have Hb1 := Lib.hid hb1
        have Hd1 := Lib.hid hd1
        clear hb1 hd1
        by_cases hbd : b = d
        · subst hbd
          go_wp2
          go_quiet (fail)
          go_wp2
          go_roundw
          case rel => exact ⟨k + 1, _, by omega, by go_num, by rw [List.take_add_one, List.take_add_one, HE.out, Hb1.out, Hd1.out], rfl⟩
          case measure => simp [intOf]; omega
        · have hne : ((b : Int) != (d : Int)) = true := by simp; omega
          go_wp2
          go_quiet (fail)
          go_wp2
          go_ret
          refine ⟨congrArg Ending.returned (congrArg Value.bool (Eq.symm (decide_eq_false ?_))), _, World.drewN_drewN _ _ _⟩
          intro e
          have h1 := Hb1.out
          rw [e, Hd1.out] at h1
          exact hbd (Option.some.inj h1).symm
      · go_wp2
        go_ret
        refine ⟨congrArg Ending.returned (congrArg Value.bool (Eq.symm (decide_eq_true ?_))), _, rfl⟩
        obtain rfl : k = n := by omega
        have h := HE.out
        rw [HN.out, List.take_length, ← HN.out, HN2.out, List.take_length] at h
        exact h
  · have hnl : ¬ l = m := fun e => hne (by rw [hn, hn2, e])
    have hd : ((n : Int) != (n2 : Int)) = true := by simp; omega
    have HX := Lib.hid hnl
    clear hnl hn hn2
    go_enter Try.func23, Try.ntmps23
    go_wp2
    go_ret
    exact ⟨congrArg Ending.returned (congrArg Value.bool (Eq.symm (decide_eq_false HX.out))), 0, rfl⟩
set_option maxRecDepth 100000 in
set_option maxHeartbeats 1000000 in
theorem clone_any (w : World) (ad : Addr) (n c : Nat) (l : List Nat) (hp : Bytes w w.heap.size (.slice (some ad) n c) l) (hlong : n ≤ 1048576) :
    Calls Try.prog 22 #[.slice (some ad) n c] w fun e w' => ∃ A2 n2 c2, e = .returned (.slice A2 n2 c2) ∧ Mine w' w.heap.size A2 n2 c2 l ∧ Below w.heap.size w w' := by
  obtain ⟨i0, hi0, hz0, hz1, hz2⟩ := info_parts infoByte
  have HI := Lib.hid hi0
  have H0 := Lib.hid hz0
  have H1 := Lib.hid hz1
  have H2 := Lib.hid hz2
  have hsm := hp.small
  obtain ⟨⟨A, cc, hv, hlies, _⟩, _, _⟩ := hp
  injection hv with h1 h2 h3
  subst h1
  have hlen : (byt l).length = n * 1 := by rw [byt_length]; omega
  have HL := Lib.hid hlen
  have hbel : Below w.heap.size w (w.alloc (.cells #[] 5)) := (Below.refl _ _).alloc (Nat.le_refl _) _
  have hnews : ∀ j u, (byt l)[j]? = some u → (w.alloc (.cells #[] 5)).cell? (ad.add j) = some u := fun j u hj => (hlies.below hbel).cells j u hj
  have HN := Lib.hid hnews
  have HO : Hid (∀ v ∈ byt l, v.oneCell' = true) := one_byt l
  have hown : (w.alloc (.cells #[] 5)).ownsRow w.heap.size 5 1 (.slice (some ⟨w.heap.size, 0, none⟩) 0 0) 0 [] :=
    ⟨rfl, .inr ⟨w.heap.size, 0, #[], rfl, Nat.le_refl _, Go.heap_alloc_new w _, Nat.le_refl _, by simp, rfl, rfl⟩⟩
  have HW := Lib.hid hown
  have Hbel := Lib.hid hbel
  have HS := Lib.hid hsm
  have hnil : ∀ W : World, (binOp .eql 23 (.slice (some ad) n c) (.slice none 0 0)).run Try.prog W = .ok (.bool false) W := fun W => by
    rw [Lib.run_eql_slice_nil W 23 5 _ n c 0 0 Try.underlying23]
    rfl
  clear hi0 hz0 hz1 hz2 hlen hnews hown hbel hlies hsm h2 h3
  go_enter Try.func22, Try.ntmps22
  go_wp2_with (at_builtin; refine wpList_append_own _ rfl _ _ 23 rfl w.heap.size 5 i0 (.int .u8 0) 1 1 Try.underlying23 HI.out H0.out H1.out H2.out ?a1 (by decide) _ 0 [] rfl HW.out ad n c (byt l) rfl HL.out HN.out HO.out ?a2 ?a3 ?a4 ?_)
  case a1 => rfl
  case a2 => unfold maxLen; omega
  case a3 => omega
  case a4 => exact Hbel.out.size
  intro v' w2 hown2 hg2 _
  have hb2 := Hbel.out.grown hg2 Hbel.out.size (fun g hg => by
    have e : w.heap.size = g := by simpa [Value.ownBlock] using hg
    omega)
  have hM := Mine.of_own (l := l) (v := v') (base := w.heap.size) (w := w2) (by
    have h := hown2
    have e : n = l.length := by have := HL.out; rw [byt_length] at this; omega
    rw [e] at h
    exact h) HS.out
  obtain ⟨A2, n2, c2, rfl, hM⟩ := hM
  have H3 := Lib.hid hM
  have H4 := Lib.hid hb2
  clear hown2 hg2 hb2 hnil hM
  go_wp2
  go_ret
  exact ⟨A2, n2, c2, rfl, H3.out, H4.out⟩

end Go.Proofs.Ytkdbplfphhfeaaa
