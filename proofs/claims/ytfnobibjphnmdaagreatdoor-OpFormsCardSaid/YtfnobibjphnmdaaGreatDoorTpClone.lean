/- Contract: what slices.Clone of bytes answers: the same bytes in memory of its own. -/
import Derived.Test.YtfnobibjphnmdaaGreatDoorTpMine
namespace Go.Proofs.YtfnobibjphnmdaaGreatDoor
open Go.RowKit
set_option linter.unusedSimpArgs false
set_option linter.unusedVariables false

set_option maxRecDepth 100000 in
set_option maxHeartbeats 1000000 in
theorem clone_some (w : World) (ad : Addr) (n c : Nat) (l : List Nat) (hp : Bytes w w.heap.size (.slice (some ad) n c) l) (hlong : n ≤ 140737488355328) :
    Calls Tryz.prog 51 #[.slice (some ad) n c] w fun e w' => ∃ A2 n2 c2, e = .returned (.slice A2 n2 c2) ∧ Mine w' w.heap.size A2 n2 c2 l ∧ Below w.heap.size w w' := by
  obtain ⟨i0, hi0, hz0, hz1, hz2⟩ := info_parts infoByte
  have HI := Lib.hid hi0
  have H0 := Lib.hid hz0
  have H1 := Lib.hid hz1
  have H2 := Lib.hid hz2
  have hsm := hp.small
  obtain ⟨⟨A, cc, hv, hlies, _⟩, _, _⟩ := hp
  injection hv with h1 h2 h3
  subst h1
  have hlen : (byt l).length = n * 1 := by rw [byt_length]; omega
  have HL := Lib.hid hlen
  have hbel : Below w.heap.size w (w.alloc (.cells #[] 5)) := (Below.refl _ _).alloc (Nat.le_refl _) _
  have hnews : ∀ j u, (byt l)[j]? = some u → (w.alloc (.cells #[] 5)).cell? (ad.add j) = some u := fun j u hj => (hlies.below hbel).cells j u hj
  have HN := Lib.hid hnews
  have HO : Hid (∀ v ∈ byt l, v.oneCell' = true) := one_byt l
  have hown : (w.alloc (.cells #[] 5)).ownsRow w.heap.size 5 1 (.slice (some ⟨w.heap.size, 0, none⟩) 0 0) 0 [] :=
    ⟨rfl, .inr ⟨w.heap.size, 0, #[], rfl, Nat.le_refl _, Go.heap_alloc_new w _, Nat.le_refl _, by simp, rfl, rfl⟩⟩
  have HW := Lib.hid hown
  have Hbel := Lib.hid hbel
  have HS := Lib.hid hsm
  have hnil : ∀ W : World, (binOp .eql 26 (.slice (some ad) n c) (.slice none 0 0)).run Tryz.prog W = .ok (.bool false) W := fun W => by
    rw [Lib.run_eql_slice_nil W 26 5 _ n c 0 0 Tryz.underlying26]
    rfl
  clear hi0 hz0 hz1 hz2 hlen hnews hown hbel hlies hsm h2 h3
  go_enter Tryz.func51, Tryz.ntmps51
  go_wp2_with (at_builtin; refine wpList_append_own _ rfl _ _ 26 rfl w.heap.size 5 i0 (.int .u8 0) 1 1 Tryz.underlying26 HI.out H0.out H1.out H2.out ?a1 (by decide) _ 0 [] rfl HW.out ad n c (byt l) rfl HL.out HN.out HO.out ?a2 ?a3 ?a4 ?_)
  case a1 => rfl
  case a2 => unfold maxLen; omega
  case a3 => omega
  case a4 => exact Hbel.out.size
  intro v' w2 hown2 hg2 _
  have hb2 := Hbel.out.grown hg2 Hbel.out.size (fun g hg => by
    have e : w.heap.size = g := by simpa [Value.ownBlock] using hg
    omega)
  have hM := Mine.of_own (l := l) (v := v') (base := w.heap.size) (w := w2) (by
    have h := hown2
    have e : n = l.length := by have := HL.out; rw [byt_length] at this; omega
    rw [e] at h
    exact h) HS.out
  obtain ⟨A2, n2, c2, rfl, hM⟩ := hM
  have H3 := Lib.hid hM
  have H4 := Lib.hid hb2
  clear hown2 hg2 hb2 hnil hM
  go_wp2
  go_ret
  exact ⟨A2, n2, c2, rfl, H3.out, H4.out⟩
set_option maxHeartbeats 1000000 in
theorem clone_none (w : World) : Calls Tryz.prog 51 #[.slice none 0 0] w fun e w' => e = .returned (.slice none 0 0) ∧ w = w' := by
  have hnil : ∀ W : World, (binOp .eql 26 (.slice none 0 0) (.slice none 0 0)).run Tryz.prog W = .ok (.bool true) W := fun W => by
    rw [Lib.run_eql_slice_nil W 26 5 _ 0 0 0 0 Tryz.underlying26]
    rfl
  go_enter Tryz.func51, Tryz.ntmps51
  go_wp2
  go_ret
  exact ⟨rfl, rfl⟩
theorem tp_clone_any (w : World) (v : Value) (l : List Nat) (hp : Bytes w w.heap.size v l) (hlong : l.length ≤ 140737488355328) :
    Calls Tryz.prog 51 #[v] w fun e w' => ∃ A2 n2 c2, e = .returned (.slice A2 n2 c2) ∧ Mine w' w.heap.size A2 n2 c2 l ∧ Below w.heap.size w w' := by
  obtain ⟨A, c, rfl, hl, hc, hn⟩ := hp.form
  rcases A with _ | ad
  · have hl0 : l = [] := by
      have h1 := hl.empty
      rw [← List.length_eq_zero_iff, ← byt_length, h1]
      rfl
    subst hl0
    obtain rfl := hn rfl
    exact (clone_none w).mono fun e w' ⟨he, hw⟩ => ⟨none, 0, 0, he, ⟨World.ownsRow_nil _ _ _ _, rfl, by simp⟩, by rw [← hw]; exact Below.refl _ _⟩
  · exact clone_some w ad _ c l hp hlong
end Go.Proofs.YtfnobibjphnmdaaGreatDoor
