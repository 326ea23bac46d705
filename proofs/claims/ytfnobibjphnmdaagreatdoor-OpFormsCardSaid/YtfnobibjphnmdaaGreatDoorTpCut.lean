/- Contracts: what the reference's Cut answers: the first bytes, in memory of its own. -/
import Derived.Test.YtfnobibjphnmdaaGreatDoorTpStep
import Derived.Test.YtfnobibjphnmdaaGreatDoorWords
import Derived.OwnWalk
namespace Go.Proofs.YtfnobibjphnmdaaGreatDoor
open Go.RowKit

theorem infoByte : (Tryz.prog.info? 5).map (fun i => (i.zero, i.size, i.bytes)) = some (some (.int .u8 0), 1, 1) := by kernel_rfl

/-- The slice value v owns, in blocks from base on, just the bytes l. -/
def Own (w : World) (base : Nat) (v : Value) (l : List Nat) : Prop := w.ownsRow base 5 1 v l.length (byt l)
theorem Own.form {w : World} {base : Nat} {v : Value} {l : List Nat} (h : Own w base v l) : ∃ A c, v = .slice A l.length c ∧ l.length ≤ c ∧ (A = none → c = 0) ∧ l.length ≤ maxLen ∧ w.ownsRow base 5 1 (.slice A l.length c) l.length (byt l) := by
  obtain ⟨hl, ⟨rfl, h0⟩ | ⟨g, cap, cur, rfl, h1, h2, h3, h4, h5⟩⟩ := id h
  · rw [h0]
    refine ⟨none, 0, rfl, by omega, fun _ => rfl, by simp, ?_⟩
    unfold Own at h
    rw [h0] at h
    exact h
  · exact ⟨_, _, rfl, h3, fun h => (by cases h), by omega, h⟩
theorem Own.bytes {w : World} {base : Nat} {v : Value} {l : List Nat} (h : Own w base v l) (hs : ∀ b ∈ l, b < 256) : Bytes w w.heap.size v l := by
  obtain ⟨A, c, rfl, hc, hn, hm, ho⟩ := h.form
  exact ⟨⟨A, c, rfl, Lies.of_own ho, hc, hn⟩, hs, hm⟩

theorem own_nil (w : World) (base : Nat) : Own w base (.slice none 0 0) [] := World.ownsRow_nil _ _ _ _

def CutR (W : World) (n most : Nat) (l : List Nat) (out i : Value) (wr : World) : Prop :=
  ∃ k : Nat, k ≤ n ∧ i = .int .i64 (k : Int) ∧ Own wr W.heap.size out (l.take (min k most)) ∧ Below W.heap.size W wr

theorem own_snoc {w : World} {base k most b : Nat} {v : Value} {l : List Nat} (hk : k < l.length) (hm : k < most) (hb : l[k]? = some b)
    (h : w.ownsRow base 5 1 v (min k (min most l.length) + 1) (byt (l.take (min k most)) ++ [.int .u8 (b : Int)])) : Own w base v (l.take (min (k + 1) most)) := by
  have e1 : min k (min most l.length) = k := by omega
  have e2 : min k most = k := by omega
  have e3 : min (k + 1) most = k + 1 := by omega
  rw [e1, e2] at h
  rw [e3]
  unfold Own
  have e4 : l.take (k + 1) = l.take k ++ [b] := by rw [List.take_add_one, hb]; rfl
  rw [show (l.take (k + 1)).length = k + 1 by rw [List.length_take]; omega, e4, byt_append]
  exact h
theorem cell_one_new {w : World} (x : Value) (t : TypeId) (j : Nat) (u : Value) (h : [x][j]? = some u) : (w.alloc (.cells #[x] t)).cell? ((⟨w.heap.size, 0, none⟩ : Addr).add j) = some u := by
  rcases j with _ | j
  · rw [show (⟨w.heap.size, 0, none⟩ : Addr).add 0 = ⟨w.heap.size, 0, none⟩ from rfl, World.cell?_alloc_at _ _ _ _ rfl]
    simpa using h
  · simp at h

set_option maxRecDepth 100000 in
set_option maxHeartbeats 1000000 in
theorem cut_any (w : World) (v : Value) (l : List Nat) (most : Nat) (hp : Bytes w w.heap.size v l) (hmost : most ≤ 1048576) :
    Calls Tryz.prog 5 #[v, .int .i64 (most : Int)] w fun e w' => ∃ u, e = .returned u ∧ Own w' w.heap.size u (l.take most) ∧ Below w.heap.size w w' := by
  obtain ⟨⟨A, c, rfl, hlies, _⟩, hsm, hlong⟩ := hp
  unfold maxLen at hlong
  obtain ⟨i0, hi0, hz0, hz1, hz2⟩ := info_parts infoByte
  have HL := Lib.hid hlies
  have HS := Lib.hid hsm
  clear hlies hsm
  obtain ⟨n, hn⟩ : ∃ n, n = l.length := ⟨_, rfl⟩
  rw [← hn] at hlong ⊢
  have HN := Lib.hid hn
  have HI := Lib.hid hi0
  have H0 := Lib.hid hz0
  have H1 := Lib.hid hz1
  have H2 := Lib.hid hz2
  clear hn hi0 hz0 hz1 hz2
  go_enter Tryz.func5, Tryz.ntmps5
  go_wp2
  go_loopw [5, 10] (fun out i wr => CutR w n most l out i wr) (fun _ i _ => n - (intOf i).toNat)
  case atStart => exact ⟨0, by omega, rfl, own_nil _ _, Below.refl _ _⟩
  case round =>
    obtain ⟨k, hk, rfl, hown, hb⟩ := hrel
    by_cases hlt : k < n
    · obtain ⟨b, hb1⟩ : ∃ b, l[k]? = some b := ⟨_, List.getElem?_eq_getElem (by rw [← HN.out]; exact hlt)⟩
      obtain ⟨ad, hA, hbb, hc0⟩ := HL.out k (.int .u8 (b : Int)) (by rw [byt_at, hb1]; rfl)
      subst hA
      have hc := (hb.cell (p := ad.add k) (by rw [addr_add_block]; exact hbb)).trans hc0
      have Hb1 := Lib.hid hb1
      clear hb1 hbb hc0
      by_cases hm : k < most
      · go_wp2_with (at_builtin; refine wpList_append_own _ rfl _ _ 26 rfl w.heap.size 5 i0 (.int .u8 0) 1 1 Tryz.underlying26 HI.out H0.out H1.out H2.out rfl (by decide) _ _ _ rfl (World.ownsRow.alloc hown _) ⟨_, 0, none⟩ 1 1 [.int .u8 (b : Int)] rfl rfl ?c1 ?c2 ?c3 ?c4 ?c5 ?_)
        case c1 => exact cell_one_new _ _
        case c2 => simp [Value.oneCell']
        case c3 => rw [List.length_take]; unfold maxLen; omega
        case c4 => rw [List.length_take]; omega
        case c5 => exact ((hb.alloc hb.size _).size)
        intro v' w1 hown1 hg1 _
        have hbel := (hb.alloc hb.size _).grown hg1 (by have := hb.size; simp; omega) (fun g hg => (World.ownsRow.lt hown g hg).1)
        have hown2 := own_snoc (by rw [← HN.out]; exact hlt) hm Hb1.out hown1
        have HO := Lib.hid hown2
        have HB := Lib.hid hbel
        clear hown1 hown2 hbel hg1 hown hb
        go_wp2
        go_roundw
        case rel => exact ⟨k + 1, by omega, by go_num, HO.out, HB.out⟩
        case measure => simp [intOf]; omega
      · go_wp2
        go_roundw
        case rel => exact ⟨k + 1, by omega, by go_num, by rw [show min (k + 1) most = min k most by omega]; exact hown, hb⟩
        case measure => simp [intOf]; omega
    · go_wp2
      go_ret
      refine ⟨_, rfl, ?_, hb⟩
      obtain rfl : k = n := by omega
      rw [HN.out, Nat.min_comm, ← List.take_take, List.take_length] at hown
      exact hown
theorem cut_at (w : World) (v : Value) (l : List Nat) (most : Nat) (m : Int) (hm : m = (most : Int)) (hp : Bytes w w.heap.size v l) (hmost : most ≤ 1048576) :
    Calls Tryz.prog 5 #[v, .int .i64 m] w fun e w' => ∃ u, e = .returned u ∧ Own w' w.heap.size u (l.take most) ∧ Below w.heap.size w w' := by
  rw [hm]
  exact cut_any w v l most hp hmost
end Go.Proofs.YtfnobibjphnmdaaGreatDoor
