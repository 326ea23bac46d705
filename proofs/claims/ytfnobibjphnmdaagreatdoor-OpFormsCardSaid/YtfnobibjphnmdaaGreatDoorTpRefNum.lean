/- Contracts: what the reference's Num, Zig, Zag, Lay answer. -/
import Derived.Test.YtfnobibjphnmdaaGreatDoorTpText
import Derived.Laws.IdiomStrings
import Derived.Deep.RegionLaw
namespace Go.Proofs.YtfnobibjphnmdaaGreatDoor
open Go.RowKit
set_option linter.unusedSimpArgs false
set_option linter.unusedVariables false
/-- A slice that has just been built of bytes. -/
theorem bytes_new (w : World) (l : List Nat) (n : Nat) (hn : n = l.length) (hs : ∀ b ∈ l, b < 256) (hl : l.length ≤ maxLen) : Bytes (w.alloc (.cells (byt l).toArray 5)) (w.heap.size + 1) (.slice (some ⟨w.heap.size, 0, none⟩) n n) l := by
  subst hn
  refine ⟨⟨_, _, rfl, fun j v hj => ⟨_, rfl, by simp, ?_⟩, Nat.le_refl _, fun h => by cases h⟩, hs, hl⟩
  have hplain : (⟨w.heap.size, 0, none⟩ : Addr).add j = ⟨w.heap.size, j, none⟩ := by unfold Addr.add; split <;> simp_all
  rw [hplain, World.cell?_alloc_at _ _ _ _ rfl]
  simpa using hj

theorem lies_block {w : World} {B g : Nat} {vs : Array Value} {t : TypeId} {z : Nat × Nat} (hb : w.heap[g]? = some (.cells vs t z)) (hB : g < B) : Lies w B (some ⟨g, 0, none⟩) vs.toList := fun j v hj => by
  refine ⟨_, rfl, hB, ?_⟩
  have hplain : (⟨g, 0, none⟩ : Addr).add j = ⟨g, j, none⟩ := by unfold Addr.add; split <;> simp_all
  rw [hplain]
  unfold World.cell?
  rw [hb]
  simpa using hj
theorem parts_block {w : World} {B g : Nat} {vs : Array Value} {t : TypeId} {ls : List (List Nat)} {n c : Nat} (hb : w.heap[g]? = some (.cells vs t (0, 0))) (hB : g < B) (hn : n = ls.length) (hv : vs.size = ls.length)
    (hall : ∀ (j : Nat) (u : Value) (l : List Nat), vs[j]? = some u → ls[j]? = some l → Bytes w B u l) (hl : ls.length ≤ maxLen) :
    Parts w B (.slice (some ⟨g, 0, none⟩) n c) ls := by
  subst hn
  exact ⟨⟨_, c, vs.toList, rfl, by simpa using hv, lies_block hb hB, fun j u l h1 h2 => hall j u l (by simpa using h1) h2⟩, hl⟩
/-- Two slices behind one another, joined. -/
theorem parts_two {y : World} {v u : Value} {l1 l2 : List Nat} {B gx : Nat} (hy : y.heap[gx]? = some (.cells #[v, u] 26 (0, 0))) (h : Bytes y B v l1) (h2 : Bytes y B u l2) (hB : B ≤ y.heap.size) :
    Parts y y.heap.size (.slice (some ⟨gx, 0, none⟩) 2 2) [l1, l2] := by
  refine parts_block hy (lt_of_heap hy) rfl rfl ?_ (by unfold maxLen; simp)
  intro j u l h1 h3
  match j, h1, h3 with
  | 0, h1, h3 =>
    simp at h1 h3
    subst h1 h3
    exact h.up hB
  | 1, h1, h3 =>
    simp at h1 h3
    subst h1 h3
    exact h2.up hB
  | j + 2, h1, h3 => simp at h1
/-- Join of two slices that have just been laid beside one another. -/
theorem join_two (w : World) (v u : Value) (l1 l2 : List Nat) (h1 : Bytes w w.heap.size v l1) (h2 : Bytes w w.heap.size u l2) (hl : l1.length + l2.length ≤ 1048576) :
    Calls Tryz.prog 17 #[.slice (some ⟨w.heap.size, 0, none⟩) 2 2] (w.alloc (.cells #[v, u] 26)) fun e w' => ∃ A n c, e = .returned (.slice A n c) ∧ Mine w' w.heap.size A n c (l1 ++ l2) ∧ Below w.heap.size w w' := by
  have hb := (Below.refl w.heap.size w).alloc (Nat.le_refl _) (.cells #[v, u] 26)
  have hP := parts_two (Go.heap_alloc_new w (.cells #[v, u] 26)) (h1.below hb) (h2.below hb) (by simp)
  have e : [l1, l2].flatten = l1 ++ l2 := by simp
  have hJ := join_mine _ _ _ hP (by rw [e]; exact small_append h1.small h2.small) (by rw [e, List.length_append]; exact hl)
  rw [e] at hJ
  exact hJ.mono fun e w' ⟨A, n, c, he, hM, hB⟩ => ⟨A, n, c, he, hM.lower (by simp), below_on hb hB⟩
set_option maxRecDepth 100000 in
set_option maxHeartbeats 1000000 in
theorem refNum_any : ∀ (n : Nat) (w : World), n < 18446744073709551616 →
    Calls Tryz.prog 42 #[.int .u64 (n : Int)] w fun e w' => ∃ A m c, e = .returned (.slice A m c) ∧ Mine w' w.heap.size A m c (num n) ∧ Below w.heap.size w w' := by
  intro n
  induction n using Nat.strongRecOn with
  | _ n ih =>
    intro w hn
    by_cases h : n < 128
    · have hb := bytes_new w [n] 1 rfl (by simp; omega) (by unfold maxLen; simp)
      have e : (n : Int) % 256 = (n : Int) := by omega
      have HM : Hid (Mine (w.alloc (.cells #[.int .u8 (n : Int)] 5)) w.heap.size (some ⟨w.heap.size, 0, none⟩) 1 1 (num n)) := by
        rw [num_lt h]
        exact ⟨⟨by simp [byt], .inr ⟨_, _, _, rfl, Nat.le_refl _, Go.heap_alloc_new w _, Nat.le_refl _, by unfold maxLen; omega, rfl, rfl⟩⟩, rfl, by simp; omega⟩
      have hlt : (n : Int) < 128 := by omega
      clear ih hb
      go_enter Tryz.func42, Tryz.ntmps42
      go_wp2
      go_ret
      exact ⟨_, _, _, rfl, HM.out, (Below.refl _ _).alloc (Nat.le_refl _) _⟩
    · have hge : ¬ (n : Int) < 128 := by omega
      have hd : (n : Int) / 128 = ((n / 128 : Nat) : Int) := by omega
      have e1 : (n : Int) % 128 + 128 = ((n % 128 + 128 : Nat) : Int) := by omega
      have HC := hide (ih (n / 128) (by omega) (w.alloc (.cells #[.int .u8 ((n : Int) % 128 + 128)] 5)) (by omega))
      rw [← hd] at HC
      have hb := bytes_new w [n % 128 + 128] 1 rfl (by simp; omega) (by unfold maxLen; simp)
      rw [show (byt [n % 128 + 128]).toArray = #[Value.int .u8 ((n : Int) % 128 + 128)] by rw [e1]; rfl] at hb
      have HB := Lib.hid hb
      have HL := Lib.hid (num_length64 (n := n / 128) (by omega))
      have HNM := Lib.hid (num_ge h)
      clear ih hd e1 hb h
      go_enter Tryz.func42, Tryz.ntmps42
      go_wp2_with (first
        | (go_at_call 42; (with_reducible refine (unhide HC).mono ?_); rintro e w1 ⟨A1, m1, c1, rfl, hM1, hb1⟩; go_loud (
             have HJ := hide (join_two w1 _ _ _ _ ((HB.out.up (by simp)).along hb1) hM1.bytes (by have := HL.out; simp; omega));
             rw [show ([n % 128 + 128] ++ num (n / 128) : List Nat) = num n from HNM.out.symm] at HJ;
             have hb2 := ((Below.refl w.heap.size w).alloc (Nat.le_refl _) (.cells #[.int .u8 ((n : Int) % 128 + 128)] 5)).trans (hb1.mono (by simp));
             have HB2 := Lib.hid hb2;
             clear hM1 hb1 hb2))
        | (go_at_call 17; (with_reducible refine (unhide HJ).mono ?_); rintro e w2 ⟨A2, m2, c2, rfl, hM2, hb2⟩))
      go_ret
      exact ⟨A2, m2, c2, rfl, hM2.lower HB2.out.size, HB2.out.trans (hb2.mono HB2.out.size)⟩
end Go.Proofs.YtfnobibjphnmdaaGreatDoor
