/- Contracts: what a table's Sum answers: the sum of all parts behind one another. -/
import Derived.Test.YtkdbplfphhfeaaaMake
import Derived.Test.YtkdbplfphhfeaaaWords
namespace Go.Proofs.Ytkdbplfphhfeaaa
open Go.RowKit

theorem xor8_lt (s b : Nat) (hb : b < 256) : s % 256 ^^^ b < 256 := Nat.xor_lt_two_pow (n := 8) (by omega) (by omega)

/-- What holds at the head of each part; and of each byte in it. -/
def OutR (n : Nat) (ls : List (List Nat)) (st i : Value) : Prop :=
  ∃ k s : Nat, k ≤ n ∧ i = .int .i64 (k : Int) ∧ st = .int .u32 (s : Int) ∧ s < 4294967296 ∧ s = reg 4294967295 (ls.take k).flatten
def InR (m s : Nat) (l : List Nat) (st i : Value) : Prop :=
  ∃ j t : Nat, j ≤ m ∧ i = .int .i64 (j : Int) ∧ st = .int .u32 (t : Int) ∧ t < 4294967296 ∧ t = reg s (l.take j)

theorem inR_next {m s j t b : Nat} {l : List Nat} (hj : j < m) (ht : t < 4294967296) (hb : b < 256) (hl : l[j]? = some b) (hr : t = reg s (l.take j)) :
    InR m s l (.int .u32 ((stp t b : Nat) : Int)) (.int .i64 ((j : Int) + 1)) := by
  refine ⟨j + 1, stp t b, by omega, by go_num, rfl, stp_lt ht hb, ?_⟩
  rw [List.take_add_one, hl, reg_append, ← hr]
  rfl
theorem outR_next {n m s k t : Nat} {ls : List (List Nat)} {l : List Nat} (hk : k < n) (ht : t < 4294967296) (hm : m = l.length) (hl : ls[k]? = some l)
    (hs : s = reg 4294967295 (ls.take k).flatten) (hr : t = reg s (l.take m)) : OutR n ls (.int .u32 (t : Int)) (.int .i64 ((k : Int) + 1)) := by
  refine ⟨k + 1, t, by omega, by go_num, rfl, ht, ?_⟩
  rw [List.take_add_one, hl, List.flatten_append, reg_append, ← hs, hr, hm, List.take_length]
  simp
theorem u32_not (s : Nat) (h : s < 4294967296) : bits .xor .u32 IntKind.u32.max (s : Int) = ((4294967295 - s : Nat) : Int) := by
  have h1 := u32_xor_nat 4294967295 s (by omega) h
  rw [xor_ones s h] at h1
  exact h1

set_option maxRecDepth 100000 in
set_option maxHeartbeats 1000000 in
/-- Over any table that bears each byte's step. -/
theorem sum_core (T : Array Value) (hT : ∀ i, i < 256 → T[i]? = some (.int .u32 ((zk 8 i : Nat) : Int))) (w : World) (v : Value) (ls : List (List Nat)) (hp : Parts w w.heap.size v ls) :
    Calls Try.prog 25 #[.agg T, v] w fun e w' => e = .returned (.int .u32 (crc ls.flatten : Int)) ∧ w' = w.alloc (.cells T 45) := by
  obtain ⟨⟨A, c, vs, rfl, hvl, hlies, hbytes⟩, hlong⟩ := hp
  unfold maxLen at hlong
  have HT := Lib.hid hT
  have HV := Lib.hid hvl
  have HL := Lib.hid hlies
  have HB := Lib.hid hbytes
  clear hT hvl hlies hbytes
  obtain ⟨n, hn⟩ : ∃ n, n = ls.length := ⟨_, rfl⟩
  rw [← hn] at hlong ⊢
  have HN := Lib.hid hn
  clear hn
  go_enter Try.func25, Try.ntmps25
  go_wp2
  go_loop [5, 12] (fun st i => OutR n ls st i) (fun _ i => n - (intOf i).toNat)
  case atStart => exact ⟨0, 4294967295, by omega, rfl, rfl, by omega, rfl⟩
  case round =>
    obtain ⟨k, s, hk, rfl, rfl, hs, hreg⟩ := hrel
    have HR := Lib.hid hreg
    clear hreg
    by_cases hlt : k < n
    · obtain ⟨l, hl⟩ : ∃ l, ls[k]? = some l := ⟨_, List.getElem?_eq_getElem (by rw [← HN.out]; exact hlt)⟩
      obtain ⟨u, hu⟩ : ∃ u, vs[k]? = some u := ⟨_, List.getElem?_eq_getElem (by rw [HV.out, ← HN.out]; exact hlt)⟩
      obtain ⟨⟨A1, c1, rfl, hlies1, _⟩, hsm, hlong1⟩ := HB.out k u l hu hl
      obtain ⟨ad, hA, hb, hc0⟩ := HL.out k _ hu
      subst hA
      have hc : (w.alloc (.cells T 45)).cell? (ad.add k) = some (.slice A1 l.length c1) := (World.cell?_alloc_lt w _ _ (by rw [addr_add_block]; exact hb)).trans hc0
      unfold maxLen at hlong1
      have HL1 := Lib.hid hlies1
      have HS := Lib.hid hsm
      have Hl := Lib.hid hl
      clear hlies1 hsm hl hu hc0
      obtain ⟨m, hm⟩ : ∃ m, m = l.length := ⟨_, rfl⟩
      rw [← hm] at hlong1 hc
      have HM := Lib.hid hm
      clear hm
      go_wp2
      go_loop [5, 18] (fun st i => InR m s l st i) (fun _ i => m - (intOf i).toNat)
      case atStart => exact ⟨0, s, by omega, rfl, rfl, hs, rfl⟩
      case round =>
        obtain ⟨j, t, hj, rfl, rfl, ht, hreg1⟩ := hrel
        have HR1 := Lib.hid hreg1
        clear hreg1
        by_cases hjl : j < m
        · obtain ⟨b, hb1⟩ : ∃ b, l[j]? = some b := ⟨_, List.getElem?_eq_getElem (by rw [← HM.out]; exact hjl)⟩
          have hb2 : b < 256 := HS.out b (List.mem_of_getElem? hb1)
          obtain ⟨ad1, hA1, hbb, hc2⟩ := HL1.out j (.int .u8 (b : Int)) (by rw [byt_at, hb1]; rfl)
          subst hA1
          have hc1 : (w.alloc (.cells T 45)).cell? (ad1.add j) = some (.int .u8 (b : Int)) := (World.cell?_alloc_lt w _ _ (by rw [addr_add_block]; exact hbb)).trans hc2
          have Hb1 := Lib.hid hb1
          have hx8 := xor8_lt t b hb2
          have hx : bits .xor .u8 ((t : Int) % 256) (b : Int) = ((t % 256 ^^^ b : Nat) : Int) := u8_xor_nat (t % 256) b (by omega) hb2
          have hct : T[t % 256 ^^^ b]? = some (.int .u32 ((zk 8 (t % 256 ^^^ b) : Nat) : Int)) := HT.out _ hx8
          have hy : bits .xor .u32 ((zk 8 (t % 256 ^^^ b) : Nat) : Int) ((t : Int) / 256) = ((stp t b : Nat) : Int) := by
            have h1 := u32_xor_nat (zk 8 (t % 256 ^^^ b)) (t / 256) (zk_lt 8 (by omega)) (by omega)
            rw [stp_table] at h1
            exact h1
          clear hb1 hc2 hbb hb2
          go_wp2
          go_round
          case rel => exact inR_next hjl ht (HS.out b (List.mem_of_getElem? Hb1.out)) Hb1.out HR1.out
          case measure => simp [intOf]; omega
        · go_wp2
          go_round
          case rel =>
            obtain rfl : j = m := by omega
            exact outR_next hlt ht HM.out Hl.out HR.out HR1.out
          case measure => simp [intOf]; omega
    · go_wp2
      go_ret
      exact ⟨ret_u32 (by
        obtain rfl : k = n := by omega
        rw [u32_not s hs, HR.out, HN.out, List.take_length]
        rfl), rfl⟩
theorem tab_at (i : Nat) (h : i < 256) : (tabTo 256)[i]? = some (.int .u32 ((zk 8 i : Nat) : Int)) := by
  rw [tabTo_get 256 i h, if_pos h]
theorem sum_any (w : World) (v : Value) (ls : List (List Nat)) (hp : Parts w w.heap.size v ls) :
    Calls Try.prog 25 #[.agg (tabTo 256), v] w fun e w' => e = .returned (.int .u32 (crc ls.flatten : Int)) ∧ w' = w.alloc (.cells (tabTo 256) 45) :=
  sum_core (tabTo 256) tab_at w v ls hp
end Go.Proofs.Ytkdbplfphhfeaaa
