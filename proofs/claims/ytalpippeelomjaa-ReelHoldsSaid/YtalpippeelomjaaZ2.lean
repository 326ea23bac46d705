/- Sum, Cut: joined by program (tools/merge.py). -/
import Derived.Test.YtalpippeelomjaaZ1
import Derived.OwnWalk
namespace Go.Proofs.Ytalpippeelomjaa
open Go.RowKit

theorem xor8_lt (s b : Nat) (hb : b < 256) : s % 256 ^^^ b < 256 := Nat.xor_lt_two_pow (n := 8) (by omega) (by omega)

/-- What holds at the head of each part; and of each byte in it. -/
def OutR (n : Nat) (ls : List (List Nat)) (st i : Value) : Prop :=
  ∃ k s : Nat, k ≤ n ∧ i = .int .i64 (k : Int) ∧ st = .int .u32 (s : Int) ∧ s < 4294967296 ∧ s = reg 4294967295 (ls.take k).flatten
def InR (m s : Nat) (l : List Nat) (st i : Value) : Prop :=
  ∃ j t : Nat, j ≤ m ∧ i = .int .i64 (j : Int) ∧ st = .int .u32 (t : Int) ∧ t < 4294967296 ∧ t = reg s (l.take j)

theorem inR_next {m s j t b : Nat} {l : List Nat} (hj : j < m) (ht : t < 4294967296) (hb : b < 256) (hl : l[j]? = some b) (hr : t = reg s (l.take j)) :
    InR m s l (.int .u32 ((stp t b : Nat) : Int)) (.int .i64 ((j : Int) + 1)) := by
  refine ⟨j + 1, stp t b, by omega, by go_num, rfl, stp_lt ht hb, ?_⟩
  rw [List.take_add_one, hl, reg_append, ← hr]
  rfl
theorem outR_next {n m s k t : Nat} {ls : List (List Nat)} {l : List Nat} (hk : k < n) (ht : t < 4294967296) (hm : m = l.length) (hl : ls[k]? = some l)
    (hs : s = reg 4294967295 (ls.take k).flatten) (hr : t = reg s (l.take m)) : OutR n ls (.int .u32 (t : Int)) (.int .i64 ((k : Int) + 1)) := by
  refine ⟨k + 1, t, by omega, by go_num, rfl, ht, ?_⟩
  rw [List.take_add_one, hl, List.flatten_append, reg_append, ← hs, hr, hm, List.take_length]
  simp
theorem u32_not (s : Nat) (h : s < 4294967296) : bits .xor .u32 IntKind.u32.max (s : Int) = ((4294967295 - s : Nat) : Int) := by
  have h1 := u32_xor_nat 4294967295 s (by omega) h
  rw [xor_ones s h] at h1
  exact h1

set_option maxRecDepth 100000 in
set_option maxHeartbeats 1000000 in
/-- Over any table that bears each byte's step. -/
theorem sum_core (T : Array Value) (hT : ∀ i, i < 256 → T[i]? = some (.int .u32 ((zk 8 i : Nat) : Int))) (w : World) (v : Value) (ls : List (List Nat)) (hp : Parts w w.heap.size v ls) :
    Calls Try.prog 100 #[.agg T, v] w fun e w' => e = .returned (.int .u32 (crc ls.flatten : Int)) ∧ w' = w.alloc (.cells T 141) := by
  obtain ⟨⟨A, c, vs, rfl, hvl, hlies, hbytes⟩, hlong⟩ := hp
  unfold maxLen at hlong
  have HT := Lib.hid hT
  have HV := Lib.hid hvl
  have HL := Lib.hid hlies
  have HB := Lib.hid hbytes
  clear hT hvl hlies hbytes
  obtain ⟨n, hn⟩ : ∃ n, n = ls.length := ⟨_, rfl⟩
  rw [← hn] at hlong ⊢
  have HN := Lib.hid hn
  clear hn
  go_enter Try.func100, Try.ntmps100
  go_wp2
  go_loop [5, 12] (fun st i => OutR n ls st i) (fun _ i => n - (intOf i).toNat)
  case atStart => exact ⟨0, 4294967295, by omega, rfl, rfl, by omega, rfl⟩
  case round =>
    obtain ⟨k, s, hk, rfl, rfl, hs, hreg⟩ := hrel
    have HR := Lib.hid hreg
    clear hreg
    by_cases hlt : k < n
    · obtain ⟨l, hl⟩ : ∃ l, ls[k]? = some l := ⟨_, List.getElem?_eq_getElem (by rw [← HN.out]; exact hlt)⟩
      obtain ⟨u, hu⟩ : ∃ u, vs[k]? = some u := ⟨_, List.getElem?_eq_getElem (by rw [HV.out, ← HN.out]; exact hlt)⟩
      obtain ⟨⟨A1, c1, rfl, hlies1, _⟩, hsm, hlong1⟩ := HB.out k u l hu hl
      obtain ⟨ad, hA, hb, hc0⟩ := HL.out k _ hu
      subst hA
      have hc : (w.alloc (.cells T 141)).cell? (ad.add k) = some (.slice A1 l.length c1) := (World.cell?_alloc_lt w _ _ (by rw [addr_add_block]; exact hb)).trans hc0
      unfold maxLen at hlong1
      have HL1 := Lib.hid hlies1
      have HS := Lib.hid hsm
      have Hl := Lib.hid hl
      clear hlies1 hsm hl hu hc0
      obtain ⟨m, hm⟩ : ∃ m, m = l.length := ⟨_, rfl⟩
      rw [← hm] at hlong1 hc
      have HM := Lib.hid hm
      clear hm
      go_wp2
      go_loop [5, 18] (fun st i => InR m s l st i) (fun _ i => m - (intOf i).toNat)
      case atStart => exact ⟨0, s, by omega, rfl, rfl, hs, rfl⟩
      case round =>
        obtain ⟨j, t, hj, rfl, rfl, ht, hreg1⟩ := hrel
        have HR1 := Lib.hid hreg1
        clear hreg1
        by_cases hjl : j < m
        · obtain ⟨b, hb1⟩ : ∃ b, l[j]? = some b := ⟨_, List.getElem?_eq_getElem (by rw [← HM.out]; exact hjl)⟩
          have hb2 : b < 256 := HS.out b (List.mem_of_getElem? hb1)
          obtain ⟨ad1, hA1, hbb, hc2⟩ := HL1.out j (.int .u8 (b : Int)) (by rw [byt_at, hb1]; rfl)
          subst hA1
          have hc1 : (w.alloc (.cells T 141)).cell? (ad1.add j) = some (.int .u8 (b : Int)) := (World.cell?_alloc_lt w _ _ (by rw [addr_add_block]; exact hbb)).trans hc2
          have Hb1 := Lib.hid hb1
          have hx8 := xor8_lt t b hb2
          have hx : bits .xor .u8 ((t : Int) % 256) (b : Int) = ((t % 256 ^^^ b : Nat) : Int) := u8_xor_nat (t % 256) b (by omega) hb2
          have hct : T[t % 256 ^^^ b]? = some (.int .u32 ((zk 8 (t % 256 ^^^ b) : Nat) : Int)) := HT.out _ hx8
          have hy : bits .xor .u32 ((zk 8 (t % 256 ^^^ b) : Nat) : Int) ((t : Int) / 256) = ((stp t b : Nat) : Int) := by
            have h1 := u32_xor_nat (zk 8 (t % 256 ^^^ b)) (t / 256) (zk_lt 8 (by omega)) (by omega)
            rw [stp_table] at h1
            exact h1
          clear hb1 hc2 hbb hb2
          go_wp2
          go_round
          case rel => exact inR_next hjl ht (HS.out b (List.mem_of_getElem? Hb1.out)) Hb1.out HR1.out
          case measure => simp [intOf]; omega
        · go_wp2
          go_round
          case rel =>
            obtain rfl : j = m := by omega
            exact outR_next hlt ht HM.out Hl.out HR.out HR1.out
          case measure => simp [intOf]; omega
    · go_wp2
      go_ret
      exact ⟨ret_u32 (by
        obtain rfl : k = n := by omega
        rw [u32_not s hs, HR.out, HN.out, List.take_length]
        rfl), rfl⟩
theorem tab_at (i : Nat) (h : i < 256) : (tabTo 256)[i]? = some (.int .u32 ((zk 8 i : Nat) : Int)) := by
  rw [tabTo_get 256 i h, if_pos h]
theorem sum_any (w : World) (v : Value) (ls : List (List Nat)) (hp : Parts w w.heap.size v ls) :
    Calls Try.prog 100 #[.agg (tabTo 256), v] w fun e w' => e = .returned (.int .u32 (crc ls.flatten : Int)) ∧ w' = w.alloc (.cells (tabTo 256) 141) :=
  sum_core (tabTo 256) tab_at w v ls hp
end Go.Proofs.Ytalpippeelomjaa
namespace Go.Proofs.Ytalpippeelomjaa
open Go.RowKit

theorem infoByte : (Try.prog.info? 5).map (fun i => (i.zero, i.size, i.bytes)) = some (some (.int .u8 0), 1, 1) := by kernel_rfl

/-- The slice value v owns, in blocks from base on, just the bytes l. -/
def Own (w : World) (base : Nat) (v : Value) (l : List Nat) : Prop := w.ownsRow base 5 1 v l.length (byt l)
theorem Own.form {w : World} {base : Nat} {v : Value} {l : List Nat} (h : Own w base v l) : ∃ A c, v = .slice A l.length c ∧ l.length ≤ c ∧ (A = none → c = 0) ∧ l.length ≤ maxLen ∧ w.ownsRow base 5 1 (.slice A l.length c) l.length (byt l) := by
  obtain ⟨hl, ⟨rfl, h0⟩ | ⟨g, cap, cur, rfl, h1, h2, h3, h4, h5⟩⟩ := id h
  · rw [h0]
    refine ⟨none, 0, rfl, by omega, fun _ => rfl, by simp, ?_⟩
    unfold Own at h
    rw [h0] at h
    exact h
  · exact ⟨_, _, rfl, h3, fun h => (by cases h), by omega, h⟩
theorem Own.bytes {w : World} {base : Nat} {v : Value} {l : List Nat} (h : Own w base v l) (hs : ∀ b ∈ l, b < 256) : Bytes w w.heap.size v l := by
  obtain ⟨A, c, rfl, hc, hn, hm, ho⟩ := h.form
  exact ⟨⟨A, c, rfl, Lies.of_own ho, hc, hn⟩, hs, hm⟩

theorem own_nil (w : World) (base : Nat) : Own w base (.slice none 0 0) [] := World.ownsRow_nil _ _ _ _

def CutR (W : World) (n most : Nat) (l : List Nat) (out i : Value) (wr : World) : Prop :=
  ∃ k : Nat, k ≤ n ∧ i = .int .i64 (k : Int) ∧ Own wr W.heap.size out (l.take (min k most)) ∧ Below W.heap.size W wr

theorem own_snoc {w : World} {base k most b : Nat} {v : Value} {l : List Nat} (hk : k < l.length) (hm : k < most) (hb : l[k]? = some b)
    (h : w.ownsRow base 5 1 v (min k (min most l.length) + 1) (byt (l.take (min k most)) ++ [.int .u8 (b : Int)])) : Own w base v (l.take (min (k + 1) most)) := by
  have e1 : min k (min most l.length) = k := by omega
  have e2 : min k most = k := by omega
  have e3 : min (k + 1) most = k + 1 := by omega
  rw [e1, e2] at h
  rw [e3]
  unfold Own
  have e4 : l.take (k + 1) = l.take k ++ [b] := by rw [List.take_add_one, hb]; rfl
  rw [show (l.take (k + 1)).length = k + 1 by rw [List.length_take]; omega, e4, byt_append]
  exact h
theorem cell_one_new {w : World} (x : Value) (t : TypeId) (j : Nat) (u : Value) (h : [x][j]? = some u) : (w.alloc (.cells #[x] t)).cell? ((⟨w.heap.size, 0, none⟩ : Addr).add j) = some u := by
  rcases j with _ | j
  · rw [show (⟨w.heap.size, 0, none⟩ : Addr).add 0 = ⟨w.heap.size, 0, none⟩ from rfl, World.cell?_alloc_at _ _ _ _ rfl]
    simpa using h
  · simp at h

set_option maxRecDepth 100000 in
set_option maxHeartbeats 1000000 in
theorem cut_any (w : World) (v : Value) (l : List Nat) (most : Nat) (hp : Bytes w w.heap.size v l) (hmost : most ≤ 1048576) :
    Calls Try.prog 29 #[v, .int .i64 (most : Int)] w fun e w' => ∃ u, e = .returned u ∧ Own w' w.heap.size u (l.take most) ∧ Below w.heap.size w w' := by
  obtain ⟨⟨A, c, rfl, hlies, _⟩, hsm, hlong⟩ := hp
  unfold maxLen at hlong
  obtain ⟨i0, hi0, hz0, hz1, hz2⟩ := info_parts infoByte
  have HL := Lib.hid hlies
  have HS := Lib.hid hsm
  clear hlies hsm
  obtain ⟨n, hn⟩ : ∃ n, n = l.length := ⟨_, rfl⟩
  rw [← hn] at hlong ⊢
  have HN := Lib.hid hn
  have HI := Lib.hid hi0
  have H0 := Lib.hid hz0
  have H1 := Lib.hid hz1
  have H2 := Lib.hid hz2
  clear hn hi0 hz0 hz1 hz2
  go_enter Try.func29, Try.ntmps29
  go_wp2
  go_loopw [5, 10] (fun out i wr => CutR w n most l out i wr) (fun _ i _ => n - (intOf i).toNat)
  case atStart => exact ⟨0, by omega, rfl, own_nil _ _, Below.refl _ _⟩
  case round =>
    obtain ⟨k, hk, rfl, hown, hb⟩ := hrel
    by_cases hlt : k < n
    · obtain ⟨b, hb1⟩ : ∃ b, l[k]? = some b := ⟨_, List.getElem?_eq_getElem (by rw [← HN.out]; exact hlt)⟩
      obtain ⟨ad, hA, hbb, hc0⟩ := HL.out k (.int .u8 (b : Int)) (by rw [byt_at, hb1]; rfl)
      subst hA
      have hc := (hb.cell (p := ad.add k) (by rw [addr_add_block]; exact hbb)).trans hc0
      have Hb1 := Lib.hid hb1
      clear hb1 hbb hc0
      by_cases hm : k < most
      · go_wp2_with (at_builtin; refine wpList_append_own _ rfl _ _ 43 rfl w.heap.size 5 i0 (.int .u8 0) 1 1 Try.underlying43 HI.out H0.out H1.out H2.out rfl (by decide) _ _ _ rfl (World.ownsRow.alloc hown _) ⟨_, 0, none⟩ 1 1 [.int .u8 (b : Int)] rfl rfl ?c1 ?c2 ?c3 ?c4 ?c5 ?_)
        case c1 => exact cell_one_new _ _
        case c2 => simp [Value.oneCell']
        case c3 => rw [List.length_take]; unfold maxLen; omega
        case c4 => rw [List.length_take]; omega
        case c5 => exact ((hb.alloc hb.size _).size)
        intro v' w1 hown1 hg1 _
        have hbel := (hb.alloc hb.size _).grown hg1 (by have := hb.size; simp; omega) (fun g hg => (World.ownsRow.lt hown g hg).1)
        have hown2 := own_snoc (by rw [← HN.out]; exact hlt) hm Hb1.out hown1
        have HO := Lib.hid hown2
        have HB := Lib.hid hbel
        clear hown1 hown2 hbel hg1 hown hb
        go_wp2
        go_roundw
        case rel => exact ⟨k + 1, by omega, by go_num, HO.out, HB.out⟩
        case measure => simp [intOf]; omega
      · go_wp2
        go_roundw
        case rel => exact ⟨k + 1, by omega, by go_num, by rw [show min (k + 1) most = min k most by omega]; exact hown, hb⟩
        case measure => simp [intOf]; omega
    · go_wp2
      go_ret
      refine ⟨_, rfl, ?_, hb⟩
      obtain rfl : k = n := by omega
      rw [HN.out, Nat.min_comm, ← List.take_take, List.take_length] at hown
      exact hown
theorem cut_at (w : World) (v : Value) (l : List Nat) (most : Nat) (m : Int) (hm : m = (most : Int)) (hp : Bytes w w.heap.size v l) (hmost : most ≤ 1048576) :
    Calls Try.prog 29 #[v, .int .i64 m] w fun e w' => ∃ u, e = .returned u ∧ Own w' w.heap.size u (l.take most) ∧ Below w.heap.size w w' := by
  rw [hm]
  exact cut_any w v l most hp hmost
end Go.Proofs.Ytalpippeelomjaa
