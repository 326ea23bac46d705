/- The walk of the law PageShows: it answers true for every page, place and mask, and writes nothing that was there. -/
import Derived.Test.YtkdbplfphhfeaaaPageSameWalk
import Derived.RegionTactic
import Derived.ChangeAlike
namespace Go.Proofs.Ytkdbplfphhfeaaa
open Go.RowKit
set_option linter.unusedSimpArgs false
set_option linter.unusedVariables false

theorem bit_set {mask k : Nat} (h : mask / 2 ^ k % 2 = 1) : (((mask : Int) / 2 ^ k).tmod 2 == 1) = true := by
  have e : (mask : Int) / 2 ^ k = ((mask / 2 ^ k : Nat) : Int) := by simp
  rw [e]
  generalize mask / 2 ^ k = t at h
  rw [Int.tmod_eq_emod_of_nonneg (by omega)]
  simp
  omega
theorem bit_unset {mask k : Nat} (h : ¬ mask / 2 ^ k % 2 = 1) : (((mask : Int) / 2 ^ k).tmod 2 == 1) = false := by
  have e : (mask : Int) / 2 ^ k = ((mask / 2 ^ k : Nat) : Int) := by simp
  rw [e]
  generalize mask / 2 ^ k = t at h
  rw [Int.tmod_eq_emod_of_nonneg (by omega)]
  simp
  omega
def ShowR (W : World) (base : Nat) (A : Option Addr) (n c : Nat) (x : List Nat) (a mask : Nat) (i : Value) (wr : World) : Prop :=
  ∃ (k : Nat) (f : List Nat), k ≤ 32 ∧ i = .int .i64 (k : Int) ∧ Mine wr base A n c f ∧ val f = val x ^^^ turn a (8 * n) mask k ∧ Below base W wr
theorem show_turn {W wr : World} {base gq n c a mask k i j b : Nat} {x f : List Nat} (hk : k < 32) (hM : Mine wr base (some ⟨gq, 0, none⟩) n c f) (hg : base ≤ gq) (hv : val f = val x ^^^ turn a (8 * n) mask k)
    (hb : Below base W wr) (hin : a + k < 8 * n) (hbit : mask / 2 ^ k % 2 = 1) (hij : a + k = 8 * i + j) (hj : j < 8) (hf : f[i]? = some b) (hb2 : b < 256) :
    ShowR W base (some ⟨gq, 0, none⟩) n c x a mask (.int .i64 ((k : Int) + 1)) (wr.setCell ⟨gq, i, none⟩ (.int .u8 (bits .xor .u8 (b : Int) (2 ^ j % 256)))).drew := by
  have hpow : 2 ^ j < 256 := by
    have := Nat.pow_lt_pow_right (a := 2) (by omega) hj
    omega
  have hx8 : bits .xor .u8 (b : Int) (2 ^ j % 256) = ((b ^^^ 2 ^ j : Nat) : Int) := by
    have h := u8_xor_nat b (2 ^ j) hb2 hpow
    rw [← h]
    congr 1
    have : (2 : Int) ^ j = ((2 ^ j : Nat) : Int) := by simp
    rw [this]
    generalize 2 ^ j = p at hpow ⊢
    omega
  have hlt : b ^^^ 2 ^ j < 256 := Nat.xor_lt_two_pow (n := 8) (by omega) (by omega)
  refine ⟨k + 1, f.set i (b ^^^ 2 ^ j), by omega, by go_num, ⟨?_, by rw [List.length_set]; exact hM.len, ?_⟩, ?_, ?_⟩
  · have h := (hM.own.stored i (.int .u8 ((b ^^^ 2 ^ j : Nat) : Int))).1
    have e : byt (f.set i (b ^^^ 2 ^ j)) = (byt f).set i (.int .u8 ((b ^^^ 2 ^ j : Nat) : Int)) := by unfold byt; rw [List.map_set]
    rw [hx8, e]
    exact h
  · intro d hd
    rcases List.mem_or_eq_of_mem_set hd with h | h
    · exact hM.small d h
    · rw [h]; exact hlt
  · rw [val_set f i j b hf hb2 hj hM.small, hv, ← hij, turn, if_pos ⟨hin, hbit⟩, Nat.xor_assoc]
  · exact (hb.setCell hg _).drew
theorem val_zero (l : List Nat) (h : ∀ b ∈ l, b = 0) : val l = 0 := by
  induction l with
  | nil => rfl
  | cons b r ih =>
    rw [val, h b (by simp), ih (fun c hc => h c (by simp [hc]))]
theorem val_ge (l : List Nat) : ∀ (i b : Nat), l[i]? = some b → 256 ^ i * b ≤ val l := by
  induction l with
  | nil => intro i b h; simp at h
  | cons x r ih =>
    intro i b h
    rw [val]
    rcases i with _ | i
    · simp at h
      subst h
      simp
    · simp at h
      have h1 := ih i b h
      rw [Nat.pow_succ, Nat.mul_comm (256 ^ i) 256, Nat.mul_assoc]
      omega
/-- A page of which some of 32 bits in a row are turned isn't all noughts. -/
theorem shown_not_blank {gen ser num kind a mask : Nat} {d f : List Nat} (hk : 0 < kind) (hf : val f = val (page gen ser num kind d) ^^^ turn a 4096 mask 32) : ¬ ∀ b ∈ f, b = 0 := by
  intro h
  rw [val_zero f h] at hf
  have h1 := xor_eq_zero hf.symm
  obtain ⟨M, hM, hM2, _⟩ := turn_form a 4096 mask 32
  rw [hM] at h1
  have h14 : 256 ^ 14 * kind ≤ val (page gen ser num kind d) := val_ge _ 14 kind (by
    unfold page
    rw [pg_head]
    simp [be4])
  have h0 : ∃ v, val (page gen ser num kind d) = 104 + 256 * v := ⟨_, by unfold page; rw [pg_head]; rfl⟩
  obtain ⟨v, hv⟩ := h0
  by_cases ha : 4 ≤ a
  · have h2 : 2 ^ a * M = 16 * (2 ^ (a - 4) * M) := by
      rw [show a = 4 + (a - 4) by omega, Nat.pow_add, show 4 + (a - 4) - 4 = a - 4 by omega, Nat.mul_assoc]
    generalize 2 ^ (a - 4) * M = z at h2
    omega
  · have h2 : 2 ^ a * M ≤ 8 * M := Nat.mul_le_mul_right _ (by
      have : 2 ^ a ≤ 2 ^ 3 := Nat.pow_le_pow_right (by omega) (by omega)
      omega)
    have h3 : 256 ^ 14 * 1 ≤ 256 ^ 14 * kind := Nat.mul_le_mul_left _ hk
    have h4 : (8 : Nat) * 2 ^ 32 < 256 ^ 14 := by decide
    omega
theorem parts_one {y : World} {v : Value} {l : List Nat} {B gx : Nat} (hy : y.heap[gx]? = some (.cells #[v] 23 (0, 0))) (h : Bytes y B v l) (hB : B ≤ y.heap.size) : Parts y y.heap.size (.slice (some ⟨gx, 0, none⟩) 1 1) [l] := by
  refine parts_block hy ?_ rfl rfl ?_ (by unfold maxLen; simp)
  · rcases Nat.lt_or_ge gx y.heap.size with h1 | h1
    · exact h1
    · rw [Array.getElem?_eq_none h1] at hy; cases hy
  intro j u l h1 h2
  match j, h1, h2 with
  | 0, h1, h2 =>
    simp at h1 h2
    subst h1 h2
    exact h.up hB
  | j + 1, h1, h2 => simp at h1
def orOne (x : Nat) : Nat := if x = 0 then 1 else x
theorem run_orOne (x : Nat) (w : World) : (Builtin.max_ #[5, 5] 5 #[.int .u8 (x : Int), .int .u8 1]).run Try.prog w = .ok (.int .u8 ((orOne x : Nat) : Int)) w := by
  by_cases h : x = 0
  · subst h
    show _ = Result.ok (Value.int .u8 1) w
    go_simp
  · have e : orOne x = x := if_neg h
    rw [e]
    have h1 : ¬ (x : Int) < 1 := by omega
    have h2 : ¬ (1 : Int) > (x : Int) := by omega
    go_simp
theorem orOne_pos (x : Nat) : 0 < orOne x := by unfold orOne; split <;> omega
theorem orOne_small {x : Nat} (h : x < 256) : orOne x < 256 := by unfold orOne; split <;> omega
theorem shows_end {w w3 : World} {g base n c : Nat} {A : Option Addr} {D : List Nat} {u0 u1 u2 u3 u4 v3 : Value} (hg : w3.heap[g]? = some (.cells #[u0, u1, u2, u3, u4] 25 (0, 0))) (hM : Mine w3 base A n c D) (hlt : g < base) (hb : Below w.heap.size w w3) (hgw : w.heap.size ≤ g) :
    ∃ A' n' c', ((w3.setCell ⟨g, 3, none⟩ v3).setCell ⟨g, 4, none⟩ (.slice A n c)).heap[g]? = some (.cells #[u0, u1, u2, v3, .slice A' n' c'] 25 (0, 0)) ∧
      Bytes ((w3.setCell ⟨g, 3, none⟩ v3).setCell ⟨g, 4, none⟩ (.slice A n c)) ((w3.setCell ⟨g, 3, none⟩ v3).setCell ⟨g, 4, none⟩ (.slice A n c)).heap.size (.slice A' n' c') D ∧
      Below w.heap.size w ((w3.setCell ⟨g, 3, none⟩ v3).setCell ⟨g, 4, none⟩ (.slice A n c)) := by
  refine ⟨A, n, c, ?_, (mine_other _ (mine_other _ hM hlt) hlt).bytes, (hb.setCell (p := ⟨g, 3, none⟩) hgw _).setCell (p := ⟨g, 4, none⟩) hgw _⟩
  rw [heap_setCell_same _ g 4 _ _ _ (heap_setCell_same _ g 3 _ _ _ hg)]
  rfl
theorem mine_chain {w2 : World} {g base n c : Nat} {A : Option Addr} {l : List Nat} {v0 v1 v2 v3 v4 : Value} (h : Mine w2 base A n c l) (hg : g < base) : Mine (((((w2.setCell ⟨g, 0, none⟩ v0).setCell ⟨g, 1, none⟩ v1).setCell ⟨g, 2, none⟩ v2).setCell ⟨g, 3, none⟩ v3).setCell ⟨g, 4, none⟩ v4) base A n c l := mine_five h hg
set_option maxRecDepth 100000 in
set_option maxHeartbeats 4000000 in
theorem pageShows_core (w : World) (x0 x1 x2 x3 att mask : Nat) (A : Option Addr) (n c : Nat) (d : List Nat) (h0 : x0 < 4294967296) (h1 : x1 < 4294967296) (h2 : x2 < 4294967296) (h3 : x3 < 256) (hat : att < 65536) (hma : mask < 4294967296) (hp : Bytes w w.heap.size (.slice A n c) d) :
    Calls Try.prog 4 #[.agg #[.int .u32 (x0 : Int), .int .u32 (x1 : Int), .int .u32 (x2 : Int), .int .u8 (x3 : Int), .slice A n c], .int .u16 (att : Int), .int .u32 (mask : Int)] w fun e w' => e = .returned (.bool true) ∧ Below w.heap.size w w' := by
  have HA := fun o => hide (awake_any (w.alloc o))
  have HP := Lib.hid hp
  have hmax := run_orOne x3
  clear hp
  go_enter Try.func4, Try.ntmps4
  go_wp2_with (first
    | (go_at_call 6; (with_reducible refine (unhide (HA _)).mono ?_); rintro e w1 ⟨rfl, hw1⟩; go_loud (
       have b1 := ((Below.refl w.heap.size w).alloc (Nat.le_refl _) _).trans (hw1.mono (by simp));
       have g1 : w1.heap[w.heap.size]? = _ := (hw1.block _ (by simp)).trans (Go.heap_alloc_new w _);
       have l1 : w.heap.size < w1.heap.size := by have := hw1.size; simp at this; omega;
       obtain ⟨a0, a1, a2, a3, a4, -, -, -, -, -⟩ := box_facts g1;
       have HC1 := hide (few_any w1 (x0 : Int) (x1 : Int) (x2 : Int) (x3 : Int) A n c d (HP.out.along b1));
       have HG1 := Lib.hid g1;
       have HB1 := Lib.hid b1;
       clear g1 b1))
    | (go_at_call 7; (with_reducible refine (unhide HC1).mono ?_); rintro e w2 ⟨A2, n2, c2, rfl, hM2, hb2⟩; go_loud (
       have g2 : w2.heap[w.heap.size]? = _ := (hb2.block _ l1).trans HG1.out;
       obtain ⟨k0, k1, k2, k3, k4, f0, f1, f2, f3, f4⟩ := box_facts g2;
       have HG2 := Lib.hid g2;
       have HM2 := Lib.hid hM2;
       have HB2 := Lib.hid (HB1.out.trans (hb2.mono HB1.out.size));
       clear g2 hM2 hb2)))
  have hX := set_box (v0 := .int .u32 (x0 : Int)) (v1 := .int .u32 (x1 : Int)) (v2 := .int .u32 (x2 : Int)) (v3 := .int .u8 (x3 : Int)) (v4 := .slice A2 n2 c2) HG2.out
  have hMX := mine_five (g := w.heap.size) (v0 := .int .u32 (x0 : Int)) (v1 := .int .u32 (x1 : Int)) (v2 := .int .u32 (x2 : Int)) (v3 := .int .u8 (x3 : Int)) (v4 := .slice A2 n2 c2) HM2.out l1
  have hBX := below_five (g := w.heap.size) (v0 := .int .u32 (x0 : Int)) (v1 := .int .u32 (x1 : Int)) (v2 := .int .u32 (x2 : Int)) (v3 := .int .u8 (x3 : Int)) (v4 := .slice A2 n2 c2) HB2.out (Nat.le_refl _)
  generalize ((((w2.setCell ⟨w.heap.size, 0, none⟩ (.int .u32 (x0 : Int))).setCell ⟨w.heap.size, 1, none⟩ (.int .u32 (x1 : Int))).setCell ⟨w.heap.size, 2, none⟩ (.int .u32 (x2 : Int))).setCell ⟨w.heap.size, 3, none⟩ (.int .u8 (x3 : Int))).setCell ⟨w.heap.size, 4, none⟩ (.slice A2 n2 c2) = X at hX hMX hBX ⊢
  obtain ⟨D, hD⟩ : ∃ D, D = (d.take 520).take 491 := ⟨_, rfl⟩
  have hDl : D.length ≤ 491 := by rw [hD, List.length_take]; omega
  obtain ⟨q0, q1, q2, q3, q4, r0, r1, r2, r3, r4⟩ := box_facts hX
  have lX : w.heap.size < X.heap.size := by
    rcases Nat.lt_or_ge w.heap.size X.heap.size with h | h
    · exact h
    · rw [Array.getElem?_eq_none h] at hX; cases hX
  have HC3 := hide (cut_mine X.drew (.slice A2 n2 c2) (d.take 520) 491 491 rfl (hMX.bytes.quiet 1) (by omega))
  rw [← hD] at HC3
  have HGX := Lib.hid hX
  have HBX := Lib.hid hBX
  have HDL := Lib.hid hDl
  clear hX hMX hBX hD hDl k0 k1 k2 k3 k4 f0 f1 f2 f3 f4 a0 a1 a2 a3 a4 hw1 HA HC1 HG1 HB1 HG2 HM2 HB2
  go_cut [] (fun wx => ∃ A n c, wx.heap[w.heap.size]? = some (.cells #[.int .u32 (x0 : Int), .int .u32 (x1 : Int), .int .u32 (x2 : Int), .int .u8 ((orOne x3 : Nat) : Int), .slice A n c] 25 (0, 0)) ∧ Bytes wx wx.heap.size (.slice A n c) D ∧ Below w.heap.size w wx)
  case first =>
    go_region_law (first
      | (go_simp; go_at_call 8; (with_reducible refine (unhide HC3).mono ?_); rintro e w3 ⟨A3, n3, c3, rfl, hM3, hb3⟩;
         (have g3 := (hb3.block w.heap.size lX).trans HGX.out;
          obtain ⟨u0, u1, u2, u3, u4, t0, t1, t2, t3, t4⟩ := box_facts g3;
          have HG3 := Lib.hid g3; have HM3 := Lib.hid hM3; have HB3 := Lib.hid (HBX.out.trans ((below_on (Below.refl _ _).drew hb3).mono HBX.out.size));
          clear g3 hM3 hb3)))
    all_goals
      go_wp2_with fail
      go_meet
      exact shows_end HG3.out HM3.out lX HB3.out (Nat.le_refl _)
  case rest =>
  obtain ⟨A5, n5, c5, hg5, hb5, bb5⟩ := hcut
  have hn5 : n5 = D.length := by
    obtain ⟨⟨A1, c1, hv, _⟩, _, _⟩ := id hb5
    injection hv
  have hDl := HDL.out
  have hp3 := orOne_pos x3
  have hs3 := orOne_small h3
  obtain ⟨k3, hk3⟩ : ∃ k3, k3 = orOne x3 := ⟨_, rfl⟩
  rw [← hk3] at hg5 hp3 hs3
  obtain ⟨q0, q1, q2, q3, q4, -, -, -, -, -⟩ := box_facts hg5
  have lc : w.heap.size < wc.heap.size := by
    rcases Nat.lt_or_ge w.heap.size wc.heap.size with h | h
    · exact h
    · rw [Array.getElem?_eq_none h] at hg5; cases hg5
  have HC4 := hide (bytes_good wc x0 x1 x2 k3 A5 n5 c5 D h0 h1 h2 ⟨hp3, hs3⟩ hb5 (by omega))
  obtain ⟨Q, hQ⟩ : ∃ Q, Q = page x0 x1 x2 k3 D := ⟨_, rfl⟩
  rw [show pg x0 x1 x2 k3 D ++ le4 (crc (pg x0 x1 x2 k3 D)) = page x0 x1 x2 k3 D from rfl, ← hQ] at HC4
  have hQl : Q.length = 512 := by rw [hQ]; exact page_length hDl
  have HQ := Lib.hid hQ
  have HQL := Lib.hid hQl
  have HG5 := Lib.hid hg5
  have HB5 := Lib.hid hb5
  have HBB := Lib.hid bb5
  obtain ⟨a, ha⟩ : ∃ a, a = att % 4096 := ⟨_, rfl⟩
  have hmod : (att : Int).tmod 4096 = (a : Int) := by rw [Int.tmod_eq_emod_of_nonneg (by omega)]; omega
  have ha4 : a < 4096 := by omega
  clear hg5 hb5 bb5 hQ hQl hDl hn5 hk3 ha HC3 HGX HBX hmax
  go_wp2_with (first
    | (go_at_call 9; (with_reducible refine (unhide HC4).mono ?_); rintro e w6 ⟨A6, n6, c6, rfl, hM6, hb6⟩; go_loud (
       obtain rfl : n6 = 512 := by rw [hM6.len, HQL.out];
       have hbo := (Below.refl w6.heap.size w6).alloc (Nat.le_refl _) (.cells #[.slice A6 512 c6] 23);
       have HJ := hide (join_mine _ (.slice (some ⟨w6.heap.size, 0, none⟩) 1 1) [Q] (parts_one (Go.heap_alloc_new w6 (.cells #[.slice A6 512 c6] 23)) (hM6.bytes.along hbo) (Nat.le_refl _)) (by simpa using hM6.small) (by simp [HQL.out]));
       rw [show [Q].flatten = Q by simp] at HJ))
    | (go_at_call 13; (with_reducible refine (unhide HJ).mono ?_); rintro e w7 ⟨A7, n7, c7, rfl, hM7, hb7⟩; go_loud (
       obtain rfl : n7 = 512 := by rw [hM7.len, HQL.out])))
  have hb67 := hbo.trans (hb7.mono hbo.size)
  have hMQ := hM6.below hb67
  have hbox : ∀ x : World, Below (w6.alloc (.cells #[.slice A6 512 c6] 23)).heap.size w7 x → Below w.heap.size w x ∧ Bytes x x.heap.size (.slice A6 512 c6) Q ∧ Bytes x x.heap.size (.slice A5 n5 c5) D ∧ w.heap.size < x.heap.size ∧
      x.heap[w.heap.size]? = some (.cells #[.int .u32 (x0 : Int), .int .u32 (x1 : Int), .int .u32 (x2 : Int), .int .u8 ((k3 : Nat) : Int), .slice A5 n5 c5] 25 (0, 0)) := fun x hx => by
    have hs6 : (w6.alloc (.cells #[.slice A6 512 c6] 23)).heap.size = w6.heap.size + 1 := by simp
    have hbx : Below w6.heap.size w6 x := hb67.trans (hx.mono (by omega))
    have hbc := hb6.trans (hbx.mono hb6.size)
    exact ⟨HBB.out.trans (hbc.mono HBB.out.size), (hM6.bytes.along hbx), HB5.out.along hbc, Nat.lt_of_lt_of_le lc hbc.size, (hbc.block _ lc).trans HG5.out⟩
  have HBOX := Lib.hid hbox
  have HM7 := Lib.hid hM7
  have HS7 : Hid (∀ b ∈ Q, b < 256) := hM6.small
  clear hM6 hb6 hb7 hb67 hMQ hbox hbo HB5 HBB HG5 hM7
  go_loopw [36] (fun i wr => ShowR w7 (w6.alloc (.cells #[.slice A6 512 c6] 23)).heap.size A7 512 c7 Q a mask i wr) (fun i _ => 32 - (intOf i).toNat)
  case atStart => exact ⟨0, Q, by omega, rfl, HM7.out, by simp [turn], Below.refl _ _⟩
  case round =>
    obtain ⟨k, f, hk, rfl, hMr, hval, hbr⟩ := hrel
    have HV := Lib.hid hval
    have HMr := Lib.hid hMr
    have Hbr := Lib.hid hbr
    clear hval
    by_cases hlt : k < 32
    · by_cases hin : a + k < 4096
      · have hint : ((a : Int) + (k : Int) < 4096) := by omega
        by_cases hbit : mask / 2 ^ k % 2 = 1
        · have hb1 := bit_set hbit
          obtain ⟨i, hi⟩ : ∃ i, i = (a + k) / 8 := ⟨_, rfl⟩
          obtain ⟨j, hj⟩ : ∃ j, j = (a + k) % 8 := ⟨_, rfl⟩
          have hi2 : ((a : Int) + (k : Int)) / 8 = (i : Int) := by omega
          have hj2 : ((a : Int) + (k : Int)) % 8 = (j : Int) := by omega
          have hi2' : ((a : Int) + (k : Int)).tdiv 8 = (i : Int) := by rw [Int.tdiv_eq_ediv_of_nonneg (by omega)]; exact hi2
          have hj2' : ((a : Int) + (k : Int)).tmod 8 = (j : Int) := by rw [Int.tmod_eq_emod_of_nonneg (by omega)]; exact hj2
          have hin2 : i < 512 := by omega
          have hin3 : (i : Int) < 512 := by omega
          have hi0 : (0 : Int) ≤ (i : Int) := by omega
          have hj0 : (0 : Int) ≤ (j : Int) := by omega
          have hj8 : j < 8 := by omega
          have hij : a + k = 8 * i + j := by omega
          have HIJ := Lib.hid hij
          clear hi hj hij
          obtain ⟨gq, b, rfl, hgq, hfb, hb256, hcell, hfroz⟩ := hMr.at_ hin2
          have hpow : 2 ^ j < 256 := by
            have := Nat.pow_lt_pow_right (a := 2) (by omega) hj8
            omega
          have hx8 : bits .xor .u8 (b : Int) (2 ^ j) = ((b ^^^ 2 ^ j : Nat) : Int) := by
            have h := u8_xor_nat b (2 ^ j) hb256 hpow
            simpa using h
          have Hfb := Lib.hid hfb
          clear hfb hMr hbr
          go_wp2
          go_region
          go_wp2
          go_roundw
          case rel => exact show_turn hlt HMr.out hgq HV.out Hbr.out (by omega) hbit HIJ.out hj8 Hfb.out hb256
          case measure => simp [intOf]; omega
        · have hb0 := bit_unset hbit
          clear hMr hbr
          go_wp2
          go_roundw
          case rel => exact ⟨k + 1, f, by omega, by go_num, HMr.out, by rw [HV.out, turn, if_neg (fun h => hbit h.2)], Hbr.out⟩
          case measure => simp [intOf]; omega
      · have hout : decide ((a : Int) + (k : Int) < 4096) = false := by simp; omega
        clear hMr hbr
        go_wp2
        go_roundw
        case rel => exact ⟨k + 1, f, by omega, by go_num, HMr.out, by rw [HV.out, turn, if_neg (fun h => hin (by omega))], Hbr.out⟩
        case measure => simp [intOf]; omega
    · have HV32 : val f = val Q ^^^ turn a 4096 mask 32 := by
        have h : k = 32 := by omega
        rw [← h]
        exact HV.out
      clear hMr hbr
      obtain ⟨z1, z2, z3, z4, z5⟩ := HBOX.out wr Hbr.out
      have HZ2 := Lib.hid z2
      have HZ3 := Lib.hid z3
      have HZ5 := Lib.hid z5
      have HZ1 := Lib.hid z1
      clear z1 z2 z3 z5
      by_cases hfx : f = Q
      · subst hfx
        have HC5 := hide (parse_page wr _ _ _ x0 x1 x2 k3 D h0 h1 h2 hp3 HDL.out (HQ.out ▸ HMr.out.bytes))
        clear HV32
        go_wp2_with (first
          | (go_at_call 10; (with_reducible refine (unhide HC5).mono ?_); rintro e w8 ⟨A8, n8, c8, rfl, hM8, hb8⟩; go_loud (
             have hb89 : Below w8.heap.size w8 (w8.alloc (.cells #[.int .u32 (x0 : Int), .int .u32 (x1 : Int), .int .u32 (x2 : Int), .int .u8 (k3 : Int), .slice A8 n8 c8] 25)) := (Below.refl _ _).alloc (Nat.le_refl _) _;
             have hbr9 := hb8.trans (hb89.mono hb8.size);
             have HS1 := hide (same_any _ _ _ f f (HMr.out.below hbr9).bytes (HZ2.out.along hbr9));
             rw [decide_eq_true rfl] at HS1;
             obtain ⟨p0, p1, p2, p3, p4, -, -, -, -, -⟩ := box_facts ((hb8.block _ z4).trans HZ5.out);
             have l8 := Nat.lt_of_lt_of_le z4 hb8.size;
             have n8' : ¬ w.heap.size = w8.heap.size := by omega))
          | (go_at_call 12; (with_reducible refine (unhide HS1).mono ?_); rintro e w9 ⟨rfl, nq, rfl⟩; go_loud (
             have HC6 := hide (same_page _ x0 x1 x2 k3 x0 x1 x2 k3 _ _ _ _ _ _ D D ((hM8.below hb89).bytes.quiet nq) ((HZ3.out.along hbr9).quiet nq));
             rw [decide_eq_true ⟨rfl, rfl, rfl, rfl, rfl⟩] at HC6))
          | (go_at_call 11; (with_reducible refine (unhide HC6).mono ?_); rintro e w10 ⟨rfl, hb10⟩))
        go_ret
        have z9 := below_drewN (HZ1.out.trans (hbr9.mono HZ1.out.size)) nq
        exact ⟨rfl, z9.trans (hb10.mono z9.size)⟩
      · have hnb := shown_not_blank (d := D) (gen := x0) (ser := x1) (num := x2) hp3 (HQ.out ▸ HV32)
        have hns := shown Q f 508 a mask HS7.out HMr.out.small HQL.out (by rw [← HMr.out.len]) (by rw [HQ.out]; exact page_sealed HDL.out) HV32 hfx
        have HC5 := hide (parse_corrupt wr _ _ _ HMr.out.bytes hnb hns)
        have hdec : decide (f = Q) = false := decide_eq_false hfx
        clear HV32 hnb hns
        go_wp2_with (first
          | (go_at_call 10; (with_reducible refine (unhide HC5).mono ?_); rintro e w8 ⟨rfl, hb8⟩; go_loud (
             have hb89 : Below w8.heap.size w8 (w8.alloc (.cells #[.int .u32 0, .int .u32 0, .int .u32 0, .int .u8 0, .slice none 0 0] 25)) := (Below.refl _ _).alloc (Nat.le_refl _) _;
             have hbr9 := hb8.trans (hb89.mono hb8.size);
             have HS1 := hide (same_any _ _ _ f Q (HMr.out.below hbr9).bytes (HZ2.out.along hbr9));
             rw [hdec] at HS1))
          | (go_at_call 12; (with_reducible refine (unhide HS1).mono ?_); rintro e w9 ⟨rfl, nq, rfl⟩))
        go_ret
        exact ⟨rfl, below_drewN (HZ1.out.trans (hbr9.mono HZ1.out.size)) nq⟩
end Go.Proofs.Ytkdbplfphhfeaaa
