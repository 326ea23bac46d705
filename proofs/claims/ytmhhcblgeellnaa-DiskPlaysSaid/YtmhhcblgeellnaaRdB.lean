/- Contracts: what the reference's turned and Read answer. (Its drawn region is typed by program: tools/gendisk.py.) -/
import Derived.Test.YtmhhcblgeellnaaRdA
namespace Go.Proofs.Ytmhhcblgeellnaa
open Go.RowKit
set_option linter.unusedSimpArgs false
set_option linter.unusedVariables false

theorem rbit_set {mask k : Nat} (h : mask / 2 ^ k % 2 = 1) : (((mask : Int) / 2 ^ k) % 2 == 1) = true := by
  have e : (mask : Int) / 2 ^ k = ((mask / 2 ^ k : Nat) : Int) := by simp
  rw [e]
  generalize mask / 2 ^ k = t at h
  simp
  omega
theorem rbit_unset {mask k : Nat} (h : ¬ mask / 2 ^ k % 2 = 1) : (((mask : Int) / 2 ^ k) % 2 == 1) = false := by
  have e : (mask : Int) / 2 ^ k = ((mask / 2 ^ k : Nat) : Int) := by simp
  rw [e]
  generalize mask / 2 ^ k = t at h
  simp
  omega
theorem rbit_set' {mask k : Nat} (h : mask / 2 ^ k % 2 = 1) : (((mask : Int) / 2 ^ k).tmod 2 == 1) = true := by
  have e : (mask : Int) / 2 ^ k = ((mask / 2 ^ k : Nat) : Int) := by simp
  rw [e]
  generalize mask / 2 ^ k = t at h
  rw [Int.tmod_eq_emod_of_nonneg (by omega)]
  simp
  omega
theorem rbit_unset' {mask k : Nat} (h : ¬ mask / 2 ^ k % 2 = 1) : (((mask : Int) / 2 ^ k).tmod 2 == 1) = false := by
  have e : (mask : Int) / 2 ^ k = ((mask / 2 ^ k : Nat) : Int) := by simp
  rw [e]
  generalize mask / 2 ^ k = t at h
  rw [Int.tmod_eq_emod_of_nonneg (by omega)]
  simp
  omega
theorem parts_one {y : World} {v : Value} {l : List Nat} {B gx : Nat} (hy : y.heap[gx]? = some (.cells #[v] 30 (0, 0))) (h : Bytes y B v l) (hB : B ≤ y.heap.size) : Parts y y.heap.size (.slice (some ⟨gx, 0, none⟩) 1 1) [l] := by
  have hg : gx < y.heap.size := (Array.getElem?_eq_some_iff.1 hy).1
  refine parts_block hy hg rfl rfl ?_ (by unfold maxLen; simp)
  intro j u x h1 h2
  rcases j with _ | j
  · simp at h1 h2
    subst h1 h2
    exact h.up hB
  · simp at h1
def TurR (w : World) (base gq c bit mask len : Nat) (s : List Nat) (i : Value) (x : World) : Prop :=
  ∃ k : Nat, k ≤ len ∧ i = .int .i64 (k : Int) ∧ Mine x base (some ⟨gq, 0, none⟩) 512 c (flip bit mask s k) ∧ Below base w x
theorem turR_step {w wr : World} {base gq c bit mask len k i j b : Nat} {s : List Nat} {o : Obj} (hk : k < len) (hM : Mine wr base (some ⟨gq, 0, none⟩) 512 c (flip bit mask s k)) (hg : base ≤ gq) (hgl : gq < wr.heap.size) (hB : base ≤ wr.heap.size) (hb : Below base w wr)
    (hbit : mask / 2 ^ k % 2 = 1) (hi : i = (bit + k) / 8) (hj : j = (bit + k) % 8) (hfb : (flip bit mask s k)[i]? = some b) (hb2 : b < 256) :
    TurR w base gq c bit mask len s (.int .i64 ((k : Int) + 1)) (((wr.setCell ⟨gq, i, none⟩ (.int .u8 ((b ^^^ 2 ^ j : Nat) : Int))).alloc o).drew) := by
  have hj8 : j < 8 := by omega
  have hpow : 2 ^ j < 256 := by
    have := Nat.pow_lt_pow_right (a := 2) (by omega) hj8
    omega
  have hlt : b ^^^ 2 ^ j < 256 := Nat.xor_lt_two_pow (n := 8) (by omega) (by omega)
  have hnext : flip bit mask s (k + 1) = (flip bit mask s k).set i (b ^^^ 2 ^ j) := by
    rw [flip, if_pos hbit, ← hi, ← hj, List.getD_eq_getElem?_getD, hfb]
    rfl
  have hM2 := hM
  have hsz : (wr.setCell ⟨gq, i, none⟩ (.int .u8 ((b ^^^ 2 ^ j : Nat) : Int))).heap.size = wr.heap.size := by simp [World.setCell]
  refine ⟨k + 1, by omega, by go_num, ?_, ((hb.setCell (p := ⟨gq, i, none⟩) hg _).alloc (by rw [hsz]; exact hB) o).drew⟩
  rw [hnext]
  suffices h9 : Mine (wr.setCell ⟨gq, i, none⟩ (.int .u8 ((b ^^^ 2 ^ j : Nat) : Int))) base (some ⟨gq, 0, none⟩) 512 c ((flip bit mask s k).set i (b ^^^ 2 ^ j)) from h9.below ((Below.refl _ _).alloc (Nat.le_refl _) o).drew
  refine ⟨?_, by rw [List.length_set]; exact hM2.len, ?_⟩
  · have h := (hM2.own.stored i (.int .u8 ((b ^^^ 2 ^ j : Nat) : Int))).1
    have e : (byt (flip bit mask s k)).set i (.int .u8 ((b ^^^ 2 ^ j : Nat) : Int)) = byt ((flip bit mask s k).set i (b ^^^ 2 ^ j)) := by unfold byt; rw [List.map_set]
    rw [e] at h
    exact h
  · intro d hd
    rcases List.mem_or_eq_of_mem_set hd with h | h
    · exact hM2.small d h
    · rw [h]; exact hlt
set_option maxRecDepth 100000 in
set_option maxHeartbeats 4000000 in
theorem turned_any (w : World) (A : Option Addr) (c bit len mask : Nat) (s : List Nat) (hp : Bytes w w.heap.size (.slice A 512 c) s) (hs : IsSec s) (hb : bit + len ≤ 4096) (hlen : len ≤ 32) (hm : mask < 4294967296) :
    Calls Try.prog 29 #[.slice A 512 c, .int .i64 (bit : Int), .int .i64 (len : Int), .int .u32 (mask : Int)] w fun e w' => ∃ A2 c2, e = .returned (.slice A2 512 c2) ∧ Mine w' w.heap.size A2 512 c2 (flip bit mask s len) ∧ Below w.heap.size w w' := by
  have hJ := join_mine (w.alloc (.cells #[.slice A 512 c] 30)) (.slice (some ⟨w.heap.size, 0, none⟩) 1 1) [s] (parts_one (Go.heap_alloc_new w _) (hp.below ((Below.refl _ _).alloc (Nat.le_refl _) _)) (by simp)) (by simpa using hs.2) (by simp [hs.1])
  have e : [s].flatten = s := by simp
  rw [e] at hJ
  have HJ := hide hJ
  have HS := Lib.hid hs
  clear hJ e hp hs
  go_enter Try.func29, Try.ntmps29
  go_wp2_with (go_at_call 35; (with_reducible refine (unhide HJ).mono ?_); rintro e w2 ⟨A2, n2, c2, rfl, hM2, hb2⟩; go_loud (
    obtain rfl : n2 = 512 := hM2.len.trans HS.out.1))
  obtain ⟨gq, -, rfl, hgq, -, -, -, -⟩ := hM2.at_ (k := 0) (by omega)
  have hwq : w.heap.size ≤ gq := by simp at hgq; omega
  have h0 : TurR w w.heap.size gq c2 bit mask len s (.int .i64 ((0 : Nat) : Int)) w2 := ⟨0, by omega, rfl, hM2.lower (by simp), ((Below.refl _ _).alloc (Nat.le_refl _) _).trans (hb2.mono (by simp))⟩
  have HT0 := Lib.hid h0
  clear h0 hM2 hb2 HJ hgq
  go_loopw [10] (fun i x => TurR w w.heap.size gq c2 bit mask len s i x) (fun i _ => len - (intOf i).toNat)
  case atStart => exact HT0.out
  case round =>
    obtain ⟨k, hk, rfl, hM, hbr⟩ := hrel
    by_cases hlt : k < len
    · by_cases hbit : mask / 2 ^ k % 2 = 1
      · have hb1 := rbit_set hbit
        have hb1' := rbit_set' hbit
        obtain ⟨i, hi⟩ : ∃ i, i = (bit + k) / 8 := ⟨_, rfl⟩
        obtain ⟨j, hj⟩ : ∃ j, j = (bit + k) % 8 := ⟨_, rfl⟩
        have hin : i < 512 := by omega
        obtain ⟨g', b, e', -, hfb, hb256, hcell, hfroz⟩ := hM.at_ hin
        obtain rfl : gq = g' := by simpa using e'
        have hi2 : ((bit : Int) + (k : Int)).tdiv 8 = (i : Int) := by rw [Int.tdiv_eq_ediv_of_nonneg (by omega)]; omega
        have hj2 : ((bit : Int) + (k : Int)).tmod 8 = (j : Int) := by rw [Int.tmod_eq_emod_of_nonneg (by omega)]; omega
        have hi3 : ((bit : Int) + (k : Int)) / 8 = (i : Int) := by omega
        have hj3 : ((bit : Int) + (k : Int)) % 8 = (j : Int) := by omega
        have hj8 : j < 8 := by omega
        have hi0 : (0 : Int) ≤ (i : Int) := by omega
        have hin3 : (i : Int) < 512 := by omega
        have hj0 : (0 : Int) ≤ (j : Int) := by omega
        have hj83 : (j : Int) < 8 := by omega
        have hgl : gq < wr.heap.size := World.block_lt_of_cell? wr _ hcell
        have hcx : ∀ x, Below wr.heap.size wr x → x.cell? ⟨gq, i, none⟩ = some (.int .u8 (b : Int)) := fun x hx => (hx.cell (p := ⟨gq, i, none⟩) hgl).trans hcell
        have HI := Lib.hid hi
        have HJ := Lib.hid hj
        have HFB := Lib.hid hfb
        have HM := Lib.hid hM
        have HBR := Lib.hid hbr
        have HSTEP := hide (fun o => turR_step (o := o) hlt hM hwq hgl (Nat.le_of_lt (Nat.lt_of_le_of_lt hwq hgl)) hbr hbit hi hj hfb hb256)
        have hx8 : bits .xor .u8 (b : Int) ((2 ^ j : Nat) : Int) = ((b ^^^ 2 ^ j : Nat) : Int) := by
          have hpow : 2 ^ j < 256 := by
            have := Nat.pow_lt_pow_right (a := 2) (by omega) hj8
            omega
          exact u8_xor_nat b (2 ^ j) hb256 hpow
        clear hi hj hfb hM hbr
        obtain ⟨q, hq⟩ : ∃ q, q = 2 ^ j := ⟨_, rfl⟩
        rw [← hq] at hx8 HSTEP
        have hlit : [Value.int .u8 1, .int .u8 2, .int .u8 4, .int .u8 8, .int .u8 16, .int .u8 32, .int .u8 64, .int .u8 128][j]? = some (.int .u8 (q : Int)) := by
          rw [hq]
          rcases (show j = 0 ∨ j = 1 ∨ j = 2 ∨ j = 3 ∨ j = 4 ∨ j = 5 ∨ j = 6 ∨ j = 7 by omega) with rfl | rfl | rfl | rfl | rfl | rfl | rfl | rfl <;> rfl
        have hlit2 : [Value.int .u8 1, .int .u8 2, .int .u8 4, .int .u8 8, .int .u8 16, .int .u8 32, .int .u8 64, .int .u8 128][j]'(by simpa using hj8) = .int .u8 (q : Int) := by
          rw [List.getElem?_eq_getElem (by simpa using hj8)] at hlit
          exact Option.some.inj hlit
        clear hq hlit
        have hwi : IntKind.i64.wrap (i : Int) = (i : Int) := IntWalk.i64_in _ (by omega)
        have hwj : IntKind.i64.wrap (j : Int) = (j : Int) := IntWalk.i64_in _ (by omega)
        go_wp2
        refine wp_region_noPanic ?_
        refine region_till [12] (fun _ x => x.cell? ⟨gq, i, none⟩ = some (.int .u8 (b : Int))) (by kernel_rfl) (fun _ => hcell) (fun hHeld => ?_)
        refine till_take 12 (i := 0) (v := ?_) (some 28) rfl rfl (by kernel_rfl) (by kernel_rfl) (by kernel_rfl) (by kernel_rfl) (fun _ _ _ h => h) (Or.inl ⟨by rfl, ?_⟩) (by assumption) (fun hHeld2 => ?_)
        rotate_left
        · intro w hSw
          have hSw2 : w.cell? _ = _ := hSw
          first | (go_simp; done) | (go_simp; with_reducible rfl)
        clear hHeld
        have hHeld := hHeld2
        clear hHeld2
        try simp only [Act.put, List.setIfInBounds_toArray, List.set_cons_zero, List.set_cons_succ]
        refine till_take 12 (i := 1) (v := ?_) (some 29) rfl rfl (by kernel_rfl) (by kernel_rfl) (by kernel_rfl) (by kernel_rfl) (fun _ _ _ h => h) (Or.inl ⟨by rfl, ?_⟩) (by assumption) (fun hHeld2 => ?_)
        rotate_left
        · intro w hSw
          have hSw2 : w.cell? _ = _ := hSw
          first | (go_simp; done) | (go_simp; with_reducible rfl)
        clear hHeld
        have hHeld := hHeld2
        clear hHeld2
        try simp only [Act.put, List.setIfInBounds_toArray, List.set_cons_zero, List.set_cons_succ]
        refine till_take 12 (i := 2) (v := ?_) (some 30) rfl rfl (by kernel_rfl) (by kernel_rfl) (by kernel_rfl) (by kernel_rfl) (fun _ _ _ h => h) (Or.inl ⟨by rfl, ?_⟩) (by assumption) (fun hHeld2 => ?_)
        rotate_left
        · intro w hSw
          have hSw2 : w.cell? _ = _ := hSw
          first | (go_simp; done) | (go_simp; with_reducible rfl)
        clear hHeld
        have hHeld := hHeld2
        clear hHeld2
        try simp only [Act.put, List.setIfInBounds_toArray, List.set_cons_zero, List.set_cons_succ]
        refine till_take 12 (i := 3) (v := ?_) (some 31) rfl rfl (by kernel_rfl) (by kernel_rfl) (by kernel_rfl) (by kernel_rfl) (fun _ _ _ h => h) (Or.inl ⟨by rfl, ?_⟩) (by assumption) (fun hHeld2 => ?_)
        rotate_left
        · intro w hSw
          have hSw2 : w.cell? _ = _ := hSw
          first | (go_simp; done) | (go_simp; with_reducible rfl)
        clear hHeld
        have hHeld := hHeld2
        clear hHeld2
        try simp only [Act.put, List.setIfInBounds_toArray, List.set_cons_zero, List.set_cons_succ]
        refine till_take 12 (i := 4) (v := ?_) (some 32) rfl rfl (by kernel_rfl) (by kernel_rfl) (by kernel_rfl) (by kernel_rfl) (fun _ _ _ h => h) (Or.inl ⟨by rfl, ?_⟩) (by assumption) (fun hHeld2 => ?_)
        rotate_left
        · intro w hSw
          have hSw2 : w.cell? _ = _ := hSw
          first | (go_simp; done) | (go_simp; with_reducible rfl)
        clear hHeld
        have hHeld := hHeld2
        clear hHeld2
        try simp only [Act.put, List.setIfInBounds_toArray, List.set_cons_zero, List.set_cons_succ]
        refine till_take 12 (i := 6) (v := ?_) (some 34) rfl rfl (by kernel_rfl) (by kernel_rfl) (by kernel_rfl) (by kernel_rfl) (fun _ _ _ h => h) (Or.inl ⟨by rfl, ?_⟩) (by assumption) (fun hHeld2 => ?_)
        rotate_left
        · intro w hSw
          have hSw2 : w.cell? _ = _ := hSw
          first | (go_simp; done) | (go_simp; with_reducible rfl)
        clear hHeld
        have hHeld := hHeld2
        clear hHeld2
        try simp only [Act.put, List.setIfInBounds_toArray, List.set_cons_zero, List.set_cons_succ]
        refine till_take 12 (i := 7) (v := ?_) (some 35) rfl rfl (by kernel_rfl) (by kernel_rfl) (by kernel_rfl) (by kernel_rfl) (fun _ _ _ h => h) (Or.inl ⟨by rfl, ?_⟩) (by assumption) (fun hHeld2 => ?_)
        rotate_left
        · intro w hSw
          have hSw2 : w.cell? _ = _ := hSw
          first | (go_simp; done) | (go_simp; with_reducible rfl)
        clear hHeld
        have hHeld := hHeld2
        clear hHeld2
        try simp only [Act.put, List.setIfInBounds_toArray, List.set_cons_zero, List.set_cons_succ]
        refine till_ready (rs := [5]) (by kernel_rfl) (by simp) ?_
        refine (AllTill.cons rfl (fun K hK => ?_) AllTill.nil)
        go_simp
        refine hK.out _ _ ?_ (fun hHeld2 => ?_)
        · exact fun _ _ _ => hcx _ ((Below.refl _ _).drew.alloc (Nat.le_refl _) _)
        clear hK K
        clear hHeld
        have hHeld := hHeld2
        clear hHeld2
        try simp only [Act.put, List.setIfInBounds_toArray, List.set_cons_zero, List.set_cons_succ]
        refine till_take 12 (i := 8) (v := ?_) (some 36) rfl rfl (by kernel_rfl) (by kernel_rfl) (by kernel_rfl) (by kernel_rfl) (fun _ _ _ h => h) (Or.inl ⟨by rfl, ?_⟩) (by assumption) (fun hHeld2 => ?_)
        rotate_left
        · intro w hSw
          have hSw2 : w.cell? _ = _ := hSw
          first | (go_simp; done) | (go_simp; with_reducible rfl)
        clear hHeld
        have hHeld := hHeld2
        clear hHeld2
        try simp only [Act.put, List.setIfInBounds_toArray, List.set_cons_zero, List.set_cons_succ]
        refine till_ready (rs := [9]) (by kernel_rfl) (by simp) ?_
        refine (AllTill.cons rfl (fun K hK => ?_) AllTill.nil)
        go_simp
        refine hK.out _ _ ?_ (fun hHeld2 => ?_)
        · exact fun _ _ _ => hcx _ ((Below.refl _ _).drew.alloc (Nat.le_refl _) _)
        clear hK K
        clear hHeld
        have hHeld := hHeld2
        clear hHeld2
        try simp only [Act.put, List.setIfInBounds_toArray, List.set_cons_zero, List.set_cons_succ]
        refine till_take 12 (i := 10) (v := ?_) (some 38) rfl rfl (by kernel_rfl) (by kernel_rfl) (by kernel_rfl) (by kernel_rfl) (fun _ _ _ h => h) (Or.inl ⟨by rfl, ?_⟩) (by assumption) (fun hHeld2 => ?_)
        rotate_left
        · intro w hSw
          have hSw2 : w.cell? _ = _ := hSw
          first | (go_simp; done) | (go_simp; with_reducible rfl)
        clear hHeld
        have hHeld := hHeld2
        clear hHeld2
        try simp only [Act.put, List.setIfInBounds_toArray, List.set_cons_zero, List.set_cons_succ]
        refine till_take 12 (i := 11) (v := ?_) (some 39) rfl rfl (by kernel_rfl) (by kernel_rfl) (by kernel_rfl) (by kernel_rfl) (fun _ _ _ h => h) (Or.inl ⟨by rfl, ?_⟩) (by assumption) (fun hHeld2 => ?_)
        rotate_left
        · intro w hSw
          have hSw2 : w.cell? _ = _ := hSw
          first | (go_simp; done) | (go_simp; with_reducible rfl)
        clear hHeld
        have hHeld := hHeld2
        clear hHeld2
        try simp only [Act.put, List.setIfInBounds_toArray, List.set_cons_zero, List.set_cons_succ]
        refine till_ready (rs := [12]) (by kernel_rfl) (by simp) ?_
        refine (AllTill.cons rfl (fun K hK => ?_) AllTill.nil)
        go_simp
        refine hK.out _ _ ?_ (fun hHeld2 => ?_)
        · exact held_late rfl
        clear hK K
        clear hHeld
        have hHeld := hHeld2
        clear hHeld2
        try simp only [Act.put, List.setIfInBounds_toArray, List.set_cons_zero, List.set_cons_succ]
        refine till_done (by kernel_rfl) ?_ _
        refine NoPanic.normal ?_
        clear hwi hwj hlit2
        go_wp2
        go_roundw
        case rel => exact unhide HSTEP _
        case measure => simp [intOf]; omega
      · have hb1 := rbit_unset hbit
        have hb1' := rbit_unset' hbit
        go_wp2
        go_roundw
        case rel => exact ⟨k + 1, by omega, by go_num, by rw [flip, if_neg hbit]; exact hM, hbr⟩
        case measure => simp [intOf]; omega
    · obtain rfl : k = len := by omega
      go_wp2
      go_ret
      exact ⟨_, _, rfl, hM, hbr⟩
def RdgR (w : World) (base i n : Nat) (pend : List (Nat × List Nat)) (dur : List (List Nat)) (p t : Value) : Prop :=
  ∃ (k : Nat) (s : List Nat) (A : Option Addr) (c : Nat), k ≤ n ∧ t = .int .i64 (k : Int) ∧ p = .slice A 512 c ∧ Mine w base A 512 c s ∧ (applied (pend.take k) dur)[i]? = some s
set_option maxRecDepth 100000 in
set_option maxHeartbeats 4000000 in
theorem rread_any {w : World} {base gx : Nat} {sv av wv : Value} {ss ws : List Value} {dur : List (List Nat)} {pend : List (Nat × List Nat)} {left : Int} (h : RD w base gx sv av wv ss ws dur pend left) (hfew : dur.length ≤ 4096) (hmany : pend.length ≤ 1048576) (i : Nat) (hi : i < dur.length) :
    Calls Try.prog 31 #[.pointer (some ⟨gx, 0, none⟩), .int .i64 (i : Int)] w fun e w' => (∃ s A c, e = .returned (.slice A 512 c) ∧ Mine w base A 512 c s ∧ (applied pend dur)[i]? = some s) ∧ w = w' := by
  have HR := Lib.hid h
  have c0 := h.c0
  have c1 := h.c1
  have c2 := h.c2
  obtain ⟨gs, scap, cur, hsv, -, -, -⟩ := row_place h.safe.row (by omega)
  subst hsv
  obtain ⟨u, hu⟩ : ∃ u, ss[i]? = some u := ⟨_, List.getElem?_eq_getElem (by rw [h.safe.len]; exact hi)⟩
  obtain ⟨s, hs⟩ : ∃ s, dur[i]? = some s := ⟨_, List.getElem?_eq_getElem hi⟩
  obtain ⟨A0, cc0, rfl, hM0⟩ := h.safe.each i u s hu hs
  obtain ⟨hc0, -⟩ := row_cell h.safe.row hu
  obtain ⟨n, hn⟩ : ∃ n, n = pend.length := ⟨_, rfl⟩
  obtain ⟨AA, ac, rfl⟩ := pv_form h.at_
  obtain ⟨WA, wc, hwv⟩ := pv_form h.wait.row
  rw [List.length_map] at hwv
  subst hwv
  rw [← hn] at c1 c2 hmany
  have i0 : (0 : Int) ≤ (i : Int) := by omega
  have i1 : (i : Int) < (dur.length : Int) := by omega
  have HN := Lib.hid hn
  have HS := Lib.hid hs
  have HM := Lib.hid hM0
  clear hn hs hM0 hu h
  go_enter Try.func31, Try.ntmps31
  go_wp2
  go_loop [5, 20] (fun p t => RdgR w base i n pend dur p t) (fun _ t => n - (intOf t).toNat)
  case atStart => exact ⟨0, s, A0, cc0, Nat.zero_le _, rfl, rfl, HM.out, by simpa [applied] using HS.out⟩
  case round =>
    obtain ⟨k, f, A, c, hk, rfl, rfl, hMf, hf⟩ := hrel
    have HF := Lib.hid hf
    have HMF := Lib.hid hMf
    clear hf hMf
    by_cases hlt : k < n
    · obtain ⟨p, hp⟩ : ∃ p, pend[k]? = some p := ⟨_, List.getElem?_eq_getElem (by rw [← HN.out]; exact hlt)⟩
      obtain ⟨ga, acap, -, hav, -, -, -⟩ := row_place HR.out.at_ (by rw [← HN.out]; omega)
      have hA : AA = some ⟨ga, 0, none⟩ := by injection hav
      subst hA
      have hrow := HR.out.at_
      rw [← HN.out] at hrow
      obtain ⟨hca, -⟩ := row_cell (u := .int .i64 (p.1 : Int)) hrow (by unfold ints; rw [List.getElem?_map, List.getElem?_map, hp]; rfl)
      have hnx := applied_next (dur := dur) hp
      have k0 : (0 : Int) ≤ (k : Int) := by omega
      have k1 : (k : Int) < (n : Int) := by omega
      by_cases he : p.1 = i
      · have he2 : ((p.1 : Int) == (i : Int)) = true := by rw [beq_iff_eq]; omega
        obtain ⟨gw, wcap, -, hwv, -, -, -⟩ := row_place HR.out.wait.row (by rw [List.length_map, ← HN.out]; omega)
        have hW : WA = some ⟨gw, 0, none⟩ := by injection hwv
        subst hW
        have hrw := HR.out.wait.row
        rw [List.length_map, ← HN.out] at hrw
        obtain ⟨v, hv⟩ : ∃ v, ws[k]? = some v := ⟨_, List.getElem?_eq_getElem (by rw [HR.out.wait.len, List.length_map, ← HN.out]; exact hlt)⟩
        obtain ⟨A2, cc2, rfl, hM2⟩ := HR.out.wait.each k v p.2 hv (by rw [List.getElem?_map, hp]; rfl)
        obtain ⟨hcw, -⟩ := row_cell hrw hv
        have hlen : i < (applied (pend.take k) dur).length := by rw [applied_length]; exact hi
        have HNX : Hid ((applied (pend.take (k + 1)) dur)[i]? = some p.2) := by
          show (applied (pend.take (k + 1)) dur)[i]? = some p.2
          rw [hnx, he, List.getElem?_set_self hlen]
        have HM2 := Lib.hid hM2
        clear hp hnx he hrow hrw hv hM2 hav hwv hlen
        go_wp2
        go_round
        case rel => exact ⟨k + 1, p.2, A2, cc2, by omega, by go_num, rfl, HM2.out, HNX.out⟩
        case measure => simp [intOf]; omega
      · have he2 : ((p.1 : Int) == (i : Int)) = false := by rw [beq_eq_false_iff_ne]; omega
        have HNX : Hid ((applied (pend.take (k + 1)) dur)[i]? = some f) := by
          show (applied (pend.take (k + 1)) dur)[i]? = some f
          rw [hnx, List.getElem?_set_ne he]; exact HF.out
        clear hp hnx he hrow hav
        go_wp2
        go_round
        case rel => exact ⟨k + 1, f, A, c, by omega, by go_num, rfl, HMF.out, HNX.out⟩
        case measure => simp [intOf]; omega
    · obtain rfl : k = n := by omega
      go_wp2
      go_ret
      refine ⟨⟨f, A, c, rfl, HMF.out, ?_⟩, rfl⟩
      have := HF.out
      rw [HN.out, List.take_length] at this
      exact this
end Go.Proofs.Ytmhhcblgeellnaa
