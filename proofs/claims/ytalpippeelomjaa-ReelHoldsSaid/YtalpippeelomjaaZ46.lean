/- LShow, OpenU16, OpenPage: joined by program (tools/merge.py). -/
import Derived.Test.YtalpippeelomjaaZ44
import Derived.Test.YtalpippeelomjaaZ45
import Derived.Test.YtalpippeelomjaaZ4
import Derived.ProofKit
import Derived.WalkKit
import Derived.OpenShut
namespace Go.Proofs.Ytalpippeelomjaa
open Go.RowKit
set_option linter.unusedSimpArgs false
set_option linter.unusedVariables false
theorem val_zero (l : List Nat) (h : ∀ b ∈ l, b = 0) : val l = 0 := by
  induction l with
  | nil => rfl
  | cons b r ih =>
    rw [val, h b (by simp), ih (fun c hc => h c (by simp [hc]))]
theorem val_ge (l : List Nat) : ∀ (i b : Nat), l[i]? = some b → 256 ^ i * b ≤ val l := by
  induction l with
  | nil => intro i b h; simp at h
  | cons x r ih =>
    intro i b h
    rw [val]
    rcases i with _ | i
    · simp at h
      subst h
      simp
    · simp at h
      have h1 := ih i b h
      rw [Nat.pow_succ, Nat.mul_comm (256 ^ i) 256, Nat.mul_assoc]
      omega
/-- A page of which some of 32 bits in a row are turned isn't all noughts. -/
theorem shown_not_blank {gen ser num kind a mask : Nat} {d f : List Nat} (hk : 0 < kind) (hf : val f = val (page gen ser num kind d) ^^^ turn a 4096 mask 32) : ¬ ∀ b ∈ f, b = 0 := by
  intro h
  rw [val_zero f h] at hf
  have h1 := xor_eq_zero hf.symm
  obtain ⟨M, hM, hM2, _⟩ := turn_form a 4096 mask 32
  rw [hM] at h1
  have h14 : 256 ^ 14 * kind ≤ val (page gen ser num kind d) := val_ge _ 14 kind (by
    unfold page
    rw [pg_head]
    simp [be4])
  have h0 : ∃ v, val (page gen ser num kind d) = 104 + 256 * v := ⟨_, by unfold page; rw [pg_head]; rfl⟩
  obtain ⟨v, hv⟩ := h0
  by_cases ha : 4 ≤ a
  · have h2 : 2 ^ a * M = 16 * (2 ^ (a - 4) * M) := by
      rw [show a = 4 + (a - 4) by omega, Nat.pow_add, show 4 + (a - 4) - 4 = a - 4 by omega, Nat.mul_assoc]
    generalize 2 ^ (a - 4) * M = z at h2
    omega
  · have h2 : 2 ^ a * M ≤ 8 * M := Nat.mul_le_mul_right _ (by
      have : 2 ^ a ≤ 2 ^ 3 := Nat.pow_le_pow_right (by omega) (by omega)
      omega)
    have h3 : 256 ^ 14 * 1 ≤ 256 ^ 14 * kind := Nat.mul_le_mul_left _ hk
    have h4 : (8 : Nat) * 2 ^ 32 < 256 ^ 14 := by decide
    omega
theorem turn_val (a N mask : Nat) : ∀ k, a + k ≤ N → turn a N mask k = 2 ^ a * (mask % 2 ^ k) := by
  intro k
  induction k with
  | zero => intro _; simp [turn, Nat.mod_one]
  | succ k ih =>
    intro h
    have h1 := ih (by omega)
    have hm : mask % 2 ^ (k + 1) = mask % 2 ^ k + 2 ^ k * (mask / 2 ^ k % 2) := by rw [Nat.pow_succ, Nat.mod_mul]
    have hlt := Nat.mod_lt mask (Nat.two_pow_pos k)
    unfold turn
    by_cases hb : mask / 2 ^ k % 2 = 1
    · rw [if_pos ⟨by omega, hb⟩, h1, hm, hb, Nat.mul_one]
      have e : 2 ^ a * (mask % 2 ^ k) ^^^ 2 ^ (a + k) = 2 ^ a * ((mask % 2 ^ k) ^^^ 2 ^ k) := by
        apply Nat.eq_of_testBit_eq
        intro i
        rw [Nat.testBit_xor, Nat.testBit_two_pow_mul, Nat.testBit_two_pow_mul, Nat.testBit_xor, Nat.testBit_two_pow, Nat.testBit_two_pow]
        by_cases hi : a ≤ i
        · have h3 : decide (a + k = i) = decide (k = i - a) := by
            apply decide_eq_decide.2
            omega
          simp [hi, h3]
        · have h3 : decide (a + k = i) = false := decide_eq_false (by omega)
          simp [hi, h3]
      rw [e]
      congr 1
      rw [Nat.xor_comm]
      have h2 := Nat.two_pow_add_eq_or_of_lt (i := k) (b := mask % 2 ^ k) hlt 1
      rw [Nat.mul_one] at h2
      rw [Nat.add_comm, h2]
      apply Nat.eq_of_testBit_eq
      intro i
      rw [Nat.testBit_xor, Nat.testBit_or, Nat.testBit_two_pow, Nat.testBit_mod_two_pow]
      by_cases hi : k = i
      · subst hi; simp
      · simp [hi]
    · have hb0 : mask / 2 ^ k % 2 = 0 := by omega
      rw [if_neg (fun h => hb h.2), h1, hm, hb0, Nat.mul_zero, Nat.add_zero]
theorem val_flip {bit mask : Nat} {s : List Nat} (hs : IsSec s) : ∀ k, bit + k ≤ 4096 → val (flip bit mask s k) = val s ^^^ turn bit 4096 mask k := by
  intro k
  induction k with
  | zero => intro _; simp [flip, turn]
  | succ k ih =>
    intro h
    have h1 := ih (by omega)
    have hf := flip_sec (bit := bit) (mask := mask) hs k
    unfold flip turn
    by_cases hb : mask / 2 ^ k % 2 = 1
    · rw [if_pos hb, if_pos ⟨by omega, hb⟩]
      have hi : (bit + k) / 8 < (flip bit mask s k).length := by rw [hf.1]; omega
      obtain ⟨y, hy⟩ : ∃ y, (flip bit mask s k)[(bit + k) / 8]? = some y := ⟨_, List.getElem?_eq_getElem hi⟩
      have hd : (flip bit mask s k).getD ((bit + k) / 8) 0 = y := by rw [List.getD_eq_getElem?_getD, hy]; rfl
      rw [hd, val_set _ _ _ y hy (hf.2 y (List.mem_of_getElem? hy)) (by omega) hf.2, h1, show 8 * ((bit + k) / 8) + (bit + k) % 8 = bit + k by omega, Nat.xor_assoc]
    · rw [if_neg hb, if_neg (fun h => hb h.2), h1]
theorem flip_none {bit : Nat} {s : List Nat} : ∀ k, flip bit 0 s k = s
  | 0 => rfl
  | k + 1 => by
    unfold flip
    rw [if_neg (by simp), flip_none k]
theorem turn_pos {a mask : Nat} (ha : a ≤ 4064) (hm : mask < 4294967296) (h0 : mask ≠ 0) : turn a 4096 mask 32 = 2 ^ a * mask ∧ 2 ^ a * mask ≠ 0 := by
  rw [turn_val a 4096 mask 32 (by omega), Nat.mod_eq_of_lt (by omega)]
  refine ⟨rfl, fun h => ?_⟩
  have := Nat.two_pow_pos a
  rcases Nat.mul_eq_zero.1 h with h1 | h1 <;> omega
theorem page_sec {q : Pg} (hq : GoodPg q) (hk : q.kind < 256) (hd : ∀ b ∈ q.data, b < 256) : IsSec (pageOf q) := ⟨page_length hq.few, fun b hb => by
  rcases List.mem_append.1 hb with h1 | h1
  · exact pg_small hk hd b h1
  · exact le4_small _ b h1⟩
theorem page_flipped {q : Pg} {a mask : Nat} (hq : GoodPg q) (hk : q.kind < 256) (hd : ∀ b ∈ q.data, b < 256) (ha : a ≤ 4064) (hm : mask < 4294967296) (h0 : mask ≠ 0) : errOf (flip a mask (pageOf q) 32) = 7 ∧ flip a mask (pageOf q) 32 ≠ pageOf q := by
  have hs := page_sec hq hk hd
  have hf := flip_sec (bit := a) (mask := mask) hs 32
  have hv := val_flip (bit := a) (mask := mask) hs 32 (by omega)
  obtain ⟨ht, hne⟩ := turn_pos ha hm h0
  have hne2 : flip a mask (pageOf q) 32 ≠ pageOf q := fun e => by
    rw [e, ht] at hv
    have h1 := congrArg (val (pageOf q) ^^^ ·) hv
    simp only [Nat.xor_self, xor_cancel_left] at h1
    exact hne h1.symm
  refine ⟨err_corrupt hf.1 (shown_not_blank hq.kind hv) (fun hse => ?_), hne2⟩
  exact shown (pageOf q) (flip a mask (pageOf q) 32) 508 a mask hs.2 hf.2 hs.1 hf.1 (page_sealed hq.few) hv hne2 hse
section
variable {gen ser : Nat} {X : List (List Nat)} {qs : List Pg} {recs : List (List Nat)}
theorem Clean.small_data (h : Clean gen ser X qs recs) {i : Nat} {q : Pg} (hq : qs[i]? = some q) : ∀ b ∈ q.data, b < 256 := fun b hb => by
  obtain ⟨_, _, _, _, h4, _⟩ := h.at_ i q hq
  rw [h4] at hb
  rcases List.mem_append.1 hb with hb | hb
  · exact be4_small _ b hb
  · exact layR_small h.small b (List.mem_of_mem_drop (List.mem_of_mem_take hb))
set_option maxHeartbeats 1000000 in
theorem openF_rotten (h : Clean gen ser X qs recs) (hg : gen < 4294967296) (hs : ser < 4294967296) (hX : X.length ≤ 4096) (s0 : Nat) {j : Nat} {s' : List Nat} (hj : j < qs.length) (he : errOf s' = 7) : ∀ (d k : Nat), k + d = j → openF gen ⟨topS s0 (qs.take k), qs.take k, true⟩ ((X.set j s').drop k) k = .inr j
  | 0, k, hk => by
    obtain rfl : k = j := by omega
    have hl : k < X.length := Nat.lt_of_lt_of_le hj h.room
    have hx : (X.set k s')[k]'(by rw [List.length_set]; exact hl) = s' := List.getElem_set_self ..
    rw [List.drop_eq_getElem_cons (by rw [List.length_set]; exact hl), hx]
    exact openF_bad (by unfold OS.bad; rw [he]; simp)
  | d + 1, k, hk => by
    have hlt : k < qs.length := by omega
    have hq : qs[k]? = some qs[k] := List.getElem?_eq_getElem hlt
    obtain ⟨h0, h1, h2, h3, h4, h5⟩ := h.at_ k _ hq
    have hgd := h.good hg hs hX hq
    have h0' : (X.set j s')[k]? = some (pageOf qs[k]) := by rw [List.getElem?_set_ne (by omega)]; exact h0
    obtain ⟨hkX, hx⟩ := List.getElem?_eq_some_iff.1 h0'
    have e0 := err_page hgd
    have ep := pgOf_page hgd
    rw [List.drop_eq_getElem_cons hkX, hx, openF_step (by unfold OS.bad; rw [e0]; simp)]
    have eg : genOf (pageOf qs[k]) = gen := by have := congrArg Pg.gen ep; exact this.trans h1
    have es : serOf (pageOf qs[k]) = (qs[k]).ser := congrArg Pg.ser ep
    have ed : dataOf (pageOf qs[k]) = (qs[k]).data := congrArg Pg.data ep
    rw [step_yes e0 eg rfl (by rw [ep]; exact nextP_clean h hq), es, ed, ep]
    have et : qs.take k ++ [qs[k]] = qs.take (k + 1) := (List.take_succ_eq_append_getElem hlt).symm
    rw [show max (OS.mk (topS s0 (qs.take k)) (qs.take k) true).ser (qs[k]).ser = topS s0 (qs.take (k + 1)) by rw [← et, topS_snoc]]
    rw [show (OS.mk (topS s0 (qs.take k)) (qs.take k) true).qs = qs.take k from rfl, et]
    have hfull : decide ((qs[k]).data.length = 491) = true := by
      rw [decide_eq_true_iff, h4, List.length_append, be4_length]
      have hf := h.few
      have : (partK (layR recs) k).length = 487 := by
        unfold partK
        rw [List.length_take, List.length_drop]
        unfold chunkM at hf
        omega
      omega
    rw [hfull]
    exact openF_rotten h hg hs hX s0 hj he d (k + 1) (by omega)
theorem open_rotten (h : Clean gen ser X qs recs) (hg : gen < 4294967296) (hs : ser < 4294967296) (hX : X.length ≤ 4096) (s0 : Nat) {j : Nat} {s' : List Nat} (hj : j < qs.length) (he : errOf s' = 7) : openX gen s0 (X.set j s') = .inr j := by
  have h1 := openF_rotten h hg hs hX s0 hj he j 0 (by omega)
  rw [List.drop_zero] at h1
  exact h1
theorem view_set {D : List (List Nat)} {first secs j : Nat} {v : List Nat} (hj : j < secs) : ((D.set (first + j) v).drop first).take secs = ((D.drop first).take secs).set j v := by
  refine List.ext_getElem? fun i => ?_
  by_cases hi : i < secs
  · rw [getElem?_view hi]
    by_cases hij : i = j
    · subst hij
      rw [List.getElem?_set, List.getElem?_set, if_pos rfl, if_pos rfl, List.length_take, List.length_drop]
      by_cases hl : first + i < D.length
      · rw [if_pos hl, if_pos (by omega)]
      · rw [if_neg hl, if_neg (by omega)]
    · rw [List.getElem?_set_ne (by omega), List.getElem?_set_ne (by omega), getElem?_view hi]
  · rw [List.getElem?_eq_none (by rw [List.length_take]; omega), List.getElem?_eq_none (by rw [List.length_set, List.length_take]; omega)]
end
end Go.Proofs.Ytalpippeelomjaa
namespace Go.Proofs.Ytalpippeelomjaa
open Go.RowKit Go.ChangeShapes Go.WideShapes Go.ChangeAt
set_option linter.unusedSimpArgs false
set_option linter.unusedVariables false
def w16 (l : List Nat) : List Value := l.map fun (n : Nat) => Value.int .u16 (n : Int)
def U16s (w : World) (B : Nat) (v : Value) (l : List Nat) : Prop := ∃ A c, v = .slice A l.length c ∧ Lies w B A (w16 l) ∧ l.length ≤ maxLen ∧ ∀ n ∈ l, n < 65536
theorem U16s.none_ (w : World) (B : Nat) : U16s w B (.slice none 0 0) [] := ⟨none, 0, rfl, Lies.nil _ _ _, by unfold maxLen; simp, fun n h => by cases h⟩
theorem wf_u16 {n : Int} (h : (Lit.int .u16 n).wf = true) : 0 ≤ n ∧ n < 65536 := by
  have := bounds_u16 h
  omega
theorem u16s_of_cells {w : World} {L C : Nat} {zs : List Int} (hl : L ≤ C) (hm : C ≤ maxLen) (hz : zs.length = C) (hw : ∀ n ∈ zs, (Lit.int .u16 n).wf = true) (x : Addr)
    (hc : ∀ i, i < zs.length → w.cell? (x.add i) = some (.int .u16 (zs.getD i 0))) : ∃ l, U16s w w.heap.size (.slice (some x) L C) l := by
  have hlen : ((zs.take L).map Int.toNat).length = L := by rw [List.length_map, List.length_take]; omega
  refine ⟨(zs.take L).map Int.toNat, some x, C, by rw [hlen], ?_, by rw [hlen]; omega, ?_⟩
  · intro j v hj
    unfold w16 at hj
    have hjl : j < L := by
      rcases Nat.lt_or_ge j L with h1 | h1
      · exact h1
      · rw [List.getElem?_eq_none (by rw [List.length_map, hlen]; exact h1)] at hj; cases hj
    have hcell := hc j (by omega)
    have hb := World.block_lt_of_cell? w _ hcell
    rw [addr_add_block] at hb
    refine ⟨x, rfl, hb, ?_⟩
    rw [hcell]
    rw [List.getElem?_map, List.getElem?_map, List.getElem?_take, if_pos hjl, List.getElem?_eq_getElem (by omega)] at hj
    simp only [Option.map_some, Option.some.injEq] at hj
    rw [← hj]
    have hz0 : (zs.getD j 0) = zs[j]'(by omega) := by rw [List.getD_eq_getElem?_getD, List.getElem?_eq_getElem (by omega)]; rfl
    have hwf := wf_u16 (hw _ (List.getElem_mem (by omega : j < zs.length)))
    rw [hz0, Int.toNat_of_nonneg hwf.1]
  · intro n hn
    obtain ⟨z, hz1, rfl⟩ := List.mem_map.1 hn
    have hwf := wf_u16 (hw z (List.mem_of_mem_take hz1))
    omega
end Go.Proofs.Ytalpippeelomjaa
namespace Go.Proofs.Ytalpippeelomjaa
open Go.RowKit Go.ChangeShapes Go.WideShapes Go.ChangeAt
set_option linter.unusedSimpArgs false
set_option linter.unusedVariables false
set_option maxRecDepth 100000

theorem bytes_of_cells {W : World} {A : Option Addr} {L C : Nat} {zs : List Int} (hl : L ≤ C) (hm : C ≤ maxLen) (hz : zs.length = C) (hw : ∀ n ∈ zs, (Lit.int .u8 n).wf = true) (x : Addr) (hA : A = some x)
    (hc : ∀ i, i < zs.length → W.cell? (x.add i) = some (.int .u8 (zs.getD i 0))) : ∃ l, Bytes W W.heap.size (.slice A L C) l := by
  subst hA
  obtain ⟨l, hb, _⟩ := bytes_of_row (w := W) (a := some x) (len := L) (cap := C) (zs := zs) (.inr ⟨x, rfl, hl, hm, hz, hc, hw⟩)
  exact ⟨l, hb⟩
/-- A crown that came in. -/
theorem open_crown {H : Type} {enc : TypeId × Value → H} {W : World} {b0 : Nat} {r : Reach} {v : Value} {d : DataW H} {ps : List MemPlace} (hval : Value.okWide Try.prog W r b0 24 v) (h : DataW.Trod enc Try.prog W 0 (fun _ => true) true 24 v d ps) :
    ∃ (x0 x1 x2 : Nat), v = .agg #[.int .u32 (x0 : Int), .int .u8 (x1 : Int), .int .u32 (x2 : Int)] ∧ x0 < 4294967296 ∧ x1 < 256 ∧ x2 < 4294967296 := by
  obtain ⟨cs, rfl, hcs⟩ := okWide_struct Try.underlying24 hval
  obtain ⟨fuel, hf⟩ := h
  obtain ⟨xs, n, _, _, hl, hlen, hall⟩ := DataW.trod_struct Try.underlying24 hf
  have hc3 : Try.prog.cellsOf 24 = 3 := by kernel_rfl
  have c32 : Try.prog.cellsOf 22 = 1 := by kernel_rfl
  have c8 : Try.prog.cellsOf 5 = 1 := by kernel_rfl
  rw [hc3] at hcs
  obtain ⟨cl⟩ := cs
  match cl, hcs with
  | [c0, c1, c2], _ =>
    match xs, hlen with
    | [y0, y1, y2], _ =>
      have f0 := hall 0 _ rfl
      have f1 := hall 1 _ rfl
      have f2 := hall 2 _ rfl
      simp only [Value.cells, c32, c8, List.drop_zero, List.drop_succ_cons, List.take_succ_cons, List.take_zero, List.getElem?_cons_zero, List.getElem?_cons_succ] at f0 f1 f2
      obtain ⟨n0, e0, _, w0⟩ := DataW.trod_int Try.underlying22 f0
      obtain ⟨n1, e1, _, w1⟩ := DataW.trod_int Try.underlying5 f1
      obtain ⟨n2, e2, _, w2⟩ := DataW.trod_int Try.underlying22 f2
      have b0 := bounds_u32 w0
      have b1 := bounds_u8 w1
      have b2 := bounds_u32 w2
      obtain ⟨x0, rfl⟩ := Int.eq_ofNat_of_zero_le b0.1
      obtain ⟨x1, rfl⟩ := Int.eq_ofNat_of_zero_le b1.1
      obtain ⟨x2, rfl⟩ := Int.eq_ofNat_of_zero_le b2.1
      injection e0 with e0 _
      injection e1 with e1 _
      injection e2 with e2 _
      subst e0 e1 e2
      exact ⟨x0, x1, x2, rfl, by omega, by omega, by omega⟩
end Go.Proofs.Ytalpippeelomjaa
