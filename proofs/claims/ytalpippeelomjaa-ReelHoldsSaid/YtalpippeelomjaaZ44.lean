/- DWait, DRot, Burst: joined by program (tools/merge.py). -/
import Derived.Test.YtalpippeelomjaaZ21
import Derived.RegionTactic
import Derived.ChangeAlike
import Derived.Laws.BitsAllLaws
import Derived.Test.YtalpippeelomjaaZ5
namespace Go.Proofs.Ytalpippeelomjaa
open Go.RowKit
set_option linter.unusedSimpArgs false
set_option linter.unusedVariables false

/-- At the head of each round of Waiting: the first k places are told. -/
def WaitR (w : World) (B gl c : Nat) (pend : List (Nat × List Nat)) (t : Value) (x : World) : Prop :=
  ∃ k : Nat, k ≤ pend.length ∧ t = .int .i64 (k : Int) ∧ x.ownsRow w.heap.size 3 1 (.slice (some ⟨gl, 0, none⟩) pend.length c) pend.length (ints ((pend.take k).map (·.1) ++ List.replicate (pend.length - k) 0)) ∧ Below w.heap.size w x
theorem wait_next {pend : List (Nat × List Nat)} {k : Nat} {p : Nat × List Nat} (hp : pend[k]? = some p) :
    (ints ((pend.take k).map (·.1) ++ List.replicate (pend.length - k) 0)).set k (.int .i64 (p.1 : Int)) = ints ((pend.take (k + 1)).map (·.1) ++ List.replicate (pend.length - (k + 1)) 0) := by
  have hlt : k < pend.length := (List.getElem?_eq_some_iff.1 hp).1
  rw [← ints_set]
  congr 1
  have hl : ((pend.take k).map (·.1)).length = k := by rw [List.length_map, List.length_take]; omega
  rw [List.set_append_right _ _ (by omega), hl, Nat.sub_self, List.take_add_one, hp]
  obtain ⟨m, hm⟩ : ∃ m, pend.length - k = m + 1 := ⟨pend.length - k - 1, by omega⟩
  have hm2 : pend.length - (k + 1) = m := by omega
  rw [hm, hm2, List.replicate_succ]
  simp

set_option maxRecDepth 100000 in
set_option maxHeartbeats 2000000 in
theorem waiting_any {w : World} {gs : Nat} {b : DB} {dur : List (List Nat)} {pend : List (Nat × List Nat)} {nw bud : Int} (h : Disk w gs b dur pend nw bud) :
    Calls Try.prog 36 #[.pointer (some ⟨gs, 0, none⟩)] w fun e w' => ∃ g c, e = .returned (.slice (some ⟨g, 0, none⟩) pend.length c) ∧ w'.ownsRow w.heap.size 3 1 (.slice (some ⟨g, 0, none⟩) pend.length c) pend.length (ints (pend.map (·.1))) ∧ Below w.heap.size w w' := by
  obtain ⟨i0, hi0, hz0, hz1, hz2⟩ := info_parts infoInt
  have HI := Lib.hid hi0
  have H0 := Lib.hid hz0
  have H1 := Lib.hid hz1
  have H2 := Lib.hid hz2
  obtain ⟨P, cp, hpv⟩ := pv_form h.pe
  have HPV := Lib.hid hpv
  have HD := Lib.hid h
  have c1 : w.cell? ⟨gs, 1, none⟩ = some (.slice P pend.length cp) := by rw [h.c1, hpv]
  have hgs := h.lt
  have hmany := h.many
  clear hi0 hz0 hz1 hz2 h hpv
  go_enter Try.func36, Try.ntmps36
  go_wp2_with (at_make; refine wpList_make_full _ rfl _ _ 63 rfl w.heap.size 3 i0 (.int .i64 0) 1 Try.underlying63 HI.out H0.out H1.out _ _ _ _ pend.length rfl rfl rfl rfl ?b1 ?b2 (Nat.le_refl _) ?_)
  case b1 => rw [H2.out]; omega
  case b2 => unfold maxLen; omega
  intro w1 hown1 hg1
  have hb1 : Below w.heap.size w w1 := (Below.refl _ _).grown hg1 (Nat.le_refl _) (fun _ h => by cases h)
  have d1 := (hb1.cell (p := ⟨gs, 1, none⟩) hgs).trans c1
  have h0 : WaitR w w.heap.size w.heap.size pend.length pend (.int .i64 0) w1 := by
    refine ⟨0, Nat.zero_le _, rfl, ?_, hb1⟩
    have e : (madeCells #[Value.int .i64 0] pend.length).toList = ints ((pend.take 0).map (·.1) ++ List.replicate (pend.length - 0) 0) := by
      rw [toList_madeCells_one]
      unfold ints
      simp
    rw [← e]
    exact hown1
  have HW := Lib.hid h0
  have HB1 := Lib.hid hb1
  clear hown1 hg1 hb1 h0
  go_wp2
  go_loopw [18] (fun t x => WaitR w w.heap.size w.heap.size pend.length pend t x) (fun t _ => pend.length - (intOf t).toNat)
  case atStart => exact HW.out
  case round =>
    obtain ⟨k, hk, rfl, hO, hB⟩ := hrel
    by_cases hlt : k < pend.length
    · obtain ⟨p, hp⟩ : ∃ p, pend[k]? = some p := ⟨_, List.getElem?_eq_getElem hlt⟩
      have hnext := wait_next hp
      have HN := Lib.hid hnext
      obtain ⟨gp, hP⟩ : ∃ gp, P = some ⟨gp, 0, none⟩ := by
        rcases HD.out.pe.2 with ⟨_, h0⟩ | ⟨g, cap, cur, h1, _⟩
        · omega
        · rw [HPV.out] at h1
          injection h1 with h1
          exact ⟨g, h1⟩
      subst hP
      have hgp : gp < w.heap.size := by
        obtain ⟨cur, hcur⟩ := row_of (by have h1 := HD.out.pe; rw [HPV.out] at h1; exact h1)
        exact (Array.getElem?_eq_some_iff.1 hcur).1
      have q1 : wr.cell? ⟨gs, 1, none⟩ = some (.slice (some ⟨gp, 0, none⟩) pend.length cp) := (hB.cell (p := ⟨gs, 1, none⟩) hgs).trans c1
      have q2 : wr.cell? ⟨gp, k * 513, none⟩ = some (.int .i64 (p.1 : Int)) := range_below (HD.out.write_at hp HPV.out) hB hgp 0 _ rfl
      obtain ⟨u, q3⟩ : ∃ u, wr.cell? ⟨w.heap.size, k, none⟩ = some u := by
        rw [hO.cellAt k (by omega), List.getElem?_eq_getElem (by rw [hO.1]; omega)]
        exact ⟨_, rfl⟩
      have q4 : wr.frozen? ⟨w.heap.size, k, none⟩ = false := hO.frozenAt k
      have i0 : (0 : Int) ≤ (k : Int) := by omega
      have i1 : (k : Int) < (pend.length : Int) := by omega
      clear hp hnext
      go_wp2
      go_roundw
      case rel => exact ⟨k + 1, by omega, by go_num, by rw [← HN.out]; exact (hO.stored k _).1, hB.setCell (Nat.le_refl _) _⟩
      case measure => simp [intOf]; omega
    · obtain rfl : k = pend.length := by omega
      rw [List.take_length, Nat.sub_self, List.replicate_zero, List.append_nil] at hO
      go_wp2
      go_ret
      exact ⟨w.heap.size, pend.length, rfl, hO, hB⟩
end Go.Proofs.Ytalpippeelomjaa
namespace Go.Proofs.Ytalpippeelomjaa
open Go.RowKit
set_option linter.unusedSimpArgs false
set_option linter.unusedVariables false

/-- A sector of which the first k of some bits in a row are turned, as the mask says. -/
def flip (bit mask : Nat) (s : List Nat) : Nat → List Nat
  | 0 => s
  | k + 1 => if mask / 2 ^ k % 2 = 1 then (flip bit mask s k).set ((bit + k) / 8) ((flip bit mask s k).getD ((bit + k) / 8) 0 ^^^ 2 ^ ((bit + k) % 8)) else flip bit mask s k
theorem flip_sec {bit mask : Nat} {s : List Nat} (hs : IsSec s) : ∀ k, IsSec (flip bit mask s k)
  | 0 => hs
  | k + 1 => by
    have ih := flip_sec (bit := bit) (mask := mask) hs k
    unfold flip
    split
    · refine ⟨by rw [List.length_set]; exact ih.1, fun b hb => ?_⟩
      rcases List.mem_or_eq_of_mem_set hb with h | h
      · exact ih.2 b h
      · rw [h]
        have h1 : (flip bit mask s k).getD ((bit + k) / 8) 0 < 256 := by
          rw [List.getD_eq_getElem?_getD]
          cases hx : (flip bit mask s k)[(bit + k) / 8]? with
          | none => simp
          | some y => exact ih.2 y (List.mem_of_getElem? hx)
        have h2 : 2 ^ ((bit + k) % 8) < 256 := by
          have := Nat.pow_lt_pow_right (a := 2) (by omega) (show (bit + k) % 8 < 8 by omega)
          omega
        exact Nat.xor_lt_two_pow (n := 8) (by omega) (by omega)
    · exact ih
theorem laid_length : ∀ (vs xs : List Value) (o : Nat), (laid xs o vs).length = xs.length
  | [], xs, o => rfl
  | v :: r, xs, o => by rw [laid, laid_length r, List.length_set]
theorem laid_at {xs vs : List Value} {o i : Nat} {v : Value} (h : o + vs.length ≤ xs.length) (hv : vs[i]? = some v) : (laid xs o vs)[o + i]? = some v := by
  rw [laid_eq _ _ _ h]
  have hi := (List.getElem?_eq_some_iff.1 hv).1
  have h1 : (xs.take o).length = o := by rw [List.length_take]; omega
  rw [List.append_assoc, List.getElem?_append_right (by omega), h1, Nat.add_sub_cancel_left, List.getElem?_append_left hi]
  exact hv
theorem laid_set {xs vs : List Value} {o i : Nat} {v : Value} (h : o + vs.length ≤ xs.length) (hi : i < vs.length) : (laid xs o vs).set (o + i) v = laid xs o (vs.set i v) := by
  rw [laid_eq _ _ _ h, laid_eq _ _ _ (by rw [List.length_set]; exact h), List.length_set]
  have h1 : (xs.take o).length = o := by rw [List.length_take]; omega
  rw [List.append_assoc, List.append_assoc, List.set_append_right _ _ (by omega), h1, Nat.add_sub_cancel_left, List.set_append_left _ _ hi]
theorem bit_and {mask k : Nat} (hm : mask < 4294967296) : bits .and .u32 ((mask : Int) / 2 ^ k) 1 = ((mask / 2 ^ k % 2 : Nat) : Int) := by
  have e : (mask : Int) / 2 ^ k = ((mask / 2 ^ k : Nat) : Int) := by simp
  have hl : mask / 2 ^ k < 4294967296 := Nat.lt_of_le_of_lt (Nat.div_le_self _ _) hm
  rw [e]
  have h := u32_and_nat (mask / 2 ^ k) 1 hl (by decide)
  rw [nat_mask1] at h
  exact h
theorem bit_set {mask k : Nat} (hm : mask < 4294967296) (h : mask / 2 ^ k % 2 = 1) : (bits .and .u32 ((mask : Int) / 2 ^ k) 1 == 1) = true := by
  rw [bit_and hm, h]
  rfl
theorem bit_unset {mask k : Nat} (hm : mask < 4294967296) (h : ¬ mask / 2 ^ k % 2 = 1) : (bits .and .u32 ((mask : Int) / 2 ^ k) 1 == 1) = false := by
  rw [bit_and hm, beq_eq_false_iff_ne]
  omega
def InvR (w : World) (g o n size cap bit mask len : Nat) (t : TypeId) (xs : List Value) (s : List Nat) (i : Value) (x : World) : Prop :=
  ∃ k : Nat, k ≤ len ∧ i = .int .i64 (k : Int) ∧ x.ownsRow 0 t size (.slice (some ⟨g, 0, none⟩) n cap) n (laid xs o (byt (flip bit mask s k))) ∧ OnlyAt w x (fun j => j = g)

set_option maxRecDepth 100000 in
set_option maxHeartbeats 4000000 in
theorem invert_any (w : World) (g o n size cap bit mask len : Nat) (t : TypeId) (xs : List Value) (s : List Nat) (hrow : w.ownsRow 0 t size (.slice (some ⟨g, 0, none⟩) n cap) n (laid xs o (byt s))) (hs : IsSec s) (ho : o + 512 ≤ xs.length) (hb : bit + len ≤ 4096) (hlen : len ≤ 32) (hm : mask < 4294967296) :
    Calls Try.prog 63 #[.pointer (some ⟨g, o, none⟩), .int .i64 (bit : Int), .int .i64 (len : Int), .int .u32 (mask : Int)] w fun e w' => (∃ u, e = .returned u) ∧ w'.ownsRow 0 t size (.slice (some ⟨g, 0, none⟩) n cap) n (laid xs o (byt (flip bit mask s len))) ∧ OnlyAt w w' (fun j => j = g) := by
  have H0 := Lib.hid hrow
  have HS := Lib.hid hs
  have hxl : xs.length = n * size := by have := hrow.1; rw [laid_length] at this; exact this
  have HXL := Lib.hid hxl
  have HOO := Lib.hid ho
  clear hrow hs hxl ho
  go_enter Try.func63, Try.ntmps63
  go_wp2
  go_loopw [10] (fun i x => InvR w g o n size cap bit mask len t xs s i x) (fun i _ => len - (intOf i).toNat)
  case atStart => exact ⟨0, by omega, rfl, H0.out, OnlyAt.refl _ _⟩
  case round =>
    obtain ⟨k, hk, rfl, hR, hO⟩ := hrel
    have HR := Lib.hid hR
    have HO := Lib.hid hO
    by_cases hlt : k < len
    · have hsec := flip_sec (bit := bit) (mask := mask) HS.out k
      by_cases hbit : mask / 2 ^ k % 2 = 1
      · have hb1 := bit_set hm hbit
        obtain ⟨i, hi⟩ : ∃ i, i = (bit + k) / 8 := ⟨_, rfl⟩
        obtain ⟨j, hj⟩ : ∃ j, j = (bit + k) % 8 := ⟨_, rfl⟩
        have hin : i < 512 := by omega
        obtain ⟨b, hfb⟩ : ∃ b, (flip bit mask s k)[i]? = some b := ⟨_, List.getElem?_eq_getElem (by rw [hsec.1]; exact hin)⟩
        have hb256 := hsec.2 b (List.mem_of_getElem? hfb)
        have hbl : (byt (flip bit mask s k)).length = 512 := by rw [byt_length]; exact hsec.1
        have hcell : wr.cell? ⟨g, o + i, none⟩ = some (.int .u8 (b : Int)) := by
          rw [hR.cellAt _ (by have := HXL.out; have := HOO.out; omega)]
          exact laid_at (by rw [hbl]; exact HOO.out) (by rw [byt_at, hfb]; rfl)
        have hfroz := hR.frozenAt (o + i)
        have hi2 : ((bit : Int) + (k : Int)).tdiv 8 = (i : Int) := by rw [Int.tdiv_eq_ediv_of_nonneg (by omega)]; omega
        have hj2 : ((bit : Int) + (k : Int)).tmod 8 = (j : Int) := by rw [Int.tmod_eq_emod_of_nonneg (by omega)]; omega
        have hi3 : ((bit : Int) + (k : Int)) / 8 = (i : Int) := by omega
        have hj3 : ((bit : Int) + (k : Int)) % 8 = (j : Int) := by omega
        have hj8 : j < 8 := by omega
        have hi0 : (0 : Int) ≤ (i : Int) := by omega
        have hin3 : (i : Int) < 512 := by omega
        have hj0 : (0 : Int) ≤ (j : Int) := by omega
        have hpow : 2 ^ j < 256 := by
          have := Nat.pow_lt_pow_right (a := 2) (by omega) hj8
          omega
        have hx8 : bits .xor .u8 (b : Int) (2 ^ j) = ((b ^^^ 2 ^ j : Nat) : Int) := by
          have h := u8_xor_nat b (2 ^ j) hb256 hpow
          simpa using h
        have hnext : flip bit mask s (k + 1) = (flip bit mask s k).set i (b ^^^ 2 ^ j) := by
          rw [flip, if_pos hbit, ← hi, ← hj, List.getD_eq_getElem?_getD, hfb]
          rfl
        have HNX := Lib.hid hnext
        have HBL := Lib.hid hbl
        clear hi hj hfb hbl hnext hsec hR hO
        go_wp2
        go_region
        go_wp2
        go_roundw
        case rel =>
          have e8 : bits .xor .u8 (b : Int) (2 ^ j % 256) = ((b ^^^ 2 ^ j : Nat) : Int) := by
            rw [← hx8]
            congr 1
            have : (2 : Int) ^ j = ((2 ^ j : Nat) : Int) := by simp
            rw [this]
            generalize 2 ^ j = p at hpow ⊢
            omega
          rw [e8]
          refine ⟨k + 1, by omega, by go_num, ?_, (HO.out.trans (OnlyAt.setCell _ _ _ _)).drew⟩
          have h := (HR.out.stored (o + i) (.int .u8 ((b ^^^ 2 ^ j : Nat) : Int))).1
          rw [laid_set (by rw [HBL.out]; exact HOO.out) (by rw [HBL.out]; exact hin)] at h
          rw [HNX.out]
          have e : (byt (flip bit mask s k)).set i (.int .u8 ((b ^^^ 2 ^ j : Nat) : Int)) = byt ((flip bit mask s k).set i (b ^^^ 2 ^ j)) := by unfold byt; rw [List.map_set]
          rw [e] at h
          exact h
        case measure => simp [intOf]; omega
      · have hb0 := bit_unset hm hbit
        clear hR hO hsec
        go_wp2
        go_roundw
        case rel => exact ⟨k + 1, by omega, by go_num, by rw [flip, if_neg hbit]; exact HR.out, HO.out⟩
        case measure => simp [intOf]; omega
    · obtain rfl : len = k := by omega
      clear hR hO
      go_wp2
      exact bodyPost_end (results_none rfl _ _ _) rfl ⟨⟨_, rfl⟩, HR.out, HO.out⟩

/-- The disk whose one sector was rewritten in place. -/
theorem Disk.turned {w w' : World} {gs i : Nat} {b : DB} {dur : List (List Nat)} {pend : List (Nat × List Nat)} {wr bud : Int} {s : List Nat} (h : Disk w gs b dur pend wr bud) (hi : i < dur.length) (hs : IsSec s)
    (hrow : w'.ownsRow 0 92 512 (.slice (some ⟨b.gd, 0, none⟩) dur.length b.cd) dur.length (laid (scells dur) (i * 512) (byt s))) (ho : OnlyAt w w' (fun k => k = b.gd)) : Disk w' gs b (dur.set i s) pend wr bud := by
  obtain ⟨cur, hcur⟩ := row_of h.du
  have hk := ho.block
  have hne : gs ≠ b.gd := by
    intro e
    have h1 := h.st
    rw [e, hcur] at h1
    injection h1 with h1
    injection h1 with _ h3
    exact absurd h3 (by decide)
  have hl : (dur.set i s).length = dur.length := List.length_set
  refine ⟨?_, ?_, ?_, ?_, sec_set h.sec hs, ?_, by rw [hl]; exact h.few, h.many⟩
  · rw [hk gs h.lt hne, hl]
    exact h.st
  · rw [← scells_set h.sec hi hs, hl]
    exact hrow
  · exact row_kept h.pe hcur (by decide) hk
  · rw [hl]
    exact row_kept h.la hcur (by decide) hk
  · rw [hl]
    exact h.wri
theorem lats_fst (n : Nat) (l : List (Nat × List Nat)) : lats n l = ((l.map (·.1)).zipIdx).foldl (fun a x => a.set x.1 (x.2 + 1)) (List.replicate n 0) := by
  unfold lats
  rw [List.zipIdx_map, List.foldl_map]
  rfl
set_option maxRecDepth 100000 in
theorem wcells_set {pend : List (Nat × List Nat)} {k : Nat} {p : Nat × List Nat} {s : List Nat} (hw : ∀ q ∈ pend, IsSec q.2) (hk : pend[k]? = some p) (hs : IsSec s) : laid (wcells pend) (k * 513 + 1) (byt s) = wcells (pend.set k (p.1, s)) := by
  have hlt := (List.getElem?_eq_some_iff.1 hk).1
  have wa : ∀ x y : List (Nat × List Nat), wcells (x ++ y) = wcells x ++ wcells y := fun x y => by unfold wcells; rw [List.map_append, List.flatten_append]
  have wc : ∀ (x : Nat × List Nat) (y : List (Nat × List Nat)), wcells (x :: y) = wcell x ++ wcells y := fun x y => by unfold wcells; rw [List.map_cons, List.flatten_cons]
  have fl : ∀ {l : List (Nat × List Nat)}, (∀ x ∈ l, IsSec x.2) → (wcells l).length = l.length * 513 := by
    intro l
    induction l with
    | nil => intro _; rfl
    | cons x r ih =>
      intro h
      rw [wc, List.length_append, ih (fun y hy => h y (List.mem_cons_of_mem _ hy)), wcell_length x (h x (List.mem_cons_self ..)), List.length_cons]
      omega
  have e0 : p = pend[k] := ((List.getElem?_eq_some_iff.1 hk).2).symm
  have e1 : pend = pend.take k ++ p :: pend.drop (k + 1) := by rw [e0, List.getElem_cons_drop, List.take_append_drop]
  have e2 : pend.set k (p.1, s) = pend.take k ++ (p.1, s) :: pend.drop (k + 1) := List.set_eq_take_append_cons_drop.trans (if_pos hlt)
  have l1 : (wcells (pend.take k)).length = k * 513 := by
    rw [fl (fun x hx => hw x (List.mem_of_mem_take hx)), List.length_take, Nat.min_eq_left (by omega)]
  have hp2 : IsSec p.2 := hw p (List.mem_of_getElem? hk)
  have hc : wcells pend = (wcells (pend.take k) ++ [Value.int .i64 (p.1 : Int)]) ++ (byt p.2 ++ wcells (pend.drop (k + 1))) := by
    conv => lhs; rw [e1]
    rw [wa, wc]
    unfold wcell
    simp
  have l2 : (wcells (pend.take k) ++ [Value.int .i64 (p.1 : Int)]).length = k * 513 + 1 := by rw [List.length_append, l1]; rfl
  have l3 : (byt p.2).length = 512 := by rw [byt_length]; exact hp2.1
  have l4 : (byt s).length = 512 := by rw [byt_length]; exact hs.1
  rw [laid_eq _ _ _ (by rw [fl hw, l4]; have := Nat.mul_le_mul_right 513 (show k + 1 ≤ pend.length by omega); omega), l4, hc, List.take_left' l2, ← List.append_assoc, List.drop_left' (by rw [List.length_append, l2, l3]), e2, wa, wc]
  unfold wcell
  simp
theorem set_self {α : Type} {l : List α} {k : Nat} {x : α} (h : l[k]? = some x) : l.set k x = l := by
  apply List.ext_getElem?
  intro j
  by_cases hj : k = j
  · subst hj
    rw [List.getElem?_set_self (List.getElem?_eq_some_iff.1 h).1, h]
  · rw [List.getElem?_set_ne hj]
theorem Disk.turned_pend {w w' : World} {gs k gp cp : Nat} {b : DB} {dur : List (List Nat)} {pend : List (Nat × List Nat)} {wr bud : Int} {p : Nat × List Nat} {s : List Nat} (h : Disk w gs b dur pend wr bud) (hk : pend[k]? = some p) (hs : IsSec s) (hpv : b.pv = .slice (some ⟨gp, 0, none⟩) pend.length cp)
    (hrow : w'.ownsRow 0 97 513 b.pv pend.length (laid (wcells pend) (k * 513 + 1) (byt s))) (ho : OnlyAt w w' (fun k => k = gp)) : Disk w' gs b dur (pend.set k (p.1, s)) wr bud := by
  obtain ⟨cur, hcur⟩ := row_of (by have h1 := h.pe; rw [hpv] at h1; exact h1)
  have hb := ho.block
  have hw : ∀ q ∈ pend, IsSec q.2 := fun q hq => (h.wri q hq).2
  have hne : gs ≠ gp := by
    intro e
    have h1 := h.st
    rw [e, hcur] at h1
    injection h1 with h1
    injection h1 with _ h3
    exact absurd h3 (by decide)
  have hl : (pend.set k (p.1, s)).length = pend.length := List.length_set
  have hmap : (pend.set k (p.1, s)).map (·.1) = pend.map (·.1) := by
    rw [List.map_set]
    exact set_self (by rw [List.getElem?_map, hk]; rfl)
  refine ⟨?_, row_kept h.du hcur (by decide) hb, ?_, ?_, h.sec, ?_, h.few, by rw [hl]; exact h.many⟩
  · rw [hb gs h.lt hne]
    exact h.st
  · rw [hl, ← wcells_set hw hk hs]
    exact hrow
  · have h1 : lats dur.length (pend.set k (p.1, s)) = lats dur.length pend := by rw [lats_fst, lats_fst, hmap]
    rw [h1]
    exact row_kept h.la hcur (by decide) hb
  · intro q hq
    rcases List.mem_or_eq_of_mem_set hq with h1 | h1
    · exact h.wri q h1
    · rw [h1]
      exact ⟨(h.wri p (List.mem_of_getElem? hk)).1, hs⟩

/-- The first k pending writes of sector i have rotted. -/
def rotF (i bit mask len : Nat) (p : Nat × List Nat) : Nat × List Nat := if p.1 = i then (p.1, flip bit mask p.2 len) else p
def rotted (i bit mask len : Nat) (pend : List (Nat × List Nat)) (k : Nat) : List (Nat × List Nat) := (pend.take k).map (rotF i bit mask len) ++ pend.drop k
theorem rotted_length {i bit mask len k : Nat} {pend : List (Nat × List Nat)} (h : k ≤ pend.length) : (rotted i bit mask len pend k).length = pend.length := by
  unfold rotted
  rw [List.length_append, List.length_map, List.length_take, List.length_drop]; omega
theorem rotted_at {i bit mask len k : Nat} {pend : List (Nat × List Nat)} {p : Nat × List Nat} (h : pend[k]? = some p) : (rotted i bit mask len pend k)[k]? = some p := by
  have hlt := (List.getElem?_eq_some_iff.1 h).1
  unfold rotted
  have h1 : ((pend.take k).map (rotF i bit mask len)).length = k := by rw [List.length_map, List.length_take]; omega
  rw [List.getElem?_append_right (by omega), h1, Nat.sub_self, List.getElem?_drop]
  exact h
theorem rotted_next {i bit mask len k : Nat} {pend : List (Nat × List Nat)} {p : Nat × List Nat} (h : pend[k]? = some p) : rotted i bit mask len pend (k + 1) = (rotted i bit mask len pend k).set k (rotF i bit mask len p) := by
  have hlt := (List.getElem?_eq_some_iff.1 h).1
  unfold rotted
  have h1 : ((pend.take k).map (rotF i bit mask len)).length = k := by rw [List.length_map, List.length_take]; omega
  have h2 : pend.drop k = p :: pend.drop (k + 1) := by
    obtain ⟨h3, h4⟩ := List.getElem?_eq_some_iff.1 h
    rw [List.drop_eq_getElem_cons h3, h4]
  rw [List.set_append_right _ _ (by omega), h1, Nat.sub_self, h2, List.set_cons_zero, List.take_add_one, h, List.map_append, List.append_assoc]
  rfl
def RotR (w : World) (gs : Nat) (b : DB) (i bit mask len : Nat) (dur : List (List Nat)) (pend : List (Nat × List Nat)) (nw bud : Int) (t : Value) (x : World) : Prop :=
  ∃ k : Nat, k ≤ pend.length ∧ t = .int .i64 (k : Int) ∧ Disk x gs b dur (rotted i bit mask len pend k) nw bud ∧ OnlyAt w x (fun j => j = b.gd ∨ some j = b.pv.ownBlock)
theorem rotted_all (i bit mask len : Nat) (pend : List (Nat × List Nat)) : rotted i bit mask len pend pend.length = pend.map (rotF i bit mask len) := by
  unfold rotted
  rw [List.take_length, List.drop_length, List.append_nil]

set_option maxRecDepth 100000 in
set_option maxHeartbeats 4000000 in
theorem rot_good {w : World} {gs : Nat} {b : DB} {dur : List (List Nat)} {pend : List (Nat × List Nat)} {nw bud : Int} (h : Disk w gs b dur pend nw bud) (i bit len mask : Nat) (s : List Nat) (hs : dur[i]? = some s) (hb : bit + len ≤ 4096) (hlen : len ≤ 32) (hm : mask < 4294967296) :
    Calls Try.prog 38 #[.pointer (some ⟨gs, 0, none⟩), .int .i64 (i : Int), .int .i64 (bit : Int), .int .i64 (len : Int), .int .u32 (mask : Int)] w fun e w' => e = .returned (.int .i64 0) ∧
      Disk w' gs b (dur.set i (flip bit mask s len)) (pend.map (rotF i bit mask len)) nw bud ∧ OnlyAt w w' (fun j => j = b.gd ∨ some j = b.pv.ownBlock) := by
  have hi : i < dur.length := (List.getElem?_eq_some_iff.1 hs).1
  have hsec : IsSec s := h.sec s (List.mem_of_getElem? hs)
  have HH := hide (has_yes h i hi)
  have HD := Lib.hid h
  have c0 := h.c0
  have hdl : (scells dur).length = dur.length * 512 := h.du.1
  have hrow : w.ownsRow 0 92 512 (.slice (some ⟨b.gd, 0, none⟩) dur.length b.cd) dur.length (laid (scells dur) (i * 512) (byt s)) := by
    rw [scells_set h.sec hi hsec, set_self hs]
    exact h.du
  have HI := hide (invert_any w b.gd (i * 512) dur.length 512 b.cd bit mask len 92 (scells dur) s hrow hsec (by rw [hdl]; have := Nat.mul_le_mul_right 512 (show i + 1 ≤ dur.length by omega); omega) hb hlen hm)
  have hn1 : ¬ (len : Int) < 0 := by omega
  have hn2 : ¬ (len : Int) > 32 := by omega
  have hn3 : ¬ (bit : Int) < 0 := by omega
  have hn4 : ¬ (bit : Int) > 4096 - (len : Int) := by omega
  have hi0 : (0 : Int) ≤ (i : Int) := by omega
  have hi1 : (i : Int) < (dur.length : Int) := by omega
  have hmany := h.many
  have hfs := flip_sec (bit := bit) (mask := mask) hsec len
  have HFS := Lib.hid hfs
  have HSS := Lib.hid hs
  clear hrow hsec hfs h hs hdl
  go_enter Try.func38, Try.ntmps38
  go_wp2_with (first
    | (go_at_call 60; (with_reducible refine (unhide HH).mono ?_); rintro e w1 ⟨rfl, rfl⟩)
    | (go_at_call 63; (with_reducible refine (unhide HI).mono ?_); rintro e w2 ⟨⟨u, rfl⟩, hrow2, hO2⟩; go_loud (
       have hD2 := HD.out.turned hi HFS.out hrow2 hO2;
       have c1 := hD2.c1;
       obtain ⟨P, cp, hpv⟩ := pv_form HD.out.pe;
       rw [hpv] at c1)))
  have hlt0 := HD.out.lt
  have hO2' : OnlyAt w w2 (fun j => j = b.gd ∨ some j = b.pv.ownBlock) := hO2.mono fun j _ hj => .inl hj
  have HD2 := Lib.hid hD2
  have HO2 := Lib.hid hO2'
  have HPV := Lib.hid hpv
  clear hD2 hO2 hO2' hpv hrow2 HI HH c0
  go_wp2
  go_loopw [49] (fun t x => RotR w gs b i bit mask len (dur.set i (flip bit mask s len)) pend nw bud t x) (fun t _ => pend.length - (intOf t).toNat)
  case atStart => exact ⟨0, by omega, rfl, by unfold rotted; rw [List.take_zero, List.drop_zero]; exact HD2.out, HO2.out⟩
  case round =>
    obtain ⟨k, hk, rfl, hDk, hOk⟩ := hrel
    have HDk := Lib.hid hDk
    have HOk := Lib.hid hOk
    by_cases hlt : k < pend.length
    · obtain ⟨p, hp⟩ : ∃ p, pend[k]? = some p := ⟨_, List.getElem?_eq_getElem hlt⟩
      have hpk := rotted_at (i := i) (bit := bit) (mask := mask) (len := len) hp
      have hrl := rotted_length (i := i) (bit := bit) (mask := mask) (len := len) hk
      have hnx := rotted_next (i := i) (bit := bit) (mask := mask) (len := len) hp
      obtain ⟨gp, hP⟩ : ∃ gp, P = some ⟨gp, 0, none⟩ := by
        rcases HD.out.pe.2 with ⟨_, h0⟩ | ⟨g, cap, cur, h1, _⟩
        · omega
        · rw [HPV.out] at h1
          injection h1 with h1
          exact ⟨g, h1⟩
      subst hP
      have d1 : wr.cell? ⟨gs, 1, none⟩ = some (.slice (some ⟨gp, 0, none⟩) pend.length cp) := by rw [hDk.c1, HPV.out]
      have hpv2 : b.pv = .slice (some ⟨gp, 0, none⟩) (rotted i bit mask len pend k).length cp := by rw [HPV.out, hrl]
      have hwr := hDk.write_at hpk hpv2
      have d2 : wr.cell? ⟨gp, k * 513, none⟩ = some (.int .i64 (p.1 : Int)) := hwr 0 _ rfl
      have i0 : (0 : Int) ≤ (k : Int) := by omega
      have i1 : (k : Int) < (pend.length : Int) := by omega
      have hpsec : IsSec p.2 := (hDk.wri p (List.mem_of_getElem? hpk)).2
      have hwl : (wcells (rotted i bit mask len pend k)).length = pend.length * 513 := by have h9 := hDk.pe.1; rw [hrl] at h9; exact h9
      by_cases hpi : p.1 = i
      · have hrow : wr.ownsRow 0 97 513 (.slice (some ⟨gp, 0, none⟩) pend.length cp) pend.length (laid (wcells (rotted i bit mask len pend k)) (k * 513 + 1) (byt p.2)) := by
          rw [wcells_set (fun q hq => (hDk.wri q hq).2) hpk hpsec, set_self (by rw [hpk]), ← HPV.out]
          have h9 := hDk.pe
          rw [hrl] at h9
          exact h9
        have HI2 := hide (invert_any wr gp (k * 513 + 1) pend.length 513 cp bit mask len 97 (wcells (rotted i bit mask len pend k)) p.2 hrow hpsec (by rw [hwl]; have := Nat.mul_le_mul_right 513 (show k + 1 ≤ pend.length by omega); omega) hb hlen hm)
        have hpe : ((p.1 : Int) == (i : Int)) = true := by rw [beq_iff_eq]; omega
        have hpe2 : (p.1 : Int) = (i : Int) := by omega
        have HPK := Lib.hid hpk
        have HNX := Lib.hid hnx
        have HPV2 := Lib.hid hpv2
        have HRL := Lib.hid hrl
        have HPI := Lib.hid hpi
        have HFP := Lib.hid (flip_sec (bit := bit) (mask := mask) hpsec len)
        clear hp hpk hrl hnx hpv2 hwr hpsec hwl hrow hDk hOk hpi hpe2
        go_wp2_with (first
          | (go_at_call 63; (with_reducible refine (unhide HI2).mono ?_); rintro e w3 ⟨⟨u3, rfl⟩, hrow3, hO3⟩; go_loud (
             have hD3 := HDk.out.turned_pend HPK.out HFP.out HPV2.out (by rw [HPV2.out, HRL.out]; exact hrow3) hO3;
             have HD3 := Lib.hid hD3;
             have HO3 := Lib.hid hO3;
             clear hD3 hO3 hrow3)))
        go_roundw
        case rel =>
          refine ⟨k + 1, by omega, by go_num, ?_, HOk.out.trans (HO3.out.mono fun j _ hj => .inr (by rw [HPV2.out, hj]; rfl))⟩
          rw [HNX.out, rotF, if_pos HPI.out]
          exact HD3.out
        case measure => simp [intOf]; omega
      · have hpe : ((p.1 : Int) == (i : Int)) = false := by rw [beq_eq_false_iff_ne]; omega
        have hpe2 : ¬ (p.1 : Int) = (i : Int) := by omega
        have HNX := Lib.hid hnx
        have HPK := Lib.hid hpk
        have HPI := Lib.hid hpi
        clear hp hpk hrl hnx hpv2 hwr hpsec hwl hDk hOk hpi
        go_wp2
        go_roundw
        case rel =>
          refine ⟨k + 1, by omega, by go_num, ?_, HOk.out⟩
          rw [HNX.out, rotF, if_neg HPI.out, set_self HPK.out]
          exact HDk.out
        case measure => simp [intOf]; omega
    · obtain rfl : pend.length = k := by omega
      clear hDk hOk
      go_wp2
      go_ret
      refine ⟨rfl, ?_, HOk.out⟩
      rw [← rotted_all]
      exact HDk.out
end Go.Proofs.Ytalpippeelomjaa
namespace Go.Proofs.Ytalpippeelomjaa

theorem add_xor (b v : Nat) (hb : b < 256) : b + 256 * v = b ^^^ 256 * v := by
  have h := low_xor_high (b + 256 * v)
  have h1 : (b + 256 * v) % 256 = b := by omega
  have h2 : (b + 256 * v) / 256 = v := by omega
  rw [h1, h2] at h
  exact h.symm
theorem mul_xor (a b : Nat) : 256 * (a ^^^ b) = 256 * a ^^^ 256 * b := by
  have h := Nat.shiftLeft_xor_distrib (a := a) (b := b) (i := 8)
  simp only [Nat.shiftLeft_eq] at h
  rw [Nat.mul_comm 256, Nat.mul_comm 256 a, Nat.mul_comm 256 b]
  exact h
theorem zk_mul (v : Nat) : zk 8 (256 * v) = v := by
  rw [zk_shift 8 (256 * v) (by omega)]
  omega
theorem reg_zk (l : List Nat) : ∀ s, (∀ b ∈ l, b < 256) → reg s l = zk (8 * l.length) (s ^^^ val l) := by
  induction l with
  | nil => intro s _; simp [reg, val, zk]
  | cons b r ih =>
    intro s h
    have h1 : reg s (b :: r) = reg (stp s b) r := rfl
    rw [h1, ih _ (fun c hc => h c (by simp [hc])), val, add_xor b _ (h b (by simp)), List.length_cons, ← Nat.xor_assoc]
    have e : 8 * (r.length + 1) = 8 * r.length + 8 := by omega
    rw [e, zk_add, zk_xor 8, zk_mul]
    rfl

theorem z1_inj {s : Nat} (h : s < 4294967296) (h0 : z1 s = 0) : s = 0 := by
  unfold z1 at h0
  split at h0
  · have e : s / 2 = 3988292384 := by
      have := congrArg (· ^^^ 3988292384) h0
      simp only [xor_cancel, Nat.zero_xor] at this
      exact this
    omega
  · omega
theorem zk_inj (k : Nat) : ∀ {s : Nat}, s < 4294967296 → zk k s = 0 → s = 0 := by
  induction k with
  | zero => intro s _ h; exact h
  | succ k ih => intro s h h0; exact ih h (z1_inj (zk_lt k h) h0)
theorem xor_eq_zero {a b : Nat} (h : a ^^^ b = 0) : a = b := by
  have h1 := xor_cancel a b
  rw [h, Nat.zero_xor] at h1
  exact h1.symm
theorem zk_inj2 (k : Nat) {a b : Nat} (ha : a < 4294967296) (hb : b < 4294967296) (h : zk k a = zk k b) : a = b := by
  apply xor_eq_zero
  apply zk_inj k (Nat.xor_lt_two_pow (n := 32) (by omega) (by omega))
  rw [zk_xor, h, Nat.xor_self]

/-- That the last four bytes are the sum of those before, said of the whole number. -/
theorem sealed_iff (x : List Nat) (m : Nat) (hx : ∀ b ∈ x, b < 256) (hl : x.length = m + 4) :
    val (x.drop m) = crc (x.take m) ↔ zk (8 * x.length) (4294967295 ^^^ val x) = zk 32 4294967295 := by
  have hs : reg 4294967295 (x.take m) < 4294967296 := reg_lt _ (by omega) (fun b hb => hx b (List.mem_of_mem_take hb))
  have hd : (x.drop m).length = 4 := by rw [List.length_drop]; omega
  have hv : val (x.drop m) < 4294967296 := by
    have h := val_lt (x.drop m) (fun b hb => hx b (List.mem_of_mem_drop hb))
    rw [hd] at h
    exact h
  have h1 : zk (8 * x.length) (4294967295 ^^^ val x) = zk 32 (reg 4294967295 (x.take m) ^^^ val (x.drop m)) := by
    rw [← reg_zk x _ hx]
    have h2 : reg 4294967295 x = reg (reg 4294967295 (x.take m)) (x.drop m) := by rw [← reg_append, List.take_append_drop]
    rw [h2, reg_zk _ _ (fun b hb => hx b (List.mem_of_mem_drop hb)), hd]
  rw [h1]
  unfold crc
  generalize reg 4294967295 (x.take m) = s at hs ⊢
  generalize val (x.drop m) = v at hv ⊢
  constructor
  · intro h
    rw [h, ← xor_ones s hs, Nat.xor_comm 4294967295, xor_cancel_left]
  · intro h
    have h2 := zk_inj2 32 (Nat.xor_lt_two_pow (n := 32) (by omega) (by omega)) (by omega) h
    rw [← xor_ones s hs, ← h2, Nat.xor_comm s v, xor_cancel]

/-- Bits turned in a row of 32. -/
theorem burst (n a M : Nat) (hM : M < 4294967296) (h0 : M ≠ 0) (hb : 2 ^ a * M < 2 ^ n) : zk n (2 ^ a * M) ≠ 0 := by
  intro h
  have ha : a ≤ n := by
    rcases Nat.lt_or_ge n a with h1 | h1
    · have h2 : 2 ^ n ≤ 2 ^ a := Nat.pow_le_pow_right (by omega) (by omega)
      have h3 : 2 ^ a * 1 ≤ 2 ^ a * M := Nat.mul_le_mul_left _ (by omega)
      omega
    · exact h1
  have e : n = (n - a) + a := by omega
  rw [e, zk_add, zk_shift a _ (Nat.mul_mod_right _ _), Nat.mul_div_cancel_left _ (Nat.two_pow_pos a)] at h
  exact h0 (zk_inj _ hM h)

/-- The bits that are turned after so many rounds. -/
def turn (a N mask : Nat) : Nat → Nat
  | 0 => 0
  | k + 1 => if a + k < N ∧ mask / 2 ^ k % 2 = 1 then turn a N mask k ^^^ 2 ^ (a + k) else turn a N mask k
theorem turn_form (a N mask : Nat) : ∀ k, ∃ M, turn a N mask k = 2 ^ a * M ∧ M < 2 ^ k ∧ (M ≠ 0 → 2 ^ a * M < 2 ^ N) := by
  intro k
  induction k with
  | zero => exact ⟨0, by simp [turn], by simp, fun h => absurd rfl h⟩
  | succ k ih =>
    obtain ⟨M, hM, hk, hN⟩ := ih
    unfold turn
    have hp : 2 ^ (k + 1) = 2 ^ k * 2 := Nat.pow_succ 2 k
    by_cases h : a + k < N ∧ mask / 2 ^ k % 2 = 1
    · rw [if_pos h]
      have hx : M ^^^ 2 ^ k = 2 ^ k * 1 + M := by
        have h1 := Nat.two_pow_add_eq_or_of_lt hk 1
        rw [h1]
        apply Nat.eq_of_testBit_eq
        intro i
        rw [Nat.testBit_xor, Nat.testBit_or, Nat.mul_one, Nat.testBit_two_pow]
        by_cases hi : k = i
        · subst hi
          rw [Nat.testBit_lt_two_pow hk]
          simp
        · simp [hi]
      have hf : 2 ^ a * M ^^^ 2 ^ (a + k) = 2 ^ a * (M ^^^ 2 ^ k) := by
        have h1 := Nat.shiftLeft_xor_distrib (a := M) (b := 2 ^ k) (i := a)
        simp only [Nat.shiftLeft_eq] at h1
        rw [Nat.mul_comm _ (M ^^^ 2 ^ k), h1, Nat.pow_add, Nat.mul_comm M, Nat.mul_comm (2 ^ k)]
      have hl : M ^^^ 2 ^ k < 2 ^ (k + 1) := by rw [hx, hp]; omega
      refine ⟨M ^^^ 2 ^ k, by rw [hM, hf], hl, fun _ => ?_⟩
      have h2 : 2 ^ a * (M ^^^ 2 ^ k) < 2 ^ a * 2 ^ (k + 1) := Nat.mul_lt_mul_of_pos_left hl (Nat.two_pow_pos a)
      rw [← Nat.pow_add] at h2
      exact Nat.lt_of_lt_of_le h2 (Nat.pow_le_pow_right (by omega) (by omega))
    · rw [if_neg h]
      exact ⟨M, hM, by rw [hp]; omega, hN⟩
theorem val_set (x : List Nat) : ∀ (i j b : Nat), x[i]? = some b → b < 256 → j < 8 → (∀ c ∈ x, c < 256) → val (x.set i (b ^^^ 2 ^ j)) = val x ^^^ 2 ^ (8 * i + j) := by
  induction x with
  | nil => intro i j b h; simp at h
  | cons c r ih =>
    intro i j b h hb hj hx
    have hp : 2 ^ j < 256 := by
      have := Nat.pow_lt_pow_right (a := 2) (by omega) hj
      omega
    match i, h with
    | 0, h =>
      obtain rfl : c = b := by simpa using h
      have hl : c ^^^ 2 ^ j < 256 := Nat.xor_lt_two_pow (n := 8) (by omega) (by omega)
      rw [List.set_cons_zero, val, val, add_xor _ _ hl, add_xor _ _ hb]
      rw [Nat.mul_zero, Nat.zero_add, Nat.xor_assoc, Nat.xor_comm (2 ^ j), ← Nat.xor_assoc]
    | i + 1, h =>
      have h1 : r[i]? = some b := by simpa using h
      have hc := hx c (by simp)
      rw [List.set_cons_succ, val, val, ih i j b h1 hb hj (fun d hd => hx d (by simp [hd])), add_xor _ _ hc, add_xor _ _ hc, mul_xor, ← Nat.xor_assoc]
      congr 1
      rw [show (256 : Nat) = 2 ^ 8 from rfl, ← Nat.pow_add]
      congr 1
      omega
theorem val_inj (x : List Nat) : ∀ (y : List Nat), x.length = y.length → (∀ c ∈ x, c < 256) → (∀ c ∈ y, c < 256) → val x = val y → x = y := by
  induction x with
  | nil => intro y hl _ _ _; exact (List.eq_nil_of_length_eq_zero hl.symm).symm
  | cons c r ih =>
    intro y hl hx hy h
    match y, hl with
    | d :: s, hl =>
      have h1 := hx c (by simp)
      have h2 := hy d (by simp)
      rw [val, val] at h
      have e1 : c = d := by omega
      have e2 : val r = val s := by omega
      rw [e1, ih s (by simpa using hl) (fun b hb => hx b (by simp [hb])) (fun b hb => hy b (by simp [hb])) e2]
/-- WHAT HAS ROTTED IS SHOWN: of a sealed text in which bits of a row of 32 are turned. -/
theorem shown (x f : List Nat) (m a mask : Nat) (hx : ∀ b ∈ x, b < 256) (hf : ∀ b ∈ f, b < 256) (hl : x.length = m + 4) (hlf : f.length = m + 4) (hsealed : val (x.drop m) = crc (x.take m))
    (hv : val f = val x ^^^ turn a (8 * (m + 4)) mask 32) (hne : f ≠ x) : ¬ val (f.drop m) = crc (f.take m) := by
  intro hbad
  have h1 := (sealed_iff x m hx hl).1 hsealed
  have h2 := (sealed_iff f m hf hlf).1 hbad
  obtain ⟨M, hM, hM32, hMN⟩ := turn_form a (8 * (m + 4)) mask 32
  rw [hM] at hv
  rw [hlf, hv, ← Nat.xor_assoc, zk_xor] at h2
  rw [hl] at h1
  rw [h1] at h2
  have h3 : zk (8 * (m + 4)) (2 ^ a * M) = 0 := by
    have h4 := congrArg (zk 32 4294967295 ^^^ ·) h2
    simp only [xor_cancel_left, Nat.xor_self] at h4
    exact h4
  by_cases h0 : M = 0
  · rw [h0, Nat.mul_zero, Nat.xor_zero] at hv
    exact hne (val_inj f x (by rw [hlf, hl]) hf hx hv)
  · exact burst _ a M hM32 h0 (hMN h0) h3
theorem val_turn (x : List Nat) : ∀ (i t b : Nat), x[i]? = some b → b < 256 → t < 256 → (∀ c ∈ x, c < 256) → val (x.set i (b ^^^ t)) = val x ^^^ 2 ^ (8 * i) * t := by
  induction x with
  | nil => intro i t b h; simp at h
  | cons c r ih =>
    intro i t b h hb ht hx
    match i, h with
    | 0, h =>
      obtain rfl : c = b := by simpa using h
      have hl : c ^^^ t < 256 := Nat.xor_lt_two_pow (n := 8) (by omega) (by omega)
      rw [List.set_cons_zero, val, val, add_xor _ _ hl, add_xor _ _ hb, Nat.mul_zero, Nat.pow_zero, Nat.one_mul, Nat.xor_assoc, Nat.xor_comm t, ← Nat.xor_assoc]
    | i + 1, h =>
      have h1 : r[i]? = some b := by simpa using h
      have hc := hx c (by simp)
      rw [List.set_cons_succ, val, val, ih i t b h1 hb ht (fun d hd => hx d (by simp [hd])), add_xor _ _ hc, add_xor _ _ hc, mul_xor, ← Nat.xor_assoc]
      congr 1
      rw [← Nat.mul_assoc]
      congr 1
      rw [show (256 : Nat) = 2 ^ 8 from rfl, ← Nat.pow_add]
      congr 1
      omega
/-- Texts that differ in one byte have unlike sums. -/
theorem crc_turn (x : List Nat) (i t b : Nat) (hi : x[i]? = some b) (hb : b < 256) (ht : t < 256) (hx : ∀ c ∈ x, c < 256) (h0 : t ≠ 0) : crc x ≠ crc (x.set i (b ^^^ t)) := by
  have hil : i < x.length := by
    rcases Nat.lt_or_ge i x.length with h | h
    · exact h
    · rw [List.getElem?_eq_none h] at hi; cases hi
  have hlt : b ^^^ t < 256 := Nat.xor_lt_two_pow (n := 8) (by omega) (by omega)
  have hy : ∀ c ∈ x.set i (b ^^^ t), c < 256 := fun c hc => by
    rcases List.mem_or_eq_of_mem_set hc with h | h
    · exact hx c h
    · rw [h]; exact hlt
  intro h
  unfold crc at h
  have h1 := reg_lt x (s := 4294967295) (by omega) hx
  have h2 := reg_lt (x.set i (b ^^^ t)) (s := 4294967295) (by omega) hy
  have h3 : reg 4294967295 x = reg 4294967295 (x.set i (b ^^^ t)) := by omega
  rw [reg_zk _ _ hx, reg_zk _ _ hy, List.length_set, val_turn x i t b hi hb ht hx, ← Nat.xor_assoc, zk_xor _ (4294967295 ^^^ val x)] at h3
  have h4 : zk (8 * x.length) (2 ^ (8 * i) * t) = 0 := by
    have h5 := congrArg (zk (8 * x.length) (4294967295 ^^^ val x) ^^^ ·) h3
    simp only [xor_cancel_left, Nat.xor_self] at h5
    exact h5.symm
  refine burst (8 * x.length) (8 * i) t (by omega) h0 ?_ h4
  have h6 : 2 ^ (8 * i) * t < 2 ^ (8 * i) * 2 ^ 8 := Nat.mul_lt_mul_of_pos_left (by omega) (Nat.two_pow_pos _)
  rw [← Nat.pow_add] at h6
  exact Nat.lt_of_lt_of_le h6 (Nat.pow_le_pow_right (by omega) (by omega))
theorem set_same (x : List Nat) (i b : Nat) (hi : x[i]? = some b) : x.set i (b ^^^ 0) = x := by
  rw [Nat.xor_zero]
  apply List.ext_getElem?
  intro j
  rw [List.getElem?_set]
  by_cases h : i = j
  · subst h
    rw [if_pos rfl, hi]
    have hil : i < x.length := by
      rcases Nat.lt_or_ge i x.length with h | h
      · exact h
      · rw [List.getElem?_eq_none h] at hi; cases hi
    rw [if_pos hil]
  · rw [if_neg h]
end Go.Proofs.Ytalpippeelomjaa
