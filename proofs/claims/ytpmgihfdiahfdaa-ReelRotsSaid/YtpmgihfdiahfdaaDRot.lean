/- Contracts: what invert leaves of a sector; what Rot leaves of a disk. -/
import Derived.Test.YtpmgihfdiahfdaaDWait
import Derived.RegionTactic
import Derived.ChangeAlike
import Derived.Laws.BitsAllLaws
namespace Go.Proofs.Ytpmgihfdiahfdaa
open Go.RowKit
set_option linter.unusedSimpArgs false
set_option linter.unusedVariables false

/-- A sector of which the first k of some bits in a row are turned, as the mask says. -/
def flip (bit mask : Nat) (s : List Nat) : Nat → List Nat
  | 0 => s
  | k + 1 => if mask / 2 ^ k % 2 = 1 then (flip bit mask s k).set ((bit + k) / 8) ((flip bit mask s k).getD ((bit + k) / 8) 0 ^^^ 2 ^ ((bit + k) % 8)) else flip bit mask s k
theorem flip_sec {bit mask : Nat} {s : List Nat} (hs : IsSec s) : ∀ k, IsSec (flip bit mask s k)
  | 0 => hs
  | k + 1 => by
    have ih := flip_sec (bit := bit) (mask := mask) hs k
    unfold flip
    split
    · refine ⟨by rw [List.length_set]; exact ih.1, fun b hb => ?_⟩
      rcases List.mem_or_eq_of_mem_set hb with h | h
      · exact ih.2 b h
      · rw [h]
        have h1 : (flip bit mask s k).getD ((bit + k) / 8) 0 < 256 := by
          rw [List.getD_eq_getElem?_getD]
          cases hx : (flip bit mask s k)[(bit + k) / 8]? with
          | none => simp
          | some y => exact ih.2 y (List.mem_of_getElem? hx)
        have h2 : 2 ^ ((bit + k) % 8) < 256 := by
          have := Nat.pow_lt_pow_right (a := 2) (by omega) (show (bit + k) % 8 < 8 by omega)
          omega
        exact Nat.xor_lt_two_pow (n := 8) (by omega) (by omega)
    · exact ih
theorem laid_length : ∀ (vs xs : List Value) (o : Nat), (laid xs o vs).length = xs.length
  | [], xs, o => rfl
  | v :: r, xs, o => by rw [laid, laid_length r, List.length_set]
theorem laid_at {xs vs : List Value} {o i : Nat} {v : Value} (h : o + vs.length ≤ xs.length) (hv : vs[i]? = some v) : (laid xs o vs)[o + i]? = some v := by
  rw [laid_eq _ _ _ h]
  have hi := (List.getElem?_eq_some_iff.1 hv).1
  have h1 : (xs.take o).length = o := by rw [List.length_take]; omega
  rw [List.append_assoc, List.getElem?_append_right (by omega), h1, Nat.add_sub_cancel_left, List.getElem?_append_left hi]
  exact hv
theorem laid_set {xs vs : List Value} {o i : Nat} {v : Value} (h : o + vs.length ≤ xs.length) (hi : i < vs.length) : (laid xs o vs).set (o + i) v = laid xs o (vs.set i v) := by
  rw [laid_eq _ _ _ h, laid_eq _ _ _ (by rw [List.length_set]; exact h), List.length_set]
  have h1 : (xs.take o).length = o := by rw [List.length_take]; omega
  rw [List.append_assoc, List.append_assoc, List.set_append_right _ _ (by omega), h1, Nat.add_sub_cancel_left, List.set_append_left _ _ hi]
theorem bit_and {mask k : Nat} (hm : mask < 4294967296) : bits .and .u32 ((mask : Int) / 2 ^ k) 1 = ((mask / 2 ^ k % 2 : Nat) : Int) := by
  have e : (mask : Int) / 2 ^ k = ((mask / 2 ^ k : Nat) : Int) := by simp
  have hl : mask / 2 ^ k < 4294967296 := Nat.lt_of_le_of_lt (Nat.div_le_self _ _) hm
  rw [e]
  have h := u32_and_nat (mask / 2 ^ k) 1 hl (by decide)
  rw [nat_mask1] at h
  exact h
theorem bit_set {mask k : Nat} (hm : mask < 4294967296) (h : mask / 2 ^ k % 2 = 1) : (bits .and .u32 ((mask : Int) / 2 ^ k) 1 == 1) = true := by
  rw [bit_and hm, h]
  rfl
theorem bit_unset {mask k : Nat} (hm : mask < 4294967296) (h : ¬ mask / 2 ^ k % 2 = 1) : (bits .and .u32 ((mask : Int) / 2 ^ k) 1 == 1) = false := by
  rw [bit_and hm, beq_eq_false_iff_ne]
  omega
def InvR (w : World) (g o n size cap bit mask len : Nat) (t : TypeId) (xs : List Value) (s : List Nat) (i : Value) (x : World) : Prop :=
  ∃ k : Nat, k ≤ len ∧ i = .int .i64 (k : Int) ∧ x.ownsRow 0 t size (.slice (some ⟨g, 0, none⟩) n cap) n (laid xs o (byt (flip bit mask s k))) ∧ OnlyAt w x (fun j => j = g)

set_option maxRecDepth 100000 in
set_option maxHeartbeats 4000000 in
theorem invert_any (w : World) (g o n size cap bit mask len : Nat) (t : TypeId) (xs : List Value) (s : List Nat) (hrow : w.ownsRow 0 t size (.slice (some ⟨g, 0, none⟩) n cap) n (laid xs o (byt s))) (hs : IsSec s) (ho : o + 512 ≤ xs.length) (hb : bit + len ≤ 4096) (hlen : len ≤ 32) (hm : mask < 4294967296) :
    Calls Try.prog 63 #[.pointer (some ⟨g, o, none⟩), .int .i64 (bit : Int), .int .i64 (len : Int), .int .u32 (mask : Int)] w fun e w' => (∃ u, e = .returned u) ∧ w'.ownsRow 0 t size (.slice (some ⟨g, 0, none⟩) n cap) n (laid xs o (byt (flip bit mask s len))) ∧ OnlyAt w w' (fun j => j = g) := by
  have H0 := Lib.hid hrow
  have HS := Lib.hid hs
  have hxl : xs.length = n * size := by have := hrow.1; rw [laid_length] at this; exact this
  have HXL := Lib.hid hxl
  have HOO := Lib.hid ho
  clear hrow hs hxl ho
  go_enter Try.func63, Try.ntmps63
  go_wp2
  go_loopw [10] (fun i x => InvR w g o n size cap bit mask len t xs s i x) (fun i _ => len - (intOf i).toNat)
  case atStart => exact ⟨0, by omega, rfl, H0.out, OnlyAt.refl _ _⟩
  case round =>
    obtain ⟨k, hk, rfl, hR, hO⟩ := hrel
    have HR := Lib.hid hR
    have HO := Lib.hid hO
    by_cases hlt : k < len
    · have hsec := flip_sec (bit := bit) (mask := mask) HS.out k
      by_cases hbit : mask / 2 ^ k % 2 = 1
      · have hb1 := bit_set hm hbit
        obtain ⟨i, hi⟩ : ∃ i, i = (bit + k) / 8 := ⟨_, rfl⟩
        obtain ⟨j, hj⟩ : ∃ j, j = (bit + k) % 8 := ⟨_, rfl⟩
        have hin : i < 512 := by omega
        obtain ⟨b, hfb⟩ : ∃ b, (flip bit mask s k)[i]? = some b := ⟨_, List.getElem?_eq_getElem (by rw [hsec.1]; exact hin)⟩
        have hb256 := hsec.2 b (List.mem_of_getElem? hfb)
        have hbl : (byt (flip bit mask s k)).length = 512 := by rw [byt_length]; exact hsec.1
        have hcell : wr.cell? ⟨g, o + i, none⟩ = some (.int .u8 (b : Int)) := by
          rw [hR.cellAt _ (by have := HXL.out; have := HOO.out; omega)]
          exact laid_at (by rw [hbl]; exact HOO.out) (by rw [byt_at, hfb]; rfl)
        have hfroz := hR.frozenAt (o + i)
        have hi2 : ((bit : Int) + (k : Int)).tdiv 8 = (i : Int) := by rw [Int.tdiv_eq_ediv_of_nonneg (by omega)]; omega
        have hj2 : ((bit : Int) + (k : Int)).tmod 8 = (j : Int) := by rw [Int.tmod_eq_emod_of_nonneg (by omega)]; omega
        have hi3 : ((bit : Int) + (k : Int)) / 8 = (i : Int) := by omega
        have hj3 : ((bit : Int) + (k : Int)) % 8 = (j : Int) := by omega
        have hj8 : j < 8 := by omega
        have hi0 : (0 : Int) ≤ (i : Int) := by omega
        have hin3 : (i : Int) < 512 := by omega
        have hj0 : (0 : Int) ≤ (j : Int) := by omega
        have hpow : 2 ^ j < 256 := by
          have := Nat.pow_lt_pow_right (a := 2) (by omega) hj8
          omega
        have hx8 : bits .xor .u8 (b : Int) (2 ^ j) = ((b ^^^ 2 ^ j : Nat) : Int) := by
          have h := u8_xor_nat b (2 ^ j) hb256 hpow
          simpa using h
        have hnext : flip bit mask s (k + 1) = (flip bit mask s k).set i (b ^^^ 2 ^ j) := by
          rw [flip, if_pos hbit, ← hi, ← hj, List.getD_eq_getElem?_getD, hfb]
          rfl
        have HNX := Lib.hid hnext
        have HBL := Lib.hid hbl
        clear hi hj hfb hbl hnext hsec hR hO
        go_wp2
        go_region
        go_wp2
        go_roundw
        case rel =>
          have e8 : bits .xor .u8 (b : Int) (2 ^ j % 256) = ((b ^^^ 2 ^ j : Nat) : Int) := by
            rw [← hx8]
            congr 1
            have : (2 : Int) ^ j = ((2 ^ j : Nat) : Int) := by simp
            rw [this]
            generalize 2 ^ j = p at hpow ⊢
            omega
          rw [e8]
          refine ⟨k + 1, by omega, by go_num, ?_, (HO.out.trans (OnlyAt.setCell _ _ _ _)).drew⟩
          have h := (HR.out.stored (o + i) (.int .u8 ((b ^^^ 2 ^ j : Nat) : Int))).1
          rw [laid_set (by rw [HBL.out]; exact HOO.out) (by rw [HBL.out]; exact hin)] at h
          rw [HNX.out]
          have e : (byt (flip bit mask s k)).set i (.int .u8 ((b ^^^ 2 ^ j : Nat) : Int)) = byt ((flip bit mask s k).set i (b ^^^ 2 ^ j)) := by unfold byt; rw [List.map_set]
          rw [e] at h
          exact h
        case measure => simp [intOf]; omega
      · have hb0 := bit_unset hm hbit
        clear hR hO hsec
        go_wp2
        go_roundw
        case rel => exact ⟨k + 1, by omega, by go_num, by rw [flip, if_neg hbit]; exact HR.out, HO.out⟩
        case measure => simp [intOf]; omega
    · obtain rfl : len = k := by omega
      clear hR hO
      go_wp2
      exact bodyPost_end (results_none rfl _ _ _) rfl ⟨⟨_, rfl⟩, HR.out, HO.out⟩

/-- The disk whose one sector was rewritten in place. -/
theorem Disk.turned {w w' : World} {gs i : Nat} {b : DB} {dur : List (List Nat)} {pend : List (Nat × List Nat)} {wr bud : Int} {s : List Nat} (h : Disk w gs b dur pend wr bud) (hi : i < dur.length) (hs : IsSec s)
    (hrow : w'.ownsRow 0 92 512 (.slice (some ⟨b.gd, 0, none⟩) dur.length b.cd) dur.length (laid (scells dur) (i * 512) (byt s))) (ho : OnlyAt w w' (fun k => k = b.gd)) : Disk w' gs b (dur.set i s) pend wr bud := by
  obtain ⟨cur, hcur⟩ := row_of h.du
  have hk := ho.block
  have hne : gs ≠ b.gd := by
    intro e
    have h1 := h.st
    rw [e, hcur] at h1
    injection h1 with h1
    injection h1 with _ h3
    exact absurd h3 (by decide)
  have hl : (dur.set i s).length = dur.length := List.length_set
  refine ⟨?_, ?_, ?_, ?_, sec_set h.sec hs, ?_, by rw [hl]; exact h.few, h.many⟩
  · rw [hk gs h.lt hne, hl]
    exact h.st
  · rw [← scells_set h.sec hi hs, hl]
    exact hrow
  · exact row_kept h.pe hcur (by decide) hk
  · rw [hl]
    exact row_kept h.la hcur (by decide) hk
  · rw [hl]
    exact h.wri
theorem lats_fst (n : Nat) (l : List (Nat × List Nat)) : lats n l = ((l.map (·.1)).zipIdx).foldl (fun a x => a.set x.1 (x.2 + 1)) (List.replicate n 0) := by
  unfold lats
  rw [List.zipIdx_map, List.foldl_map]
  rfl
set_option maxRecDepth 100000 in
theorem wcells_set {pend : List (Nat × List Nat)} {k : Nat} {p : Nat × List Nat} {s : List Nat} (hw : ∀ q ∈ pend, IsSec q.2) (hk : pend[k]? = some p) (hs : IsSec s) : laid (wcells pend) (k * 513 + 1) (byt s) = wcells (pend.set k (p.1, s)) := by
  have hlt := (List.getElem?_eq_some_iff.1 hk).1
  have wa : ∀ x y : List (Nat × List Nat), wcells (x ++ y) = wcells x ++ wcells y := fun x y => by unfold wcells; rw [List.map_append, List.flatten_append]
  have wc : ∀ (x : Nat × List Nat) (y : List (Nat × List Nat)), wcells (x :: y) = wcell x ++ wcells y := fun x y => by unfold wcells; rw [List.map_cons, List.flatten_cons]
  have fl : ∀ {l : List (Nat × List Nat)}, (∀ x ∈ l, IsSec x.2) → (wcells l).length = l.length * 513 := by
    intro l
    induction l with
    | nil => intro _; rfl
    | cons x r ih =>
      intro h
      rw [wc, List.length_append, ih (fun y hy => h y (List.mem_cons_of_mem _ hy)), wcell_length x (h x (List.mem_cons_self ..)), List.length_cons]
      omega
  have e0 : p = pend[k] := ((List.getElem?_eq_some_iff.1 hk).2).symm
  have e1 : pend = pend.take k ++ p :: pend.drop (k + 1) := by rw [e0, List.getElem_cons_drop, List.take_append_drop]
  have e2 : pend.set k (p.1, s) = pend.take k ++ (p.1, s) :: pend.drop (k + 1) := List.set_eq_take_append_cons_drop.trans (if_pos hlt)
  have l1 : (wcells (pend.take k)).length = k * 513 := by
    rw [fl (fun x hx => hw x (List.mem_of_mem_take hx)), List.length_take, Nat.min_eq_left (by omega)]
  have hp2 : IsSec p.2 := hw p (List.mem_of_getElem? hk)
  have hc : wcells pend = (wcells (pend.take k) ++ [Value.int .i64 (p.1 : Int)]) ++ (byt p.2 ++ wcells (pend.drop (k + 1))) := by
    conv => lhs; rw [e1]
    rw [wa, wc]
    unfold wcell
    simp
  have l2 : (wcells (pend.take k) ++ [Value.int .i64 (p.1 : Int)]).length = k * 513 + 1 := by rw [List.length_append, l1]; rfl
  have l3 : (byt p.2).length = 512 := by rw [byt_length]; exact hp2.1
  have l4 : (byt s).length = 512 := by rw [byt_length]; exact hs.1
  rw [laid_eq _ _ _ (by rw [fl hw, l4]; have := Nat.mul_le_mul_right 513 (show k + 1 ≤ pend.length by omega); omega), l4, hc, List.take_left' l2, ← List.append_assoc, List.drop_left' (by rw [List.length_append, l2, l3]), e2, wa, wc]
  unfold wcell
  simp
theorem set_self {α : Type} {l : List α} {k : Nat} {x : α} (h : l[k]? = some x) : l.set k x = l := by
  apply List.ext_getElem?
  intro j
  by_cases hj : k = j
  · subst hj
    rw [List.getElem?_set_self (List.getElem?_eq_some_iff.1 h).1, h]
  · rw [List.getElem?_set_ne hj]
theorem Disk.turned_pend {w w' : World} {gs k gp cp : Nat} {b : DB} {dur : List (List Nat)} {pend : List (Nat × List Nat)} {wr bud : Int} {p : Nat × List Nat} {s : List Nat} (h : Disk w gs b dur pend wr bud) (hk : pend[k]? = some p) (hs : IsSec s) (hpv : b.pv = .slice (some ⟨gp, 0, none⟩) pend.length cp)
    (hrow : w'.ownsRow 0 97 513 b.pv pend.length (laid (wcells pend) (k * 513 + 1) (byt s))) (ho : OnlyAt w w' (fun k => k = gp)) : Disk w' gs b dur (pend.set k (p.1, s)) wr bud := by
  obtain ⟨cur, hcur⟩ := row_of (by have h1 := h.pe; rw [hpv] at h1; exact h1)
  have hb := ho.block
  have hw : ∀ q ∈ pend, IsSec q.2 := fun q hq => (h.wri q hq).2
  have hne : gs ≠ gp := by
    intro e
    have h1 := h.st
    rw [e, hcur] at h1
    injection h1 with h1
    injection h1 with _ h3
    exact absurd h3 (by decide)
  have hl : (pend.set k (p.1, s)).length = pend.length := List.length_set
  have hmap : (pend.set k (p.1, s)).map (·.1) = pend.map (·.1) := by
    rw [List.map_set]
    exact set_self (by rw [List.getElem?_map, hk]; rfl)
  refine ⟨?_, row_kept h.du hcur (by decide) hb, ?_, ?_, h.sec, ?_, h.few, by rw [hl]; exact h.many⟩
  · rw [hb gs h.lt hne]
    exact h.st
  · rw [hl, ← wcells_set hw hk hs]
    exact hrow
  · have h1 : lats dur.length (pend.set k (p.1, s)) = lats dur.length pend := by rw [lats_fst, lats_fst, hmap]
    rw [h1]
    exact row_kept h.la hcur (by decide) hb
  · intro q hq
    rcases List.mem_or_eq_of_mem_set hq with h1 | h1
    · exact h.wri q h1
    · rw [h1]
      exact ⟨(h.wri p (List.mem_of_getElem? hk)).1, hs⟩

/-- The first k pending writes of sector i have rotted. -/
def rotF (i bit mask len : Nat) (p : Nat × List Nat) : Nat × List Nat := if p.1 = i then (p.1, flip bit mask p.2 len) else p
def rotted (i bit mask len : Nat) (pend : List (Nat × List Nat)) (k : Nat) : List (Nat × List Nat) := (pend.take k).map (rotF i bit mask len) ++ pend.drop k
theorem rotted_length {i bit mask len k : Nat} {pend : List (Nat × List Nat)} (h : k ≤ pend.length) : (rotted i bit mask len pend k).length = pend.length := by
  unfold rotted
  rw [List.length_append, List.length_map, List.length_take, List.length_drop]; omega
theorem rotted_at {i bit mask len k : Nat} {pend : List (Nat × List Nat)} {p : Nat × List Nat} (h : pend[k]? = some p) : (rotted i bit mask len pend k)[k]? = some p := by
  have hlt := (List.getElem?_eq_some_iff.1 h).1
  unfold rotted
  have h1 : ((pend.take k).map (rotF i bit mask len)).length = k := by rw [List.length_map, List.length_take]; omega
  rw [List.getElem?_append_right (by omega), h1, Nat.sub_self, List.getElem?_drop]
  exact h
theorem rotted_next {i bit mask len k : Nat} {pend : List (Nat × List Nat)} {p : Nat × List Nat} (h : pend[k]? = some p) : rotted i bit mask len pend (k + 1) = (rotted i bit mask len pend k).set k (rotF i bit mask len p) := by
  have hlt := (List.getElem?_eq_some_iff.1 h).1
  unfold rotted
  have h1 : ((pend.take k).map (rotF i bit mask len)).length = k := by rw [List.length_map, List.length_take]; omega
  have h2 : pend.drop k = p :: pend.drop (k + 1) := by
    obtain ⟨h3, h4⟩ := List.getElem?_eq_some_iff.1 h
    rw [List.drop_eq_getElem_cons h3, h4]
  rw [List.set_append_right _ _ (by omega), h1, Nat.sub_self, h2, List.set_cons_zero, List.take_add_one, h, List.map_append, List.append_assoc]
  rfl
def RotR (w : World) (gs : Nat) (b : DB) (i bit mask len : Nat) (dur : List (List Nat)) (pend : List (Nat × List Nat)) (nw bud : Int) (t : Value) (x : World) : Prop :=
  ∃ k : Nat, k ≤ pend.length ∧ t = .int .i64 (k : Int) ∧ Disk x gs b dur (rotted i bit mask len pend k) nw bud ∧ OnlyAt w x (fun j => j = b.gd ∨ some j = b.pv.ownBlock)
theorem rotted_all (i bit mask len : Nat) (pend : List (Nat × List Nat)) : rotted i bit mask len pend pend.length = pend.map (rotF i bit mask len) := by
  unfold rotted
  rw [List.take_length, List.drop_length, List.append_nil]

set_option maxRecDepth 100000 in
set_option maxHeartbeats 4000000 in
theorem rot_good {w : World} {gs : Nat} {b : DB} {dur : List (List Nat)} {pend : List (Nat × List Nat)} {nw bud : Int} (h : Disk w gs b dur pend nw bud) (i bit len mask : Nat) (s : List Nat) (hs : dur[i]? = some s) (hb : bit + len ≤ 4096) (hlen : len ≤ 32) (hm : mask < 4294967296) :
    Calls Try.prog 38 #[.pointer (some ⟨gs, 0, none⟩), .int .i64 (i : Int), .int .i64 (bit : Int), .int .i64 (len : Int), .int .u32 (mask : Int)] w fun e w' => e = .returned (.int .i64 0) ∧
      Disk w' gs b (dur.set i (flip bit mask s len)) (pend.map (rotF i bit mask len)) nw bud ∧ OnlyAt w w' (fun j => j = b.gd ∨ some j = b.pv.ownBlock) := by
  have hi : i < dur.length := (List.getElem?_eq_some_iff.1 hs).1
  have hsec : IsSec s := h.sec s (List.mem_of_getElem? hs)
  have HH := hide (has_yes h i hi)
  have HD := Lib.hid h
  have c0 := h.c0
  have hdl : (scells dur).length = dur.length * 512 := h.du.1
  have hrow : w.ownsRow 0 92 512 (.slice (some ⟨b.gd, 0, none⟩) dur.length b.cd) dur.length (laid (scells dur) (i * 512) (byt s)) := by
    rw [scells_set h.sec hi hsec, set_self hs]
    exact h.du
  have HI := hide (invert_any w b.gd (i * 512) dur.length 512 b.cd bit mask len 92 (scells dur) s hrow hsec (by rw [hdl]; have := Nat.mul_le_mul_right 512 (show i + 1 ≤ dur.length by omega); omega) hb hlen hm)
  have hn1 : ¬ (len : Int) < 0 := by omega
  have hn2 : ¬ (len : Int) > 32 := by omega
  have hn3 : ¬ (bit : Int) < 0 := by omega
  have hn4 : ¬ (bit : Int) > 4096 - (len : Int) := by omega
  have hi0 : (0 : Int) ≤ (i : Int) := by omega
  have hi1 : (i : Int) < (dur.length : Int) := by omega
  have hmany := h.many
  have hfs := flip_sec (bit := bit) (mask := mask) hsec len
  have HFS := Lib.hid hfs
  have HSS := Lib.hid hs
  clear hrow hsec hfs h hs hdl
  go_enter Try.func38, Try.ntmps38
  go_wp2_with (first
    | (go_at_call 60; (with_reducible refine (unhide HH).mono ?_); rintro e w1 ⟨rfl, rfl⟩)
    | (go_at_call 63; (with_reducible refine (unhide HI).mono ?_); rintro e w2 ⟨⟨u, rfl⟩, hrow2, hO2⟩; go_loud (
       have hD2 := HD.out.turned hi HFS.out hrow2 hO2;
       have c1 := hD2.c1;
       obtain ⟨P, cp, hpv⟩ := pv_form HD.out.pe;
       rw [hpv] at c1)))
  have hlt0 := HD.out.lt
  have hO2' : OnlyAt w w2 (fun j => j = b.gd ∨ some j = b.pv.ownBlock) := hO2.mono fun j _ hj => .inl hj
  have HD2 := Lib.hid hD2
  have HO2 := Lib.hid hO2'
  have HPV := Lib.hid hpv
  clear hD2 hO2 hO2' hpv hrow2 HI HH c0
  go_wp2
  go_loopw [49] (fun t x => RotR w gs b i bit mask len (dur.set i (flip bit mask s len)) pend nw bud t x) (fun t _ => pend.length - (intOf t).toNat)
  case atStart => exact ⟨0, by omega, rfl, by unfold rotted; rw [List.take_zero, List.drop_zero]; exact HD2.out, HO2.out⟩
  case round =>
    obtain ⟨k, hk, rfl, hDk, hOk⟩ := hrel
    have HDk := Lib.hid hDk
    have HOk := Lib.hid hOk
    by_cases hlt : k < pend.length
    · obtain ⟨p, hp⟩ : ∃ p, pend[k]? = some p := ⟨_, List.getElem?_eq_getElem hlt⟩
      have hpk := rotted_at (i := i) (bit := bit) (mask := mask) (len := len) hp
      have hrl := rotted_length (i := i) (bit := bit) (mask := mask) (len := len) hk
      have hnx := rotted_next (i := i) (bit := bit) (mask := mask) (len := len) hp
      obtain ⟨gp, hP⟩ : ∃ gp, P = some ⟨gp, 0, none⟩ := by
        rcases HD.out.pe.2 with ⟨_, h0⟩ | ⟨g, cap, cur, h1, _⟩
        · omega
        · rw [HPV.out] at h1
          injection h1 with h1
          exact ⟨g, h1⟩
      subst hP
      have d1 : wr.cell? ⟨gs, 1, none⟩ = some (.slice (some ⟨gp, 0, none⟩) pend.length cp) := by rw [hDk.c1, HPV.out]
      have hpv2 : b.pv = .slice (some ⟨gp, 0, none⟩) (rotted i bit mask len pend k).length cp := by rw [HPV.out, hrl]
      have hwr := hDk.write_at hpk hpv2
      have d2 : wr.cell? ⟨gp, k * 513, none⟩ = some (.int .i64 (p.1 : Int)) := hwr 0 _ rfl
      have i0 : (0 : Int) ≤ (k : Int) := by omega
      have i1 : (k : Int) < (pend.length : Int) := by omega
      have hpsec : IsSec p.2 := (hDk.wri p (List.mem_of_getElem? hpk)).2
      have hwl : (wcells (rotted i bit mask len pend k)).length = pend.length * 513 := by have h9 := hDk.pe.1; rw [hrl] at h9; exact h9
      by_cases hpi : p.1 = i
      · have hrow : wr.ownsRow 0 97 513 (.slice (some ⟨gp, 0, none⟩) pend.length cp) pend.length (laid (wcells (rotted i bit mask len pend k)) (k * 513 + 1) (byt p.2)) := by
          rw [wcells_set (fun q hq => (hDk.wri q hq).2) hpk hpsec, set_self (by rw [hpk]), ← HPV.out]
          have h9 := hDk.pe
          rw [hrl] at h9
          exact h9
        have HI2 := hide (invert_any wr gp (k * 513 + 1) pend.length 513 cp bit mask len 97 (wcells (rotted i bit mask len pend k)) p.2 hrow hpsec (by rw [hwl]; have := Nat.mul_le_mul_right 513 (show k + 1 ≤ pend.length by omega); omega) hb hlen hm)
        have hpe : ((p.1 : Int) == (i : Int)) = true := by rw [beq_iff_eq]; omega
        have hpe2 : (p.1 : Int) = (i : Int) := by omega
        have HPK := Lib.hid hpk
        have HNX := Lib.hid hnx
        have HPV2 := Lib.hid hpv2
        have HRL := Lib.hid hrl
        have HPI := Lib.hid hpi
        have HFP := Lib.hid (flip_sec (bit := bit) (mask := mask) hpsec len)
        clear hp hpk hrl hnx hpv2 hwr hpsec hwl hrow hDk hOk hpi hpe2
        go_wp2_with (first
          | (go_at_call 63; (with_reducible refine (unhide HI2).mono ?_); rintro e w3 ⟨⟨u3, rfl⟩, hrow3, hO3⟩; go_loud (
             have hD3 := HDk.out.turned_pend HPK.out HFP.out HPV2.out (by rw [HPV2.out, HRL.out]; exact hrow3) hO3;
             have HD3 := Lib.hid hD3;
             have HO3 := Lib.hid hO3;
             clear hD3 hO3 hrow3)))
        go_roundw
        case rel =>
          refine ⟨k + 1, by omega, by go_num, ?_, HOk.out.trans (HO3.out.mono fun j _ hj => .inr (by rw [HPV2.out, hj]; rfl))⟩
          rw [HNX.out, rotF, if_pos HPI.out]
          exact HD3.out
        case measure => simp [intOf]; omega
      · have hpe : ((p.1 : Int) == (i : Int)) = false := by rw [beq_eq_false_iff_ne]; omega
        have hpe2 : ¬ (p.1 : Int) = (i : Int) := by omega
        have HNX := Lib.hid hnx
        have HPK := Lib.hid hpk
        have HPI := Lib.hid hpi
        clear hp hpk hrl hnx hpv2 hwr hpsec hwl hDk hOk hpi
        go_wp2
        go_roundw
        case rel =>
          refine ⟨k + 1, by omega, by go_num, ?_, HOk.out⟩
          rw [HNX.out, rotF, if_neg HPI.out, set_self HPK.out]
          exact HDk.out
        case measure => simp [intOf]; omega
    · obtain rfl : pend.length = k := by omega
      clear hDk hOk
      go_wp2
      go_ret
      refine ⟨rfl, ?_, HOk.out⟩
      rw [← rotted_all]
      exact HDk.out
end Go.Proofs.Ytpmgihfdiahfdaa
