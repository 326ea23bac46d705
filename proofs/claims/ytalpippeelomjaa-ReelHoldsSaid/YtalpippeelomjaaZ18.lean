/- DPut, DCrash: joined by program (tools/merge.py). -/
import Derived.Test.YtalpippeelomjaaZ17
import Derived.Deep.MidRow
import Derived.Deep.Upon
import Derived.WalkSpells
import Derived.BigRegion
import Derived.Deep.RegionHeld3
namespace Go.Proofs.Ytalpippeelomjaa
open Go.RowKit

/-- A list with other cells from a place on. -/
def laid (xs : List Value) : Nat → List Value → List Value
  | _, [] => xs
  | o, v :: r => laid (xs.set o v) (o + 1) r
theorem laid_eq : ∀ (vs xs : List Value) (o : Nat), o + vs.length ≤ xs.length → laid xs o vs = xs.take o ++ vs ++ xs.drop (o + vs.length)
  | [], xs, o, _ => by simp [laid]
  | v :: r, xs, o, h => by
    rw [List.length_cons] at h
    rw [laid, laid_eq r (xs.set o v) (o + 1) (by rw [List.length_set]; omega)]
    have h1 : (xs.set o v).take (o + 1) = xs.take o ++ [v] := by
      rw [List.take_add_one, List.take_set_of_le (Nat.le_refl _), List.getElem?_set_self (by omega)]
      rfl
    have h2 : (xs.set o v).drop (o + 1 + r.length) = xs.drop (o + (v :: r).length) := by
      rw [List.drop_set_of_lt (by omega), List.length_cons]
      congr 1
      omega
    rw [h1, h2]
    simp
theorem stored_many {g : Nat} : ∀ (vs : List Value) {w : World} {n size cap : Nat} {t : TypeId} {xs : List Value} (o : Nat), w.ownsRow 0 t size (.slice (some ⟨g, 0, none⟩) n cap) n xs →
    (w.setCells g o vs).ownsRow 0 t size (.slice (some ⟨g, 0, none⟩) n cap) n (laid xs o vs)
  | [], _, _, _, _, _, _, _, h => h
  | v :: r, _, _, _, _, _, _, o, h => stored_many r (o + 1) (h.stored o v).1
theorem scells_set {dur : List (List Nat)} {i : Nat} {s : List Nat} (hd : ∀ x ∈ dur, IsSec x) (hi : i < dur.length) (hs : IsSec s) : laid (scells dur) (i * 512) (byt s) = scells (dur.set i s) := by
  have fl : ∀ {l : List (List Nat)}, (∀ x ∈ l, IsSec x) → l.flatten.length = l.length * 512 := by
    intro l
    induction l with
    | nil => intro _; rfl
    | cons x r ih =>
      intro h
      rw [List.flatten_cons, List.length_append, ih (fun y hy => h y (List.mem_cons_of_mem _ hy)), (h x (List.mem_cons_self ..)).1, List.length_cons]
      omega
  have e1 : dur = dur.take i ++ dur[i] :: dur.drop (i + 1) := by
    rw [List.getElem_cons_drop, List.take_append_drop]
  have e2 : dur.set i s = dur.take i ++ s :: dur.drop (i + 1) := List.set_eq_take_append_cons_drop.trans (if_pos hi)
  have l1 : (dur.take i).flatten.length = i * 512 := by
    rw [fl (fun x hx => hd x (List.mem_of_mem_take hx)), List.length_take, Nat.min_eq_left (Nat.le_of_lt hi)]
  have l2 : (dur[i]).length = 512 := (hd _ (List.getElem_mem hi)).1
  have l3 : (scells dur).length = dur.length * 512 := by unfold scells; rw [byt_length, fl hd]
  have lb : (byt s).length = 512 := by rw [byt_length, hs.1]
  rw [laid_eq _ _ _ (by rw [l3, lb]; omega), e2, lb]
  unfold scells
  rw [← byt_take, ← byt_drop, ← byt_append, ← byt_append]
  congr 1
  have e3 : dur.flatten = (dur.take i).flatten ++ (dur[i] ++ (dur.drop (i + 1)).flatten) := by
    conv => lhs; rw [e1]
    rw [List.flatten_append, List.flatten_cons]
  rw [e3, List.flatten_append, List.flatten_cons, List.take_append_of_le_length (by omega), List.take_of_length_le (by omega), List.append_assoc]
  congr 2
  rw [← List.append_assoc, List.drop_append_of_le_length (by rw [List.length_append]; omega), List.drop_of_length_le (by rw [List.length_append]; omega), List.nil_append]
theorem keptBut_only (w : World) (g o : Nat) (vs : List Value) : OnlyAt w (w.setCells g o vs) (fun k => k = g) := by
  have h : ∀ (vs : List Value) (o : Nat) (w : World), OnlyAt w (w.setCells g o vs) (fun k => k = g) := by
    intro vs
    induction vs with
    | nil => intro o w; exact OnlyAt.refl _ _
    | cons v r ih => intro o w; exact (OnlyAt.setCell w g o v).trans (ih (o + 1) _)
  exact h vs o w
theorem sec_set {dur : List (List Nat)} {i : Nat} {s : List Nat} (hd : ∀ x ∈ dur, IsSec x) (hs : IsSec s) : ∀ x ∈ dur.set i s, IsSec x := fun x hx => by
  rcases List.mem_or_eq_of_mem_set hx with h | h
  · exact hd x h
  · rw [h]; exact hs
theorem row_of {w : World} {t : TypeId} {size n cap g : Nat} {xs : List Value} (h : w.ownsRow 0 t size (.slice (some ⟨g, 0, none⟩) n cap) n xs) : ∃ cur, w.heap[g]? = some (.cells cur t (0, 0)) := by
  rcases h.2 with ⟨h1, _⟩ | ⟨g2, cap2, cur, h1, _, h2, _⟩
  · cases h1
  · injection h1 with h1
    injection h1 with h1
    injection h1 with h1
    exact ⟨cur, by rw [h1]; exact h2⟩
theorem Disk.apart {w : World} {gs : Nat} {b : DB} {dur : List (List Nat)} {pend : List (Nat × List Nat)} {wr bud : Int} (h : Disk w gs b dur pend wr bud) : gs ≠ b.gd := by
  obtain ⟨cur, hcur⟩ := row_of h.du
  intro e
  have h1 := h.st
  rw [e, hcur] at h1
  injection h1 with h1
  injection h1 with _ h3
  exact absurd h3 (by decide)
/-- A sector laid into the durable row. -/
theorem Disk.put {w : World} {gs i : Nat} {b : DB} {dur : List (List Nat)} {pend : List (Nat × List Nat)} {wr bud : Int} {s : List Nat} (h : Disk w gs b dur pend wr bud) (hi : i < dur.length) (hs : IsSec s) :
    Disk (w.setCells b.gd (i * 512) (byt s)) gs b (dur.set i s) pend wr bud := by
  obtain ⟨cur, hcur⟩ := row_of h.du
  have hk := (keptBut_only w b.gd (i * 512) (byt s)).block
  have hne : gs ≠ b.gd := by
    intro e
    have h1 := h.st
    rw [e, hcur] at h1
    injection h1 with h1
    injection h1 with _ h3
    exact absurd h3 (by decide)
  have hl : (dur.set i s).length = dur.length := List.length_set
  refine ⟨?_, ?_, ?_, ?_, sec_set h.sec hs, ?_, by rw [hl]; exact h.few, h.many⟩
  · rw [hk gs h.lt hne, hl]
    exact h.st
  · rw [← scells_set h.sec hi hs, hl]
    exact stored_many _ _ h.du
  · exact row_kept h.pe hcur (by decide) hk
  · rw [hl]
    exact row_kept h.la hcur (by decide) hk
  · rw [hl]
    exact h.wri
/-- A sector's cells are there, and may be written. -/
theorem Disk.sector {w : World} {gs i : Nat} {b : DB} {dur : List (List Nat)} {pend : List (Nat × List Nat)} {wr bud : Int} {n : Nat} (h : Disk w gs b dur pend wr bud) (hi : i < dur.length) (hn : n = 512) : w.there b.gd (i * 512) n := fun j hj => by
  have hlen : (scells dur).length = dur.length * 512 := h.du.1
  refine ⟨?_, h.du.frozenAt _⟩
  rw [h.du.cellAt _ (by omega), List.getElem?_eq_getElem (by omega)]
  rfl
/-- A pending write's cells: where, and its bytes. -/
theorem Disk.write_at {w : World} {gs k g cp : Nat} {b : DB} {dur : List (List Nat)} {pend : List (Nat × List Nat)} {wr bud : Int} {p : Nat × List Nat} (h : Disk w gs b dur pend wr bud) (hk : pend[k]? = some p) (hp : b.pv = .slice (some ⟨g, 0, none⟩) pend.length cp) : w.rangeAt g (k * 513) (wcell p) := fun j v hj => by
  have hlt : k < pend.length := (List.getElem?_eq_some_iff.1 hk).1
  have wl : ∀ q ∈ pend, (wcell q).length = 513 := fun q hq => wcell_length q (h.wri q hq).2
  have hj2 : j < 513 := by
    have h1 := (List.getElem?_eq_some_iff.1 hj).1
    rw [wl p (List.mem_of_getElem? hk)] at h1
    exact h1
  have hpe := h.pe
  rw [hp] at hpe
  rw [hpe.cellAt _ (by omega)]
  have e1 : pend = pend.take k ++ p :: pend.drop (k + 1) := by
    have e0 : p = pend[k] := ((List.getElem?_eq_some_iff.1 hk).2).symm
    rw [e0, List.getElem_cons_drop, List.take_append_drop]
  have fl : ∀ {l : List (Nat × List Nat)}, (∀ x ∈ l, (wcell x).length = 513) → (wcells l).length = l.length * 513 := by
    intro l
    induction l with
    | nil => intro _; rfl
    | cons x r ih =>
      intro h
      have h2 : wcells (x :: r) = wcell x ++ wcells r := by unfold wcells; rw [List.map_cons, List.flatten_cons]
      rw [h2, List.length_append, ih (fun y hy => h y (List.mem_cons_of_mem _ hy)), h x (List.mem_cons_self ..), List.length_cons]
      omega
  have l1 : (wcells (pend.take k)).length = k * 513 := by
    rw [fl (fun x hx => wl x (List.mem_of_mem_take hx)), List.length_take, Nat.min_eq_left (Nat.le_of_lt hlt)]
  have e3 : wcells pend = wcells (pend.take k) ++ (wcell p ++ wcells (pend.drop (k + 1))) := by
    conv => lhs; rw [e1]
    unfold wcells
    rw [List.map_append, List.flatten_append, List.map_cons, List.flatten_cons]
  rw [e3, List.getElem?_append_right (by omega), l1, Nat.add_sub_cancel_left, List.getElem?_append_left (by rw [wl p (List.mem_of_getElem? hk)]; exact hj2)]
  exact hj
end Go.Proofs.Ytalpippeelomjaa
namespace Go.Proofs.Ytalpippeelomjaa
open Go.RowKit
set_option linter.unusedSimpArgs false

set_option maxRecDepth 100000 in
set_option maxHeartbeats 1000000 in
theorem clone_sec {w : World} {gd n cd : Nat} {xs : List Value} (h : w.ownsRow 0 92 512 (.slice (some ⟨gd, 0, none⟩) n cd) n xs) (h1 : ∀ u ∈ xs, u.oneCell' = true) (hn : 1 ≤ n) (hn2 : n ≤ 4096) :
    Calls Try.prog 49 #[.slice (some ⟨gd, 0, none⟩) n cd] w fun e w' => ∃ g c, e = .returned (.slice (some ⟨g, 0, none⟩) n c) ∧ w'.ownsRow w.heap.size 92 512 (.slice (some ⟨g, 0, none⟩) n c) n xs ∧ Below w.heap.size w w' := by
  obtain ⟨i0, hi0, hz0, hz1, hz2⟩ := info_parts infoSec
  have HI := Lib.hid hi0
  have H0 := Lib.hid hz0
  have H1 := Lib.hid hz1
  have H2 := Lib.hid hz2
  have hlen := h.1
  have HL := Lib.hid hlen
  have hbel : Below w.heap.size w (w.alloc (.cells #[] 92)) := (Below.refl _ _).alloc (Nat.le_refl _) _
  have hnews : ∀ j u, xs[j]? = some u → (w.alloc (.cells #[] 92)).cell? ((⟨gd, 0, none⟩ : Addr).add j) = some u := fun j u hj => by
    have hlt := (World.ownsRow.lt h gd rfl).2
    exact (hbel.cell (p := (⟨gd, 0, none⟩ : Addr).add j) (by rw [addr_add_block]; exact hlt)).trans (h.cells (g := gd) rfl j u hj)
  have HN := Lib.hid hnews
  have HO := Lib.hid h1
  have hown : (w.alloc (.cells #[] 92)).ownsRow w.heap.size 92 512 (.slice (some ⟨w.heap.size, 0, none⟩) 0 0) 0 [] :=
    ⟨rfl, .inr ⟨w.heap.size, 0, #[], rfl, Nat.le_refl _, Go.heap_alloc_new w _, Nat.le_refl _, by simp, rfl, rfl⟩⟩
  have HW := Lib.hid hown
  have Hbel := Lib.hid hbel
  have hnil : ∀ W : World, (binOp .eql 80 (.slice (some ⟨gd, 0, none⟩) n cd) (.slice none 0 0)).run Try.prog W = .ok (.bool false) W := fun W => by
    rw [Lib.run_eql_slice_nil W 80 92 _ n cd 0 0 Try.underlying80]
    rfl
  clear hi0 hz0 hz1 hz2 hlen hnews h1 hown hbel h
  go_enter Try.func49, Try.ntmps49
  go_wp2_with (at_builtin; refine wpList_append_own _ rfl _ _ 80 rfl w.heap.size 92 i0 (.agg (byt noughts).toArray) 512 512 Try.underlying80 HI.out H0.out H1.out H2.out ?a1 (by decide) _ 0 [] rfl HW.out ⟨gd, 0, none⟩ n cd xs rfl HL.out HN.out HO.out ?a2 ?a3 ?a4 ?_)
  case a1 => rw [show Value.cells (.agg (byt noughts).toArray) = (byt noughts).toArray from rfl, List.size_toArray, byt_length, noughts_length]
  case a2 => unfold maxLen; omega
  case a3 => omega
  case a4 => exact Hbel.out.size
  intro v' w2 hown2 hg2 _
  have hb2 := Hbel.out.grown hg2 Hbel.out.size (fun g hg => by
    have e : w.heap.size = g := by simpa [Value.ownBlock] using hg
    omega)
  have H3 := Lib.hid hown2
  have H4 := Lib.hid hb2
  clear hown2 hg2 hb2 hnil
  go_wp2
  go_ret
  rcases H3.out.2 with ⟨_, h0⟩ | ⟨g, cap, cur, rfl, _⟩
  · omega
  · have h5 := H3.out
    exact ⟨g, cap, by simp, h5, H4.out⟩

/-- What a crash leaves of the sectors: in order, each pending write that is kept. -/
def kept (ks : List Bool) (pend : List (Nat × List Nat)) (dur : List (List Nat)) : List (List Nat) := (ks.zip pend).foldl (fun d x => if x.1 then d.set x.2.1 x.2.2 else d) dur
theorem kept_length (ks : List Bool) (pend : List (Nat × List Nat)) (dur : List (List Nat)) : (kept ks pend dur).length = dur.length := by
  have h : ∀ (xs : List (Bool × (Nat × List Nat))) (d : List (List Nat)), (xs.foldl (fun d x => if x.1 then d.set x.2.1 x.2.2 else d) d).length = d.length := by
    intro xs
    induction xs with
    | nil => intro d; rfl
    | cons x xs ih =>
      intro d
      rw [List.foldl_cons, ih]
      split
      · rw [List.length_set]
      · rfl
  exact h _ _
theorem kept_next {ks : List Bool} {pend : List (Nat × List Nat)} {dur : List (List Nat)} {k : Nat} {b : Bool} {p : Nat × List Nat} (hb : ks[k]? = some b) (hp : pend[k]? = some p) :
    kept (ks.take (k + 1)) (pend.take (k + 1)) dur = if b then (kept (ks.take k) (pend.take k) dur).set p.1 p.2 else kept (ks.take k) (pend.take k) dur := by
  have hz : (ks.zip pend)[k]? = some (b, p) := by rw [List.getElem?_zip_eq_some]; exact ⟨hb, hp⟩
  unfold kept
  have hz2 : ∀ n, (ks.take n).zip (pend.take n) = (ks.zip pend).take n := fun n => by
    unfold List.zip
    exact List.take_zipWith.symm
  rw [hz2, hz2]
  rw [List.take_add_one, hz, List.foldl_append]
  rfl
theorem kept_all (ks : List Bool) (pend : List (Nat × List Nat)) (dur : List (List Nat)) : kept (ks.take (lesser ks.length pend.length)) (pend.take (lesser ks.length pend.length)) dur = kept ks pend dur := by
  have e : lesser ks.length pend.length = min ks.length pend.length := by unfold lesser; split <;> omega
  unfold kept
  rw [e, ← List.zip_eq_zip_take_min]
/-- The kept list as a slice of bools. -/
structure Flags (w : World) (v : Value) (ks : List Bool) : Prop where
  form : ∃ A c, v = .slice A ks.length c ∧ Lies w w.heap.size A (ks.map Value.bool)

theorem crash_keep {x : World} {gs2 gs gp g o1 o2 o : Nat} {v1 v2 v3 : Value} {s vs : List Value} (h : x.cell? ⟨gs2, 0, none⟩ = some v1 ∧ x.cell? ⟨gs, 1, none⟩ = some v2 ∧ x.cell? ⟨gp, o1, none⟩ = some v3 ∧ x.rangeAt gp (o1 + 1) s ∧ x.there g o2 s.length)
    (n1 : gs2 ≠ g) (n2 : gs ≠ g) (n3 : gp ≠ g) : (x.setCells g o vs).cell? ⟨gs2, 0, none⟩ = some v1 ∧ (x.setCells g o vs).cell? ⟨gs, 1, none⟩ = some v2 ∧ (x.setCells g o vs).cell? ⟨gp, o1, none⟩ = some v3 ∧ (x.setCells g o vs).rangeAt gp (o1 + 1) s ∧ (x.setCells g o vs).there g o2 s.length :=
  have k : ∀ (a i : Nat), a ≠ g → (x.setCells g o vs).cell? ⟨a, i, none⟩ = x.cell? ⟨a, i, none⟩ := fun a i ha => World.cell?_setCells_out g vs o x ⟨a, i, none⟩ fun e => absurd e ha
  ⟨(k _ _ n1).trans h.1, (k _ _ n2).trans h.2.1, (k _ _ n3).trans h.2.2.1, World.rangeAt_setCells_apart h.2.2.2.1 _ _ _ (.inl n3), World.there_setCells h.2.2.2.2 _ _ _⟩
/-- At the head of each round of the crash: the sectors with the kept ones of the first k. -/
def CrashR (w : World) (gs2 : Nat) (b2 : DB) (ks : List Bool) (pend : List (Nat × List Nat)) (dur : List (List Nat)) (t : Value) (x : World) : Prop :=
  ∃ k : Nat, k ≤ lesser ks.length pend.length ∧ t = .int .i64 (k : Int) ∧ Disk x gs2 b2 (kept (ks.take k) (pend.take k) dur) [] 0 (-1) ∧ Below w.heap.size w x
set_option maxRecDepth 100000 in
set_option maxHeartbeats 2000000 in
theorem crash_any {w : World} {gs : Nat} {b : DB} {dur : List (List Nat)} {pend : List (Nat × List Nat)} {wr bud : Int} (h : Disk w gs b dur pend wr bud) (kv : Value) (ks : List Bool) (hk : Flags w kv ks) :
    Calls Try.prog 14 #[.pointer (some ⟨gs, 0, none⟩), kv] w fun e w' => ∃ gs2 b2, e = .returned (.tuple #[.pointer (some ⟨gs2, 0, none⟩), .int .i64 0]) ∧ Disk w' gs2 b2 (kept ks pend dur) [] 0 (-1) ∧
      w.heap.size ≤ gs2 ∧ w.heap.size ≤ b2.gd ∧ w.heap.size ≤ b2.gl ∧ b2.pv = .slice none 0 0 ∧ Below w.heap.size w w' := by
  obtain ⟨A, c, rfl, hfl⟩ := hk.form
  have HF := Lib.hid hfl
  have HD := Lib.hid h
  have c0 := h.c0
  have c1 := h.c1
  have hgs := h.lt
  obtain ⟨P, cp, hpv⟩ : ∃ P cp, b.pv = .slice P pend.length cp := by
    rcases h.pe.2 with ⟨h1, h0⟩ | ⟨g, cap, cur, h1, _⟩
    · exact ⟨none, 0, by rw [h1, h0]⟩
    · exact ⟨some ⟨g, 0, none⟩, cap, h1⟩
  rw [hpv] at c1
  have hmin := run_lesser
  have HC := hide (clone_sec h.du (one_byt _) h.few.1 h.few.2)
  clear hfl h hk
  go_enter Try.func14, Try.ntmps14
  go_wp2_with (first
    | (go_at_call 49; (with_reducible refine (unhide HC).mono ?_); rintro e w1 ⟨g1, cc1, rfl, hd1, hb1⟩; have HS := hide (start_any w1 g1 cc1 dur.length dur rfl (down_lower hd1 (Nat.zero_le _)) HD.out.sec HD.out.few))
    | (go_at_call 44; (with_reducible refine (unhide HS).mono ?_); rintro e w2 ⟨gs2, b2, rfl, hD2, hgs2, hgd2, hcd2, hgl2, hpv2, hb2⟩; have c3 := (hb2.cell (p := ⟨gs, 1, none⟩) (Nat.lt_of_lt_of_le hgs hb1.size)).trans ((hb1.cell (p := ⟨gs, 1, none⟩) hgs).trans c1)))
  have hb := hb1.trans (hb2.mono hb1.size)
  have h0 : Disk w2 gs2 b2 (kept (ks.take 0) (pend.take 0) dur) [] 0 (-1) := hD2
  have HD2 := Lib.hid h0
  have HB := Lib.hid hb
  have hsz := hb1.size
  clear hD2 h0 hb
  have HPV := Lib.hid hpv
  have hgd : w.heap.size ≤ b2.gd := by rw [hgd2]; exact (World.ownsRow.lt hd1 g1 rfl).1
  have HGD := Lib.hid hgd
  have HQ := Lib.hid hpv2
  have hgs3 : w.heap.size ≤ gs2 := Nat.le_trans hsz hgs2
  have hgl3 : w.heap.size ≤ b2.gl := Nat.le_trans hsz hgl2
  clear hgd hgd2 hcd2 hpv2 hpv HC HS hd1 hgs2 hgl2
  go_loopw [24] (fun t x => CrashR w gs2 b2 ks pend dur t x) (fun t _ => lesser ks.length pend.length - (intOf t).toNat)
  case atStart => exact ⟨0, Nat.zero_le _, rfl, HD2.out, HB.out⟩
  case round =>
    obtain ⟨k, hk, rfl, hD, hB⟩ := hrel
    by_cases hlt : k < lesser ks.length pend.length
    · have hlk : k < ks.length := by unfold lesser at hlt; split at hlt <;> omega
      have hlp : k < pend.length := by unfold lesser at hlt; split at hlt <;> omega
      obtain ⟨f, hf⟩ : ∃ f, ks[k]? = some f := ⟨_, List.getElem?_eq_getElem hlk⟩
      obtain ⟨p, hp⟩ : ∃ p, pend[k]? = some p := ⟨_, List.getElem?_eq_getElem hlp⟩
      obtain ⟨ad, hA, hbb, hc0⟩ := HF.out k (.bool f) (by rw [List.getElem?_map, hf]; rfl)
      subst hA
      have hc := (hB.cell (p := ad.add k) (by rw [addr_add_block]; exact hbb)).trans hc0
      have hmany := HD.out.many
      have hnext := kept_next (dur := dur) hf hp
      have HN := Lib.hid hnext
      have HK := Lib.hid hp
      clear hf hp hbb hc0 hnext hmin
      rcases f with _ | _
      · go_wp2
        go_roundw
        case rel => exact ⟨k + 1, by omega, by go_num, by rw [HN.out]; exact hD, hB⟩
        case measure => simp [intOf]; omega
      · obtain ⟨gp, hP⟩ : ∃ gp, P = some ⟨gp, 0, none⟩ := by
          rcases HD.out.pe.2 with ⟨_, h0⟩ | ⟨g, cap, cur, h1, _⟩
          · omega
          · rw [HPV.out] at h1
            injection h1 with h1
            exact ⟨g, h1⟩
        subst hP
        have hwri := HD.out.wri p (List.mem_of_getElem? HK.out)
        have hkl := kept_length (ks.take k) (pend.take k) dur
        have d0 : wr.cell? ⟨gs2, 0, none⟩ = some (.slice (some ⟨b2.gd, 0, none⟩) dur.length b2.cd) := by rw [hD.c0, hkl]
        have hgp : gp < w.heap.size := by
          obtain ⟨cur, hcur⟩ := row_of (by have h1 := HD.out.pe; rw [HPV.out] at h1; exact h1)
          exact (Array.getElem?_eq_some_iff.1 hcur).1
        have d1 : wr.cell? ⟨gs, 1, none⟩ = some (.slice (some ⟨gp, 0, none⟩) pend.length cp) := (hB.cell (p := ⟨gs, 1, none⟩) hgs).trans c1
        have hrg : wr.rangeAt gp (k * 513) (wcell p) := range_below (HD.out.write_at HK.out HPV.out) hB hgp
        have d2 : wr.cell? ⟨gp, k * 513, none⟩ = some (.int .i64 (p.1 : Int)) := hrg 0 _ rfl
        have d3 : wr.rangeAt gp (k * 513 + 1) (byt p.2) := fun j v hj => by
          rw [Nat.add_assoc, Nat.add_comm 1 j]
          exact hrg (j + 1) v hj
        have hbl : (byt p.2).length = 512 := by rw [byt_length, hwri.2.1]
        have d4 : wr.there b2.gd (p.1 * 512) (byt p.2).length := hD.sector (by rw [hkl]; exact hwri.1) hbl
        have hone := one_byt p.2
        have hinfo : (Try.prog.info? 92).map (·.size) = some (byt p.2).length := by rw [hbl]; kernel_rfl
        have hund := Try.underlying92
        have i0 : (0 : Int) ≤ (k : Int) := by omega
        have i1 : (k : Int) < (pend.length : Int) := by omega
        have i2 : (0 : Int) ≤ (p.1 : Int) := by omega
        have i3 : (p.1 : Int) < (dur.length : Int) := by have := hwri.1; omega
        have n1 : gs2 ≠ b2.gd := hD.apart
        have n2 : gs ≠ b2.gd := by have := HGD.out; omega
        have n3 : gp ≠ b2.gd := by have := HGD.out; omega
        obtain ⟨s, hs⟩ : ∃ s, s = byt p.2 := ⟨_, rfl⟩
        rw [← hs] at d3 d4 hone hinfo hbl
        go_wp2
        go_region_held3 (fun w' => w'.cell? ⟨gs2, 0, none⟩ = some (.slice (some ⟨b2.gd, 0, none⟩) dur.length b2.cd) ∧ w'.cell? ⟨gs, 1, none⟩ = some (.slice (some ⟨gp, 0, none⟩) pend.length cp) ∧ w'.cell? ⟨gp, k * 513, none⟩ = some (.int .i64 (p.1 : Int)) ∧ w'.rangeAt gp (k * 513 + 1) s ∧ w'.there b2.gd (p.1 * 512) s.length) (first | (exact crash_keep (by assumption) n1 n2 n3) | (go_keep_ranges)) (fail)
        go_wp2
        go_roundw
        case rel => exact ⟨k + 1, by omega, by go_num, by rw [HN.out, if_pos trivial]; exact hD.drew.put (by rw [hkl]; exact hwri.1) hwri.2, hB.drew.trans ((keptBut_only _ _ _ _).below (fun j hj => by rw [hj]; exact HGD.out) hB.size)⟩
        case measure => simp [intOf]; omega
    · obtain rfl : k = lesser ks.length pend.length := by omega
      go_wp2
      go_ret2
      rw [kept_all] at hD
      exact ⟨gs2, b2, rfl, hD, hgs3, HGD.out, hgl3, HQ.out, hB⟩
end Go.Proofs.Ytalpippeelomjaa
