/- Contracts: what Crash leaves: another disk, of what was durable and, in order, of the pending writes that are kept. -/
import Derived.Test.YtmhhcblgeellnaaPut
import Derived.WalkSpells
import Derived.BigRegion
import Derived.Deep.RegionHeld3
import Derived.Deep.MidRow
namespace Go.Proofs.Ytmhhcblgeellnaa
open Go.RowKit
set_option linter.unusedSimpArgs false

set_option maxRecDepth 100000 in
set_option maxHeartbeats 1000000 in
theorem clone_sec {w : World} {gd n cd : Nat} {xs : List Value} (h : w.ownsRow 0 72 512 (.slice (some ⟨gd, 0, none⟩) n cd) n xs) (h1 : ∀ u ∈ xs, u.oneCell' = true) (hn : 1 ≤ n) (hn2 : n ≤ 4096) :
    Calls Try.prog 32 #[.slice (some ⟨gd, 0, none⟩) n cd] w fun e w' => ∃ g c, e = .returned (.slice (some ⟨g, 0, none⟩) n c) ∧ w'.ownsRow w.heap.size 72 512 (.slice (some ⟨g, 0, none⟩) n c) n xs ∧ Below w.heap.size w w' := by
  obtain ⟨i0, hi0, hz0, hz1, hz2⟩ := info_parts infoSec
  have HI := Lib.hid hi0
  have H0 := Lib.hid hz0
  have H1 := Lib.hid hz1
  have H2 := Lib.hid hz2
  have hlen := h.1
  have HL := Lib.hid hlen
  have hbel : Below w.heap.size w (w.alloc (.cells #[] 72)) := (Below.refl _ _).alloc (Nat.le_refl _) _
  have hnews : ∀ j u, xs[j]? = some u → (w.alloc (.cells #[] 72)).cell? ((⟨gd, 0, none⟩ : Addr).add j) = some u := fun j u hj => by
    have hlt := (World.ownsRow.lt h gd rfl).2
    exact (hbel.cell (p := (⟨gd, 0, none⟩ : Addr).add j) (by rw [addr_add_block]; exact hlt)).trans (h.cells (g := gd) rfl j u hj)
  have HN := Lib.hid hnews
  have HO := Lib.hid h1
  have hown : (w.alloc (.cells #[] 72)).ownsRow w.heap.size 72 512 (.slice (some ⟨w.heap.size, 0, none⟩) 0 0) 0 [] :=
    ⟨rfl, .inr ⟨w.heap.size, 0, #[], rfl, Nat.le_refl _, Go.heap_alloc_new w _, Nat.le_refl _, by simp, rfl, rfl⟩⟩
  have HW := Lib.hid hown
  have Hbel := Lib.hid hbel
  have hnil : ∀ W : World, (binOp .eql 61 (.slice (some ⟨gd, 0, none⟩) n cd) (.slice none 0 0)).run Try.prog W = .ok (.bool false) W := fun W => by
    rw [Lib.run_eql_slice_nil W 61 72 _ n cd 0 0 Try.underlying61]
    rfl
  clear hi0 hz0 hz1 hz2 hlen hnews h1 hown hbel h
  go_enter Try.func32, Try.ntmps32
  go_wp2_with (at_builtin; refine wpList_append_own _ rfl _ _ 61 rfl w.heap.size 72 i0 (.agg (byt noughts).toArray) 512 512 Try.underlying61 HI.out H0.out H1.out H2.out ?a1 (by decide) _ 0 [] rfl HW.out ⟨gd, 0, none⟩ n cd xs rfl HL.out HN.out HO.out ?a2 ?a3 ?a4 ?_)
  case a1 => rw [show Value.cells (.agg (byt noughts).toArray) = (byt noughts).toArray from rfl, List.size_toArray, byt_length, noughts_length]
  case a2 => unfold maxLen; omega
  case a3 => omega
  case a4 => exact Hbel.out.size
  intro v' w2 hown2 hg2 _
  have hb2 := Hbel.out.grown hg2 Hbel.out.size (fun g hg => by
    have e : w.heap.size = g := by simpa [Value.ownBlock] using hg
    omega)
  have H3 := Lib.hid hown2
  have H4 := Lib.hid hb2
  clear hown2 hg2 hb2 hnil
  go_wp2
  go_ret
  rcases H3.out.2 with ⟨_, h0⟩ | ⟨g, cap, cur, rfl, _⟩
  · omega
  · have h5 := H3.out
    exact ⟨g, cap, by simp, h5, H4.out⟩

/-- What a crash leaves of the sectors: in order, each pending write that is kept. -/
def kept (ks : List Bool) (pend : List (Nat × List Nat)) (dur : List (List Nat)) : List (List Nat) := (ks.zip pend).foldl (fun d x => if x.1 then d.set x.2.1 x.2.2 else d) dur
theorem kept_length (ks : List Bool) (pend : List (Nat × List Nat)) (dur : List (List Nat)) : (kept ks pend dur).length = dur.length := by
  have h : ∀ (xs : List (Bool × (Nat × List Nat))) (d : List (List Nat)), (xs.foldl (fun d x => if x.1 then d.set x.2.1 x.2.2 else d) d).length = d.length := by
    intro xs
    induction xs with
    | nil => intro d; rfl
    | cons x xs ih =>
      intro d
      rw [List.foldl_cons, ih]
      split
      · rw [List.length_set]
      · rfl
  exact h _ _
theorem kept_next {ks : List Bool} {pend : List (Nat × List Nat)} {dur : List (List Nat)} {k : Nat} {b : Bool} {p : Nat × List Nat} (hb : ks[k]? = some b) (hp : pend[k]? = some p) :
    kept (ks.take (k + 1)) (pend.take (k + 1)) dur = if b then (kept (ks.take k) (pend.take k) dur).set p.1 p.2 else kept (ks.take k) (pend.take k) dur := by
  have hz : (ks.zip pend)[k]? = some (b, p) := by rw [List.getElem?_zip_eq_some]; exact ⟨hb, hp⟩
  unfold kept
  have hz2 : ∀ n, (ks.take n).zip (pend.take n) = (ks.zip pend).take n := fun n => by
    unfold List.zip
    exact List.take_zipWith.symm
  rw [hz2, hz2]
  rw [List.take_add_one, hz, List.foldl_append]
  rfl
theorem kept_all (ks : List Bool) (pend : List (Nat × List Nat)) (dur : List (List Nat)) : kept (ks.take (lesser ks.length pend.length)) (pend.take (lesser ks.length pend.length)) dur = kept ks pend dur := by
  have e : lesser ks.length pend.length = min ks.length pend.length := by unfold lesser; split <;> omega
  unfold kept
  rw [e, ← List.zip_eq_zip_take_min]
/-- The kept list as a slice of bools. -/
structure Flags (w : World) (v : Value) (ks : List Bool) : Prop where
  form : ∃ A c, v = .slice A ks.length c ∧ Lies w w.heap.size A (ks.map Value.bool)

theorem crash_keep {x : World} {gs2 gs gp g o1 o2 o : Nat} {v1 v2 v3 : Value} {s vs : List Value} (h : x.cell? ⟨gs2, 0, none⟩ = some v1 ∧ x.cell? ⟨gs, 1, none⟩ = some v2 ∧ x.cell? ⟨gp, o1, none⟩ = some v3 ∧ x.rangeAt gp (o1 + 1) s ∧ x.there g o2 s.length)
    (n1 : gs2 ≠ g) (n2 : gs ≠ g) (n3 : gp ≠ g) : (x.setCells g o vs).cell? ⟨gs2, 0, none⟩ = some v1 ∧ (x.setCells g o vs).cell? ⟨gs, 1, none⟩ = some v2 ∧ (x.setCells g o vs).cell? ⟨gp, o1, none⟩ = some v3 ∧ (x.setCells g o vs).rangeAt gp (o1 + 1) s ∧ (x.setCells g o vs).there g o2 s.length :=
  have k : ∀ (a i : Nat), a ≠ g → (x.setCells g o vs).cell? ⟨a, i, none⟩ = x.cell? ⟨a, i, none⟩ := fun a i ha => World.cell?_setCells_out g vs o x ⟨a, i, none⟩ fun e => absurd e ha
  ⟨(k _ _ n1).trans h.1, (k _ _ n2).trans h.2.1, (k _ _ n3).trans h.2.2.1, World.rangeAt_setCells_apart h.2.2.2.1 _ _ _ (.inl n3), World.there_setCells h.2.2.2.2 _ _ _⟩
/-- At the head of each round of the crash: the sectors with the kept ones of the first k. -/
def CrashR (w : World) (gs2 : Nat) (b2 : DB) (ks : List Bool) (pend : List (Nat × List Nat)) (dur : List (List Nat)) (t : Value) (x : World) : Prop :=
  ∃ k : Nat, k ≤ lesser ks.length pend.length ∧ t = .int .i64 (k : Int) ∧ Disk x gs2 b2 (kept (ks.take k) (pend.take k) dur) [] 0 (-1) ∧ Below w.heap.size w x
set_option maxRecDepth 100000 in
set_option maxHeartbeats 2000000 in
theorem crash_any {w : World} {gs : Nat} {b : DB} {dur : List (List Nat)} {pend : List (Nat × List Nat)} {wr bud : Int} (h : Disk w gs b dur pend wr bud) (kv : Value) (ks : List Bool) (hk : Flags w kv ks) :
    Calls Try.prog 20 #[.pointer (some ⟨gs, 0, none⟩), kv] w fun e w' => ∃ gs2 b2, e = .returned (.tuple #[.pointer (some ⟨gs2, 0, none⟩), .int .i64 0]) ∧ Disk w' gs2 b2 (kept ks pend dur) [] 0 (-1) ∧
      w.heap.size ≤ gs2 ∧ w.heap.size ≤ b2.gd ∧ w.heap.size ≤ b2.gl ∧ b2.pv = .slice none 0 0 ∧ Below w.heap.size w w' := by
  obtain ⟨A, c, rfl, hfl⟩ := hk.form
  have HF := Lib.hid hfl
  have HD := Lib.hid h
  have c0 := h.c0
  have c1 := h.c1
  have hgs := h.lt
  obtain ⟨P, cp, hpv⟩ : ∃ P cp, b.pv = .slice P pend.length cp := by
    rcases h.pe.2 with ⟨h1, h0⟩ | ⟨g, cap, cur, h1, _⟩
    · exact ⟨none, 0, by rw [h1, h0]⟩
    · exact ⟨some ⟨g, 0, none⟩, cap, h1⟩
  rw [hpv] at c1
  have hmin := run_lesser
  have HC := hide (clone_sec h.du (one_byt _) h.few.1 h.few.2)
  clear hfl h hk
  go_enter Try.func20, Try.ntmps20
  go_wp2_with (first
    | (go_at_call 32; (with_reducible refine (unhide HC).mono ?_); rintro e w1 ⟨g1, cc1, rfl, hd1, hb1⟩; have HS := hide (start_any w1 g1 cc1 dur.length dur rfl (own_lower hd1 (Nat.zero_le _)) HD.out.sec HD.out.few))
    | (go_at_call 28; (with_reducible refine (unhide HS).mono ?_); rintro e w2 ⟨gs2, b2, rfl, hD2, hgs2, hgd2, hcd2, hgl2, hpv2, hb2⟩; have c3 := (hb2.cell (p := ⟨gs, 1, none⟩) (Nat.lt_of_lt_of_le hgs hb1.size)).trans ((hb1.cell (p := ⟨gs, 1, none⟩) hgs).trans c1)))
  have hb := hb1.trans (hb2.mono hb1.size)
  have h0 : Disk w2 gs2 b2 (kept (ks.take 0) (pend.take 0) dur) [] 0 (-1) := hD2
  have HD2 := Lib.hid h0
  have HB := Lib.hid hb
  have hsz := hb1.size
  clear hD2 h0 hb
  have HPV := Lib.hid hpv
  have hgd : w.heap.size ≤ b2.gd := by rw [hgd2]; exact (World.ownsRow.lt hd1 g1 rfl).1
  have HGD := Lib.hid hgd
  have HQ := Lib.hid hpv2
  have hgs3 : w.heap.size ≤ gs2 := Nat.le_trans hsz hgs2
  have hgl3 : w.heap.size ≤ b2.gl := Nat.le_trans hsz hgl2
  clear hgd hgd2 hcd2 hpv2 hpv HC HS hd1 hgs2 hgl2
  go_loopw [24] (fun t x => CrashR w gs2 b2 ks pend dur t x) (fun t _ => lesser ks.length pend.length - (intOf t).toNat)
  case atStart => exact ⟨0, Nat.zero_le _, rfl, HD2.out, HB.out⟩
  case round =>
    obtain ⟨k, hk, rfl, hD, hB⟩ := hrel
    by_cases hlt : k < lesser ks.length pend.length
    · have hlk : k < ks.length := by unfold lesser at hlt; split at hlt <;> omega
      have hlp : k < pend.length := by unfold lesser at hlt; split at hlt <;> omega
      obtain ⟨f, hf⟩ : ∃ f, ks[k]? = some f := ⟨_, List.getElem?_eq_getElem hlk⟩
      obtain ⟨p, hp⟩ : ∃ p, pend[k]? = some p := ⟨_, List.getElem?_eq_getElem hlp⟩
      obtain ⟨ad, hA, hbb, hc0⟩ := HF.out k (.bool f) (by rw [List.getElem?_map, hf]; rfl)
      subst hA
      have hc := (hB.cell (p := ad.add k) (by rw [addr_add_block]; exact hbb)).trans hc0
      have hmany := HD.out.many
      have hnext := kept_next (dur := dur) hf hp
      have HN := Lib.hid hnext
      have HK := Lib.hid hp
      clear hf hp hbb hc0 hnext hmin
      rcases f with _ | _
      · go_wp2
        go_roundw
        case rel => exact ⟨k + 1, by omega, by go_num, by rw [HN.out]; exact hD, hB⟩
        case measure => simp [intOf]; omega
      · obtain ⟨gp, hP⟩ : ∃ gp, P = some ⟨gp, 0, none⟩ := by
          rcases HD.out.pe.2 with ⟨_, h0⟩ | ⟨g, cap, cur, h1, _⟩
          · omega
          · rw [HPV.out] at h1
            injection h1 with h1
            exact ⟨g, h1⟩
        subst hP
        have hwri := HD.out.wri p (List.mem_of_getElem? HK.out)
        have hkl := kept_length (ks.take k) (pend.take k) dur
        have d0 : wr.cell? ⟨gs2, 0, none⟩ = some (.slice (some ⟨b2.gd, 0, none⟩) dur.length b2.cd) := by rw [hD.c0, hkl]
        have hgp : gp < w.heap.size := by
          obtain ⟨cur, hcur⟩ := row_of (by have h1 := HD.out.pe; rw [HPV.out] at h1; exact h1)
          exact (Array.getElem?_eq_some_iff.1 hcur).1
        have d1 : wr.cell? ⟨gs, 1, none⟩ = some (.slice (some ⟨gp, 0, none⟩) pend.length cp) := (hB.cell (p := ⟨gs, 1, none⟩) hgs).trans c1
        have hrg : wr.rangeAt gp (k * 513) (wcell p) := range_below (HD.out.write_at HK.out HPV.out) hB hgp
        have d2 : wr.cell? ⟨gp, k * 513, none⟩ = some (.int .i64 (p.1 : Int)) := hrg 0 _ rfl
        have d3 : wr.rangeAt gp (k * 513 + 1) (byt p.2) := fun j v hj => by
          rw [Nat.add_assoc, Nat.add_comm 1 j]
          exact hrg (j + 1) v hj
        have hbl : (byt p.2).length = 512 := by rw [byt_length, hwri.2.1]
        have d4 : wr.there b2.gd (p.1 * 512) (byt p.2).length := hD.sector (by rw [hkl]; exact hwri.1) hbl
        have hone := one_byt p.2
        have hinfo : (Try.prog.info? 72).map (·.size) = some (byt p.2).length := by rw [hbl]; kernel_rfl
        have hund := Try.underlying72
        have i0 : (0 : Int) ≤ (k : Int) := by omega
        have i1 : (k : Int) < (pend.length : Int) := by omega
        have i2 : (0 : Int) ≤ (p.1 : Int) := by omega
        have i3 : (p.1 : Int) < (dur.length : Int) := by have := hwri.1; omega
        have n1 : gs2 ≠ b2.gd := hD.apart
        have n2 : gs ≠ b2.gd := by have := HGD.out; omega
        have n3 : gp ≠ b2.gd := by have := HGD.out; omega
        obtain ⟨s, hs⟩ : ∃ s, s = byt p.2 := ⟨_, rfl⟩
        rw [← hs] at d3 d4 hone hinfo hbl
        go_wp2
        go_region_held3 (fun w' => w'.cell? ⟨gs2, 0, none⟩ = some (.slice (some ⟨b2.gd, 0, none⟩) dur.length b2.cd) ∧ w'.cell? ⟨gs, 1, none⟩ = some (.slice (some ⟨gp, 0, none⟩) pend.length cp) ∧ w'.cell? ⟨gp, k * 513, none⟩ = some (.int .i64 (p.1 : Int)) ∧ w'.rangeAt gp (k * 513 + 1) s ∧ w'.there b2.gd (p.1 * 512) s.length) (first | (exact crash_keep (by assumption) n1 n2 n3) | (go_keep_ranges)) (fail)
        go_wp2
        go_roundw
        case rel => exact ⟨k + 1, by omega, by go_num, by rw [HN.out, if_pos trivial]; exact hD.drew.put (by rw [hkl]; exact hwri.1) hwri.2, hB.drew.trans ((keptBut_only _ _ _ _).below (fun j hj => by rw [hj]; exact HGD.out) hB.size)⟩
        case measure => simp [intOf]; omega
    · obtain rfl : k = lesser ks.length pend.length := by omega
      go_wp2
      go_ret2
      rw [kept_all] at hD
      exact ⟨gs2, b2, rfl, hD, hgs3, HGD.out, hgl3, HQ.out, hB⟩
end Go.Proofs.Ytmhhcblgeellnaa