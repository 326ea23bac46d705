/- The walk of the law DiskOrders: it answers true for every list of texts and of flags, and writes nothing that was there. -/
import Derived.Test.YtnpbjmanjnkeaaaWait
import Derived.Test.YtnpbjmanjnkeaaaSame
import Derived.RegionTactic
import Derived.ChangeAlike
import Derived.OpenShut
import Derived.Deep.DeepCutAuto
namespace Go.Proofs.Ytnpbjmanjnkeaaa
open Go.RowKit
set_option linter.unusedSimpArgs false
set_option linter.unusedVariables false

theorem kept_snoc (ks : List Bool) (pend : List (Nat × List Nat)) (p : Nat × List Nat) (dur : List (List Nat)) :
    kept ks (pend ++ [p]) dur = if ks[pend.length]? = some true then (kept ks pend dur).set p.1 p.2 else kept ks pend dur := by
  induction pend generalizing ks dur with
  | nil =>
    rcases ks with _ | ⟨f, t⟩
    · simp [kept]
    · cases f <;> simp [kept]
  | cons q r ih =>
    rcases ks with _ | ⟨f, t⟩
    · simp [kept]
    · exact ih t _
theorem kept_off {ks : List Bool} {pend : List (Nat × List Nat)} {dur : List (List Nat)} {i : Nat} (h : ∀ p ∈ pend, p.1 ≠ i) : (kept ks pend dur)[i]? = dur[i]? := by
  induction pend generalizing ks dur with
  | nil =>
    rcases ks with _ | ⟨f, t⟩ <;> simp [kept]
  | cons q r ih =>
    rcases ks with _ | ⟨f, t⟩
    · simp [kept]
    · have h2 := ih (ks := t) (dur := if f then dur.set q.1 q.2 else dur) (fun p hp => h p (List.mem_cons_of_mem _ hp))
      refine h2.trans ?_
      cases f
      · rfl
      · exact List.getElem?_set_ne (h q (List.mem_cons_self ..))
theorem Flags.along {w w' : World} {v : Value} {ks : List Bool} (h : Flags w v ks) (hb : Below w.heap.size w w') : Flags w' v ks := by
  obtain ⟨A, c, rfl, hl⟩ := h.form
  exact ⟨A, c, rfl, (hl.below hb).up hb.size⟩
theorem orders_far {x y : World} {B gs : Nat} {b : DB} (ho : OnlyAt x y (fun k => k = gs ∨ k = b.gl ∨ some k = b.pv.ownBlock)) (h1 : B ≤ gs) (h2 : B ≤ b.gl) (h3 : ∀ g, b.pv.ownBlock = some g → B ≤ g) (hB : B ≤ x.heap.size) : Below B x y :=
  ho.below (fun k hk => by
    rcases hk with h | h | h
    · omega
    · omega
    · exact h3 k h.symm) hB
theorem waiting_len2 {w : World} {gs : Nat} {b : DB} {dur : List (List Nat)} {pend : List (Nat × List Nat)} {nw bud : Int} (h : Disk w gs b dur pend nw bud) (n : Nat) (hn : pend.length = n) :
    Calls Try.prog 23 #[.pointer (some ⟨gs, 0, none⟩)] w fun e w' => ∃ g c, e = .returned (.slice (some ⟨g, 0, none⟩) n c) ∧ Below w.heap.size w w' :=
  (waiting_any h).mono fun e w' hh => by
    obtain ⟨g, c, h1, _, h3⟩ := hh
    rw [hn] at h1
    exact ⟨g, c, h1, h3⟩
theorem mine_zero (w : World) : Mine (w.alloc (.cells (byt noughts).toArray 5)) w.heap.size (some ⟨w.heap.size, 0, none⟩) 512 512 noughts := by
  have hl : (byt noughts).length = 512 := by rw [byt_length, noughts_length]
  refine ⟨⟨by rw [hl], .inr ⟨w.heap.size, 512, (byt noughts).toArray, rfl, Nat.le_refl _, Go.heap_alloc_new w _, Nat.le_refl _, ?_, ?_, ?_⟩⟩, noughts_length.symm, noughts_small⟩
  all_goals first
    | (rw [List.size_toArray, hl])
    | (rw [List.take_of_length_le (by rw [hl]; omega)])
    | (simp [hl]; done)
    | (exact fun v hv => one_byt noughts v (by simpa using hv))
    | (unfold maxLen; omega)

/-- The writes of the first k texts. -/
def wrts (ls : List (List Nat)) (k : Nat) : List (Nat × List Nat) := (ls.take k).map fun l => (1, full l)
theorem wrts_next {ls : List (List Nat)} {k : Nat} {l : List Nat} (h : ls[k]? = some l) : wrts ls (k + 1) = wrts ls k ++ [(1, full l)] := by
  unfold wrts
  rw [List.take_add_one, h, List.map_append]
  rfl
theorem wrts_length {ls : List (List Nat)} {k : Nat} (h : k ≤ ls.length) : (wrts ls k).length = k := by
  unfold wrts
  rw [List.length_map, List.length_take]; omega
theorem wrts_one (ls : List (List Nat)) (k : Nat) : ∀ p ∈ wrts ls k, p.1 = 1 := fun p hp => by
  obtain ⟨l, _, rfl⟩ := List.mem_map.1 hp
  rfl
def two : List (List Nat) := [noughts, noughts]
/-- At the head of each round of DiskOrders: the first k texts were written; 'want' is what a crash leaves of them, 'last' the last one. -/
structure OrdI (W x : World) (base gs : Nat) (ls : List (List Nat)) (ks : List Bool) (k : Nat) (b : DB) (Aw Al : Option Addr) (cw cl : Nat) (sw sl : List Nat) : Prop where
  disk : Disk x gs b two (wrts ls k) (k : Int) (-1)
  keep : (kept ks (wrts ls k) two)[1]? = some sw
  last : (applied (wrts ls k) two)[1]? = some sl
  mw : Mine x base Aw 512 cw sw
  ml : Mine x base Al 512 cl sl
  gd : W.heap.size ≤ b.gd
  gl : W.heap.size ≤ b.gl
  pv : ∀ g, b.pv.ownBlock = some g → W.heap.size ≤ g
  bel : Below W.heap.size W x
def OrdR (W : World) (base gs n : Nat) (ls : List (List Nat)) (ks : List Bool) (vw vl t : Value) (x : World) : Prop :=
  ∃ (k : Nat) (b : DB) (Aw Al : Option Addr) (cw cl : Nat) (sw sl : List Nat), k ≤ n ∧ k ≤ 8 ∧ t = .int .i64 (k : Int) ∧ vw = .slice Aw 512 cw ∧ vl = .slice Al 512 cl ∧ OrdI W x base gs ls ks k b Aw Al cw cl sw sl
theorem ordI_next {W x x5 x6 : World} {base gs k : Nat} {ls : List (List Nat)} {ks : List Bool} {b b2 : DB} {Aw Al A5 : Option Addr} {cw cl c5 : Nat} {sw sl l : List Nat} (h : OrdI W x base gs ls ks k b Aw Al cw cl sw sl) (hW : W.heap.size ≤ gs) (hbase : base ≤ x.heap.size)
    (hl : ls[k]? = some l) (hM : Mine x5 x.heap.size A5 512 c5 (full l)) (h5 : Below x.heap.size x x5)
    (w1 : Disk x6 gs b2 two (wrts ls k ++ [(1, full l)]) ((k : Int) + 1) (less (-1))) (e1 : b2.gd = b.gd) (e3 : b2.gl = b.gl) (e5 : b2.pv.ownBlock = b.pv.ownBlock ∨ ∃ g, b2.pv.ownBlock = some g ∧ x5.heap.size ≤ g)
    (ho : OnlyAt x5 x6 (fun k => k = gs ∨ k = b.gl ∨ some k = b.pv.ownBlock)) (flag : Bool) (hf : ks[k]? = some true ↔ flag = true) :
    OrdI W x6 base gs ls ks (k + 1) b2 (if flag then A5 else Aw) A5 (if flag then c5 else cw) c5 (if flag then full l else sw) (full l) := by
  have hkl : (wrts ls k).length = k := wrts_length (by have := (List.getElem?_eq_some_iff.1 hl).1; omega)
  have hD5 := h.disk.below h5
  have far := orders_far (B := W.heap.size) ho hW h.gl h.pv (Nat.le_trans h.bel.size h5.size)
  have hM6 : Mine x6 base A5 512 c5 (full l) := (hM.disk hD5 ho (fun k hk => hk.imp_right fun h => .inr h)).lower hbase
  have hw6 : Mine x6 base Aw 512 cw sw := (h.mw.below h5).disk hD5 ho (fun k hk => hk.imp_right fun h => .inr h)
  have hl1 : (kept ks (wrts ls k) two).length = 2 := kept_length _ _ _
  have hl2 : (applied (wrts ls k) two).length = 2 := applied_length _ _
  refine ⟨?_, ?_, ?_, ?_, hM6, by rw [e1]; exact h.gd, by rw [e3]; exact h.gl, fun g hg => ?_, (h.bel.trans (h5.mono h.bel.size)).trans far⟩
  · rw [wrts_next hl]
    have e : ((k + 1 : Nat) : Int) = (k : Int) + 1 := by omega
    rw [e]
    exact w1
  · rw [wrts_next hl, kept_snoc, hkl]
    by_cases hfl : flag = true
    · rw [if_pos (hf.2 hfl), if_pos hfl, List.getElem?_set_self (by omega)]
    · rw [if_neg (fun hh => hfl (hf.1 hh)), if_neg hfl]; exact h.keep
  · rw [wrts_next hl, applied_snoc, List.getElem?_set_self (by omega)]
  · cases flag
    · exact hw6
    · exact hM6
  · rcases e5 with h5' | ⟨g2, h5', h6⟩
    · exact h.pv g (h5' ▸ hg)
    · rw [h5'] at hg
      injection hg with hg
      have := h.bel.size
      have := h5.size
      omega

theorem flag_cell {w : World} {ad : Addr} {n c k : Nat} {ks : List Bool} {f : Bool} (h : Flags w (.slice (some ad) n c) ks) (hf : ks[k]? = some f) : w.cell? (ad.add k) = some (.bool f) := by
  obtain ⟨A, c9, hv, hl⟩ := h.form
  injection hv with h1 h2 h3
  subst h1
  exact hl.cells k (.bool f) (by rw [List.getElem?_map, hf]; rfl)
theorem mine_both (w : World) (Z : List Value) (hz : ∀ w : World, Mine (w.alloc (.cells Z.toArray 5)) w.heap.size (some ⟨w.heap.size, 0, none⟩) 512 512 noughts) :
    Mine ((w.alloc (.cells Z.toArray 5)).alloc (.cells Z.toArray 5)) w.heap.size (some ⟨w.heap.size, 0, none⟩) 512 512 noughts ∧
    Mine ((w.alloc (.cells Z.toArray 5)).alloc (.cells Z.toArray 5)) w.heap.size (some ⟨w.heap.size + 1, 0, none⟩) 512 512 noughts ∧
    Below w.heap.size w ((w.alloc (.cells Z.toArray 5)).alloc (.cells Z.toArray 5)) := by
  have hs : (w.alloc (.cells Z.toArray 5)).heap.size = w.heap.size + 1 := by simp
  have h2 := hz (w.alloc (.cells Z.toArray 5))
  rw [hs] at h2
  exact ⟨(hz w).below ((Below.refl _ _).alloc (Nat.le_refl _) _), h2.lower (by omega), ((Below.refl w.heap.size w).alloc (Nat.le_refl _) _).alloc (by omega) _⟩
/-- What the other disk's sync does not reach. -/
theorem orders_c {w6 x y : World} {gs gsC : Nat} {b bC : DB} {dur durC : List (List Nat)} {pend : List (Nat × List Nat)} {n m n2 m2 : Int} (hD : Disk w6 gs b dur pend n m) (hC : Disk x gsC bC durC [] n2 m2)
    (ho : OnlyAt x y (fun k => k = gs ∨ k = b.gd ∨ k = b.gl)) (c1 : w6.heap.size ≤ gsC) (c2 : w6.heap.size ≤ bC.gd) (c3 : w6.heap.size ≤ bC.gl) (c4 : bC.pv = .slice none 0 0) : Disk y gsC bC durC [] n2 m2 := by
  have a1 := hD.lt
  have a2 := (World.ownsRow.lt hD.la b.gl rfl).2
  have a3 := (World.ownsRow.lt hD.du b.gd rfl).2
  have n : ∀ g, w6.heap.size ≤ g → ¬ (g = gs ∨ g = b.gd ∨ g = b.gl) := fun g hg h => by
    rcases h with h | h | h <;> omega
  exact hC.only ho (n _ c1) (n _ c2) (n _ c3) (fun g hg => by rw [c4] at hg; cases hg)

set_option maxRecDepth 100000 in
set_option maxHeartbeats 4000000 in
theorem diskOrders_walk (A0 : Option Addr) (len0 cap0 : Nat) (ls : List (List Nat)) (kv : Value) (ks : List Bool) (w : World) (hp : Parts w w.heap.size (.slice A0 len0 cap0) ls) (hk : Flags w kv ks) (hkl : ks.length ≤ 9223372036854775807) :
    Calls Try.prog 8 #[.slice A0 len0 cap0, kv] w fun e w' => e = .returned (.bool true) ∧ Below w.heap.size w w' := by
  have hlen : len0 = ls.length ∧ len0 ≤ maxLen := by
    obtain ⟨⟨A1, c1, vs, hv, _⟩, hl⟩ := hp
    injection hv with h1 h2 h3
    exact ⟨h2, by omega⟩
  have hlong : len0 ≤ 9223372036854775807 := hlen.2
  have HLEN := Lib.hid hlen.1
  have HPr := Lib.hid hp
  obtain ⟨KA, KC, hkv, hkl2⟩ := hk.form
  have HK := Lib.hid hk
  subst hkv
  have HA := hide (awake_true w)
  have HN0 := fun x : World => hide (new_good x 2 (by omega) (by omega))
  rw [show ((2 : Nat) : Int) = 2 from rfl, show List.replicate 2 noughts = two from rfl] at HN0
  have hmk : ∀ w : World, (Instr.makeSlice 30 (.int .i64 512) (.int .i64 512)).run Try.prog w = .ok (.slice (some ⟨w.heap.size, 0, none⟩) 512 512) (w.alloc (.cells (byt noughts).toArray 5)) := run_make512
  have HZ := Lib.hid mine_zero
  obtain ⟨Z, hZ⟩ : ∃ Z, Z = byt noughts := ⟨_, rfl⟩
  rw [← hZ] at hmk HZ
  clear hlen hp hk hZ hkl2
  go_enter Try.func8, Try.ntmps8
  go_wp2_with (first
    | (go_at_call 9; (with_reducible refine (unhide HA).mono ?_); rintro e w1 ⟨rfl, hw1⟩; have HN := HN0 w1)
    | (go_at_call 10; (with_reducible refine (unhide HN).mono ?_); rintro e w2 ⟨gs, b, rfl, hD2, hgs, hgd, hgl, hpv, hw2⟩))
  go_cut [7, 8] (fun v7 v8 wx => ∃ g7 g8, v7 = .slice (some ⟨g7, 0, none⟩) 512 512 ∧ v8 = .slice (some ⟨g8, 0, none⟩) 512 512 ∧ Mine wx w2.heap.size (some ⟨g7, 0, none⟩) 512 512 noughts ∧ Mine wx w2.heap.size (some ⟨g8, 0, none⟩) 512 512 noughts ∧ Below w2.heap.size w2 wx)
  case first =>
    have hboth := mine_both w2 Z HZ.out
    obtain ⟨m1, m2, bb⟩ := hboth
    go_region
    all_goals
      go_wp2_with fail
      go_meet
      first
        | exact ⟨_, _, rfl, rfl, m1, m2, bb⟩
        | exact ⟨_, _, rfl, rfl, m2, m1, bb⟩
        | exact ⟨_, _, rfl, rfl, m1.below ((Below.refl _ _).drew), m2.below ((Below.refl _ _).drew), bb.drew⟩
        | exact ⟨_, _, rfl, rfl, m2.below ((Below.refl _ _).drew), m1.below ((Below.refl _ _).drew), bb.drew⟩
  case rest =>
  obtain ⟨g7, g8, rfl, rfl, hm7, hm8, hbx⟩ := hcut
  have hs1 := hw1.size
  have hgs := Nat.le_trans hs1 hgs
  have hgd := Nat.le_trans hs1 hgd
  have hgl := Nat.le_trans hs1 hgl
  have hbw2 := hw1.trans (hw2.mono hw1.size)
  have hbwx := hbw2.trans (hbx.mono hbw2.size)
  have hDx := hD2.below hbx
  have hw2s : w.heap.size ≤ w2.heap.size := hbw2.size
  have h0 : OrdI w wc w.heap.size gs ls ks 0 b (some ⟨g7, 0, none⟩) (some ⟨g8, 0, none⟩) 512 512 noughts noughts :=
    ⟨hDx, by simp [kept, wrts, two], rfl, hm7.lower hw2s, hm8.lower hw2s, hgd, hgl, (fun g hg => by rw [hpv] at hg; cases hg), hbwx⟩
  have H0 := Lib.hid h0
  clear h0 hDx hbwx hm7 hm8 hD2 hw2 hpv HN HA HN0 hgd hgl hw1 hs1 hbw2 hbx
  go_wp2
  go_loopw [7, 8, 29] (fun v7 v8 t x => OrdR w w.heap.size gs len0 ls ks v7 v8 t x) (fun _ _ t _ => len0 - (intOf t).toNat)
  case atStart => exact ⟨0, b, _, _, _, _, _, _, by omega, by omega, rfl, rfl, rfl, H0.out⟩
  case round =>
    obtain ⟨k, b3, Aw, Al, cw, cl, sw, sl, hk, hk8, rfl, rfl, rfl, hI⟩ := hrel
    have hwr := hI.bel.size
    clear H0
    have hKf := HK.out.along hI.bel
    have HKf := Lib.hid hKf
    have hrow : k < len0 → ∃ l Ak mk ck ad, ls[k]? = some l ∧ A0 = some ad ∧ wr.cell? (ad.add k) = some (.slice Ak mk ck) ∧ Bytes wr wr.heap.size (.slice Ak mk ck) l := fun hlt => by
      have hPr := HPr.out.below hI.bel
      obtain ⟨l, hl⟩ : ∃ l, ls[k]? = some l := ⟨_, List.getElem?_eq_getElem (by rw [← HLEN.out]; exact hlt)⟩
      obtain ⟨⟨A1, c1, us, hv, hul, hlies, hbytes⟩, _⟩ := hPr
      injection hv with h1 h2 h3
      subst h1
      have hku : k < us.length := by rw [hul, ← HLEN.out]; exact hlt
      have hu := List.getElem?_eq_getElem hku
      obtain ⟨ad, hA, _, hc⟩ := hlies k _ hu
      have hb := hbytes k _ l hu hl
      obtain ⟨⟨A2, c2, hv2, _⟩, _, _⟩ := id hb
      exact ⟨l, A2, _, c2, ad, hl, hA, by rw [hc, hv2], by rw [← hv2]; exact hb.up hI.bel.size⟩
    by_cases hgo : k < len0 ∧ k < 8
    · obtain ⟨hlt, h8⟩ := hgo
      obtain ⟨l, Ak, mk, ck, ad, hl, rfl, hcell, hB⟩ := hrow hlt
      have h8i : ¬ (k : Int) ≥ 8 := by omega
      have h8j : (k : Int) < 8 := by omega
      have hsec : IsSec (full l) := full_sec hB.small
      obtain ⟨q, hq⟩ : ∃ q, q = full l := ⟨_, rfl⟩
      have HF := hide (full_any wr (.slice Ak mk ck) l hB)
      rw [← hq] at HF hsec
      have HQ := Lib.hid hq
      have HS := Lib.hid hsec
      have HI := Lib.hid hI
      have Hl := Lib.hid hl
      have hNext := fun (x5 x6 : World) (b2 : DB) (A5 : Option Addr) (c5 : Nat) (hM : Mine x5 wr.heap.size A5 512 c5 (full l)) h5 w1 e1 e3 e5 ho flag hf => ordI_next (x5 := x5) (x6 := x6) (b2 := b2) hI hgs hwr hl hM h5 w1 e1 e3 e5 ho flag hf
      rw [← hq] at hNext
      have HX := Lib.hid hNext
      have hmany : (wrts ls k).length < 1048576 := by rw [wrts_length (by rw [← HLEN.out]; omega)]; omega
      clear hrow hKf hB hsec hq hI hl hNext
      by_cases hkf : k < ks.length
      · have hkfi : (k : Int) < (ks.length : Int) := by omega
        obtain ⟨f, hf⟩ : ∃ f, ks[k]? = some f := ⟨_, List.getElem?_eq_getElem hkf⟩
        obtain ⟨kad, hKA⟩ : ∃ kad, KA = some kad := by
          obtain ⟨A9, c9, hv9, hl9⟩ := HKf.out.form
          injection hv9 with h1 h2 h3
          subst h1
          obtain ⟨ad9, h9, _, _⟩ := hl9 k (.bool f) (by rw [List.getElem?_map, hf]; rfl)
          exact ⟨ad9, h9⟩
        subst hKA
        cases f
        · have hf2 : Hid (ks[k]? = some true ↔ false = true) := Lib.hid <| by rw [hf]; simp
          have HFk := Lib.hid hf
          clear hf
          go_wp2_with (first
            | (go_at_call 17; (with_reducible refine (unhide HF).mono ?_); rintro e w5 ⟨A5, n5, c5, rfl, hM5, hb5⟩; go_loud (
               obtain rfl : n5 = 512 := hM5.len.trans HS.out.1;
               have HW := hide (write_good (HI.out.disk.below hb5) (by decide) (by decide) ⟨by omega, by omega⟩ hmany 1 (by decide) A5 c5 q hM5.bytes HS.out);
               rw [show ((1 : Nat) : Int) = 1 from rfl] at HW;
               skip))
            | (go_at_call 18; (with_reducible refine (unhide HW).mono ?_); rintro e w6 ⟨rfl, b2, k1, k2, k3, k4, k5, k6, k7⟩; go_loud (
               have hN := HX.out w5 w6 b2 A5 c5 hM5 hb5 k1 k2 k4 k6 k7 false hf2.out;
               have hc6 := flag_cell (HK.out.along hN.bel) HFk.out;
               have HN6 := Lib.hid hN;
               clear hN)))
          go_roundw
          case rel => exact ⟨k + 1, b2, _, _, _, _, _, _, by omega, by omega, by go_num, rfl, rfl, HN6.out⟩
          case measure => simp [intOf]; omega
        · have hf2 : Hid (ks[k]? = some true ↔ true = true) := Lib.hid <| by rw [hf]; simp
          have HFk := Lib.hid hf
          clear hf
          go_wp2_with (first
            | (go_at_call 17; (with_reducible refine (unhide HF).mono ?_); rintro e w5 ⟨A5, n5, c5, rfl, hM5, hb5⟩; go_loud (
               obtain rfl : n5 = 512 := hM5.len.trans HS.out.1;
               have HW := hide (write_good (HI.out.disk.below hb5) (by decide) (by decide) ⟨by omega, by omega⟩ hmany 1 (by decide) A5 c5 q hM5.bytes HS.out);
               rw [show ((1 : Nat) : Int) = 1 from rfl] at HW;
               skip))
            | (go_at_call 18; (with_reducible refine (unhide HW).mono ?_); rintro e w6 ⟨rfl, b2, k1, k2, k3, k4, k5, k6, k7⟩; go_loud (
               have hN := HX.out w5 w6 b2 A5 c5 hM5 hb5 k1 k2 k4 k6 k7 true ⟨fun _ => rfl, fun _ => HFk.out⟩;
               have hc6 := flag_cell (HK.out.along hN.bel) HFk.out;
               have HN6 := Lib.hid hN;
               clear hN)))
          go_roundw
          case rel => exact ⟨k + 1, b2, _, _, _, _, _, _, by omega, by omega, by go_num, rfl, rfl, HN6.out⟩
          case measure => simp [intOf]; omega
      · have hkfi : ¬ (k : Int) < (ks.length : Int) := by omega
        have hkfd : decide ((k : Int) < (ks.length : Int)) = false := by rw [decide_eq_false_iff_not]; omega
        have hf2 : Hid (ks[k]? = some true ↔ false = true) := Lib.hid <| by rw [List.getElem?_eq_none (by omega)]; simp
        go_wp2_with (first
          | (go_at_call 17; (with_reducible refine (unhide HF).mono ?_); rintro e w5 ⟨A5, n5, c5, rfl, hM5, hb5⟩; go_loud (
             obtain rfl : n5 = 512 := hM5.len.trans HS.out.1;
             have HW := hide (write_good (HI.out.disk.below hb5) (by decide) (by decide) ⟨by omega, by omega⟩ hmany 1 (by decide) A5 c5 q hM5.bytes HS.out);
             rw [show ((1 : Nat) : Int) = 1 from rfl] at HW;
             skip))
          | (go_at_call 18; (with_reducible refine (unhide HW).mono ?_); rintro e w6 ⟨rfl, b2, k1, k2, k3, k4, k5, k6, k7⟩; go_loud (
             have hN := HX.out w5 w6 b2 A5 c5 hM5 hb5 k1 k2 k4 k6 k7 false hf2.out;
             have HN6 := Lib.hid hN;
             clear hN)))
        go_roundw
        case rel => exact ⟨k + 1, b2, _, _, _, _, _, _, by omega, by omega, by go_num, rfl, rfl, HN6.out⟩
        case measure => simp [intOf]; omega
    · have HI := Lib.hid hI
      have HC := hide (crash_any hI.disk (.slice KA ks.length KC) ks hKf)
      have hgs3 := hI.disk.lt
      have hway : (∃ l Ak mk ck ad, ¬ (k : Int) < 8 ∧ (k : Int) ≥ 8 ∧ (k : Int) < (len0 : Int) ∧ A0 = some ad ∧ wr.cell? (ad.add k) = some (.slice Ak mk ck) ∧ ls[k]? = some l) ∨ ¬ (k : Int) < (len0 : Int) := by
        rcases Nat.lt_or_ge k len0 with h | h
        · obtain ⟨l, Ak, mk, ck, ad, h1, h2, h3, h4⟩ := hrow h
          exact .inl ⟨l, Ak, mk, ck, ad, by omega, by omega, by omega, h2, h3, h1⟩
        · exact .inr (by omega)
      clear hrow hI hKf hgo
      rcases hway with ⟨l, Ak, mk, ck, ad, n1, n2, n3, rfl, hcell, -⟩ | n3
      · go_wp2_with (first
          | (go_at_call 20; (with_reducible refine (unhide HC).mono ?_); rintro e w6 ⟨gsC, bC, rfl, hC6, c1, c2, c3, c4, hb6⟩; go_loud (
             have hR1 := hide (read_any hC6 1 (by rw [kept_length]; decide) sw HI.out.keep);
             rw [show ((1 : Nat) : Int) = 1 from rfl] at hR1))
          | (go_at_call 21; (with_reducible refine (unhide hR1).mono ?_); rintro e w7 ⟨g7, rfl, hM7, hb7⟩; go_loud (
             have hb67 := hb6.trans (hb7.mono hb6.size);
             have hD7 := HI.out.disk.below hb67;
             have hR2 := hide (read_any hD7 1 (by decide) sl HI.out.last);
             rw [show ((1 : Nat) : Int) = 1 from rfl] at hR2))
          | (go_at_call 21; (with_reducible refine (unhide hR2).mono ?_); rintro e w8 ⟨g8, rfl, hM8, hb8⟩; go_loud (
             have hb68 := hb67.trans (hb8.mono hb67.size);
             have hD8 := HI.out.disk.below hb68;
             have hSy := hide (sync_good hD8 (by decide) (by decide))))
          | (go_at_call 19; (with_reducible refine (unhide hSy).mono ?_); rintro e w9 ⟨rfl, hD9, hO9⟩; go_loud (
             have hR3 := hide (read_any hD9 1 (by rw [applied_length]; decide) sl HI.out.last);
             rw [show ((1 : Nat) : Int) = 1 from rfl] at hR3))
          | (go_at_call 21; (with_reducible refine (unhide hR3).mono ?_); rintro e w10 ⟨g10, rfl, hM10, hb10⟩; go_loud (
             have in9 : ∀ k, (k = gs ∨ k = b3.gd ∨ k = b3.gl) → k = gs ∨ k = b3.gd ∨ k = b3.gl ∨ some k = b3.pv.ownBlock := fun k hk => hk.imp_right fun h => h.imp_right fun h => .inl h;
             have b7 := (((hM7.below hb8).disk hD8 hO9 in9).below hb10).bytes;
             have b8 := ((hM8.disk hD8 hO9 in9).below hb10).bytes;
             have b10 := hM10.bytes;
             have bw := ((((HI.out.mw.below hb68).disk hD8 hO9 in9)).below hb10).bytes;
             have bl := ((((HI.out.ml.below hb68).disk hD8 hO9 in9)).below hb10).bytes;
             have hC10 := (orders_c HI.out.disk ((hC6.below hb7).below hb8) hO9 (by omega) (by omega) (by omega) c4).below hb10;
             have hS1 := hide (same_any _ _ _ _ _ b7 bw);
             rw [decide_eq_true rfl] at hS1))
          | (go_at_call 22; (with_reducible refine (unhide hS1).mono ?_); rintro e wS1 ⟨rfl, nq1, rfl⟩; go_loud (
             have hS2 := hide (same_any _ _ _ _ _ (b8.quiet nq1) (bl.quiet nq1));
             rw [decide_eq_true rfl] at hS2))
          | (go_at_call 22; (with_reducible refine (unhide hS2).mono ?_); rintro e wS2 ⟨rfl, nq2, rfl⟩; go_loud (
             have hS3 := hide (same_any _ _ _ _ _ (b10.quiet (nq1 + nq2)) (bl.quiet (nq1 + nq2)));
             rw [decide_eq_true rfl] at hS3))
          | (go_at_call 22; (with_reducible refine (unhide hS3).mono ?_); rintro e wS3 ⟨rfl, nq3, rfl⟩; go_loud (
             have hCq := hC10.below (below_drewN (Below.refl _ _) (nq1 + nq2 + nq3));
             have hBl := hide (blank_any hCq 0 (by rw [kept_length]; decide) noughts (kept_off (fun p hp => by rw [wrts_one _ _ p hp]; decide)));
             rw [decide_eq_true rfl, show ((0 : Nat) : Int) = 0 from rfl] at hBl))
          | (go_at_call 25; (with_reducible refine (unhide hBl).mono ?_); rintro e w14 ⟨rfl, rfl⟩; go_loud (
             have hDq := (hD9.below hb10).below (below_drewN (Below.refl _ _) (nq1 + nq2 + nq3));
             have HWt := hide (waiting_len2 hDq 0 rfl)))
          | (go_at_call 23; (with_reducible refine (unhide HWt).mono ?_); rintro e w15 ⟨g15, c15, rfl, hb15⟩))
        go_ret
        have z8 := HI.out.bel.trans (hb68.mono HI.out.bel.size)
        have z9 := z8.trans (hO9.below (B := w.heap.size) (fun j hj => by
          rcases hj with h | h | h
          · rw [h]; exact hgs
          · rw [h]; exact HI.out.gd
          · rw [h]; exact HI.out.gl) z8.size)
        have z10 := z9.trans (hb10.mono z9.size)
        have z13 := below_drewN z10 (nq1 + nq2 + nq3)
        exact ⟨rfl, z13.trans (hb15.mono z13.size)⟩
      · go_wp2_with (first
          | (go_at_call 20; (with_reducible refine (unhide HC).mono ?_); rintro e w6 ⟨gsC, bC, rfl, hC6, c1, c2, c3, c4, hb6⟩; go_loud (
             have hR1 := hide (read_any hC6 1 (by rw [kept_length]; decide) sw HI.out.keep);
             rw [show ((1 : Nat) : Int) = 1 from rfl] at hR1))
          | (go_at_call 21; (with_reducible refine (unhide hR1).mono ?_); rintro e w7 ⟨g7, rfl, hM7, hb7⟩; go_loud (
             have hb67 := hb6.trans (hb7.mono hb6.size);
             have hD7 := HI.out.disk.below hb67;
             have hR2 := hide (read_any hD7 1 (by decide) sl HI.out.last);
             rw [show ((1 : Nat) : Int) = 1 from rfl] at hR2))
          | (go_at_call 21; (with_reducible refine (unhide hR2).mono ?_); rintro e w8 ⟨g8, rfl, hM8, hb8⟩; go_loud (
             have hb68 := hb67.trans (hb8.mono hb67.size);
             have hD8 := HI.out.disk.below hb68;
             have hSy := hide (sync_good hD8 (by decide) (by decide))))
          | (go_at_call 19; (with_reducible refine (unhide hSy).mono ?_); rintro e w9 ⟨rfl, hD9, hO9⟩; go_loud (
             have hR3 := hide (read_any hD9 1 (by rw [applied_length]; decide) sl HI.out.last);
             rw [show ((1 : Nat) : Int) = 1 from rfl] at hR3))
          | (go_at_call 21; (with_reducible refine (unhide hR3).mono ?_); rintro e w10 ⟨g10, rfl, hM10, hb10⟩; go_loud (
             have in9 : ∀ k, (k = gs ∨ k = b3.gd ∨ k = b3.gl) → k = gs ∨ k = b3.gd ∨ k = b3.gl ∨ some k = b3.pv.ownBlock := fun k hk => hk.imp_right fun h => h.imp_right fun h => .inl h;
             have b7 := (((hM7.below hb8).disk hD8 hO9 in9).below hb10).bytes;
             have b8 := ((hM8.disk hD8 hO9 in9).below hb10).bytes;
             have b10 := hM10.bytes;
             have bw := ((((HI.out.mw.below hb68).disk hD8 hO9 in9)).below hb10).bytes;
             have bl := ((((HI.out.ml.below hb68).disk hD8 hO9 in9)).below hb10).bytes;
             have hC10 := (orders_c HI.out.disk ((hC6.below hb7).below hb8) hO9 (by omega) (by omega) (by omega) c4).below hb10;
             have hS1 := hide (same_any _ _ _ _ _ b7 bw);
             rw [decide_eq_true rfl] at hS1))
          | (go_at_call 22; (with_reducible refine (unhide hS1).mono ?_); rintro e wS1 ⟨rfl, nq1, rfl⟩; go_loud (
             have hS2 := hide (same_any _ _ _ _ _ (b8.quiet nq1) (bl.quiet nq1));
             rw [decide_eq_true rfl] at hS2))
          | (go_at_call 22; (with_reducible refine (unhide hS2).mono ?_); rintro e wS2 ⟨rfl, nq2, rfl⟩; go_loud (
             have hS3 := hide (same_any _ _ _ _ _ (b10.quiet (nq1 + nq2)) (bl.quiet (nq1 + nq2)));
             rw [decide_eq_true rfl] at hS3))
          | (go_at_call 22; (with_reducible refine (unhide hS3).mono ?_); rintro e wS3 ⟨rfl, nq3, rfl⟩; go_loud (
             have hCq := hC10.below (below_drewN (Below.refl _ _) (nq1 + nq2 + nq3));
             have hBl := hide (blank_any hCq 0 (by rw [kept_length]; decide) noughts (kept_off (fun p hp => by rw [wrts_one _ _ p hp]; decide)));
             rw [decide_eq_true rfl, show ((0 : Nat) : Int) = 0 from rfl] at hBl))
          | (go_at_call 25; (with_reducible refine (unhide hBl).mono ?_); rintro e w14 ⟨rfl, rfl⟩; go_loud (
             have hDq := (hD9.below hb10).below (below_drewN (Below.refl _ _) (nq1 + nq2 + nq3));
             have HWt := hide (waiting_len2 hDq 0 rfl)))
          | (go_at_call 23; (with_reducible refine (unhide HWt).mono ?_); rintro e w15 ⟨g15, c15, rfl, hb15⟩))
        go_ret
        have z8 := HI.out.bel.trans (hb68.mono HI.out.bel.size)
        have z9 := z8.trans (hO9.below (B := w.heap.size) (fun j hj => by
          rcases hj with h | h | h
          · rw [h]; exact hgs
          · rw [h]; exact HI.out.gd
          · rw [h]; exact HI.out.gl) z8.size)
        have z10 := z9.trans (hb10.mono z9.size)
        have z13 := below_drewN z10 (nq1 + nq2 + nq3)
        exact ⟨rfl, z13.trans (hb15.mono z13.size)⟩
end Go.Proofs.Ytnpbjmanjnkeaaa
