/- Contracts: what the law's do answers. -/
import Derived.Test.YtmhhcblgeellnaaPlA
import Derived.Test.YtmhhcblgeellnaaApart
import Derived.Test.YtmhhcblgeellnaaAwake
namespace Go.Proofs.Ytmhhcblgeellnaa
open Go.RowKit
set_option linter.unusedSimpArgs false
set_option linter.unusedVariables false

theorem Flags.on {w w' : World} {v : Value} {ks : List Bool} (h : Flags w v ks) (hb : Below w.heap.size w w') : Flags w' v ks := by
  obtain ⟨A, c, e, hl⟩ := h.form
  exact ⟨A, c, e, (hl.below hb).up hb.size⟩
/-- Where a disk's blocks begin. -/
def High (B gs : Nat) (b : DB) : Prop := B ≤ gs ∧ B ≤ b.gd ∧ B ≤ b.gl ∧ ∀ g, b.pv.ownBlock = some g → B ≤ g
/-- The blocks that a disk writes. -/
def RW (gs : Nat) (b : DB) (k : Nat) : Prop := k = gs ∨ k = b.gd ∨ k = b.gl ∨ some k = b.pv.ownBlock
def Did (w : World) (gs : Nat) (b : DB) (dur2 : List (List Nat)) (pend2 : List (Nat × List Nat)) (nw2 bud2 err : Int) (e : Ending) (w' : World) : Prop :=
  ∃ gs2 b2, e = .returned (.tuple #[.pointer (some ⟨gs2, 0, none⟩), .int .i64 err]) ∧ Disk w' gs2 b2 dur2 pend2 nw2 bud2 ∧ (pend2 = [] → b2.pv = .slice none 0 0) ∧ (∀ B, B ≤ w.heap.size → High B gs b → High B gs2 b2) ∧ (b2.gl = b.gl ∨ w.heap.size ≤ b2.gl) ∧ OnlyAt w w' (RW gs b)
set_option maxRecDepth 100000 in
set_option maxHeartbeats 4000000 in
theorem did_limit {w : World} {gs : Nat} {b : DB} {dur : List (List Nat)} {pend : List (Nat × List Nat)} {nw bud : Int} (h : Disk w gs b dur pend nw bud) (hpv : pend = [] → b.pv = .slice none 0 0)
    (d : Nat) (i bit n : Int) (PA KA : Option Addr) (pn pc kn kc : Nat) (odd : Bool) (mask : Nat) (hd : d % 7 = 6) :
    Calls Try.prog 13 #[.pointer (some ⟨gs, 0, none⟩), .agg #[.int .u8 (d : Int), .int .i64 i, .slice PA pn pc, .bool odd, .int .i64 bit, .int .i64 n, .int .u32 (mask : Int), .slice KA kn kc]] w (Did w gs b dur pend nw n 0) := by
  have hd1 : (d : Int) % 7 = 6 := by omega
  have hd2 : (d : Int).tmod 7 = 6 := by rw [Int.tmod_eq_emod_of_nonneg (by omega)]; exact hd1
  obtain ⟨wa, hwa⟩ : ∃ wa, wa = w.alloc (.cells #[.int .u8 (d : Int), .int .i64 i, .slice PA pn pc, .bool odd, .int .i64 bit, .int .i64 n, .int .u32 (mask : Int), .slice KA kn kc] 34) := ⟨_, rfl⟩
  have hba : Below w.heap.size w wa := by rw [hwa]; exact (Below.refl _ _).alloc (Nat.le_refl _) _
  have hD := h.below hba
  have hG : wa.heap[w.heap.size]? = some (.cells #[.int .u8 (d : Int), .int .i64 i, .slice PA pn pc, .bool odd, .int .i64 bit, .int .i64 n, .int .u32 (mask : Int), .slice KA kn kc] 34 (0, 0)) := by rw [hwa]; exact Go.heap_alloc_new w _
  have hlx : w.heap.size < wa.heap.size := (Array.getElem?_eq_some_iff.1 hG).1
  have q1 : wa.cell? ⟨w.heap.size, 1, none⟩ = some (.int .i64 i) := by rw [cell_of_row wa _ 1 _ _ _ hG]; rfl
  clear hG
  clear hd h
  go_enter Try.func13, Try.ntmps13
  have HL := hide (limit_any hD n)
  rw [hwa] at HL
  go_wp2_with (go_at_call 26; (with_reducible refine (unhide HL).mono ?_); rintro e w2 ⟨v2, rfl, hD2, hO2⟩)
  go_ret2
  rw [← hwa] at hO2
  exact ⟨gs, b, rfl, hD2, hpv, fun _ _ h => h, .inl rfl, (OnlyAt.of_below hba _).trans (hO2.mono fun k _ e => .inl e)⟩
set_option maxRecDepth 100000 in
set_option maxHeartbeats 4000000 in
theorem did_sync_off {w : World} {gs : Nat} {b : DB} {dur : List (List Nat)} {pend : List (Nat × List Nat)} {nw : Int} (h : Disk w gs b dur pend nw 0) (hpv : pend = [] → b.pv = .slice none 0 0)
    (d : Nat) (i bit n : Int) (PA KA : Option Addr) (pn pc kn kc : Nat) (odd : Bool) (mask : Nat) (hd : d % 7 = 3) :
    Calls Try.prog 13 #[.pointer (some ⟨gs, 0, none⟩), .agg #[.int .u8 (d : Int), .int .i64 i, .slice PA pn pc, .bool odd, .int .i64 bit, .int .i64 n, .int .u32 (mask : Int), .slice KA kn kc]] w (Did w gs b dur pend nw 0 8) := by
  have hd1 : (d : Int) % 7 = 3 := by omega
  have hd2 : (d : Int).tmod 7 = 3 := by rw [Int.tmod_eq_emod_of_nonneg (by omega)]; exact hd1
  obtain ⟨wa, hwa⟩ : ∃ wa, wa = w.alloc (.cells #[.int .u8 (d : Int), .int .i64 i, .slice PA pn pc, .bool odd, .int .i64 bit, .int .i64 n, .int .u32 (mask : Int), .slice KA kn kc] 34) := ⟨_, rfl⟩
  have hba : Below w.heap.size w wa := by rw [hwa]; exact (Below.refl _ _).alloc (Nat.le_refl _) _
  have hD := h.below hba
  have hG : wa.heap[w.heap.size]? = some (.cells #[.int .u8 (d : Int), .int .i64 i, .slice PA pn pc, .bool odd, .int .i64 bit, .int .i64 n, .int .u32 (mask : Int), .slice KA kn kc] 34 (0, 0)) := by rw [hwa]; exact Go.heap_alloc_new w _
  have hlx : w.heap.size < wa.heap.size := (Array.getElem?_eq_some_iff.1 hG).1
  have q1 : wa.cell? ⟨w.heap.size, 1, none⟩ = some (.int .i64 i) := by rw [cell_of_row wa _ 1 _ _ _ hG]; rfl
  clear hG
  clear hd h
  go_enter Try.func13, Try.ntmps13
  have HL := hide (sync_off hD)
  rw [hwa] at HL
  go_wp2_with (go_at_call 19; (with_reducible refine (unhide HL).mono ?_); rintro e w2 ⟨rfl, rfl⟩)
  go_ret2
  rw [← hwa]
  exact ⟨gs, b, rfl, hD, hpv, fun _ _ h => h, .inl rfl, OnlyAt.of_below hba _⟩
set_option maxRecDepth 100000 in
set_option maxHeartbeats 4000000 in
theorem did_sync {w : World} {gs : Nat} {b : DB} {dur : List (List Nat)} {pend : List (Nat × List Nat)} {nw bud : Int} (h : Disk w gs b dur pend nw bud) (hpv : pend = [] → b.pv = .slice none 0 0)
    (d : Nat) (i bit n : Int) (PA KA : Option Addr) (pn pc kn kc : Nat) (odd : Bool) (mask : Nat) (hd : d % 7 = 3) (hb : bud ≠ 0) (hb2 : -9223372036854775808 ≤ bud ∧ bud ≤ 9223372036854775807) :
    Calls Try.prog 13 #[.pointer (some ⟨gs, 0, none⟩), .agg #[.int .u8 (d : Int), .int .i64 i, .slice PA pn pc, .bool odd, .int .i64 bit, .int .i64 n, .int .u32 (mask : Int), .slice KA kn kc]] w (Did w gs b (applied pend dur) [] nw (less bud) 0) := by
  have hd1 : (d : Int) % 7 = 3 := by omega
  have hd2 : (d : Int).tmod 7 = 3 := by rw [Int.tmod_eq_emod_of_nonneg (by omega)]; exact hd1
  obtain ⟨wa, hwa⟩ : ∃ wa, wa = w.alloc (.cells #[.int .u8 (d : Int), .int .i64 i, .slice PA pn pc, .bool odd, .int .i64 bit, .int .i64 n, .int .u32 (mask : Int), .slice KA kn kc] 34) := ⟨_, rfl⟩
  have hba : Below w.heap.size w wa := by rw [hwa]; exact (Below.refl _ _).alloc (Nat.le_refl _) _
  have hD := h.below hba
  have hG : wa.heap[w.heap.size]? = some (.cells #[.int .u8 (d : Int), .int .i64 i, .slice PA pn pc, .bool odd, .int .i64 bit, .int .i64 n, .int .u32 (mask : Int), .slice KA kn kc] 34 (0, 0)) := by rw [hwa]; exact Go.heap_alloc_new w _
  have hlx : w.heap.size < wa.heap.size := (Array.getElem?_eq_some_iff.1 hG).1
  have q1 : wa.cell? ⟨w.heap.size, 1, none⟩ = some (.int .i64 i) := by rw [cell_of_row wa _ 1 _ _ _ hG]; rfl
  clear hG
  clear hd h
  go_enter Try.func13, Try.ntmps13
  have HL := hide (sync_good hD hb hb2)
  rw [hwa] at HL
  go_wp2_with (go_at_call 19; (with_reducible refine (unhide HL).mono ?_); rintro e w2 ⟨rfl, hD2, hO2⟩)
  go_ret2
  rw [← hwa] at hO2
  refine ⟨gs, _, rfl, hD2, fun _ => rfl, fun B _ h => ⟨h.1, h.2.1, h.2.2.1, fun g hg => by cases hg⟩, .inl rfl, (OnlyAt.of_below hba _).trans (hO2.mono fun k _ e => ?_)⟩
  rcases e with e | e | e
  · exact .inl e
  · exact .inr (.inl e)
  · exact .inr (.inr (.inl e))
set_option maxRecDepth 100000 in
set_option maxHeartbeats 4000000 in
theorem did_rot_bad {w : World} {gs : Nat} {b : DB} {dur : List (List Nat)} {pend : List (Nat × List Nat)} {nw bud : Int} (h : Disk w gs b dur pend nw bud) (hpv : pend = [] → b.pv = .slice none 0 0)
    (d : Nat) (i bit n : Int) (PA KA : Option Addr) (pn pc kn kc : Nat) (odd : Bool) (mask : Nat) (hd : d % 7 = 4) (hbad : n < 0 ∨ 32 < n ∨ bit < 0 ∨ 4096 < bit ∨ 4096 < bit + n) :
    Calls Try.prog 13 #[.pointer (some ⟨gs, 0, none⟩), .agg #[.int .u8 (d : Int), .int .i64 i, .slice PA pn pc, .bool odd, .int .i64 bit, .int .i64 n, .int .u32 (mask : Int), .slice KA kn kc]] w (Did w gs b dur pend nw bud 1) := by
  have hd1 : (d : Int) % 7 = 4 := by omega
  have hd2 : (d : Int).tmod 7 = 4 := by rw [Int.tmod_eq_emod_of_nonneg (by omega)]; exact hd1
  obtain ⟨wa, hwa⟩ : ∃ wa, wa = w.alloc (.cells #[.int .u8 (d : Int), .int .i64 i, .slice PA pn pc, .bool odd, .int .i64 bit, .int .i64 n, .int .u32 (mask : Int), .slice KA kn kc] 34) := ⟨_, rfl⟩
  have hba : Below w.heap.size w wa := by rw [hwa]; exact (Below.refl _ _).alloc (Nat.le_refl _) _
  have hD := h.below hba
  have hG : wa.heap[w.heap.size]? = some (.cells #[.int .u8 (d : Int), .int .i64 i, .slice PA pn pc, .bool odd, .int .i64 bit, .int .i64 n, .int .u32 (mask : Int), .slice KA kn kc] 34 (0, 0)) := by rw [hwa]; exact Go.heap_alloc_new w _
  have hlx : w.heap.size < wa.heap.size := (Array.getElem?_eq_some_iff.1 hG).1
  have q1 : wa.cell? ⟨w.heap.size, 1, none⟩ = some (.int .i64 i) := by rw [cell_of_row wa _ 1 _ _ _ hG]; rfl
  clear hG
  clear hd h
  go_enter Try.func13, Try.ntmps13
  have HL := hide (rot_arg (w := wa) gs i bit n mask hbad)
  rw [hwa] at HL
  clear hbad
  go_wp2_with (go_at_call 24; (with_reducible refine (unhide HL).mono ?_); rintro e w2 ⟨rfl, rfl⟩)
  go_ret2
  rw [← hwa]
  exact ⟨gs, b, rfl, hD, hpv, fun _ _ h => h, .inl rfl, OnlyAt.of_below hba _⟩
set_option maxRecDepth 100000 in
set_option maxHeartbeats 4000000 in
theorem did_rot_index {w : World} {gs : Nat} {b : DB} {dur : List (List Nat)} {pend : List (Nat × List Nat)} {nw bud : Int} (h : Disk w gs b dur pend nw bud) (hpv : pend = [] → b.pv = .slice none 0 0)
    (d : Nat) (i bit n : Int) (PA KA : Option Addr) (pn pc kn kc : Nat) (odd : Bool) (mask : Nat) (hd : d % 7 = 4) (hn1 : 0 ≤ n) (hn2 : n ≤ 32) (hb1 : 0 ≤ bit) (hb3 : bit + n ≤ 4096) (hno : ¬ (0 ≤ i ∧ i < (dur.length : Int))) :
    Calls Try.prog 13 #[.pointer (some ⟨gs, 0, none⟩), .agg #[.int .u8 (d : Int), .int .i64 i, .slice PA pn pc, .bool odd, .int .i64 bit, .int .i64 n, .int .u32 (mask : Int), .slice KA kn kc]] w (Did w gs b dur pend nw bud 6) := by
  have hd1 : (d : Int) % 7 = 4 := by omega
  have hd2 : (d : Int).tmod 7 = 4 := by rw [Int.tmod_eq_emod_of_nonneg (by omega)]; exact hd1
  obtain ⟨wa, hwa⟩ : ∃ wa, wa = w.alloc (.cells #[.int .u8 (d : Int), .int .i64 i, .slice PA pn pc, .bool odd, .int .i64 bit, .int .i64 n, .int .u32 (mask : Int), .slice KA kn kc] 34) := ⟨_, rfl⟩
  have hba : Below w.heap.size w wa := by rw [hwa]; exact (Below.refl _ _).alloc (Nat.le_refl _) _
  have hD := h.below hba
  have hG : wa.heap[w.heap.size]? = some (.cells #[.int .u8 (d : Int), .int .i64 i, .slice PA pn pc, .bool odd, .int .i64 bit, .int .i64 n, .int .u32 (mask : Int), .slice KA kn kc] 34 (0, 0)) := by rw [hwa]; exact Go.heap_alloc_new w _
  have hlx : w.heap.size < wa.heap.size := (Array.getElem?_eq_some_iff.1 hG).1
  have q1 : wa.cell? ⟨w.heap.size, 1, none⟩ = some (.int .i64 i) := by rw [cell_of_row wa _ 1 _ _ _ hG]; rfl
  clear hG
  clear hd h
  go_enter Try.func13, Try.ntmps13
  have HL := hide (rot_index hD i bit n mask (by omega) hn1 hn2 hb1 hb3)
  rw [hwa] at HL
  clear hno hn1 hn2 hb1 hb3
  go_wp2_with (go_at_call 24; (with_reducible refine (unhide HL).mono ?_); rintro e w2 ⟨rfl, rfl⟩)
  go_ret2
  rw [← hwa]
  exact ⟨gs, b, rfl, hD, hpv, fun _ _ h => h, .inl rfl, OnlyAt.of_below hba _⟩
set_option maxRecDepth 100000 in
set_option maxHeartbeats 4000000 in
theorem did_rot {w : World} {gs : Nat} {b : DB} {dur : List (List Nat)} {pend : List (Nat × List Nat)} {nw bud : Int} (h : Disk w gs b dur pend nw bud) (hpv : pend = [] → b.pv = .slice none 0 0)
    (d : Nat) (i bit n : Int) (PA KA : Option Addr) (pn pc kn kc : Nat) (odd : Bool) (mask : Nat) (hd : d % 7 = 4) (iN bN nN : Nat) (hi : i = (iN : Int)) (hbi : bit = (bN : Int)) (hni : n = (nN : Int)) (hn2 : nN ≤ 32) (hb3 : bN + nN ≤ 4096) (hm : mask < 4294967296) (s : List Nat) (hs : dur[iN]? = some s) :
    Calls Try.prog 13 #[.pointer (some ⟨gs, 0, none⟩), .agg #[.int .u8 (d : Int), .int .i64 i, .slice PA pn pc, .bool odd, .int .i64 bit, .int .i64 n, .int .u32 (mask : Int), .slice KA kn kc]] w (Did w gs b (dur.set iN (flip bN mask s nN)) (pend.map (rotF iN bN mask nN)) nw bud 0) := by
  subst hi hbi hni
  have hd1 : (d : Int) % 7 = 4 := by omega
  have hd2 : (d : Int).tmod 7 = 4 := by rw [Int.tmod_eq_emod_of_nonneg (by omega)]; exact hd1
  obtain ⟨wa, hwa⟩ : ∃ wa, wa = w.alloc (.cells #[.int .u8 (d : Int), .int .i64 (iN : Int), .slice PA pn pc, .bool odd, .int .i64 (bN : Int), .int .i64 (nN : Int), .int .u32 (mask : Int), .slice KA kn kc] 34) := ⟨_, rfl⟩
  have hba : Below w.heap.size w wa := by rw [hwa]; exact (Below.refl _ _).alloc (Nat.le_refl _) _
  have hD := h.below hba
  have hG : wa.heap[w.heap.size]? = some (.cells #[.int .u8 (d : Int), .int .i64 (iN : Int), .slice PA pn pc, .bool odd, .int .i64 (bN : Int), .int .i64 (nN : Int), .int .u32 (mask : Int), .slice KA kn kc] 34 (0, 0)) := by rw [hwa]; exact Go.heap_alloc_new w _
  have hlx : w.heap.size < wa.heap.size := (Array.getElem?_eq_some_iff.1 hG).1
  have q1 : wa.cell? ⟨w.heap.size, 1, none⟩ = some (.int .i64 (iN : Int)) := by rw [cell_of_row wa _ 1 _ _ _ hG]; rfl
  clear hG
  clear hd h
  go_enter Try.func13, Try.ntmps13
  have HL := hide (rot_good hD iN bN nN mask s hs hb3 hn2 hm)
  rw [hwa] at HL
  clear hn2 hb3 hm hs
  go_wp2_with (go_at_call 24; (with_reducible refine (unhide HL).mono ?_); rintro e w2 ⟨rfl, hD2, hO2⟩)
  go_ret2
  rw [← hwa] at hO2
  refine ⟨gs, b, rfl, hD2, fun e => hpv (by simpa using e), fun _ _ h => h, .inl rfl, (OnlyAt.of_below hba _).trans (hO2.mono fun k _ e => ?_)⟩
  rcases e with e | e
  · exact .inr (.inl e)
  · exact .inr (.inr (.inr e))
set_option maxRecDepth 100000 in
set_option maxHeartbeats 4000000 in
theorem did_crash {w : World} {gs : Nat} {b : DB} {dur : List (List Nat)} {pend : List (Nat × List Nat)} {nw bud : Int} (h : Disk w gs b dur pend nw bud) (hpv : pend = [] → b.pv = .slice none 0 0)
    (d : Nat) (i bit n : Int) (PA KA : Option Addr) (pn pc kn kc : Nat) (odd : Bool) (mask : Nat) (hd : d % 7 = 5) (ks : List Bool) (hks : Flags w (.slice KA kn kc) ks) :
    Calls Try.prog 13 #[.pointer (some ⟨gs, 0, none⟩), .agg #[.int .u8 (d : Int), .int .i64 i, .slice PA pn pc, .bool odd, .int .i64 bit, .int .i64 n, .int .u32 (mask : Int), .slice KA kn kc]] w (Did w gs b (kept ks pend dur) [] 0 (-1) 0) := by
  have hd1 : (d : Int) % 7 = 5 := by omega
  have hd2 : (d : Int).tmod 7 = 5 := by rw [Int.tmod_eq_emod_of_nonneg (by omega)]; exact hd1
  obtain ⟨wa, hwa⟩ : ∃ wa, wa = w.alloc (.cells #[.int .u8 (d : Int), .int .i64 i, .slice PA pn pc, .bool odd, .int .i64 bit, .int .i64 n, .int .u32 (mask : Int), .slice KA kn kc] 34) := ⟨_, rfl⟩
  have hba : Below w.heap.size w wa := by rw [hwa]; exact (Below.refl _ _).alloc (Nat.le_refl _) _
  have hD := h.below hba
  have hG : wa.heap[w.heap.size]? = some (.cells #[.int .u8 (d : Int), .int .i64 i, .slice PA pn pc, .bool odd, .int .i64 bit, .int .i64 n, .int .u32 (mask : Int), .slice KA kn kc] 34 (0, 0)) := by rw [hwa]; exact Go.heap_alloc_new w _
  have hlx : w.heap.size < wa.heap.size := (Array.getElem?_eq_some_iff.1 hG).1
  have q1 : wa.cell? ⟨w.heap.size, 1, none⟩ = some (.int .i64 i) := by rw [cell_of_row wa _ 1 _ _ _ hG]; rfl
  clear hG
  clear hd h
  go_enter Try.func13, Try.ntmps13
  have HL := hide (crash_any hD (.slice KA kn kc) ks (hks.on hba))
  rw [hwa] at HL
  clear hks
  go_wp2_with (go_at_call 20; (with_reducible refine (unhide HL).mono ?_); rintro e w2 ⟨gs2, b2, rfl, hD2, k1, k2, k3, k4, hB2⟩)
  go_ret2
  rw [← hwa] at k1 k2 k3 hB2
  have hsz := hba.size
  exact ⟨gs2, b2, rfl, hD2, fun _ => k4, fun B hB h => ⟨by omega, by omega, by omega, fun g hg => by rw [k4] at hg; cases hg⟩, .inr (by omega), OnlyAt.of_below (hba.trans (hB2.mono hsz)) _⟩
theorem run_make511 (w : World) : ∃ M, (Instr.makeSlice 30 (.int .i64 511) (.int .i64 511)).run Try.prog w = .ok (.slice (some ⟨w.heap.size, 0, none⟩) 511 511) (w.alloc (.cells M 5)) := by
  obtain ⟨i0, hi0, hz0, hz1, hz2⟩ := info_parts infoByte
  have h := run_make (P := Try.prog) w 30 5 i0 (.int .u8 0) Try.underlying30 hi0 hz0 .i64 .i64 511 511 (by omega) (by omega) (by rw [hz2]; decide) (by omega)
  rw [hz1] at h
  exact ⟨_, h⟩
theorem r511_any (w : World) : Calls Try.prog 30 #[] w fun e w' => ∃ A c, e = .returned (.slice A 511 c) ∧ Below w.heap.size w w' := by
  obtain ⟨M, hmk⟩ := run_make511 w
  go_enter Try.func30, Try.ntmps30
  go_wp2
  go_ret
  exact ⟨_, _, rfl, (Below.refl _ _).alloc (Nat.le_refl _) _⟩
set_option maxRecDepth 100000 in
set_option maxHeartbeats 4000000 in
theorem did_odd {w : World} {gs : Nat} {b : DB} {dur : List (List Nat)} {pend : List (Nat × List Nat)} {nw bud : Int} (h : Disk w gs b dur pend nw bud) (hpv : pend = [] → b.pv = .slice none 0 0)
    (d : Nat) (i bit n : Int) (PA KA : Option Addr) (pn pc kn kc : Nat) (odd : Bool) (mask : Nat) (hd : d % 7 < 3) (ho : odd = true) :
    Calls Try.prog 13 #[.pointer (some ⟨gs, 0, none⟩), .agg #[.int .u8 (d : Int), .int .i64 i, .slice PA pn pc, .bool odd, .int .i64 bit, .int .i64 n, .int .u32 (mask : Int), .slice KA kn kc]] w (Did w gs b dur pend nw bud 1) := by
  subst ho
  obtain ⟨r, hr⟩ : ∃ r, r = d % 7 := ⟨_, rfl⟩
  have hr3 : r < 3 := by omega
  have hd1 : (d : Int) % 7 = (r : Int) := by omega
  have hd2 : (d : Int).tmod 7 = (r : Int) := by rw [Int.tmod_eq_emod_of_nonneg (by omega)]; exact hd1
  have e6 : ((r : Int) == 6) = false := by rw [beq_eq_false_iff_ne]; omega
  have e3 : ((r : Int) == 3) = false := by rw [beq_eq_false_iff_ne]; omega
  have e4 : ((r : Int) == 4) = false := by rw [beq_eq_false_iff_ne]; omega
  have e5 : ((r : Int) == 5) = false := by rw [beq_eq_false_iff_ne]; omega
  clear hr
  obtain ⟨wa, hwa⟩ : ∃ wa, wa = w.alloc (.cells #[.int .u8 (d : Int), .int .i64 i, .slice PA pn pc, .bool true, .int .i64 bit, .int .i64 n, .int .u32 (mask : Int), .slice KA kn kc] 34) := ⟨_, rfl⟩
  have hba : Below w.heap.size w wa := by rw [hwa]; exact (Below.refl _ _).alloc (Nat.le_refl _) _
  have hD := h.below hba
  have hG : wa.heap[w.heap.size]? = some (.cells #[.int .u8 (d : Int), .int .i64 i, .slice PA pn pc, .bool true, .int .i64 bit, .int .i64 n, .int .u32 (mask : Int), .slice KA kn kc] 34 (0, 0)) := by rw [hwa]; exact Go.heap_alloc_new w _
  have hlx : w.heap.size < wa.heap.size := (Array.getElem?_eq_some_iff.1 hG).1
  have q1 : wa.cell? ⟨w.heap.size, 1, none⟩ = some (.int .i64 i) := by rw [cell_of_row wa _ 1 _ _ _ hG]; rfl
  clear hG
  clear hd h
  go_enter Try.func13, Try.ntmps13
  have HL := hide (r511_any wa.drew)
  rw [hwa] at HL
  go_wp2_with fail
  go_region_with (first
    | (go_at_call 30; (with_reducible refine (unhide HL).mono ?_); rintro e w2 ⟨A2, c2, rfl, hb2⟩; go_loud (rw [← hwa] at hb2; have hb2 := below_on (Below.refl wa.heap.size wa).drew hb2; have q2 := (hb2.cell (p := ⟨w.heap.size, 1, none⟩) hlx).trans q1); have HW := hide (write_arg (w := w2) gs i A2 511 c2 (by decide)))
    | (go_at_call 18; (with_reducible refine (unhide HW).mono ?_); rintro e w3 ⟨rfl, rfl⟩))
  all_goals
    go_wp2_with fail
    go_ret2
    exact ⟨gs, b, rfl, hD.below hb2, hpv, fun _ _ h => h, .inl rfl, OnlyAt.of_below (hba.trans (hb2.mono hba.size)) _⟩
set_option maxRecDepth 100000 in
set_option maxHeartbeats 4000000 in
theorem did_index {w : World} {gs : Nat} {b : DB} {dur : List (List Nat)} {pend : List (Nat × List Nat)} {nw bud : Int} (h : Disk w gs b dur pend nw bud) (hpv : pend = [] → b.pv = .slice none 0 0)
    (d : Nat) (i bit n : Int) (PA KA : Option Addr) (pn pc kn kc : Nat) (odd : Bool) (mask : Nat) (hd : d % 7 < 3) (ho : odd = false) (p : List Nat) (hp : Bytes w w.heap.size (.slice PA pn pc) p) (hno : ¬ (0 ≤ i ∧ i < (dur.length : Int))) :
    Calls Try.prog 13 #[.pointer (some ⟨gs, 0, none⟩), .agg #[.int .u8 (d : Int), .int .i64 i, .slice PA pn pc, .bool odd, .int .i64 bit, .int .i64 n, .int .u32 (mask : Int), .slice KA kn kc]] w (Did w gs b dur pend nw bud 6) := by
  subst ho
  obtain ⟨r, hr⟩ : ∃ r, r = d % 7 := ⟨_, rfl⟩
  have hr3 : r < 3 := by omega
  have hd1 : (d : Int) % 7 = (r : Int) := by omega
  have hd2 : (d : Int).tmod 7 = (r : Int) := by rw [Int.tmod_eq_emod_of_nonneg (by omega)]; exact hd1
  have e6 : ((r : Int) == 6) = false := by rw [beq_eq_false_iff_ne]; omega
  have e3 : ((r : Int) == 3) = false := by rw [beq_eq_false_iff_ne]; omega
  have e4 : ((r : Int) == 4) = false := by rw [beq_eq_false_iff_ne]; omega
  have e5 : ((r : Int) == 5) = false := by rw [beq_eq_false_iff_ne]; omega
  clear hr
  obtain ⟨wa, hwa⟩ : ∃ wa, wa = w.alloc (.cells #[.int .u8 (d : Int), .int .i64 i, .slice PA pn pc, .bool false, .int .i64 bit, .int .i64 n, .int .u32 (mask : Int), .slice KA kn kc] 34) := ⟨_, rfl⟩
  have hba : Below w.heap.size w wa := by rw [hwa]; exact (Below.refl _ _).alloc (Nat.le_refl _) _
  have hD := h.below hba
  have hG : wa.heap[w.heap.size]? = some (.cells #[.int .u8 (d : Int), .int .i64 i, .slice PA pn pc, .bool false, .int .i64 bit, .int .i64 n, .int .u32 (mask : Int), .slice KA kn kc] 34 (0, 0)) := by rw [hwa]; exact Go.heap_alloc_new w _
  have hlx : w.heap.size < wa.heap.size := (Array.getElem?_eq_some_iff.1 hG).1
  have q1 : wa.cell? ⟨w.heap.size, 1, none⟩ = some (.int .i64 i) := by rw [cell_of_row wa _ 1 _ _ _ hG]; rfl
  clear hG
  clear hd h
  go_enter Try.func13, Try.ntmps13
  have HL := hide (full_any wa.drew (.slice PA pn pc) p ((hp.along hba).quiet 1))
  rw [hwa] at HL
  have HD := hide fun (w2 : World) (hb2 : Below wa.heap.size wa w2) => hD.below hb2
  go_wp2_with fail
  go_region_with (first
    | (go_at_call 17; (with_reducible refine (unhide HL).mono ?_); rintro e w2 ⟨A2, n2, c2, rfl, hM2, hb2⟩;
       obtain rfl : n2 = 512 := hM2.len.trans (full_length p);
       rw [← hwa] at hb2;
       have hb2 := below_on (Below.refl wa.heap.size wa).drew hb2;
       have q2 := (hb2.cell (p := ⟨w.heap.size, 1, none⟩) hlx).trans q1;
       have hD2 := unhide HD w2 hb2;
       have HW := hide (write_index hD2 i (by omega) A2 c2))
    | (go_at_call 18; (with_reducible refine (unhide HW).mono ?_); rintro e w3 ⟨rfl, rfl⟩))
  all_goals
    go_wp2_with fail
    go_ret2
    exact ⟨gs, b, rfl, hD2, hpv, fun _ _ h => h, .inl rfl, OnlyAt.of_below (hba.trans (hb2.mono hba.size)) _⟩
set_option maxRecDepth 100000 in
set_option maxHeartbeats 4000000 in
theorem did_off {w : World} {gs : Nat} {b : DB} {dur : List (List Nat)} {pend : List (Nat × List Nat)} {nw : Int} (h : Disk w gs b dur pend nw 0) (hpv : pend = [] → b.pv = .slice none 0 0)
    (d : Nat) (i bit n : Int) (PA KA : Option Addr) (pn pc kn kc : Nat) (odd : Bool) (mask : Nat) (hd : d % 7 < 3) (ho : odd = false) (p : List Nat) (hp : Bytes w w.heap.size (.slice PA pn pc) p) (iN : Nat) (hi : i = (iN : Int)) (hil : iN < dur.length) :
    Calls Try.prog 13 #[.pointer (some ⟨gs, 0, none⟩), .agg #[.int .u8 (d : Int), .int .i64 i, .slice PA pn pc, .bool odd, .int .i64 bit, .int .i64 n, .int .u32 (mask : Int), .slice KA kn kc]] w (Did w gs b dur pend nw 0 8) := by
  subst ho hi
  obtain ⟨r, hr⟩ : ∃ r, r = d % 7 := ⟨_, rfl⟩
  have hr3 : r < 3 := by omega
  have hd1 : (d : Int) % 7 = (r : Int) := by omega
  have hd2 : (d : Int).tmod 7 = (r : Int) := by rw [Int.tmod_eq_emod_of_nonneg (by omega)]; exact hd1
  have e6 : ((r : Int) == 6) = false := by rw [beq_eq_false_iff_ne]; omega
  have e3 : ((r : Int) == 3) = false := by rw [beq_eq_false_iff_ne]; omega
  have e4 : ((r : Int) == 4) = false := by rw [beq_eq_false_iff_ne]; omega
  have e5 : ((r : Int) == 5) = false := by rw [beq_eq_false_iff_ne]; omega
  clear hr
  obtain ⟨wa, hwa⟩ : ∃ wa, wa = w.alloc (.cells #[.int .u8 (d : Int), .int .i64 (iN : Int), .slice PA pn pc, .bool false, .int .i64 bit, .int .i64 n, .int .u32 (mask : Int), .slice KA kn kc] 34) := ⟨_, rfl⟩
  have hba : Below w.heap.size w wa := by rw [hwa]; exact (Below.refl _ _).alloc (Nat.le_refl _) _
  have hD := h.below hba
  have hG : wa.heap[w.heap.size]? = some (.cells #[.int .u8 (d : Int), .int .i64 (iN : Int), .slice PA pn pc, .bool false, .int .i64 bit, .int .i64 n, .int .u32 (mask : Int), .slice KA kn kc] 34 (0, 0)) := by rw [hwa]; exact Go.heap_alloc_new w _
  have hlx : w.heap.size < wa.heap.size := (Array.getElem?_eq_some_iff.1 hG).1
  have q1 : wa.cell? ⟨w.heap.size, 1, none⟩ = some (.int .i64 (iN : Int)) := by rw [cell_of_row wa _ 1 _ _ _ hG]; rfl
  clear hG
  clear hd h
  go_enter Try.func13, Try.ntmps13
  have HL := hide (full_any wa.drew (.slice PA pn pc) p ((hp.along hba).quiet 1))
  rw [hwa] at HL
  have HD := hide fun (w2 : World) (hb2 : Below wa.heap.size wa w2) => hD.below hb2
  go_wp2_with fail
  go_region_with (first
    | (go_at_call 17; (with_reducible refine (unhide HL).mono ?_); rintro e w2 ⟨A2, n2, c2, rfl, hM2, hb2⟩;
       obtain rfl : n2 = 512 := hM2.len.trans (full_length p);
       rw [← hwa] at hb2;
       have hb2 := below_on (Below.refl wa.heap.size wa).drew hb2;
       have q2 := (hb2.cell (p := ⟨w.heap.size, 1, none⟩) hlx).trans q1;
       have hD2 := unhide HD w2 hb2;
       have HW := hide (write_off hD2 iN hil A2 c2))
    | (go_at_call 18; (with_reducible refine (unhide HW).mono ?_); rintro e w3 ⟨rfl, rfl⟩))
  all_goals
    go_wp2_with fail
    go_ret2
    exact ⟨gs, b, rfl, hD2, hpv, fun _ _ h => h, .inl rfl, OnlyAt.of_below (hba.trans (hb2.mono hba.size)) _⟩
set_option maxRecDepth 100000 in
set_option maxHeartbeats 4000000 in
theorem did_write {w : World} {gs : Nat} {b : DB} {dur : List (List Nat)} {pend : List (Nat × List Nat)} {nw bud : Int} (h : Disk w gs b dur pend nw bud) (hpv : pend = [] → b.pv = .slice none 0 0)
    (d : Nat) (i bit n : Int) (PA KA : Option Addr) (pn pc kn kc : Nat) (odd : Bool) (mask : Nat) (hd : d % 7 < 3) (ho : odd = false) (p : List Nat) (hp : Bytes w w.heap.size (.slice PA pn pc) p) (iN : Nat) (hi : i = (iN : Int)) (hil : iN < dur.length) (hb : bud ≠ 0) (hbb : -9223372036854775808 ≤ bud ∧ bud ≤ 9223372036854775807) (hwr : 0 ≤ nw ∧ nw ≤ 1048576) (hmany : pend.length < 1048576) (hps : ∀ x ∈ p, x < 256) :
    Calls Try.prog 13 #[.pointer (some ⟨gs, 0, none⟩), .agg #[.int .u8 (d : Int), .int .i64 i, .slice PA pn pc, .bool odd, .int .i64 bit, .int .i64 n, .int .u32 (mask : Int), .slice KA kn kc]] w (Did w gs b dur (pend ++ [(iN, full p)]) (nw + 1) (less bud) 0) := by
  subst ho hi
  obtain ⟨r, hr⟩ : ∃ r, r = d % 7 := ⟨_, rfl⟩
  have hr3 : r < 3 := by omega
  have hd1 : (d : Int) % 7 = (r : Int) := by omega
  have hd2 : (d : Int).tmod 7 = (r : Int) := by rw [Int.tmod_eq_emod_of_nonneg (by omega)]; exact hd1
  have e6 : ((r : Int) == 6) = false := by rw [beq_eq_false_iff_ne]; omega
  have e3 : ((r : Int) == 3) = false := by rw [beq_eq_false_iff_ne]; omega
  have e4 : ((r : Int) == 4) = false := by rw [beq_eq_false_iff_ne]; omega
  have e5 : ((r : Int) == 5) = false := by rw [beq_eq_false_iff_ne]; omega
  clear hr
  obtain ⟨wa, hwa⟩ : ∃ wa, wa = w.alloc (.cells #[.int .u8 (d : Int), .int .i64 (iN : Int), .slice PA pn pc, .bool false, .int .i64 bit, .int .i64 n, .int .u32 (mask : Int), .slice KA kn kc] 34) := ⟨_, rfl⟩
  have hba : Below w.heap.size w wa := by rw [hwa]; exact (Below.refl _ _).alloc (Nat.le_refl _) _
  have hD := h.below hba
  have hG : wa.heap[w.heap.size]? = some (.cells #[.int .u8 (d : Int), .int .i64 (iN : Int), .slice PA pn pc, .bool false, .int .i64 bit, .int .i64 n, .int .u32 (mask : Int), .slice KA kn kc] 34 (0, 0)) := by rw [hwa]; exact Go.heap_alloc_new w _
  have hlx : w.heap.size < wa.heap.size := (Array.getElem?_eq_some_iff.1 hG).1
  have q1 : wa.cell? ⟨w.heap.size, 1, none⟩ = some (.int .i64 (iN : Int)) := by rw [cell_of_row wa _ 1 _ _ _ hG]; rfl
  clear hG
  clear hd h
  go_enter Try.func13, Try.ntmps13
  have HL := hide (full_any wa.drew (.slice PA pn pc) p ((hp.along hba).quiet 1))
  rw [hwa] at HL
  have HD := hide fun (w2 : World) (hb2 : Below wa.heap.size wa w2) => hD.below hb2
  go_wp2_with fail
  go_region_with (first
    | (go_at_call 17; (with_reducible refine (unhide HL).mono ?_); rintro e w2 ⟨A2, n2, c2, rfl, hM2, hb2⟩;
       obtain rfl : n2 = 512 := hM2.len.trans (full_length p);
       rw [← hwa] at hb2;
       have hb2 := below_on (Below.refl wa.heap.size wa).drew hb2;
       have q2 := (hb2.cell (p := ⟨w.heap.size, 1, none⟩) hlx).trans q1;
       have hD2 := unhide HD w2 hb2;
       have HW := hide (write_good hD2 hb hbb hwr hmany iN hil A2 c2 (full p) hM2.bytes (full_sec hps)))
    | (go_at_call 18; (with_reducible refine (unhide HW).mono ?_); rintro e w3 ⟨rfl, b2, hD3, k1, k2, k3, k4, k5, hO3⟩))
  all_goals
    go_wp2_with fail
    go_ret2
    have hsz := hba.size
    have hsz2 := hb2.size
    refine ⟨gs, b2, rfl, hD3, fun e => absurd e (by simp), fun B hB h => ⟨h.1, by rw [k1]; exact h.2.1, by rw [k3]; exact h.2.2.1, fun g hg => ?_⟩, .inl k3, ((OnlyAt.of_below (hba.trans (hb2.mono hba.size)) _).trans (hO3.mono fun k _ e => ?_))⟩
    · rcases k5 with e | ⟨g2, e, e2⟩
      · exact h.2.2.2 g (by rw [← e]; exact hg)
      · rw [e] at hg
        injection hg with hg
        omega
    · rcases e with e | e | e
      · exact .inl e
      · exact .inr (.inr (.inl e))
      · exact .inr (.inr (.inr e))
end Go.Proofs.Ytmhhcblgeellnaa
