/- Contracts: what the reference's Do answers: rot. (Its drawn regions are typed by program: tools/gendisk.py.) -/
import Derived.Test.YtmhhcblgeellnaaRdD
namespace Go.Proofs.Ytmhhcblgeellnaa
open Go.RowKit
set_option linter.unusedSimpArgs false
set_option linter.unusedVariables false

def RotRR (w : World) (base gx : Nat) (sv av wv sv0 : Value) (box : Array Value) (ss : List Value) (dur : List (List Nat)) (pend : List (Nat × List Nat)) (i bit mask len : Nat) (left : Int) (n : Nat) (t : Value) (x : World) : Prop :=
  ∃ (k : Nat) (ws : List Value), k ≤ n ∧ t = .int .i64 (k : Int) ∧ RD x base gx sv av wv ss ws dur (rotted i bit mask len pend k) left ∧ OnlyAt w x (RP gx sv0 av wv) ∧ x.heap[w.heap.size]? = some (.cells box 34 (0, 0))
theorem rotted_same {i bit mask len k : Nat} {pend : List (Nat × List Nat)} {p : Nat × List Nat} (h : pend[k]? = some p) (hne : p.1 ≠ i) : rotted i bit mask len pend (k + 1) = rotted i bit mask len pend k := by
  rw [rotted_next h, show rotF i bit mask len p = p from if_neg hne]
  exact set_self (rotted_at h)
theorem rotted_zero (i bit mask len : Nat) (pend : List (Nat × List Nat)) : rotted i bit mask len pend 0 = pend := by simp [rotted]
theorem rotted_one (i bit mask len : Nat) (pend : List (Nat × List Nat)) (k : Nat) (hk : k ≤ pend.length) : (rotted i bit mask len pend k).map (·.1) = pend.map (·.1) := by
  unfold rotted
  rw [List.map_append, List.map_map, show ((·.1) ∘ rotF i bit mask len : Nat × List Nat → Nat) = (·.1) from ?_, ← List.map_append, List.take_append_drop]
  funext p
  show (rotF i bit mask len p).1 = p.1
  unfold rotF
  split <;> rfl
set_option maxRecDepth 100000 in
set_option maxHeartbeats 4000000 in
theorem rdo_rot {w : World} {base gx : Nat} {sv av wv : Value} {ss ws : List Value} {dur : List (List Nat)} {pend : List (Nat × List Nat)} {left : Int} (h : RD w base gx sv av wv ss ws dur pend left) (hbase : base ≤ w.heap.size) (hfew : 1 ≤ dur.length ∧ dur.length ≤ 4096) (hmany : pend.length ≤ 1000) (hleft : -1 ≤ left ∧ left ≤ 9223372036854775807)
    (d : Nat) (i bit n : Int) (PA KA : Option Addr) (pn pc kn kc : Nat) (odd : Bool) (mask : Nat) (hd : d % 7 = 4) (iN bN nN : Nat) (hi : i = (iN : Int)) (hbi : bit = (bN : Int)) (hni : n = (nN : Int)) (hn2 : nN ≤ 32) (hb3 : bN + nN ≤ 4096) (hm : mask < 4294967296) (s : List Nat) (hs : dur[iN]? = some s) (hsec : IsSec s) (hws : ∀ p ∈ pend, IsSec p.2) :
    Calls Try.prog 12 #[.pointer (some ⟨gx, 0, none⟩), .agg #[.int .u8 (d : Int), .int .i64 i, .slice PA pn pc, .bool odd, .int .i64 bit, .int .i64 n, .int .u32 (mask : Int), .slice KA kn kc]] w (Done w base gx sv av wv (dur.set iN (flip bN mask s nN)) (pend.map (rotF iN bN mask nN)) left 0) := by
  subst hi hbi hni
  have HWS := Lib.hid hws
  have HSS := Lib.hid hs
  have HSEC := Lib.hid hsec
  have hil : iN < dur.length := (List.getElem?_eq_some_iff.1 hs).1
  clear hws hs hsec
  obtain ⟨g0, scap, -, hsv, -, -, -⟩ := row_place h.safe.row (by omega)
  subst hsv
  have c0 := h.c0
  have hd1 : (d : Int) % 7 = 4 := by omega
  have hd2 : (d : Int).tmod 7 = 4 := by rw [Int.tmod_eq_emod_of_nonneg (by omega)]; exact hd1
  have HH := Lib.hid h
  have HBS := Lib.hid hbase
  obtain ⟨th, hth⟩ : ∃ th : Bool, th = decide (0 ≤ (iN : Int) ∧ (iN : Int) < (dur.length : Int)) := ⟨_, rfl⟩
  have HT := Lib.hid hth
  clear h hth hbase
  have HD1 := Lib.hid hd1
  have HD2 := Lib.hid hd2
  clear hd1 hd2
  go_enter Try.func12, Try.ntmps12
  go_wp2
  go_cut [6] (fun v6 wx => v6 = .bool th ∧ Below w.heap.size w wx ∧ wx.heap[w.heap.size]? = some (.cells #[.int .u8 (d : Int), .int .i64 (iN : Int), .slice PA pn pc, .bool odd, .int .i64 (bN : Int), .int .i64 (nN : Int), .int .u32 (mask : Int), .slice KA kn kc] 34 (0, 0)))
  case first =>
    have hfin : ∀ q, Below w.heap.size w ((w.alloc (.cells #[.int .u8 (d : Int), .int .i64 (iN : Int), .slice PA pn pc, .bool odd, .int .i64 (bN : Int), .int .i64 (nN : Int), .int .u32 (mask : Int), .slice KA kn kc] 34)).drewN q) ∧ ((w.alloc (.cells #[.int .u8 (d : Int), .int .i64 (iN : Int), .slice PA pn pc, .bool odd, .int .i64 (bN : Int), .int .i64 (nN : Int), .int .u32 (mask : Int), .slice KA kn kc] 34)).drewN q).heap[w.heap.size]? = some (.cells #[.int .u8 (d : Int), .int .i64 (iN : Int), .slice PA pn pc, .bool odd, .int .i64 (bN : Int), .int .i64 (nN : Int), .int .u32 (mask : Int), .slice KA kn kc] 34 (0, 0)) := fun q => ⟨below_drewN ((Below.refl _ _).alloc (Nat.le_refl _) _) q, Go.heap_alloc_new w _⟩
    have HFIN := Lib.hid hfin
    clear hfin
    have c0a : (w.alloc (.cells #[.int .u8 (d : Int), .int .i64 (iN : Int), .slice PA pn pc, .bool odd, .int .i64 (bN : Int), .int .i64 (nN : Int), .int .u32 (mask : Int), .slice KA kn kc] 34)).cell? ⟨gx, 0, none⟩ = some (.slice (some ⟨g0, 0, none⟩) dur.length scap) := (((Below.refl w.heap.size w).alloc (Nat.le_refl _) _).cell (p := ⟨gx, 0, none⟩) HH.out.lt).trans c0
    have i0 : (0 : Int) ≤ (iN : Int) := by omega
    have i1 : (iN : Int) < (dur.length : Int) := by omega
    have ht : th = true := by rw [HT.out]; exact decide_eq_true ⟨i0, i1⟩
    subst ht
    go_quiet (fail)
    go_wp2_with fail
    go_meet
    exact ⟨rfl, HFIN.out _⟩
  case rest =>
  obtain ⟨wa, hwa⟩ : ∃ wa, wa = wc := ⟨_, rfl⟩
  subst hwa
  obtain ⟨rfl, hbx, hgx⟩ := hcut
  have hlx : w.heap.size < wa.heap.size := (Array.getElem?_eq_some_iff.1 hgx).1
  obtain ⟨q0, q1, q2, q3, q4, q5, q6, q7⟩ := box8 hgx
  have h := HH.out.below hbx
  have HX := Lib.hid h
  have HBX := Lib.hid hbx
  have HGX := Lib.hid hgx
  have hd1 := HD1.out
  have hd2 := HD2.out
  clear c0 hgx hbx
  have ht : th = true := by rw [HT.out]; exact decide_eq_true ⟨by omega, by omega⟩
  subst ht
  obtain ⟨u, hu⟩ : ∃ u, ss[iN]? = some u := ⟨_, List.getElem?_eq_getElem (by rw [h.safe.len]; exact hil)⟩
  obtain ⟨A0, cc0, rfl, hM0⟩ := h.safe.each iN u s hu HSS.out
  obtain ⟨hcu, -⟩ := row_cell h.safe.row hu
  have HTU := hide (turned_any wa.drew A0 cc0 bN nN mask s (hM0.bytes.quiet 1) HSEC.out hb3 hn2 hm)
  have c0 := h.c0
  have hcx : ∀ x, Below wa.heap.size wa x → x.cell? ⟨gx, 0, none⟩ = some (.slice (some ⟨g0, 0, none⟩) dur.length scap) ∧ x.cell? ⟨w.heap.size, 1, none⟩ = some (.int .i64 (iN : Int)) ∧ x.cell? ⟨w.heap.size, 4, none⟩ = some (.int .i64 (bN : Int)) ∧ x.cell? ⟨w.heap.size, 5, none⟩ = some (.int .i64 (nN : Int)) ∧ x.cell? ⟨w.heap.size, 6, none⟩ = some (.int .u32 (mask : Int)) ∧ x.cell? ⟨g0, iN, none⟩ = some (.slice A0 512 cc0) := fun x hx =>
    ⟨(HX.out.below hx).c0, (hx.cell (p := ⟨w.heap.size, 1, none⟩) hlx).trans q1, (hx.cell (p := ⟨w.heap.size, 4, none⟩) hlx).trans q4, (hx.cell (p := ⟨w.heap.size, 5, none⟩) hlx).trans q5, (hx.cell (p := ⟨w.heap.size, 6, none⟩) hlx).trans q6, (row_cell (HX.out.below hx).safe.row hu).1⟩
  have hcs : ∀ x, Below wa.heap.size wa x → x.cell? ⟨g0, iN, none⟩ = some (.slice A0 512 cc0) ∧ x.frozen? ⟨g0, iN, none⟩ = false := fun x hx => row_cell (HX.out.below hx).safe.row hu
  have HCX := Lib.hid hcx
  have HCS := Lib.hid hcs
  have HU := Lib.hid hu
  have i0 : (0 : Int) ≤ (iN : Int) := by omega
  have i1 : (iN : Int) < (dur.length : Int) := by omega
  clear h hM0 hcx hcs hu
  have dd0 : decide ((nN : Int) < 0) = false := decide_eq_false (by omega)
  have dd1 : decide ((nN : Int) > 32) = false := decide_eq_false (by omega)
  have dd2 : decide ((bN : Int) < 0) = false := decide_eq_false (by omega)
  have dd3 : decide ((bN : Int) > 4096) = false := decide_eq_false (by omega)
  have dd4 : decide ((bN : Int) + (nN : Int) > 4096) = false := decide_eq_false (by omega)
  go_wp2
  refine wp_region_noPanic ?_
  refine region_till [22] (fun _ x => x.cell? ⟨gx, 0, none⟩ = some (.slice (some ⟨g0, 0, none⟩) dur.length scap) ∧ x.cell? ⟨w.heap.size, 1, none⟩ = some (.int .i64 (iN : Int)) ∧ x.cell? ⟨w.heap.size, 4, none⟩ = some (.int .i64 (bN : Int)) ∧ x.cell? ⟨w.heap.size, 5, none⟩ = some (.int .i64 (nN : Int)) ∧ x.cell? ⟨w.heap.size, 6, none⟩ = some (.int .u32 (mask : Int)) ∧ x.cell? ⟨g0, iN, none⟩ = some (.slice A0 512 cc0)) (by kernel_rfl) (fun _ => HCX.out _ (Below.refl _ _).drew) (fun hHeld => ?_)
  refine till_take 22 (i := 0) (v := ?_) (some 172) rfl rfl (by kernel_rfl) (by kernel_rfl) (by kernel_rfl) (by kernel_rfl) (fun _ _ _ h => h) (Or.inl ⟨by rfl, ?_⟩) (by assumption) (fun hHeld2 => ?_)
  rotate_left
  · intro w hSw
    obtain ⟨z0, z1, z2, z3, z4, z5⟩ := hSw
    first | (go_simp; done) | (go_simp; with_reducible rfl)
  clear hHeld
  have hHeld := hHeld2
  clear hHeld2
  try simp only [Act.put, List.setIfInBounds_toArray, List.set_cons_zero, List.set_cons_succ]
  refine till_take 22 (i := 1) (v := ?_) (some 173) rfl rfl (by kernel_rfl) (by kernel_rfl) (by kernel_rfl) (by kernel_rfl) (fun _ _ _ h => h) (Or.inl ⟨by rfl, ?_⟩) (by assumption) (fun hHeld2 => ?_)
  rotate_left
  · intro w hSw
    obtain ⟨z0, z1, z2, z3, z4, z5⟩ := hSw
    first | (go_simp; done) | (go_simp; with_reducible rfl)
  clear hHeld
  have hHeld := hHeld2
  clear hHeld2
  try simp only [Act.put, List.setIfInBounds_toArray, List.set_cons_zero, List.set_cons_succ]
  refine till_take 22 (i := 2) (v := ?_) (some 174) rfl rfl (by kernel_rfl) (by kernel_rfl) (by kernel_rfl) (by kernel_rfl) (fun _ _ _ h => h) (Or.inl ⟨by rfl, ?_⟩) (by assumption) (fun hHeld2 => ?_)
  rotate_left
  · intro w hSw
    obtain ⟨z0, z1, z2, z3, z4, z5⟩ := hSw
    first | (go_simp; done) | (go_simp; with_reducible rfl)
  clear hHeld
  have hHeld := hHeld2
  clear hHeld2
  try simp only [Act.put, List.setIfInBounds_toArray, List.set_cons_zero, List.set_cons_succ]
  refine till_take 22 (i := 3) (v := ?_) (some 175) rfl rfl (by kernel_rfl) (by kernel_rfl) (by kernel_rfl) (by kernel_rfl) (fun _ _ _ h => h) (Or.inl ⟨by rfl, ?_⟩) (by assumption) (fun hHeld2 => ?_)
  rotate_left
  · intro w hSw
    obtain ⟨z0, z1, z2, z3, z4, z5⟩ := hSw
    first | (go_simp; done) | (go_simp; with_reducible rfl)
  clear hHeld
  have hHeld := hHeld2
  clear hHeld2
  try simp only [Act.put, List.setIfInBounds_toArray, List.set_cons_zero, List.set_cons_succ]
  refine till_take 22 (i := 4) (v := ?_) (some 176) rfl rfl (by kernel_rfl) (by kernel_rfl) (by kernel_rfl) (by kernel_rfl) (fun _ _ _ h => h) (Or.inl ⟨by rfl, ?_⟩) (by assumption) (fun hHeld2 => ?_)
  rotate_left
  · intro w hSw
    obtain ⟨z0, z1, z2, z3, z4, z5⟩ := hSw
    first | (go_simp; done) | (go_simp; with_reducible rfl)
  clear hHeld
  have hHeld := hHeld2
  clear hHeld2
  try simp only [Act.put, List.setIfInBounds_toArray, List.set_cons_zero, List.set_cons_succ]
  refine till_take 22 (i := 5) (v := ?_) (some 177) rfl rfl (by kernel_rfl) (by kernel_rfl) (by kernel_rfl) (by kernel_rfl) (fun _ _ _ h => h) (Or.inl ⟨by rfl, ?_⟩) (by assumption) (fun hHeld2 => ?_)
  rotate_left
  · intro w hSw
    obtain ⟨z0, z1, z2, z3, z4, z5⟩ := hSw
    first | (go_simp; done) | (go_simp; with_reducible rfl)
  clear hHeld
  have hHeld := hHeld2
  clear hHeld2
  try simp only [Act.put, List.setIfInBounds_toArray, List.set_cons_zero, List.set_cons_succ]
  refine till_take 22 (i := 6) (v := ?_) (some 178) rfl rfl (by kernel_rfl) (by kernel_rfl) (by kernel_rfl) (by kernel_rfl) (fun _ _ _ h => h) (Or.inl ⟨by rfl, ?_⟩) (by assumption) (fun hHeld2 => ?_)
  rotate_left
  · intro w hSw
    obtain ⟨z0, z1, z2, z3, z4, z5⟩ := hSw
    first | (go_simp; done) | (go_simp; with_reducible rfl)
  clear hHeld
  have hHeld := hHeld2
  clear hHeld2
  try simp only [Act.put, List.setIfInBounds_toArray, List.set_cons_zero, List.set_cons_succ]
  refine till_take 22 (i := 7) (v := ?_) (some 179) rfl rfl (by kernel_rfl) (by kernel_rfl) (by kernel_rfl) (by kernel_rfl) (fun _ _ _ h => h) (Or.inl ⟨by rfl, ?_⟩) (by assumption) (fun hHeld2 => ?_)
  rotate_left
  · intro w hSw
    obtain ⟨z0, z1, z2, z3, z4, z5⟩ := hSw
    first | (go_simp; done) | (go_simp; with_reducible rfl)
  clear hHeld
  have hHeld := hHeld2
  clear hHeld2
  try simp only [Act.put, List.setIfInBounds_toArray, List.set_cons_zero, List.set_cons_succ]
  refine till_take 22 (i := 8) (v := ?_) (some 180) rfl rfl (by kernel_rfl) (by kernel_rfl) (by kernel_rfl) (by kernel_rfl) (fun _ _ _ h => h) (Or.inl ⟨by rfl, ?_⟩) (by assumption) (fun hHeld2 => ?_)
  rotate_left
  · intro w hSw
    obtain ⟨z0, z1, z2, z3, z4, z5⟩ := hSw
    first | (go_simp; done) | (go_simp; with_reducible rfl)
  clear hHeld
  have hHeld := hHeld2
  clear hHeld2
  try simp only [Act.put, List.setIfInBounds_toArray, List.set_cons_zero, List.set_cons_succ]
  refine till_take 22 (i := 9) (v := ?_) (some 181) rfl rfl (by kernel_rfl) (by kernel_rfl) (by kernel_rfl) (by kernel_rfl) (fun _ _ _ h => h) (Or.inl ⟨by rfl, ?_⟩) (by assumption) (fun hHeld2 => ?_)
  rotate_left
  · intro w hSw
    obtain ⟨z0, z1, z2, z3, z4, z5⟩ := hSw
    first | (go_simp; done) | (go_simp; with_reducible rfl)
  clear hHeld
  have hHeld := hHeld2
  clear hHeld2
  try simp only [Act.put, List.setIfInBounds_toArray, List.set_cons_zero, List.set_cons_succ]
  refine till_take 22 (i := 10) (v := ?_) (some 182) rfl rfl (by kernel_rfl) (by kernel_rfl) (by kernel_rfl) (by kernel_rfl) (fun _ _ _ h => h) (Or.inl ⟨by rfl, ?_⟩) (by assumption) (fun hHeld2 => ?_)
  rotate_left
  · intro w hSw
    obtain ⟨z0, z1, z2, z3, z4, z5⟩ := hSw
    first | (go_simp; done) | (go_simp; with_reducible rfl)
  clear hHeld
  have hHeld := hHeld2
  clear hHeld2
  try simp only [Act.put, List.setIfInBounds_toArray, List.set_cons_zero, List.set_cons_succ]
  refine till_take 22 (i := 11) (v := ?_) (some 183) rfl rfl (by kernel_rfl) (by kernel_rfl) (by kernel_rfl) (by kernel_rfl) (fun _ _ _ h => h) (Or.inl ⟨by rfl, ?_⟩) (by assumption) (fun hHeld2 => ?_)
  rotate_left
  · intro w hSw
    obtain ⟨z0, z1, z2, z3, z4, z5⟩ := hSw
    first | (go_simp; done) | (go_simp; with_reducible rfl)
  clear hHeld
  have hHeld := hHeld2
  clear hHeld2
  try simp only [Act.put, List.setIfInBounds_toArray, List.set_cons_zero, List.set_cons_succ]
  refine till_take 22 (i := 12) (v := ?_) (some 184) rfl rfl (by kernel_rfl) (by kernel_rfl) (by kernel_rfl) (by kernel_rfl) (fun _ _ _ h => h) (Or.inl ⟨by rfl, ?_⟩) (by assumption) (fun hHeld2 => ?_)
  rotate_left
  · intro w hSw
    obtain ⟨z0, z1, z2, z3, z4, z5⟩ := hSw
    first | (go_simp; done) | (go_simp; with_reducible rfl)
  clear hHeld
  have hHeld := hHeld2
  clear hHeld2
  try simp only [Act.put, List.setIfInBounds_toArray, List.set_cons_zero, List.set_cons_succ]
  refine till_take 22 (i := 13) (v := ?_) (some 185) rfl rfl (by kernel_rfl) (by kernel_rfl) (by kernel_rfl) (by kernel_rfl) (fun _ _ _ h => h) (Or.inl ⟨by rfl, ?_⟩) (by assumption) (fun hHeld2 => ?_)
  rotate_left
  · intro w hSw
    obtain ⟨z0, z1, z2, z3, z4, z5⟩ := hSw
    first | (go_simp; done) | (go_simp; with_reducible rfl)
  clear hHeld
  have hHeld := hHeld2
  clear hHeld2
  try simp only [Act.put, List.setIfInBounds_toArray, List.set_cons_zero, List.set_cons_succ]
  refine till_take 22 (i := 14) (v := ?_) (some 186) rfl rfl (by kernel_rfl) (by kernel_rfl) (by kernel_rfl) (by kernel_rfl) (fun _ _ _ h => h) (Or.inl ⟨by rfl, ?_⟩) (by assumption) (fun hHeld2 => ?_)
  rotate_left
  · intro w hSw
    obtain ⟨z0, z1, z2, z3, z4, z5⟩ := hSw
    first | (go_simp; done) | (go_simp; with_reducible rfl)
  clear hHeld
  have hHeld := hHeld2
  clear hHeld2
  try simp only [Act.put, List.setIfInBounds_toArray, List.set_cons_zero, List.set_cons_succ]
  refine till_take 22 (i := 15) (v := ?_) (some 187) rfl rfl (by kernel_rfl) (by kernel_rfl) (by kernel_rfl) (by kernel_rfl) (fun _ _ _ h => h) (Or.inl ⟨by rfl, ?_⟩) (by assumption) (fun hHeld2 => ?_)
  rotate_left
  · intro w hSw
    obtain ⟨z0, z1, z2, z3, z4, z5⟩ := hSw
    first | (go_simp; done) | (go_simp; with_reducible rfl)
  clear hHeld
  have hHeld := hHeld2
  clear hHeld2
  try simp only [Act.put, List.setIfInBounds_toArray, List.set_cons_zero, List.set_cons_succ]
  refine till_take 22 (i := 16) (v := ?_) (some 188) rfl rfl (by kernel_rfl) (by kernel_rfl) (by kernel_rfl) (by kernel_rfl) (fun _ _ _ h => h) (Or.inl ⟨by rfl, ?_⟩) (by assumption) (fun hHeld2 => ?_)
  rotate_left
  · intro w hSw
    obtain ⟨z0, z1, z2, z3, z4, z5⟩ := hSw
    first | (go_simp; done) | (go_simp; with_reducible rfl)
  clear hHeld
  have hHeld := hHeld2
  clear hHeld2
  try simp only [Act.put, List.setIfInBounds_toArray, List.set_cons_zero, List.set_cons_succ]
  refine till_take 22 (i := 17) (v := ?_) (some 189) rfl rfl (by kernel_rfl) (by kernel_rfl) (by kernel_rfl) (by kernel_rfl) (fun _ _ _ h => h) (Or.inl ⟨by rfl, ?_⟩) (by assumption) (fun hHeld2 => ?_)
  rotate_left
  · intro w hSw
    obtain ⟨z0, z1, z2, z3, z4, z5⟩ := hSw
    first | (go_simp; done) | (go_simp; with_reducible rfl)
  clear hHeld
  have hHeld := hHeld2
  clear hHeld2
  try simp only [Act.put, List.setIfInBounds_toArray, List.set_cons_zero, List.set_cons_succ]
  refine till_take 22 (i := 18) (v := ?_) (some 190) rfl rfl (by kernel_rfl) (by kernel_rfl) (by kernel_rfl) (by kernel_rfl) (fun _ _ _ h => h) (Or.inl ⟨by rfl, ?_⟩) (by assumption) (fun hHeld2 => ?_)
  rotate_left
  · intro w hSw
    obtain ⟨z0, z1, z2, z3, z4, z5⟩ := hSw
    first | (go_simp; done) | (go_simp; with_reducible rfl)
  clear hHeld
  have hHeld := hHeld2
  clear hHeld2
  try simp only [Act.put, List.setIfInBounds_toArray, List.set_cons_zero, List.set_cons_succ]
  refine till_take 22 (i := 19) (v := ?_) (some 191) rfl rfl (by kernel_rfl) (by kernel_rfl) (by kernel_rfl) (by kernel_rfl) (fun _ _ _ h => h) (Or.inl ⟨by rfl, ?_⟩) (by assumption) (fun hHeld2 => ?_)
  rotate_left
  · intro w hSw
    obtain ⟨z0, z1, z2, z3, z4, z5⟩ := hSw
    first | (go_simp; done) | (go_simp; with_reducible rfl)
  clear hHeld
  have hHeld := hHeld2
  clear hHeld2
  try simp only [Act.put, List.setIfInBounds_toArray, List.set_cons_zero, List.set_cons_succ]
  refine till_ready (rs := [20]) (by kernel_rfl) (by simp) ?_
  refine (AllTill.cons rfl (fun K hK => ?_) AllTill.nil)
  go_simp
  refine (unhide HTU).mono ?_
  rintro e w5 ⟨A5, c5, rfl, hM5, hb5⟩
  have b5 : Below wa.heap.size wa w5 := below_on (Below.refl _ _).drew hb5
  have HB5 := Lib.hid b5
  have HM5 := Lib.hid hM5
  obtain ⟨hcs, hfs⟩ := HCS.out _ b5
  clear hM5 hb5 b5
  refine hK.out _ _ ?_ (fun hHeld2 => ?_)
  · exact fun _ _ _ => HCX.out _ HB5.out
  clear hK K
  clear hHeld
  have hHeld := hHeld2
  clear hHeld2
  try simp only [Act.put, List.setIfInBounds_toArray, List.set_cons_zero, List.set_cons_succ]
  refine till_take 22 (i := 21) (v := ?_) (some 193) rfl rfl (by kernel_rfl) (by kernel_rfl) (by kernel_rfl) (by kernel_rfl) (fun _ _ _ h => h) (Or.inl ⟨by rfl, ?_⟩) (by assumption) (fun hHeld2 => ?_)
  rotate_left
  · intro w hSw
    obtain ⟨z0, z1, z2, z3, z4, z5⟩ := hSw
    first | (go_simp; done) | (go_simp; with_reducible rfl)
  clear hHeld
  have hHeld := hHeld2
  clear hHeld2
  try simp only [Act.put, List.setIfInBounds_toArray, List.set_cons_zero, List.set_cons_succ]
  refine till_ready (rs := [22]) (by kernel_rfl) (by simp) ?_
  refine (AllTill.cons rfl (fun K hK => ?_) AllTill.nil)
  go_simp
  refine hK.out _ _ ?_ (fun hHeld2 => ?_)
  · exact held_late rfl
  clear hK K
  clear hHeld
  have hHeld := hHeld2
  clear hHeld2
  try simp only [Act.put, List.setIfInBounds_toArray, List.set_cons_zero, List.set_cons_succ]
  refine till_done (by kernel_rfl) ?_ _
  refine NoPanic.normal ?_
  clear dd0 dd1 dd2 dd3 dd4 hHeld c0 q0 q1 q2 q3 q4 q5 q6 q7 hcu HCX HCS HTU hcs hfs
  obtain ⟨wb, hwb⟩ : ∃ wb, wb = w5.setCell ⟨g0, iN, none⟩ (.slice A5 512 c5) := ⟨_, rfl⟩
  have hlm : wa.heap.size ≤ w5.heap.size := HB5.out.size
  have hRb : RD wb base gx (.slice (some ⟨g0, 0, none⟩) dur.length scap) av wv (ss.set iN (.slice A5 512 c5)) ws (dur.set iN (flip bN mask s nN)) pend left := by
    rw [hwb]
    exact (HX.out.below HB5.out).sset (HM5.out.lower (Nat.le_trans HBS.out HBX.out.size))
  have hOb : OnlyAt w wb (RP gx (.slice (some ⟨g0, 0, none⟩) dur.length scap) av wv) := by
    rw [hwb]
    exact (RP_of_below (HBX.out.trans (HB5.out.mono HBX.out.size))).trans ((OnlyAt.setCell _ _ _ _).mono (fun k _ e => .inr (.inl (by rw [e]; rfl))))
  have hGb : wb.heap[w.heap.size]? = some (.cells #[.int .u8 (d : Int), .int .i64 (iN : Int), .slice PA pn pc, .bool odd, .int .i64 (bN : Int), .int .i64 (nN : Int), .int .u32 (mask : Int), .slice KA kn kc] 34 (0, 0)) := by
    have h5 := (HB5.out.block _ hlx).trans HGX.out
    obtain ⟨_, cur, hg⟩ := own_type (HX.out.below HB5.out).safe.row (g := g0) rfl
    rw [hwb, heap_setCell_other _ ⟨g0, iN, none⟩ w.heap.size _ (fun e => not_same h5 ((show w.heap.size = g0 from e) ▸ hg) (by decide))]
    exact h5
  rw [← hwb]
  clear hwb
  obtain ⟨n2, hn⟩ : ∃ n2, n2 = pend.length := ⟨_, rfl⟩
  obtain ⟨AA, ac, rfl⟩ := pv_form hRb.at_
  have c1 := hRb.c1
  rw [← hn] at c1 hmany
  have HN := Lib.hid hn
  have HR := Lib.hid hRb
  have HO := Lib.hid hOb
  have HG := Lib.hid hGb
  have hmm := hm
  clear hn hRb hOb hGb HX HBX HGX HB5 HM5 HH hlx
  go_wp2
  go_loopw [199] (fun t x => RotRR w base gx (.slice (some ⟨g0, 0, none⟩) dur.length scap) (.slice AA pend.length ac) wv (.slice (some ⟨g0, 0, none⟩) dur.length scap) #[.int .u8 (d : Int), .int .i64 (iN : Int), .slice PA pn pc, .bool odd, .int .i64 (bN : Int), .int .i64 (nN : Int), .int .u32 (mask : Int), .slice KA kn kc] (ss.set iN (.slice A5 512 c5)) (dur.set iN (flip bN mask s nN)) pend iN bN mask nN left n2 t x) (fun t _ => n2 - (intOf t).toNat)
  case atStart => exact ⟨0, ws, Nat.zero_le _, rfl, by rw [rotted_zero]; exact HR.out, HO.out, HG.out⟩
  case round =>
    obtain ⟨k, ws2, hk, rfl, hR, hO, hG⟩ := hrel
    have HRk := Lib.hid hR
    have HOk := Lib.hid hO
    have HGk := Lib.hid hG
    clear hO
    by_cases hlt : k < n2
    · obtain ⟨p, hp⟩ : ∃ p, pend[k]? = some p := ⟨_, List.getElem?_eq_getElem (by rw [← HN.out]; exact hlt)⟩
      have hrl : (rotted iN bN mask nN pend k).length = pend.length := rotted_length (by rw [← HN.out]; omega)
      obtain ⟨ga, acap, -, hav, -, -, -⟩ := row_place HRk.out.at_ (by rw [hrl, ← HN.out]; omega)
      have hA : AA = some ⟨ga, 0, none⟩ := by injection hav
      subst hA
      have hrow := hR.at_
      rw [hrl, rotted_one _ _ _ _ _ _ (by rw [← HN.out]; omega)] at hrow
      obtain ⟨hca, -⟩ := row_cell (u := .int .i64 (p.1 : Int)) hrow (by unfold ints; rw [List.getElem?_map, List.getElem?_map, hp]; rfl)
      have hlw : w.heap.size < wr.heap.size := (Array.getElem?_eq_some_iff.1 hG).1
      obtain ⟨q0, q1, q2, q3, q4, q5, q6, q7⟩ := box8 hG
      have k0 : (0 : Int) ≤ (k : Int) := by omega
      have k1 : (k : Int) < (n2 : Int) := by omega
      by_cases he : p.1 = iN
      · have he2 : ((p.1 : Int) == (iN : Int)) = true := by rw [beq_iff_eq]; omega
        obtain ⟨gw, wcap, -, hwv, -, -, -⟩ := row_place hR.wait.row (by rw [List.length_map, hrl, ← HN.out]; omega)
        rw [List.length_map, hrl, ← HN.out] at hwv
        subst hwv
        obtain ⟨v, hv⟩ : ∃ v, ws2[k]? = some v := ⟨_, List.getElem?_eq_getElem (by rw [hR.wait.len, List.length_map, hrl, ← HN.out]; exact hlt)⟩
        obtain ⟨A2, cc2, rfl, hM2⟩ := hR.wait.each k v p.2 hv (by rw [List.getElem?_map, rotted_at hp]; rfl)
        have hrw : ∀ x, Below wr.heap.size wr x → x.ownsRow base 30 1 (.slice (some ⟨gw, 0, none⟩) n2 wcap) n2 ws2 := fun x hx => by
          have h1 := (HRk.out.below hx).wait.row
          rw [List.length_map, hrl, ← HN.out] at h1
          exact h1
        have HTV := hide (turned_any wr.drew A2 cc2 bN nN mask p.2 (hM2.bytes.quiet 1) (HWS.out p (List.mem_of_getElem? hp)) hb3 hn2 hmm)
        have c2 := hR.c2
        have hcx : ∀ x, Below wr.heap.size wr x → x.cell? ⟨gx, 2, none⟩ = some (.slice (some ⟨gw, 0, none⟩) n2 wcap) ∧ x.cell? ⟨w.heap.size, 4, none⟩ = some (.int .i64 (bN : Int)) ∧ x.cell? ⟨w.heap.size, 5, none⟩ = some (.int .i64 (nN : Int)) ∧ x.cell? ⟨w.heap.size, 6, none⟩ = some (.int .u32 (mask : Int)) ∧ x.cell? ⟨gw, k, none⟩ = some (.slice A2 512 cc2) := fun x hx =>
          ⟨(HRk.out.below hx).c2, (hx.cell (p := ⟨w.heap.size, 4, none⟩) hlw).trans q4, (hx.cell (p := ⟨w.heap.size, 5, none⟩) hlw).trans q5, (hx.cell (p := ⟨w.heap.size, 6, none⟩) hlw).trans q6, (row_cell (hrw x hx) hv).1⟩
        have hcs : ∀ x, Below wr.heap.size wr x → x.cell? ⟨gw, k, none⟩ = some (.slice A2 512 cc2) ∧ x.frozen? ⟨gw, k, none⟩ = false := fun x hx => row_cell (hrw x hx) hv
        have HCX := Lib.hid hcx
        have HCS := Lib.hid hcs
        have hnx := rotted_next (i := iN) (bit := bN) (mask := mask) (len := nN) hp
        rw [show rotF iN bN mask nN p = (p.1, flip bN mask p.2 nN) from if_pos he] at hnx
        have HNX := Lib.hid hnx
        have HP := Lib.hid hp
        have HLW := Lib.hid hlw
        clear hav hp hrow hrw hv hM2 hR hcx hcs hnx he c1 hG hrl hlw
        go_wp2
        refine wp_region_noPanic ?_
        refine region_till [20] (fun _ x => x.cell? ⟨gx, 2, none⟩ = some (.slice (some ⟨gw, 0, none⟩) n2 wcap) ∧ x.cell? ⟨w.heap.size, 4, none⟩ = some (.int .i64 (bN : Int)) ∧ x.cell? ⟨w.heap.size, 5, none⟩ = some (.int .i64 (nN : Int)) ∧ x.cell? ⟨w.heap.size, 6, none⟩ = some (.int .u32 (mask : Int)) ∧ x.cell? ⟨gw, k, none⟩ = some (.slice A2 512 cc2)) (by kernel_rfl) (fun _ => HCX.out _ (Below.refl _ _).drew) (fun hHeld => ?_)
        refine till_take 20 (i := 0) (v := ?_) (some 208) rfl rfl (by kernel_rfl) (by kernel_rfl) (by kernel_rfl) (by kernel_rfl) (fun _ _ _ h => h) (Or.inl ⟨by rfl, ?_⟩) (by assumption) (fun hHeld2 => ?_)
        rotate_left
        · intro w hSw
          obtain ⟨z0, z1, z2, z3, z4⟩ := hSw
          first | (go_simp; done) | (go_simp; with_reducible rfl)
        clear hHeld
        have hHeld := hHeld2
        clear hHeld2
        try simp only [Act.put, List.setIfInBounds_toArray, List.set_cons_zero, List.set_cons_succ]
        refine till_take 20 (i := 1) (v := ?_) (some 209) rfl rfl (by kernel_rfl) (by kernel_rfl) (by kernel_rfl) (by kernel_rfl) (fun _ _ _ h => h) (Or.inl ⟨by rfl, ?_⟩) (by assumption) (fun hHeld2 => ?_)
        rotate_left
        · intro w hSw
          obtain ⟨z0, z1, z2, z3, z4⟩ := hSw
          first | (go_simp; done) | (go_simp; with_reducible rfl)
        clear hHeld
        have hHeld := hHeld2
        clear hHeld2
        try simp only [Act.put, List.setIfInBounds_toArray, List.set_cons_zero, List.set_cons_succ]
        refine till_take 20 (i := 2) (v := ?_) (some 210) rfl rfl (by kernel_rfl) (by kernel_rfl) (by kernel_rfl) (by kernel_rfl) (fun _ _ _ h => h) (Or.inl ⟨by rfl, ?_⟩) (by assumption) (fun hHeld2 => ?_)
        rotate_left
        · intro w hSw
          obtain ⟨z0, z1, z2, z3, z4⟩ := hSw
          first | (go_simp; done) | (go_simp; with_reducible rfl)
        clear hHeld
        have hHeld := hHeld2
        clear hHeld2
        try simp only [Act.put, List.setIfInBounds_toArray, List.set_cons_zero, List.set_cons_succ]
        refine till_take 20 (i := 3) (v := ?_) (some 211) rfl rfl (by kernel_rfl) (by kernel_rfl) (by kernel_rfl) (by kernel_rfl) (fun _ _ _ h => h) (Or.inl ⟨by rfl, ?_⟩) (by assumption) (fun hHeld2 => ?_)
        rotate_left
        · intro w hSw
          obtain ⟨z0, z1, z2, z3, z4⟩ := hSw
          first | (go_simp; done) | (go_simp; with_reducible rfl)
        clear hHeld
        have hHeld := hHeld2
        clear hHeld2
        try simp only [Act.put, List.setIfInBounds_toArray, List.set_cons_zero, List.set_cons_succ]
        refine till_take 20 (i := 4) (v := ?_) (some 212) rfl rfl (by kernel_rfl) (by kernel_rfl) (by kernel_rfl) (by kernel_rfl) (fun _ _ _ h => h) (Or.inl ⟨by rfl, ?_⟩) (by assumption) (fun hHeld2 => ?_)
        rotate_left
        · intro w hSw
          obtain ⟨z0, z1, z2, z3, z4⟩ := hSw
          first | (go_simp; done) | (go_simp; with_reducible rfl)
        clear hHeld
        have hHeld := hHeld2
        clear hHeld2
        try simp only [Act.put, List.setIfInBounds_toArray, List.set_cons_zero, List.set_cons_succ]
        refine till_take 20 (i := 5) (v := ?_) (some 213) rfl rfl (by kernel_rfl) (by kernel_rfl) (by kernel_rfl) (by kernel_rfl) (fun _ _ _ h => h) (Or.inl ⟨by rfl, ?_⟩) (by assumption) (fun hHeld2 => ?_)
        rotate_left
        · intro w hSw
          obtain ⟨z0, z1, z2, z3, z4⟩ := hSw
          first | (go_simp; done) | (go_simp; with_reducible rfl)
        clear hHeld
        have hHeld := hHeld2
        clear hHeld2
        try simp only [Act.put, List.setIfInBounds_toArray, List.set_cons_zero, List.set_cons_succ]
        refine till_take 20 (i := 6) (v := ?_) (some 214) rfl rfl (by kernel_rfl) (by kernel_rfl) (by kernel_rfl) (by kernel_rfl) (fun _ _ _ h => h) (Or.inl ⟨by rfl, ?_⟩) (by assumption) (fun hHeld2 => ?_)
        rotate_left
        · intro w hSw
          obtain ⟨z0, z1, z2, z3, z4⟩ := hSw
          first | (go_simp; done) | (go_simp; with_reducible rfl)
        clear hHeld
        have hHeld := hHeld2
        clear hHeld2
        try simp only [Act.put, List.setIfInBounds_toArray, List.set_cons_zero, List.set_cons_succ]
        refine till_take 20 (i := 7) (v := ?_) (some 215) rfl rfl (by kernel_rfl) (by kernel_rfl) (by kernel_rfl) (by kernel_rfl) (fun _ _ _ h => h) (Or.inl ⟨by rfl, ?_⟩) (by assumption) (fun hHeld2 => ?_)
        rotate_left
        · intro w hSw
          obtain ⟨z0, z1, z2, z3, z4⟩ := hSw
          first | (go_simp; done) | (go_simp; with_reducible rfl)
        clear hHeld
        have hHeld := hHeld2
        clear hHeld2
        try simp only [Act.put, List.setIfInBounds_toArray, List.set_cons_zero, List.set_cons_succ]
        refine till_take 20 (i := 8) (v := ?_) (some 216) rfl rfl (by kernel_rfl) (by kernel_rfl) (by kernel_rfl) (by kernel_rfl) (fun _ _ _ h => h) (Or.inl ⟨by rfl, ?_⟩) (by assumption) (fun hHeld2 => ?_)
        rotate_left
        · intro w hSw
          obtain ⟨z0, z1, z2, z3, z4⟩ := hSw
          first | (go_simp; done) | (go_simp; with_reducible rfl)
        clear hHeld
        have hHeld := hHeld2
        clear hHeld2
        try simp only [Act.put, List.setIfInBounds_toArray, List.set_cons_zero, List.set_cons_succ]
        refine till_take 20 (i := 9) (v := ?_) (some 217) rfl rfl (by kernel_rfl) (by kernel_rfl) (by kernel_rfl) (by kernel_rfl) (fun _ _ _ h => h) (Or.inl ⟨by rfl, ?_⟩) (by assumption) (fun hHeld2 => ?_)
        rotate_left
        · intro w hSw
          obtain ⟨z0, z1, z2, z3, z4⟩ := hSw
          first | (go_simp; done) | (go_simp; with_reducible rfl)
        clear hHeld
        have hHeld := hHeld2
        clear hHeld2
        try simp only [Act.put, List.setIfInBounds_toArray, List.set_cons_zero, List.set_cons_succ]
        refine till_take 20 (i := 10) (v := ?_) (some 218) rfl rfl (by kernel_rfl) (by kernel_rfl) (by kernel_rfl) (by kernel_rfl) (fun _ _ _ h => h) (Or.inl ⟨by rfl, ?_⟩) (by assumption) (fun hHeld2 => ?_)
        rotate_left
        · intro w hSw
          obtain ⟨z0, z1, z2, z3, z4⟩ := hSw
          first | (go_simp; done) | (go_simp; with_reducible rfl)
        clear hHeld
        have hHeld := hHeld2
        clear hHeld2
        try simp only [Act.put, List.setIfInBounds_toArray, List.set_cons_zero, List.set_cons_succ]
        refine till_take 20 (i := 11) (v := ?_) (some 219) rfl rfl (by kernel_rfl) (by kernel_rfl) (by kernel_rfl) (by kernel_rfl) (fun _ _ _ h => h) (Or.inl ⟨by rfl, ?_⟩) (by assumption) (fun hHeld2 => ?_)
        rotate_left
        · intro w hSw
          obtain ⟨z0, z1, z2, z3, z4⟩ := hSw
          first | (go_simp; done) | (go_simp; with_reducible rfl)
        clear hHeld
        have hHeld := hHeld2
        clear hHeld2
        try simp only [Act.put, List.setIfInBounds_toArray, List.set_cons_zero, List.set_cons_succ]
        refine till_take 20 (i := 12) (v := ?_) (some 220) rfl rfl (by kernel_rfl) (by kernel_rfl) (by kernel_rfl) (by kernel_rfl) (fun _ _ _ h => h) (Or.inl ⟨by rfl, ?_⟩) (by assumption) (fun hHeld2 => ?_)
        rotate_left
        · intro w hSw
          obtain ⟨z0, z1, z2, z3, z4⟩ := hSw
          first | (go_simp; done) | (go_simp; with_reducible rfl)
        clear hHeld
        have hHeld := hHeld2
        clear hHeld2
        try simp only [Act.put, List.setIfInBounds_toArray, List.set_cons_zero, List.set_cons_succ]
        refine till_take 20 (i := 13) (v := ?_) (some 221) rfl rfl (by kernel_rfl) (by kernel_rfl) (by kernel_rfl) (by kernel_rfl) (fun _ _ _ h => h) (Or.inl ⟨by rfl, ?_⟩) (by assumption) (fun hHeld2 => ?_)
        rotate_left
        · intro w hSw
          obtain ⟨z0, z1, z2, z3, z4⟩ := hSw
          first | (go_simp; done) | (go_simp; with_reducible rfl)
        clear hHeld
        have hHeld := hHeld2
        clear hHeld2
        try simp only [Act.put, List.setIfInBounds_toArray, List.set_cons_zero, List.set_cons_succ]
        refine till_take 20 (i := 14) (v := ?_) (some 222) rfl rfl (by kernel_rfl) (by kernel_rfl) (by kernel_rfl) (by kernel_rfl) (fun _ _ _ h => h) (Or.inl ⟨by rfl, ?_⟩) (by assumption) (fun hHeld2 => ?_)
        rotate_left
        · intro w hSw
          obtain ⟨z0, z1, z2, z3, z4⟩ := hSw
          first | (go_simp; done) | (go_simp; with_reducible rfl)
        clear hHeld
        have hHeld := hHeld2
        clear hHeld2
        try simp only [Act.put, List.setIfInBounds_toArray, List.set_cons_zero, List.set_cons_succ]
        refine till_take 20 (i := 15) (v := ?_) (some 223) rfl rfl (by kernel_rfl) (by kernel_rfl) (by kernel_rfl) (by kernel_rfl) (fun _ _ _ h => h) (Or.inl ⟨by rfl, ?_⟩) (by assumption) (fun hHeld2 => ?_)
        rotate_left
        · intro w hSw
          obtain ⟨z0, z1, z2, z3, z4⟩ := hSw
          first | (go_simp; done) | (go_simp; with_reducible rfl)
        clear hHeld
        have hHeld := hHeld2
        clear hHeld2
        try simp only [Act.put, List.setIfInBounds_toArray, List.set_cons_zero, List.set_cons_succ]
        refine till_take 20 (i := 16) (v := ?_) (some 224) rfl rfl (by kernel_rfl) (by kernel_rfl) (by kernel_rfl) (by kernel_rfl) (fun _ _ _ h => h) (Or.inl ⟨by rfl, ?_⟩) (by assumption) (fun hHeld2 => ?_)
        rotate_left
        · intro w hSw
          obtain ⟨z0, z1, z2, z3, z4⟩ := hSw
          first | (go_simp; done) | (go_simp; with_reducible rfl)
        clear hHeld
        have hHeld := hHeld2
        clear hHeld2
        try simp only [Act.put, List.setIfInBounds_toArray, List.set_cons_zero, List.set_cons_succ]
        refine till_take 20 (i := 17) (v := ?_) (some 225) rfl rfl (by kernel_rfl) (by kernel_rfl) (by kernel_rfl) (by kernel_rfl) (fun _ _ _ h => h) (Or.inl ⟨by rfl, ?_⟩) (by assumption) (fun hHeld2 => ?_)
        rotate_left
        · intro w hSw
          obtain ⟨z0, z1, z2, z3, z4⟩ := hSw
          first | (go_simp; done) | (go_simp; with_reducible rfl)
        clear hHeld
        have hHeld := hHeld2
        clear hHeld2
        try simp only [Act.put, List.setIfInBounds_toArray, List.set_cons_zero, List.set_cons_succ]
        refine till_ready (rs := [18]) (by kernel_rfl) (by simp) ?_
        refine (AllTill.cons rfl (fun K hK => ?_) AllTill.nil)
        go_simp
        refine (unhide HTV).mono ?_
        rintro e w7 ⟨A7, c7, rfl, hM7, hb7⟩
        have b7 : Below wr.heap.size wr w7 := below_on (Below.refl _ _).drew hb7
        have HB7 := Lib.hid b7
        have HM7 := Lib.hid hM7
        obtain ⟨hcs, hfs⟩ := HCS.out _ b7
        clear hM7 hb7 b7
        refine hK.out _ _ ?_ (fun hHeld2 => ?_)
        · exact fun _ _ _ => HCX.out _ HB7.out
        clear hK K
        clear hHeld
        have hHeld := hHeld2
        clear hHeld2
        try simp only [Act.put, List.setIfInBounds_toArray, List.set_cons_zero, List.set_cons_succ]
        refine till_take 20 (i := 19) (v := ?_) (some 227) rfl rfl (by kernel_rfl) (by kernel_rfl) (by kernel_rfl) (by kernel_rfl) (fun _ _ _ h => h) (Or.inl ⟨by rfl, ?_⟩) (by assumption) (fun hHeld2 => ?_)
        rotate_left
        · intro w hSw
          obtain ⟨z0, z1, z2, z3, z4⟩ := hSw
          first | (go_simp; done) | (go_simp; with_reducible rfl)
        clear hHeld
        have hHeld := hHeld2
        clear hHeld2
        try simp only [Act.put, List.setIfInBounds_toArray, List.set_cons_zero, List.set_cons_succ]
        refine till_ready (rs := [20]) (by kernel_rfl) (by simp) ?_
        refine (AllTill.cons rfl (fun K hK => ?_) AllTill.nil)
        go_simp
        refine hK.out _ _ ?_ (fun hHeld2 => ?_)
        · exact held_late rfl
        clear hK K
        clear hHeld
        have hHeld := hHeld2
        clear hHeld2
        try simp only [Act.put, List.setIfInBounds_toArray, List.set_cons_zero, List.set_cons_succ]
        refine till_done (by kernel_rfl) ?_ _
        refine NoPanic.normal ?_
        have hR7 := (HRk.out.below HB7.out).wset (i := k) (q := p.1) (HM7.out.lower (show base ≤ _ from Nat.le_trans HBS.out (Nat.le_of_lt HLW.out))) (by rw [rotted_at HP.out]; rfl)
        rw [← HNX.out] at hR7
        have HR7 := Lib.hid hR7
        have h7 := (HB7.out.block _ HLW.out).trans HGk.out
        obtain ⟨-, cur, hg⟩ := own_type (HRk.out.below HB7.out).wait.row (g := gw) rfl
        have HG7 : Hid ((w7.setCell ⟨gw, k, none⟩ (.slice A7 512 c7)).heap[w.heap.size]? = some (.cells #[.int .u8 (d : Int), .int .i64 (iN : Int), .slice PA pn pc, .bool odd, .int .i64 (bN : Int), .int .i64 (nN : Int), .int .u32 (mask : Int), .slice KA kn kc] 34 (0, 0))) := by
          show (w7.setCell ⟨gw, k, none⟩ (.slice A7 512 c7)).heap[w.heap.size]? = _
          rw [heap_setCell_other _ ⟨gw, k, none⟩ w.heap.size _ (fun e => not_same h7 ((show w.heap.size = gw from e) ▸ hg) (by decide))]
          exact h7
        clear hR7 h7 hg
        go_wp2
        go_roundw
        case rel => exact ⟨k + 1, _, by omega, by go_num, HR7.out, (HOk.out.trans (OnlyAt.of_below HB7.out _)).trans ((OnlyAt.setCell _ _ _ _).mono (fun k _ e => .inr (.inr (.inr (by rw [e]; rfl))))), HG7.out⟩
        case measure => simp [intOf]; omega
      · have he2 : ((p.1 : Int) == (iN : Int)) = false := by rw [beq_eq_false_iff_ne]; omega
        have HNX := Lib.hid (rotted_same (bit := bN) (mask := mask) (len := nN) hp he)
        clear hav hp hrow he hR hrl hG
        go_wp2
        go_roundw
        case rel => exact ⟨k + 1, _, by omega, by go_num, by rw [HNX.out]; exact HRk.out, HOk.out, HGk.out⟩
        case measure => simp [intOf]; omega
    · obtain rfl : k = n2 := by omega
      clear hR hG
      go_wp2
      go_ret2
      have h9 := HRk.out
      rw [HN.out, rotted_all] at h9
      exact ⟨gx, _, _, _, _, _, rfl, h9, fun g hg => .inl hg, HOk.out⟩
end Go.Proofs.Ytmhhcblgeellnaa
