/- OFormsL, OFormsA, OFormsB, OFormsG, OpFormsWalk: joined by program (tools/merge.py). -/
import Derived.Test.YtfnobibjphnmdaaGreatDoorOParse
import Derived.Test.YtfnobibjphnmdaaGreatDoorORText
import Derived.Test.YtfnobibjphnmdaaGreatDoorR2
import Derived.Test.YtfnobibjphnmdaaGreatDoorTpRefNum
import Derived.Laws.BitsAllLaws
import Derived.Test.YtfnobibjphnmdaaGreatDoorORBytes
import Derived.Test.YtfnobibjphnmdaaGreatDoorOAwake
import Derived.Test.YtfnobibjphnmdaaGreatDoorTpSame
import Derived.Laws.StructEq
namespace Go.Proofs.YtfnobibjphnmdaaGreatDoor
open Go.RowKit
set_option linter.unusedVariables false
set_option linter.unusedSimpArgs false
theorem ob_below {w w' : World} {g k a b : Nat} {s : ByteArray} (h : OB w g k a b s) (hb : Below w.heap.size w w') : OB w' g k a b s := (hb.block _ (lt_of_heap h)).trans h
theorem ob_cells {w : World} {g k a b : Nat} {s : ByteArray} (h : OB w g k a b s) :
    w.cell? ⟨g, 0, none⟩ = some (.int .u8 (k : Int)) ∧ w.cell? ⟨g, 1, none⟩ = some (.int .u64 (a : Int)) ∧ w.cell? ⟨g, 2, none⟩ = some (.int .u64 (b : Int)) ∧ w.cell? ⟨g, 3, none⟩ = some (.string s) ∧
    w.frozen? ⟨g, 0, none⟩ = false ∧ w.frozen? ⟨g, 1, none⟩ = false ∧ w.frozen? ⟨g, 2, none⟩ = false ∧ w.frozen? ⟨g, 3, none⟩ = false := h.cells
theorem obz_cells {w : World} {g : Nat} (h : OB w g 0 0 0 ⟨#[]⟩) :
    w.cell? ⟨g, 0, none⟩ = some (.int .u8 0) ∧ w.cell? ⟨g, 1, none⟩ = some (.int .u64 0) ∧ w.cell? ⟨g, 2, none⟩ = some (.int .u64 0) ∧ w.cell? ⟨g, 3, none⟩ = some (.string ⟨#[]⟩) ∧
    w.frozen? ⟨g, 0, none⟩ = false ∧ w.frozen? ⟨g, 1, none⟩ = false ∧ w.frozen? ⟨g, 2, none⟩ = false ∧ w.frozen? ⟨g, 3, none⟩ = false := h.cells
theorem ob_new (w : World) (k a b : Nat) (s : ByteArray) : OB (w.alloc (.cells #[.int .u8 (k : Int), .int .u64 (a : Int), .int .u64 (b : Int), .string s] 25)) w.heap.size k a b s := by
  unfold OB
  show (w.heap.push _)[_]? = _
  simp
theorem ob_alloc {w : World} {g k a b : Nat} {s : ByteArray} (h : OB w g k a b s) (o : Obj) : OB (w.alloc o) g k a b s := ob_below h ((Below.refl _ _).alloc (Nat.le_refl _) _)
theorem bytesO_len {k a b : Nat} {s : ByteArray} (hs : s.size ≤ 64) (ha : a < 18446744073709551616) (hb : b < 18446744073709551616) : 0 < (bytesO k a b (str s)).length ∧ (bytesO k a b (str s)).length ≤ 200 := by
  have hna := num_length64 ha
  have hnb := num_length64 hb
  have hns := num_length64 (n := s.size) (by omega)
  unfold bytesO
  simp only [List.length_append, List.length_cons, List.length_nil, str_length]
  omega
theorem parse_own (w : World) (v : Value) (k a b : Nat) (s : ByteArray) (hp : Bytes w w.heap.size v (bytesO k a b (str s))) (hs : s.size ≤ 64) (ha : a < 18446744073709551616) (hb : b < 18446744073709551616) (hv : Vo w) (hr : rightO k a b (str s) = true) :
    Calls Tryz.prog 12 #[v] w fun e w' => e = .returned (.tuple #[opV k a b s, .int .i64 0]) ∧ Below w.heap.size w w' := by
  refine (oparse_any w v _ hp (by have := (bytesO_len (k := k) hs ha hb).2; omega) hv).mono ?_
  rintro e w' ⟨hB, ⟨k2, a2, b2, s2, hk2, ha2, hb2, hs2, hr2, he2, rfl⟩ | ⟨rfl, hno⟩⟩
  · obtain ⟨rfl, rfl, rfl, hss⟩ := bytesO_inj (by rw [str_length]; exact hs2) (by rw [str_length]; exact hs) ha2 hb2 ha hb he2
    have hss2 := str_inj hss
    subst hss2
    exact ⟨rfl, hB⟩
  · exact absurd rfl (hno k a b s ha hb hr)
theorem read_own (w : World) (k a b : Nat) (s : ByteArray) (ha : a < 18446744073709551616) (hb : b < 18446744073709551616) (hv : Vo w) (he : Ve w) (hr : rightO k a b (str s) = true) :
    Calls Tryz.prog 13 #[.string (ba (textO k a b (str s)))] w fun e w' => e = .returned (.tuple #[opV k a b s, .int .i64 0]) ∧ Below w.heap.size w w' := by
  have hst := str_ba (textO_byte (k := k) (a := a) (b := b) (s := s) hr)
  refine (oread_any w _ (by rw [ba_size]; exact Nat.le_trans (textO_len hr ha hb) (by omega)) hv he).mono ?_
  rintro e w' ⟨hB, ⟨k2, a2, b2, s2, hk2, ha2, hb2, hs2, hr2, he2, rfl⟩ | ⟨rfl, hno⟩⟩
  · rw [hst] at he2
    obtain ⟨rfl, rfl, rfl, hss⟩ := textO_inj hr2 hr ha2 hb2 ha hb he2
    have hss2 := str_inj hss
    subst hss2
    exact ⟨rfl, hB⟩
  · exact absurd hst.symm (hno k a b s ha hb hr)
theorem parts_one {y : World} {v : Value} {l : List Nat} {B gx : Nat} (hy : y.heap[gx]? = some (.cells #[v] 26 (0, 0))) (h : Bytes y B v l) (hB : B ≤ y.heap.size) : Parts y y.heap.size (.slice (some ⟨gx, 0, none⟩) 1 1) [l] := by
  refine parts_block hy (lt_of_heap hy) rfl rfl ?_ (by unfold maxLen; simp)
  intro j u l e1 e3
  match j, e1, e3 with
  | 0, e1, e3 => simp at e1 e3; subst e1 e3; exact h.up hB
  | j + 1, e1, e3 => simp at e1
theorem join_one (w : World) (v : Value) (l : List Nat) (h : Bytes w w.heap.size v l) (hl : l.length ≤ 1048576) :
    Calls Tryz.prog 17 #[.slice (some ⟨w.heap.size, 0, none⟩) 1 1] (w.alloc (.cells #[v] 26)) fun e w' => ∃ A n c, e = .returned (.slice A n c) ∧ Mine w' w.heap.size A n c l ∧ Below w.heap.size w w' := by
  have hb := (Below.refl w.heap.size w).alloc (Nat.le_refl _) (.cells #[v] 26)
  have hP := parts_one (Go.heap_alloc_new w (.cells #[v] 26)) (h.below hb) (by simp)
  have e : [l].flatten = l := by simp
  have hJ := join_mine _ _ _ hP (by rw [e]; exact h.small) (by rw [e]; exact hl)
  rw [e] at hJ
  exact hJ.mono fun e w' ⟨A, n, c, he, hM, hB⟩ => ⟨A, n, c, he, hM.lower (by simp), below_on hb hB⟩
theorem mine_at {w : World} {base m c : Nat} {A : Option Addr} {l : List Nat} (h : Mine w base A m c l) {k : Nat} (hk : k < m) : ∃ g b, A = some ⟨g, 0, none⟩ ∧ base ≤ g ∧ l[k]? = some b ∧ b < 256 ∧ w.cell? ⟨g, k, none⟩ = some (.int .u8 (b : Int)) ∧ w.frozen? ⟨g, k, none⟩ = false := by
  obtain ⟨hl, ⟨_, h0⟩ | ⟨g, cap, cur, hv, h1, h2, h3⟩⟩ := id h.own
  · omega
  · have hA : A = some ⟨g, 0, none⟩ := by injection hv
    subst hA
    have hlk : k < l.length := by rw [← h.len]; exact hk
    have hb := List.getElem?_eq_getElem hlk
    refine ⟨g, l[k], rfl, h1, hb, h.small _ (List.getElem_mem hlk), ?_, h.own.frozenAt k⟩
    rw [h.own.cellAt k (by omega), byt_at, hb]
    rfl
theorem omine_set {w : World} {base n c g i b : Nat} {l : List Nat} (h : Mine w base (some ⟨g, 0, none⟩) n c l) (hb : b < 256) : Mine (w.setCell ⟨g, i, none⟩ (.int .u8 (b : Int))) base (some ⟨g, 0, none⟩) n c (l.set i b) := by
  refine ⟨?_, by rw [List.length_set]; exact h.len, ?_⟩
  · have h1 := (h.own.stored i (.int .u8 (b : Int))).1
    have e : byt (l.set i b) = (byt l).set i (.int .u8 (b : Int)) := by unfold byt; rw [List.map_set]
    rw [e]
    exact h1
  · intro d hd
    rcases List.mem_or_eq_of_mem_set hd with h2 | h2
    · exact h.small d h2
    · rw [h2]; exact hb
end Go.Proofs.YtfnobibjphnmdaaGreatDoor
namespace Go.Proofs.YtfnobibjphnmdaaGreatDoor
open Go.RowKit
set_option linter.unusedVariables false
set_option linter.unusedSimpArgs false
set_option maxRecDepth 100000 in
set_option maxHeartbeats 8000000 in
theorem forms_y (w : World) (k a b : Nat) (s : ByteArray) (v : Value) (l : List Nat) (line : ByteArray) (i j : Nat) (hk : k < 256) (ha : a < 18446744073709551616) (hb : b < 18446744073709551616) (hs : s.size ≤ 9223372036854775807) (hp : Bytes w w.heap.size v l) (hline : line.size ≤ 9223372036854775807) (hi : i < 256) (hj : j < 256) (hv : Vo w) (he : Ve w) (hr : rightO k a b (str s) = false) (h100 : s.size < 100) :
    Calls Tryz.prog 3 #[opV k a b s, v, .string line, .int .u8 (i : Int), .int .u8 (j : Int)] w fun e w' => e = .returned (.bool true) ∧ Below w.heap.size w w' := by
  have HV := Lib.hid hv
  have HE := Lib.hid he
  have HAW := fun (x : World) (h : Below w.heap.size w x) => hide (opawake x (hv.below h))
  have HCT := fun (x : World) (h : Below w.heap.size w x) => hide (cut_mine x v l 30 30 rfl (hp.along h) (by omega))
  have HTX := fun (x : World) => hide (text_any x line 120 hline)
  rw [show ((120 : Nat) : Int) = 120 from rfl] at HTX
  obtain ⟨LN, hLN⟩ : ∃ x, line.extract 0 (min line.size 120) = x := ⟨_, rfl⟩
  have hLl : LN.size ≤ 120 := by rw [← hLN, ByteArray.size_extract]; omega
  have HLN := hide hLl
  rw [hLN] at HTX
  have HOO := fun (x : World) => hide (own_any x k a b s)
  have HRR := fun (x : World) => hide (rright_any x k a b s hk hs)
  have HRO := fun (x : World) (h : Below w.heap.size w x) => hide (right_any x k a b s hk hs (hv.below h))
  rw [hr] at HRR HRO
  have HBB := fun (x : World) (h : Below w.heap.size w x) => hide (obytes_bad x k a b s hk hs (hv.below h) hr)
  have HTB := fun (x : World) (h : Below w.heap.size w x) => hide (text_bad x k a b s hk hs (hv.below h) hr)
  obtain ⟨LL, hLL⟩ : ∃ x, l.take 30 = x := ⟨_, rfl⟩
  have HLL := hide (show LL.length ≤ 1000 by rw [← hLL, List.length_take]; omega)
  rw [hLL] at HCT
  have hlen : decide ((s.size : Int) < 100) = true := decide_eq_true (by omega)
  have hlen2 : decide (s.size < 100) = true := decide_eq_true (by omega)
  unfold opV at *
  clear hv he hr hLL hLN hLl hk ha hb
  have OO := hide (ob_new w k a b s)
  have HBC := hide (show Below w.heap.size w (w.alloc (.cells #[.int .u8 (k : Int), .int .u64 (a : Int), .int .u64 (b : Int), .string s] 25)) from (Below.refl _ _).alloc (Nat.le_refl _) _)
  go_enter Tryz.func3, Tryz.ntmps3
  go_wp2_with (first
    | (go_at_call 4; (with_reducible refine (unhide (HAW _ (unhide HBC))).mono ?_); rintro e w1 ⟨rfl, hb⟩; go_loud (have OO := hide (ob_below (unhide OO) hb); have HBC := hide (ridec hb (unhide HBC)); obtain ⟨z0, z1, z2, z3, zf0, zf1, zf2, zf3⟩ := ob_cells (unhide OO); clear hb))
    | (go_at_call 5; (with_reducible refine (unhide (HCT _ (unhide HBC))).mono ?_); rintro e w2 ⟨A2, n2, c2, rfl, hM2, hb⟩; go_loud (have HRAW := hide hM2.bytes; clear hM2; have OO := hide (ob_below (unhide OO) hb); have HBC := hide (ridec hb (unhide HBC)); obtain ⟨z0, z1, z2, z3, zf0, zf1, zf2, zf3⟩ := ob_cells (unhide OO); clear hb))
    | (go_at_call 6; (with_reducible refine (unhide (HTX _)).mono ?_); rintro e w3 ⟨rfl, hw⟩; rw [← hw]; clear hw w3)
    | (go_at_call 8; (with_reducible refine (unhide (HOO _)).mono ?_); rintro e w4 ⟨rfl, hb⟩; go_loud (have OO := hide (ob_below (unhide OO) hb); have HRAW := hide ((unhide HRAW).along hb); have HBC := hide (ridec hb (unhide HBC)); obtain ⟨z0, z1, z2, z3, zf0, zf1, zf2, zf3⟩ := ob_cells (unhide OO); clear hb))
    | (go_at_call 7; (with_reducible refine (unhide (HRR _)).mono ?_); rintro e w5 ⟨rfl, hb⟩; go_loud (have OO := hide (ob_below (unhide OO) hb); have HRAW := hide ((unhide HRAW).along hb); have HBC := hide (ridec hb (unhide HBC)); obtain ⟨z0, z1, z2, z3, zf0, zf1, zf2, zf3⟩ := ob_cells (unhide OO); clear hb))
    | (go_at_call 9; (with_reducible refine (unhide (HRO _ (unhide HBC))).mono ?_); rintro e w6 ⟨rfl, hb⟩; go_loud (have OO := hide (ob_below (unhide OO) hb); have HRAW := hide ((unhide HRAW).along hb); have HBC := hide (ridec hb (unhide HBC)); obtain ⟨z0, z1, z2, z3, zf0, zf1, zf2, zf3⟩ := ob_cells (unhide OO); clear hb)))
  obtain ⟨wk, hwk⟩ : ∃ x, x = w6 := ⟨_, rfl⟩
  rw [← hwk]
  rw [← hwk] at OO HBC HRAW
  clear hwk z0 z1 z2 z3 zf0 zf1 zf2 zf3
  have HSK := Lib.hid (show ∀ x, Below wk.heap.size wk x → (Below wk.heap.size wk x ∧ x.cell? ⟨w.heap.size, 0, none⟩ = some (.int .u8 (k : Int)) ∧ x.cell? ⟨w.heap.size, 1, none⟩ = some (.int .u64 (a : Int)) ∧ x.cell? ⟨w.heap.size, 2, none⟩ = some (.int .u64 (b : Int)) ∧ x.cell? ⟨w.heap.size, 3, none⟩ = some (.string s)) from fun x hx => by
    obtain ⟨z0, z1, z2, z3, zf0, zf1, zf2, zf3⟩ := ob_cells (ob_below (unhide OO) hx)
    exact ⟨hx, z0, z1, z2, z3⟩)
  have HKB := Lib.hid (show ∀ x, Below wk.heap.size wk x → Below w.heap.size w x from fun x hx => ridec hx (unhide HBC))
  refine wp_region_noPanic ?_
  refine wp_region_held_drew (S := fun x => Below wk.heap.size wk x ∧ x.cell? ⟨w.heap.size, 0, none⟩ = some (.int .u8 (k : Int)) ∧ x.cell? ⟨w.heap.size, 1, none⟩ = some (.int .u64 (a : Int)) ∧ x.cell? ⟨w.heap.size, 2, none⟩ = some (.int .u64 (b : Int)) ∧ x.cell? ⟨w.heap.size, 3, none⟩ = some (.string s)) (by kernel_rfl) (HSK.out _ (ride_drew (Below.refl _ _))) (fun hHeld => ?_)
  refine take_at (i := 0) (v := ?_) (some 41) rfl rfl (by kernel_rfl) (by kernel_rfl) (by kernel_rfl) (fun _ _ _ h => h) (Or.inl ⟨by rfl, ?_⟩) (by assumption) ?_
  rotate_left
  · intro w hSw
    obtain ⟨hSb, z0, z1, z2, z3⟩ := hSw
    first | (go_simp; done) | (go_simp; with_reducible rfl)
  try simp only [Act.put, List.setIfInBounds_toArray, List.set_cons_zero, List.set_cons_succ]
  refine take_at (i := 2) (v := ?_) (some 43) rfl rfl (by kernel_rfl) (by kernel_rfl) (by kernel_rfl) (fun _ _ _ h => h) (Or.inl ⟨by rfl, ?_⟩) (by assumption) ?_
  rotate_left
  · intro w hSw
    obtain ⟨hSb, z0, z1, z2, z3⟩ := hSw
    first | (go_simp; done) | (go_simp; with_reducible rfl)
  try simp only [Act.put, List.setIfInBounds_toArray, List.set_cons_zero, List.set_cons_succ]
  refine wpAnyH_ready (rs := [1]) (by kernel_rfl) (by simp) ?_
  refine AllReadyH.cons rfl (fun K hK => ?_) AllReadyH.nil
  go_simp
  refine (unhide (HBB _ (HKB.out _ hHeld.1))).mono ?_
  rintro e x1 ⟨rfl, hb1⟩
  refine hK.out _ _ ?_ (fun hHeld2 => ?_)
  · exact HSK.out _ (ridec hb1 hHeld.1)
  clear hK K hHeld
  have hHeld := hHeld2
  clear hHeld2
  try simp only [Act.put, List.setIfInBounds_toArray, List.set_cons_zero, List.set_cons_succ]
  refine wpAnyH_ready (rs := [3]) (by kernel_rfl) (by simp) ?_
  refine AllReadyH.cons rfl (fun K hK => ?_) AllReadyH.nil
  go_simp
  refine (unhide (HTB _ (HKB.out _ hHeld.1))).mono ?_
  rintro e x2 ⟨rfl, hb2⟩
  refine hK.out _ _ ?_ (fun hHeld2 => ?_)
  · exact HSK.out _ (ridec hb2 hHeld.1)
  clear hK K hHeld
  have hHeld := hHeld2
  clear hHeld2
  try simp only [Act.put, List.setIfInBounds_toArray, List.set_cons_zero, List.set_cons_succ]
  refine take_at (i := 4) (v := ?_) (some 12) rfl rfl (by kernel_rfl) (by kernel_rfl) (by kernel_rfl) (fun _ _ _ h => h) (Or.inl ⟨by rfl, ?_⟩) (by assumption) ?_
  rotate_left
  · intro w hSw
    obtain ⟨hSb, z0, z1, z2, z3⟩ := hSw
    first | (go_simp; done) | (go_simp; with_reducible rfl)
  try simp only [Act.put, List.setIfInBounds_toArray, List.set_cons_zero, List.set_cons_succ]
  refine take_at (i := 5) (v := ?_) (some 13) rfl rfl (by kernel_rfl) (by kernel_rfl) (by kernel_rfl) (fun _ _ _ h => h) (Or.inl ⟨by rfl, ?_⟩) (by assumption) ?_
  rotate_left
  · intro w hSw
    obtain ⟨hSb, z0, z1, z2, z3⟩ := hSw
    first | (go_simp; done) | (go_simp; with_reducible rfl)
  try simp only [Act.put, List.setIfInBounds_toArray, List.set_cons_zero, List.set_cons_succ]
  refine wpAnyH_done (by kernel_rfl) ?_ _
  refine NoPanic.normal ?_
  have hb := hHeld.1
  clear hHeld
  have HRAW := hide ((unhide HRAW).along hb)
  have HBC := hide (HKB.out _ hb)
  clear hb
  go_wp2_with fail
  refine (oparse_any _ _ LL (unhide HRAW) (by have := unhide HLL; omega) (HV.out.below (unhide HBC))).mono ?_
  rintro e P1 ⟨hb, hres⟩
  have HRAW := hide ((unhide HRAW).along hb)
  have HBC := hide (ridec hb (unhide HBC))
  clear hb
  rcases hres with ⟨k1, a1, b1, s1, hk1, ha1, hb1, hs1, hr1, he1, rfl⟩ | ⟨rfl, hno⟩
  · unfold opV
    go_wp2_with fail
    have OX := hide (ob_new P1 k1 a1 b1 s1)
    have hb : Below P1.heap.size P1 (P1.alloc (.cells #[.int .u8 (k1 : Int), .int .u64 (a1 : Int), .int .u64 (b1 : Int), .string s1] 25)) := (Below.refl _ _).alloc (Nat.le_refl _) _
    have HRAW := hide ((unhide HRAW).along hb)
    have HBC := hide (ridec hb (unhide HBC))
    clear hb
    refine (oread_any _ LN (by have := unhide HLN; omega) (HV.out.below (unhide HBC)) (HE.out.below (unhide HBC))).mono ?_
    rintro e P2 ⟨hb, hres⟩
    have OX := hide (ob_below (unhide OX) hb)
    have HRAW := hide ((unhide HRAW).along hb)
    have HBC := hide (ridec hb (unhide HBC))
    clear hb
    obtain ⟨g18, hg18⟩ : ∃ g, g = P1.heap.size := ⟨_, rfl⟩
    rw [← hg18] at OX ⊢
    clear hg18
    rcases hres with ⟨k2, a2, b2, s2, hk2, ha2, hb2, hs2, hr2, ht2, rfl⟩ | ⟨rfl, hno⟩
    · have HOX := fun (x : World) => hide (own_any x k1 a1 b1 s1)
      have HRX := fun (x : World) => hide (rright_any x k1 a1 b1 s1 hk1 (by omega))
      rw [hr1] at HRX
      have HBX := fun (x : World) => hide (rbytes_good x k1 a1 b1 s1 hk1 hs1 ha1 hb1)
      rw [he1] at HBX
      have HOY := fun (x : World) => hide (own_any x k2 a2 b2 s2)
      have HRY := fun (x : World) => hide (rright_any x k2 a2 b2 s2 hk2 (by omega))
      rw [hr2] at HRY
      have HTY := fun (x : World) => hide (rtext_good x k2 a2 b2 s2 ha2 hb2 hr2)
      rw [show ba (textO k2 a2 b2 (str s2)) = LN by rw [ht2, ba_str]] at HTY
      have hll : (LN.toList == LN.toList) = true := beq_self_eq_true _
      unfold opV at *
      have OY := hide (ob_new P2 k2 a2 b2 s2)
      have hb : Below P2.heap.size P2 (P2.alloc (.cells #[.int .u8 (k2 : Int), .int .u64 (a2 : Int), .int .u64 (b2 : Int), .string s2] 25)) := (Below.refl _ _).alloc (Nat.le_refl _) _
      have OX := hide (ob_below (unhide OX) hb)
      have HRAW := hide ((unhide HRAW).along hb)
      have HBC := hide (ridec hb (unhide HBC))
      clear hb
      obtain ⟨p0, p1, p2, p3, pf0, pf1, pf2, pf3⟩ := ob_cells (unhide OX)
      obtain ⟨q0, q1, q2, q3, qf0, qf1, qf2, qf3⟩ := ob_cells (unhide OY)
      go_wp2_with (first
        | (go_at_call 8; (with_reducible refine (unhide (HOX _)).mono ?_); rintro e w1 ⟨rfl, hb⟩; go_loud (have OX := hide (ob_below (unhide OX) hb); have OY := hide (ob_below (unhide OY) hb); have HRAW := hide ((unhide HRAW).along hb); have HBC := hide (ridec hb (unhide HBC)); obtain ⟨p0, p1, p2, p3, pf0, pf1, pf2, pf3⟩ := ob_cells (unhide OX); obtain ⟨q0, q1, q2, q3, qf0, qf1, qf2, qf3⟩ := ob_cells (unhide OY); clear hb))
        | (go_at_call 7; (with_reducible refine (unhide (HRX _)).mono ?_); rintro e w2 ⟨rfl, hb⟩; go_loud (have OX := hide (ob_below (unhide OX) hb); have OY := hide (ob_below (unhide OY) hb); have HRAW := hide ((unhide HRAW).along hb); have HBC := hide (ridec hb (unhide HBC)); obtain ⟨p0, p1, p2, p3, pf0, pf1, pf2, pf3⟩ := ob_cells (unhide OX); obtain ⟨q0, q1, q2, q3, qf0, qf1, qf2, qf3⟩ := ob_cells (unhide OY); clear hb))
        | (go_at_call 15; (with_reducible refine (unhide (HBX _)).mono ?_); rintro e w3 ⟨A3, n3, c3, rfl, hM3, hb⟩; go_loud (have OX := hide (ob_below (unhide OX) hb); have OY := hide (ob_below (unhide OY) hb); have HRAW := hide ((unhide HRAW).along hb); have HBC := hide (ridec hb (unhide HBC)); obtain ⟨p0, p1, p2, p3, pf0, pf1, pf2, pf3⟩ := ob_cells (unhide OX); obtain ⟨q0, q1, q2, q3, qf0, qf1, qf2, qf3⟩ := ob_cells (unhide OY); clear hb; have HSA := hide (same_any _ _ _ LL LL hM3.bytes (unhide HRAW)); rw [decide_eq_true (rfl : LL = LL)] at HSA; clear hM3))
        | (go_at_call 14; (with_reducible refine (unhide HSA).mono ?_); rintro e w4 ⟨rfl, nq, rfl⟩; go_loud (have hb : Below w3.heap.size w3 (w3.drewN nq) := below_drewN (Below.refl _ _) nq; have OX := hide (ob_below (unhide OX) hb); have OY := hide (ob_below (unhide OY) hb); have HRAW := hide ((unhide HRAW).along hb); have HBC := hide (ridec hb (unhide HBC)); obtain ⟨p0, p1, p2, p3, pf0, pf1, pf2, pf3⟩ := ob_cells (unhide OX); obtain ⟨q0, q1, q2, q3, qf0, qf1, qf2, qf3⟩ := ob_cells (unhide OY); clear hb))
        | (go_at_call 8; (with_reducible refine (unhide (HOY _)).mono ?_); rintro e w5 ⟨rfl, hb⟩; go_loud (have OX := hide (ob_below (unhide OX) hb); have OY := hide (ob_below (unhide OY) hb); have HRAW := hide ((unhide HRAW).along hb); have HBC := hide (ridec hb (unhide HBC)); obtain ⟨p0, p1, p2, p3, pf0, pf1, pf2, pf3⟩ := ob_cells (unhide OX); obtain ⟨q0, q1, q2, q3, qf0, qf1, qf2, qf3⟩ := ob_cells (unhide OY); clear hb))
        | (go_at_call 7; (with_reducible refine (unhide (HRY _)).mono ?_); rintro e w6 ⟨rfl, hb⟩; go_loud (have OX := hide (ob_below (unhide OX) hb); have OY := hide (ob_below (unhide OY) hb); have HRAW := hide ((unhide HRAW).along hb); have HBC := hide (ridec hb (unhide HBC)); obtain ⟨p0, p1, p2, p3, pf0, pf1, pf2, pf3⟩ := ob_cells (unhide OX); obtain ⟨q0, q1, q2, q3, qf0, qf1, qf2, qf3⟩ := ob_cells (unhide OY); clear hb))
        | (go_at_call 16; (with_reducible refine (unhide (HTY _)).mono ?_); rintro e w7 ⟨rfl, hb⟩; go_loud (have OX := hide (ob_below (unhide OX) hb); have OY := hide (ob_below (unhide OY) hb); have HRAW := hide ((unhide HRAW).along hb); have HBC := hide (ridec hb (unhide HBC)); obtain ⟨p0, p1, p2, p3, pf0, pf1, pf2, pf3⟩ := ob_cells (unhide OX); obtain ⟨q0, q1, q2, q3, qf0, qf1, qf2, qf3⟩ := ob_cells (unhide OY); clear hb)))
      all_goals (go_ret; exact ⟨rfl, unhide HBC⟩)
    · have HOX := fun (x : World) => hide (own_any x k1 a1 b1 s1)
      have HRX := fun (x : World) => hide (rright_any x k1 a1 b1 s1 hk1 (by omega))
      rw [hr1] at HRX
      have HBX := fun (x : World) => hide (rbytes_good x k1 a1 b1 s1 hk1 hs1 ha1 hb1)
      rw [he1] at HBX
      unfold opV at *
      rw [show (Value.agg #[.int .u8 ((0 : Nat) : Int), .int .u64 ((0 : Nat) : Int), .int .u64 ((0 : Nat) : Int), .string ⟨#[]⟩]) = .agg #[.int .u8 0, .int .u64 0, .int .u64 0, .string ⟨#[]⟩] from rfl]
      have OY := hide (ob_new P2 0 0 0 ⟨#[]⟩)
      have hb : Below P2.heap.size P2 (P2.alloc (.cells #[.int .u8 0, .int .u64 0, .int .u64 0, .string ⟨#[]⟩] 25)) := (Below.refl _ _).alloc (Nat.le_refl _) _
      have OX := hide (ob_below (unhide OX) hb)
      have HRAW := hide ((unhide HRAW).along hb)
      have HBC := hide (ridec hb (unhide HBC))
      clear hb
      obtain ⟨p0, p1, p2, p3, pf0, pf1, pf2, pf3⟩ := ob_cells (unhide OX)
      obtain ⟨q0, q1, q2, q3, qf0, qf1, qf2, qf3⟩ := obz_cells (unhide OY)
      go_wp2_with (first
        | (go_at_call 8; (with_reducible refine (unhide (HOX _)).mono ?_); rintro e w1 ⟨rfl, hb⟩; go_loud (have OX := hide (ob_below (unhide OX) hb); have OY := hide (ob_below (unhide OY) hb); have HRAW := hide ((unhide HRAW).along hb); have HBC := hide (ridec hb (unhide HBC)); obtain ⟨p0, p1, p2, p3, pf0, pf1, pf2, pf3⟩ := ob_cells (unhide OX); obtain ⟨q0, q1, q2, q3, qf0, qf1, qf2, qf3⟩ := obz_cells (unhide OY); clear hb))
        | (go_at_call 7; (with_reducible refine (unhide (HRX _)).mono ?_); rintro e w2 ⟨rfl, hb⟩; go_loud (have OX := hide (ob_below (unhide OX) hb); have OY := hide (ob_below (unhide OY) hb); have HRAW := hide ((unhide HRAW).along hb); have HBC := hide (ridec hb (unhide HBC)); obtain ⟨p0, p1, p2, p3, pf0, pf1, pf2, pf3⟩ := ob_cells (unhide OX); obtain ⟨q0, q1, q2, q3, qf0, qf1, qf2, qf3⟩ := obz_cells (unhide OY); clear hb))
        | (go_at_call 15; (with_reducible refine (unhide (HBX _)).mono ?_); rintro e w3 ⟨A3, n3, c3, rfl, hM3, hb⟩; go_loud (have OX := hide (ob_below (unhide OX) hb); have OY := hide (ob_below (unhide OY) hb); have HRAW := hide ((unhide HRAW).along hb); have HBC := hide (ridec hb (unhide HBC)); obtain ⟨p0, p1, p2, p3, pf0, pf1, pf2, pf3⟩ := ob_cells (unhide OX); obtain ⟨q0, q1, q2, q3, qf0, qf1, qf2, qf3⟩ := obz_cells (unhide OY); clear hb; have HSA := hide (same_any _ _ _ LL LL hM3.bytes (unhide HRAW)); rw [decide_eq_true (rfl : LL = LL)] at HSA; clear hM3))
        | (go_at_call 14; (with_reducible refine (unhide HSA).mono ?_); rintro e w4 ⟨rfl, nq, rfl⟩; go_loud (have hb : Below w3.heap.size w3 (w3.drewN nq) := below_drewN (Below.refl _ _) nq; have OX := hide (ob_below (unhide OX) hb); have OY := hide (ob_below (unhide OY) hb); have HRAW := hide ((unhide HRAW).along hb); have HBC := hide (ridec hb (unhide HBC)); obtain ⟨p0, p1, p2, p3, pf0, pf1, pf2, pf3⟩ := ob_cells (unhide OX); obtain ⟨q0, q1, q2, q3, qf0, qf1, qf2, qf3⟩ := obz_cells (unhide OY); clear hb)))
      all_goals (go_ret; exact ⟨rfl, unhide HBC⟩)
  · rw [show opV 0 0 0 ⟨#[]⟩ = .agg #[.int .u8 0, .int .u64 0, .int .u64 0, .string ⟨#[]⟩] from rfl]
    go_wp2_with fail
    have OX := hide (ob_new P1 0 0 0 ⟨#[]⟩)
    have hb : Below P1.heap.size P1 (P1.alloc (.cells #[.int .u8 0, .int .u64 0, .int .u64 0, .string ⟨#[]⟩] 25)) := (Below.refl _ _).alloc (Nat.le_refl _) _
    have HRAW := hide ((unhide HRAW).along hb)
    have HBC := hide (ridec hb (unhide HBC))
    clear hb
    refine (oread_any _ LN (by have := unhide HLN; omega) (HV.out.below (unhide HBC)) (HE.out.below (unhide HBC))).mono ?_
    rintro e P2 ⟨hb, hres⟩
    have OX := hide (ob_below (unhide OX) hb)
    have HRAW := hide ((unhide HRAW).along hb)
    have HBC := hide (ridec hb (unhide HBC))
    clear hb
    obtain ⟨g18, hg18⟩ : ∃ g, g = P1.heap.size := ⟨_, rfl⟩
    rw [← hg18] at OX ⊢
    clear hg18
    rcases hres with ⟨k2, a2, b2, s2, hk2, ha2, hb2, hs2, hr2, ht2, rfl⟩ | ⟨rfl, hno⟩
    · have HOY := fun (x : World) => hide (own_any x k2 a2 b2 s2)
      have HRY := fun (x : World) => hide (rright_any x k2 a2 b2 s2 hk2 (by omega))
      rw [hr2] at HRY
      have HTY := fun (x : World) => hide (rtext_good x k2 a2 b2 s2 ha2 hb2 hr2)
      rw [show ba (textO k2 a2 b2 (str s2)) = LN by rw [ht2, ba_str]] at HTY
      have hll : (LN.toList == LN.toList) = true := beq_self_eq_true _
      unfold opV at *
      have OY := hide (ob_new P2 k2 a2 b2 s2)
      have hb : Below P2.heap.size P2 (P2.alloc (.cells #[.int .u8 (k2 : Int), .int .u64 (a2 : Int), .int .u64 (b2 : Int), .string s2] 25)) := (Below.refl _ _).alloc (Nat.le_refl _) _
      have OX := hide (ob_below (unhide OX) hb)
      have HRAW := hide ((unhide HRAW).along hb)
      have HBC := hide (ridec hb (unhide HBC))
      clear hb
      obtain ⟨p0, p1, p2, p3, pf0, pf1, pf2, pf3⟩ := obz_cells (unhide OX)
      obtain ⟨q0, q1, q2, q3, qf0, qf1, qf2, qf3⟩ := ob_cells (unhide OY)
      go_wp2_with (first
        | (go_at_call 8; (with_reducible refine (unhide (HOY _)).mono ?_); rintro e w5 ⟨rfl, hb⟩; go_loud (have OX := hide (ob_below (unhide OX) hb); have OY := hide (ob_below (unhide OY) hb); have HRAW := hide ((unhide HRAW).along hb); have HBC := hide (ridec hb (unhide HBC)); obtain ⟨p0, p1, p2, p3, pf0, pf1, pf2, pf3⟩ := obz_cells (unhide OX); obtain ⟨q0, q1, q2, q3, qf0, qf1, qf2, qf3⟩ := ob_cells (unhide OY); clear hb))
        | (go_at_call 7; (with_reducible refine (unhide (HRY _)).mono ?_); rintro e w6 ⟨rfl, hb⟩; go_loud (have OX := hide (ob_below (unhide OX) hb); have OY := hide (ob_below (unhide OY) hb); have HRAW := hide ((unhide HRAW).along hb); have HBC := hide (ridec hb (unhide HBC)); obtain ⟨p0, p1, p2, p3, pf0, pf1, pf2, pf3⟩ := obz_cells (unhide OX); obtain ⟨q0, q1, q2, q3, qf0, qf1, qf2, qf3⟩ := ob_cells (unhide OY); clear hb))
        | (go_at_call 16; (with_reducible refine (unhide (HTY _)).mono ?_); rintro e w7 ⟨rfl, hb⟩; go_loud (have OX := hide (ob_below (unhide OX) hb); have OY := hide (ob_below (unhide OY) hb); have HRAW := hide ((unhide HRAW).along hb); have HBC := hide (ridec hb (unhide HBC)); obtain ⟨p0, p1, p2, p3, pf0, pf1, pf2, pf3⟩ := obz_cells (unhide OX); obtain ⟨q0, q1, q2, q3, qf0, qf1, qf2, qf3⟩ := ob_cells (unhide OY); clear hb)))
      all_goals (go_ret; exact ⟨rfl, unhide HBC⟩)
    · rw [show opV 0 0 0 ⟨#[]⟩ = .agg #[.int .u8 0, .int .u64 0, .int .u64 0, .string ⟨#[]⟩] from rfl]
      have OY := hide (ob_new P2 0 0 0 ⟨#[]⟩)
      have hb : Below P2.heap.size P2 (P2.alloc (.cells #[.int .u8 0, .int .u64 0, .int .u64 0, .string ⟨#[]⟩] 25)) := (Below.refl _ _).alloc (Nat.le_refl _) _
      have OX := hide (ob_below (unhide OX) hb)
      have HRAW := hide ((unhide HRAW).along hb)
      have HBC := hide (ridec hb (unhide HBC))
      clear hb
      obtain ⟨p0, p1, p2, p3, pf0, pf1, pf2, pf3⟩ := obz_cells (unhide OX)
      obtain ⟨q0, q1, q2, q3, qf0, qf1, qf2, qf3⟩ := obz_cells (unhide OY)
      go_wp2
      all_goals (go_ret; exact ⟨rfl, unhide HBC⟩)
end Go.Proofs.YtfnobibjphnmdaaGreatDoor
namespace Go.Proofs.YtfnobibjphnmdaaGreatDoor
open Go.RowKit
set_option linter.unusedVariables false
set_option linter.unusedSimpArgs false
set_option maxRecDepth 100000 in
set_option maxHeartbeats 8000000 in
theorem forms_x (w : World) (k a b : Nat) (s : ByteArray) (v : Value) (l : List Nat) (line : ByteArray) (i j : Nat) (hk : k < 256) (ha : a < 18446744073709551616) (hb : b < 18446744073709551616) (hs : s.size ≤ 9223372036854775807) (hp : Bytes w w.heap.size v l) (hline : line.size ≤ 9223372036854775807) (hi : i < 256) (hj : j < 256) (hv : Vo w) (he : Ve w) (hr : rightO k a b (str s) = false) (h100 : 100 ≤ s.size) :
    Calls Tryz.prog 3 #[opV k a b s, v, .string line, .int .u8 (i : Int), .int .u8 (j : Int)] w fun e w' => e = .returned (.bool true) ∧ Below w.heap.size w w' := by
  have HV := Lib.hid hv
  have HE := Lib.hid he
  have HAW := fun (x : World) (h : Below w.heap.size w x) => hide (opawake x (hv.below h))
  have HCT := fun (x : World) (h : Below w.heap.size w x) => hide (cut_mine x v l 30 30 rfl (hp.along h) (by omega))
  have HTX := fun (x : World) => hide (text_any x line 120 hline)
  rw [show ((120 : Nat) : Int) = 120 from rfl] at HTX
  obtain ⟨LN, hLN⟩ : ∃ x, line.extract 0 (min line.size 120) = x := ⟨_, rfl⟩
  have hLl : LN.size ≤ 120 := by rw [← hLN, ByteArray.size_extract]; omega
  have HLN := hide hLl
  rw [hLN] at HTX
  have HOO := fun (x : World) => hide (own_any x k a b s)
  have HRR := fun (x : World) => hide (rright_any x k a b s hk hs)
  have HRO := fun (x : World) (h : Below w.heap.size w x) => hide (right_any x k a b s hk hs (hv.below h))
  rw [hr] at HRR HRO
  have HBB := fun (x : World) (h : Below w.heap.size w x) => hide (obytes_bad x k a b s hk hs (hv.below h) hr)
  have HTB := fun (x : World) (h : Below w.heap.size w x) => hide (text_bad x k a b s hk hs (hv.below h) hr)
  obtain ⟨LL, hLL⟩ : ∃ x, l.take 30 = x := ⟨_, rfl⟩
  have HLL := hide (show LL.length ≤ 1000 by rw [← hLL, List.length_take]; omega)
  rw [hLL] at HCT
  have hlen : decide ((s.size : Int) < 100) = false := decide_eq_false (by omega)
  have hlen2 : decide (s.size < 100) = false := decide_eq_false (by omega)
  unfold opV at *
  clear hv he hr hLL hLN hLl hk ha hb
  have OO := hide (ob_new w k a b s)
  have HBC := hide (show Below w.heap.size w (w.alloc (.cells #[.int .u8 (k : Int), .int .u64 (a : Int), .int .u64 (b : Int), .string s] 25)) from (Below.refl _ _).alloc (Nat.le_refl _) _)
  go_enter Tryz.func3, Tryz.ntmps3
  go_wp2_with (first
    | (go_at_call 4; (with_reducible refine (unhide (HAW _ (unhide HBC))).mono ?_); rintro e w1 ⟨rfl, hb⟩; go_loud (have OO := hide (ob_below (unhide OO) hb); have HBC := hide (ridec hb (unhide HBC)); obtain ⟨z0, z1, z2, z3, zf0, zf1, zf2, zf3⟩ := ob_cells (unhide OO); clear hb))
    | (go_at_call 5; (with_reducible refine (unhide (HCT _ (unhide HBC))).mono ?_); rintro e w2 ⟨A2, n2, c2, rfl, hM2, hb⟩; go_loud (have HRAW := hide hM2.bytes; clear hM2; have OO := hide (ob_below (unhide OO) hb); have HBC := hide (ridec hb (unhide HBC)); obtain ⟨z0, z1, z2, z3, zf0, zf1, zf2, zf3⟩ := ob_cells (unhide OO); clear hb))
    | (go_at_call 6; (with_reducible refine (unhide (HTX _)).mono ?_); rintro e w3 ⟨rfl, hw⟩; rw [← hw]; clear hw w3)
    | (go_at_call 8; (with_reducible refine (unhide (HOO _)).mono ?_); rintro e w4 ⟨rfl, hb⟩; go_loud (have OO := hide (ob_below (unhide OO) hb); have HRAW := hide ((unhide HRAW).along hb); have HBC := hide (ridec hb (unhide HBC)); obtain ⟨z0, z1, z2, z3, zf0, zf1, zf2, zf3⟩ := ob_cells (unhide OO); clear hb))
    | (go_at_call 7; (with_reducible refine (unhide (HRR _)).mono ?_); rintro e w5 ⟨rfl, hb⟩; go_loud (have OO := hide (ob_below (unhide OO) hb); have HRAW := hide ((unhide HRAW).along hb); have HBC := hide (ridec hb (unhide HBC)); obtain ⟨z0, z1, z2, z3, zf0, zf1, zf2, zf3⟩ := ob_cells (unhide OO); clear hb))
    | (go_at_call 9; (with_reducible refine (unhide (HRO _ (unhide HBC))).mono ?_); rintro e w6 ⟨rfl, hb⟩; go_loud (have OO := hide (ob_below (unhide OO) hb); have HRAW := hide ((unhide HRAW).along hb); have HBC := hide (ridec hb (unhide HBC)); obtain ⟨z0, z1, z2, z3, zf0, zf1, zf2, zf3⟩ := ob_cells (unhide OO); clear hb)))
  obtain ⟨wk, hwk⟩ : ∃ x, x = w6 := ⟨_, rfl⟩
  rw [← hwk]
  rw [← hwk] at OO HBC HRAW
  clear hwk z0 z1 z2 z3 zf0 zf1 zf2 zf3
  have HSK := Lib.hid (show ∀ x, Below wk.heap.size wk x → (Below wk.heap.size wk x ∧ x.cell? ⟨w.heap.size, 0, none⟩ = some (.int .u8 (k : Int)) ∧ x.cell? ⟨w.heap.size, 1, none⟩ = some (.int .u64 (a : Int)) ∧ x.cell? ⟨w.heap.size, 2, none⟩ = some (.int .u64 (b : Int)) ∧ x.cell? ⟨w.heap.size, 3, none⟩ = some (.string s)) from fun x hx => by
    obtain ⟨z0, z1, z2, z3, zf0, zf1, zf2, zf3⟩ := ob_cells (ob_below (unhide OO) hx)
    exact ⟨hx, z0, z1, z2, z3⟩)
  have HKB := Lib.hid (show ∀ x, Below wk.heap.size wk x → Below w.heap.size w x from fun x hx => ridec hx (unhide HBC))
  refine wp_region_noPanic ?_
  refine wp_region_held_drew (S := fun x => Below wk.heap.size wk x ∧ x.cell? ⟨w.heap.size, 0, none⟩ = some (.int .u8 (k : Int)) ∧ x.cell? ⟨w.heap.size, 1, none⟩ = some (.int .u64 (a : Int)) ∧ x.cell? ⟨w.heap.size, 2, none⟩ = some (.int .u64 (b : Int)) ∧ x.cell? ⟨w.heap.size, 3, none⟩ = some (.string s)) (by kernel_rfl) (HSK.out _ (ride_drew (Below.refl _ _))) (fun hHeld => ?_)
  refine take_at (i := 0) (v := ?_) (some 41) rfl rfl (by kernel_rfl) (by kernel_rfl) (by kernel_rfl) (fun _ _ _ h => h) (Or.inl ⟨by rfl, ?_⟩) (by assumption) ?_
  rotate_left
  · intro w hSw
    obtain ⟨hSb, z0, z1, z2, z3⟩ := hSw
    first | (go_simp; done) | (go_simp; with_reducible rfl)
  try simp only [Act.put, List.setIfInBounds_toArray, List.set_cons_zero, List.set_cons_succ]
  refine take_at (i := 2) (v := ?_) (some 43) rfl rfl (by kernel_rfl) (by kernel_rfl) (by kernel_rfl) (fun _ _ _ h => h) (Or.inl ⟨by rfl, ?_⟩) (by assumption) ?_
  rotate_left
  · intro w hSw
    obtain ⟨hSb, z0, z1, z2, z3⟩ := hSw
    first | (go_simp; done) | (go_simp; with_reducible rfl)
  try simp only [Act.put, List.setIfInBounds_toArray, List.set_cons_zero, List.set_cons_succ]
  refine wpAnyH_ready (rs := [1]) (by kernel_rfl) (by simp) ?_
  refine AllReadyH.cons rfl (fun K hK => ?_) AllReadyH.nil
  go_simp
  refine (unhide (HBB _ (HKB.out _ hHeld.1))).mono ?_
  rintro e x1 ⟨rfl, hb1⟩
  refine hK.out _ _ ?_ (fun hHeld2 => ?_)
  · exact HSK.out _ (ridec hb1 hHeld.1)
  clear hK K hHeld
  have hHeld := hHeld2
  clear hHeld2
  try simp only [Act.put, List.setIfInBounds_toArray, List.set_cons_zero, List.set_cons_succ]
  refine wpAnyH_ready (rs := [3]) (by kernel_rfl) (by simp) ?_
  refine AllReadyH.cons rfl (fun K hK => ?_) AllReadyH.nil
  go_simp
  refine (unhide (HTB _ (HKB.out _ hHeld.1))).mono ?_
  rintro e x2 ⟨rfl, hb2⟩
  refine hK.out _ _ ?_ (fun hHeld2 => ?_)
  · exact HSK.out _ (ridec hb2 hHeld.1)
  clear hK K hHeld
  have hHeld := hHeld2
  clear hHeld2
  try simp only [Act.put, List.setIfInBounds_toArray, List.set_cons_zero, List.set_cons_succ]
  refine take_at (i := 4) (v := ?_) (some 12) rfl rfl (by kernel_rfl) (by kernel_rfl) (by kernel_rfl) (fun _ _ _ h => h) (Or.inl ⟨by rfl, ?_⟩) (by assumption) ?_
  rotate_left
  · intro w hSw
    obtain ⟨hSb, z0, z1, z2, z3⟩ := hSw
    first | (go_simp; done) | (go_simp; with_reducible rfl)
  try simp only [Act.put, List.setIfInBounds_toArray, List.set_cons_zero, List.set_cons_succ]
  refine take_at (i := 5) (v := ?_) (some 13) rfl rfl (by kernel_rfl) (by kernel_rfl) (by kernel_rfl) (fun _ _ _ h => h) (Or.inl ⟨by rfl, ?_⟩) (by assumption) ?_
  rotate_left
  · intro w hSw
    obtain ⟨hSb, z0, z1, z2, z3⟩ := hSw
    first | (go_simp; done) | (go_simp; with_reducible rfl)
  try simp only [Act.put, List.setIfInBounds_toArray, List.set_cons_zero, List.set_cons_succ]
  refine wpAnyH_done (by kernel_rfl) ?_ _
  refine NoPanic.normal ?_
  have hb := hHeld.1
  clear hHeld
  have HRAW := hide ((unhide HRAW).along hb)
  have HBC := hide (HKB.out _ hb)
  clear hb
  go_wp2_with fail
  refine (oparse_any _ _ LL (unhide HRAW) (by have := unhide HLL; omega) (HV.out.below (unhide HBC))).mono ?_
  rintro e P1 ⟨hb, hres⟩
  have HRAW := hide ((unhide HRAW).along hb)
  have HBC := hide (ridec hb (unhide HBC))
  clear hb
  rcases hres with ⟨k1, a1, b1, s1, hk1, ha1, hb1, hs1, hr1, he1, rfl⟩ | ⟨rfl, hno⟩
  · unfold opV
    go_wp2_with fail
    have OX := hide (ob_new P1 k1 a1 b1 s1)
    have hb : Below P1.heap.size P1 (P1.alloc (.cells #[.int .u8 (k1 : Int), .int .u64 (a1 : Int), .int .u64 (b1 : Int), .string s1] 25)) := (Below.refl _ _).alloc (Nat.le_refl _) _
    have HRAW := hide ((unhide HRAW).along hb)
    have HBC := hide (ridec hb (unhide HBC))
    clear hb
    refine (oread_any _ LN (by have := unhide HLN; omega) (HV.out.below (unhide HBC)) (HE.out.below (unhide HBC))).mono ?_
    rintro e P2 ⟨hb, hres⟩
    have OX := hide (ob_below (unhide OX) hb)
    have HRAW := hide ((unhide HRAW).along hb)
    have HBC := hide (ridec hb (unhide HBC))
    clear hb
    obtain ⟨g18, hg18⟩ : ∃ g, g = P1.heap.size := ⟨_, rfl⟩
    rw [← hg18] at OX ⊢
    clear hg18
    rcases hres with ⟨k2, a2, b2, s2, hk2, ha2, hb2, hs2, hr2, ht2, rfl⟩ | ⟨rfl, hno⟩
    · have HOX := fun (x : World) => hide (own_any x k1 a1 b1 s1)
      have HRX := fun (x : World) => hide (rright_any x k1 a1 b1 s1 hk1 (by omega))
      rw [hr1] at HRX
      have HBX := fun (x : World) => hide (rbytes_good x k1 a1 b1 s1 hk1 hs1 ha1 hb1)
      rw [he1] at HBX
      have HOY := fun (x : World) => hide (own_any x k2 a2 b2 s2)
      have HRY := fun (x : World) => hide (rright_any x k2 a2 b2 s2 hk2 (by omega))
      rw [hr2] at HRY
      have HTY := fun (x : World) => hide (rtext_good x k2 a2 b2 s2 ha2 hb2 hr2)
      rw [show ba (textO k2 a2 b2 (str s2)) = LN by rw [ht2, ba_str]] at HTY
      have hll : (LN.toList == LN.toList) = true := beq_self_eq_true _
      unfold opV at *
      have OY := hide (ob_new P2 k2 a2 b2 s2)
      have hb : Below P2.heap.size P2 (P2.alloc (.cells #[.int .u8 (k2 : Int), .int .u64 (a2 : Int), .int .u64 (b2 : Int), .string s2] 25)) := (Below.refl _ _).alloc (Nat.le_refl _) _
      have OX := hide (ob_below (unhide OX) hb)
      have HRAW := hide ((unhide HRAW).along hb)
      have HBC := hide (ridec hb (unhide HBC))
      clear hb
      obtain ⟨p0, p1, p2, p3, pf0, pf1, pf2, pf3⟩ := ob_cells (unhide OX)
      obtain ⟨q0, q1, q2, q3, qf0, qf1, qf2, qf3⟩ := ob_cells (unhide OY)
      go_wp2_with (first
        | (go_at_call 8; (with_reducible refine (unhide (HOX _)).mono ?_); rintro e w1 ⟨rfl, hb⟩; go_loud (have OX := hide (ob_below (unhide OX) hb); have OY := hide (ob_below (unhide OY) hb); have HRAW := hide ((unhide HRAW).along hb); have HBC := hide (ridec hb (unhide HBC)); obtain ⟨p0, p1, p2, p3, pf0, pf1, pf2, pf3⟩ := ob_cells (unhide OX); obtain ⟨q0, q1, q2, q3, qf0, qf1, qf2, qf3⟩ := ob_cells (unhide OY); clear hb))
        | (go_at_call 7; (with_reducible refine (unhide (HRX _)).mono ?_); rintro e w2 ⟨rfl, hb⟩; go_loud (have OX := hide (ob_below (unhide OX) hb); have OY := hide (ob_below (unhide OY) hb); have HRAW := hide ((unhide HRAW).along hb); have HBC := hide (ridec hb (unhide HBC)); obtain ⟨p0, p1, p2, p3, pf0, pf1, pf2, pf3⟩ := ob_cells (unhide OX); obtain ⟨q0, q1, q2, q3, qf0, qf1, qf2, qf3⟩ := ob_cells (unhide OY); clear hb))
        | (go_at_call 15; (with_reducible refine (unhide (HBX _)).mono ?_); rintro e w3 ⟨A3, n3, c3, rfl, hM3, hb⟩; go_loud (have OX := hide (ob_below (unhide OX) hb); have OY := hide (ob_below (unhide OY) hb); have HRAW := hide ((unhide HRAW).along hb); have HBC := hide (ridec hb (unhide HBC)); obtain ⟨p0, p1, p2, p3, pf0, pf1, pf2, pf3⟩ := ob_cells (unhide OX); obtain ⟨q0, q1, q2, q3, qf0, qf1, qf2, qf3⟩ := ob_cells (unhide OY); clear hb; have HSA := hide (same_any _ _ _ LL LL hM3.bytes (unhide HRAW)); rw [decide_eq_true (rfl : LL = LL)] at HSA; clear hM3))
        | (go_at_call 14; (with_reducible refine (unhide HSA).mono ?_); rintro e w4 ⟨rfl, nq, rfl⟩; go_loud (have hb : Below w3.heap.size w3 (w3.drewN nq) := below_drewN (Below.refl _ _) nq; have OX := hide (ob_below (unhide OX) hb); have OY := hide (ob_below (unhide OY) hb); have HRAW := hide ((unhide HRAW).along hb); have HBC := hide (ridec hb (unhide HBC)); obtain ⟨p0, p1, p2, p3, pf0, pf1, pf2, pf3⟩ := ob_cells (unhide OX); obtain ⟨q0, q1, q2, q3, qf0, qf1, qf2, qf3⟩ := ob_cells (unhide OY); clear hb))
        | (go_at_call 8; (with_reducible refine (unhide (HOY _)).mono ?_); rintro e w5 ⟨rfl, hb⟩; go_loud (have OX := hide (ob_below (unhide OX) hb); have OY := hide (ob_below (unhide OY) hb); have HRAW := hide ((unhide HRAW).along hb); have HBC := hide (ridec hb (unhide HBC)); obtain ⟨p0, p1, p2, p3, pf0, pf1, pf2, pf3⟩ := ob_cells (unhide OX); obtain ⟨q0, q1, q2, q3, qf0, qf1, qf2, qf3⟩ := ob_cells (unhide OY); clear hb))
        | (go_at_call 7; (with_reducible refine (unhide (HRY _)).mono ?_); rintro e w6 ⟨rfl, hb⟩; go_loud (have OX := hide (ob_below (unhide OX) hb); have OY := hide (ob_below (unhide OY) hb); have HRAW := hide ((unhide HRAW).along hb); have HBC := hide (ridec hb (unhide HBC)); obtain ⟨p0, p1, p2, p3, pf0, pf1, pf2, pf3⟩ := ob_cells (unhide OX); obtain ⟨q0, q1, q2, q3, qf0, qf1, qf2, qf3⟩ := ob_cells (unhide OY); clear hb))
        | (go_at_call 16; (with_reducible refine (unhide (HTY _)).mono ?_); rintro e w7 ⟨rfl, hb⟩; go_loud (have OX := hide (ob_below (unhide OX) hb); have OY := hide (ob_below (unhide OY) hb); have HRAW := hide ((unhide HRAW).along hb); have HBC := hide (ridec hb (unhide HBC)); obtain ⟨p0, p1, p2, p3, pf0, pf1, pf2, pf3⟩ := ob_cells (unhide OX); obtain ⟨q0, q1, q2, q3, qf0, qf1, qf2, qf3⟩ := ob_cells (unhide OY); clear hb)))
      all_goals (go_ret; exact ⟨rfl, unhide HBC⟩)
    · have HOX := fun (x : World) => hide (own_any x k1 a1 b1 s1)
      have HRX := fun (x : World) => hide (rright_any x k1 a1 b1 s1 hk1 (by omega))
      rw [hr1] at HRX
      have HBX := fun (x : World) => hide (rbytes_good x k1 a1 b1 s1 hk1 hs1 ha1 hb1)
      rw [he1] at HBX
      unfold opV at *
      rw [show (Value.agg #[.int .u8 ((0 : Nat) : Int), .int .u64 ((0 : Nat) : Int), .int .u64 ((0 : Nat) : Int), .string ⟨#[]⟩]) = .agg #[.int .u8 0, .int .u64 0, .int .u64 0, .string ⟨#[]⟩] from rfl]
      have OY := hide (ob_new P2 0 0 0 ⟨#[]⟩)
      have hb : Below P2.heap.size P2 (P2.alloc (.cells #[.int .u8 0, .int .u64 0, .int .u64 0, .string ⟨#[]⟩] 25)) := (Below.refl _ _).alloc (Nat.le_refl _) _
      have OX := hide (ob_below (unhide OX) hb)
      have HRAW := hide ((unhide HRAW).along hb)
      have HBC := hide (ridec hb (unhide HBC))
      clear hb
      obtain ⟨p0, p1, p2, p3, pf0, pf1, pf2, pf3⟩ := ob_cells (unhide OX)
      obtain ⟨q0, q1, q2, q3, qf0, qf1, qf2, qf3⟩ := obz_cells (unhide OY)
      go_wp2_with (first
        | (go_at_call 8; (with_reducible refine (unhide (HOX _)).mono ?_); rintro e w1 ⟨rfl, hb⟩; go_loud (have OX := hide (ob_below (unhide OX) hb); have OY := hide (ob_below (unhide OY) hb); have HRAW := hide ((unhide HRAW).along hb); have HBC := hide (ridec hb (unhide HBC)); obtain ⟨p0, p1, p2, p3, pf0, pf1, pf2, pf3⟩ := ob_cells (unhide OX); obtain ⟨q0, q1, q2, q3, qf0, qf1, qf2, qf3⟩ := obz_cells (unhide OY); clear hb))
        | (go_at_call 7; (with_reducible refine (unhide (HRX _)).mono ?_); rintro e w2 ⟨rfl, hb⟩; go_loud (have OX := hide (ob_below (unhide OX) hb); have OY := hide (ob_below (unhide OY) hb); have HRAW := hide ((unhide HRAW).along hb); have HBC := hide (ridec hb (unhide HBC)); obtain ⟨p0, p1, p2, p3, pf0, pf1, pf2, pf3⟩ := ob_cells (unhide OX); obtain ⟨q0, q1, q2, q3, qf0, qf1, qf2, qf3⟩ := obz_cells (unhide OY); clear hb))
        | (go_at_call 15; (with_reducible refine (unhide (HBX _)).mono ?_); rintro e w3 ⟨A3, n3, c3, rfl, hM3, hb⟩; go_loud (have OX := hide (ob_below (unhide OX) hb); have OY := hide (ob_below (unhide OY) hb); have HRAW := hide ((unhide HRAW).along hb); have HBC := hide (ridec hb (unhide HBC)); obtain ⟨p0, p1, p2, p3, pf0, pf1, pf2, pf3⟩ := ob_cells (unhide OX); obtain ⟨q0, q1, q2, q3, qf0, qf1, qf2, qf3⟩ := obz_cells (unhide OY); clear hb; have HSA := hide (same_any _ _ _ LL LL hM3.bytes (unhide HRAW)); rw [decide_eq_true (rfl : LL = LL)] at HSA; clear hM3))
        | (go_at_call 14; (with_reducible refine (unhide HSA).mono ?_); rintro e w4 ⟨rfl, nq, rfl⟩; go_loud (have hb : Below w3.heap.size w3 (w3.drewN nq) := below_drewN (Below.refl _ _) nq; have OX := hide (ob_below (unhide OX) hb); have OY := hide (ob_below (unhide OY) hb); have HRAW := hide ((unhide HRAW).along hb); have HBC := hide (ridec hb (unhide HBC)); obtain ⟨p0, p1, p2, p3, pf0, pf1, pf2, pf3⟩ := ob_cells (unhide OX); obtain ⟨q0, q1, q2, q3, qf0, qf1, qf2, qf3⟩ := obz_cells (unhide OY); clear hb)))
      all_goals (go_ret; exact ⟨rfl, unhide HBC⟩)
  · rw [show opV 0 0 0 ⟨#[]⟩ = .agg #[.int .u8 0, .int .u64 0, .int .u64 0, .string ⟨#[]⟩] from rfl]
    go_wp2_with fail
    have OX := hide (ob_new P1 0 0 0 ⟨#[]⟩)
    have hb : Below P1.heap.size P1 (P1.alloc (.cells #[.int .u8 0, .int .u64 0, .int .u64 0, .string ⟨#[]⟩] 25)) := (Below.refl _ _).alloc (Nat.le_refl _) _
    have HRAW := hide ((unhide HRAW).along hb)
    have HBC := hide (ridec hb (unhide HBC))
    clear hb
    refine (oread_any _ LN (by have := unhide HLN; omega) (HV.out.below (unhide HBC)) (HE.out.below (unhide HBC))).mono ?_
    rintro e P2 ⟨hb, hres⟩
    have OX := hide (ob_below (unhide OX) hb)
    have HRAW := hide ((unhide HRAW).along hb)
    have HBC := hide (ridec hb (unhide HBC))
    clear hb
    obtain ⟨g18, hg18⟩ : ∃ g, g = P1.heap.size := ⟨_, rfl⟩
    rw [← hg18] at OX ⊢
    clear hg18
    rcases hres with ⟨k2, a2, b2, s2, hk2, ha2, hb2, hs2, hr2, ht2, rfl⟩ | ⟨rfl, hno⟩
    · have HOY := fun (x : World) => hide (own_any x k2 a2 b2 s2)
      have HRY := fun (x : World) => hide (rright_any x k2 a2 b2 s2 hk2 (by omega))
      rw [hr2] at HRY
      have HTY := fun (x : World) => hide (rtext_good x k2 a2 b2 s2 ha2 hb2 hr2)
      rw [show ba (textO k2 a2 b2 (str s2)) = LN by rw [ht2, ba_str]] at HTY
      have hll : (LN.toList == LN.toList) = true := beq_self_eq_true _
      unfold opV at *
      have OY := hide (ob_new P2 k2 a2 b2 s2)
      have hb : Below P2.heap.size P2 (P2.alloc (.cells #[.int .u8 (k2 : Int), .int .u64 (a2 : Int), .int .u64 (b2 : Int), .string s2] 25)) := (Below.refl _ _).alloc (Nat.le_refl _) _
      have OX := hide (ob_below (unhide OX) hb)
      have HRAW := hide ((unhide HRAW).along hb)
      have HBC := hide (ridec hb (unhide HBC))
      clear hb
      obtain ⟨p0, p1, p2, p3, pf0, pf1, pf2, pf3⟩ := obz_cells (unhide OX)
      obtain ⟨q0, q1, q2, q3, qf0, qf1, qf2, qf3⟩ := ob_cells (unhide OY)
      go_wp2_with (first
        | (go_at_call 8; (with_reducible refine (unhide (HOY _)).mono ?_); rintro e w5 ⟨rfl, hb⟩; go_loud (have OX := hide (ob_below (unhide OX) hb); have OY := hide (ob_below (unhide OY) hb); have HRAW := hide ((unhide HRAW).along hb); have HBC := hide (ridec hb (unhide HBC)); obtain ⟨p0, p1, p2, p3, pf0, pf1, pf2, pf3⟩ := obz_cells (unhide OX); obtain ⟨q0, q1, q2, q3, qf0, qf1, qf2, qf3⟩ := ob_cells (unhide OY); clear hb))
        | (go_at_call 7; (with_reducible refine (unhide (HRY _)).mono ?_); rintro e w6 ⟨rfl, hb⟩; go_loud (have OX := hide (ob_below (unhide OX) hb); have OY := hide (ob_below (unhide OY) hb); have HRAW := hide ((unhide HRAW).along hb); have HBC := hide (ridec hb (unhide HBC)); obtain ⟨p0, p1, p2, p3, pf0, pf1, pf2, pf3⟩ := obz_cells (unhide OX); obtain ⟨q0, q1, q2, q3, qf0, qf1, qf2, qf3⟩ := ob_cells (unhide OY); clear hb))
        | (go_at_call 16; (with_reducible refine (unhide (HTY _)).mono ?_); rintro e w7 ⟨rfl, hb⟩; go_loud (have OX := hide (ob_below (unhide OX) hb); have OY := hide (ob_below (unhide OY) hb); have HRAW := hide ((unhide HRAW).along hb); have HBC := hide (ridec hb (unhide HBC)); obtain ⟨p0, p1, p2, p3, pf0, pf1, pf2, pf3⟩ := obz_cells (unhide OX); obtain ⟨q0, q1, q2, q3, qf0, qf1, qf2, qf3⟩ := ob_cells (unhide OY); clear hb)))
      all_goals (go_ret; exact ⟨rfl, unhide HBC⟩)
    · rw [show opV 0 0 0 ⟨#[]⟩ = .agg #[.int .u8 0, .int .u64 0, .int .u64 0, .string ⟨#[]⟩] from rfl]
      have OY := hide (ob_new P2 0 0 0 ⟨#[]⟩)
      have hb : Below P2.heap.size P2 (P2.alloc (.cells #[.int .u8 0, .int .u64 0, .int .u64 0, .string ⟨#[]⟩] 25)) := (Below.refl _ _).alloc (Nat.le_refl _) _
      have OX := hide (ob_below (unhide OX) hb)
      have HRAW := hide ((unhide HRAW).along hb)
      have HBC := hide (ridec hb (unhide HBC))
      clear hb
      obtain ⟨p0, p1, p2, p3, pf0, pf1, pf2, pf3⟩ := obz_cells (unhide OX)
      obtain ⟨q0, q1, q2, q3, qf0, qf1, qf2, qf3⟩ := obz_cells (unhide OY)
      go_wp2
      all_goals (go_ret; exact ⟨rfl, unhide HBC⟩)
end Go.Proofs.YtfnobibjphnmdaaGreatDoor
namespace Go.Proofs.YtfnobibjphnmdaaGreatDoor
open Go.RowKit
set_option linter.unusedVariables false
set_option linter.unusedSimpArgs false
set_option maxRecDepth 100000 in
set_option maxHeartbeats 8000000 in
theorem forms_z (w : World) (k a b : Nat) (s : ByteArray) (v : Value) (l : List Nat) (line : ByteArray) (i j : Nat) (hk : k < 256) (ha : a < 18446744073709551616) (hb : b < 18446744073709551616) (hs : s.size ≤ 9223372036854775807) (hp : Bytes w w.heap.size v l) (hline : line.size ≤ 9223372036854775807) (hi : i < 256) (hj : j < 256) (hv : Vo w) (he : Ve w) (hr : rightO k a b (str s) = true) :
    Calls Tryz.prog 3 #[opV k a b s, v, .string line, .int .u8 (i : Int), .int .u8 (j : Int)] w fun e w' => e = .returned (.bool true) ∧ Below w.heap.size w w' := by
  have HV := Lib.hid hv
  have HE := Lib.hid he
  have HAW := fun (x : World) (h : Below w.heap.size w x) => hide (opawake x (hv.below h))
  have HCT := fun (x : World) (h : Below w.heap.size w x) => hide (cut_mine x v l 30 30 rfl (hp.along h) (by omega))
  have HTX := fun (x : World) => hide (text_any x line 120 hline)
  rw [show ((120 : Nat) : Int) = 120 from rfl] at HTX
  obtain ⟨LN, hLN⟩ : ∃ x, line.extract 0 (min line.size 120) = x := ⟨_, rfl⟩
  have hLl : LN.size ≤ 120 := by rw [← hLN, ByteArray.size_extract]; omega
  have HLN := hide hLl
  rw [hLN] at HTX
  have HOO := fun (x : World) => hide (own_any x k a b s)
  have HRR := fun (x : World) => hide (rright_any x k a b s hk hs)
  have HRO := fun (x : World) (h : Below w.heap.size w x) => hide (right_any x k a b s hk hs (hv.below h))
  rw [hr] at HRR HRO
  have hs64 := rightO_len hr
  rw [str_length] at hs64
  have hk14 := rightO_kind hr
  have hlenP := bytesO_len (k := k) hs64 ha hb
  have HBB := fun (x : World) (h : Below w.heap.size w x) => hide (obytes_good x k a b s hk hs ha hb (hv.below h) hr)
  have HTB := fun (x : World) (h : Below w.heap.size w x) => hide (text_good x k a b s hk hs ha hb (hv.below h) hr)
  have HPO := fun (x : World) (u : Value) (h : Below w.heap.size w x) (hq : Bytes x x.heap.size u (bytesO k a b (str s))) => hide (parse_own x u k a b s hq hs64 ha hb (hv.below h) hr)
  have HRE := fun (x : World) (h : Below w.heap.size w x) => hide (read_own x k a b s ha hb (hv.below h) (he.below h) hr)
  have HRB := fun (x : World) => hide (rbytes_good x k a b s hk hs64 ha hb)
  have HRT := fun (x : World) => hide (rtext_good x k a b s ha hb hr)
  obtain ⟨P, hPe⟩ : ∃ x, bytesO k a b (str s) = x := ⟨_, rfl⟩
  rw [hPe] at HBB HPO HRB hlenP
  obtain ⟨TS, hTe⟩ : ∃ x, ba (textO k a b (str s)) = x := ⟨_, rfl⟩
  rw [hTe] at HTB HRE HRT
  obtain ⟨NP, hNP⟩ : ∃ x, x = P.length := ⟨_, rfl⟩
  rw [← hNP] at hlenP
  have HNP := Lib.hid hNP
  have HLP := Lib.hid hlenP
  have hpos : ¬ (NP : Int) = 0 := by omega
  have hpos2 : ((NP : Int) == 0) = false := by rw [beq_eq_false_iff_ne]; exact hpos
  obtain ⟨R, hR⟩ : ∃ x, x = i % NP := ⟨_, rfl⟩
  have hRlt : R < NP := by rw [hR]; exact Nat.mod_lt _ hlenP.1
  have hR1 : (i : Int) % (NP : Int) = (R : Int) := by rw [hR]; omega
  have hR2 : (i : Int).tmod (NP : Int) = (R : Int) := by rw [Int.tmod_eq_emod_of_nonneg (by omega)]; exact hR1
  have hR3 : (R : Int) < (NP : Int) := by omega
  have HRL := Lib.hid hRlt
  have HJ8 := Lib.hid hj
  obtain ⟨LL0, hLL0⟩ : ∃ x, l.take 30 = x := ⟨_, rfl⟩
  rw [hLL0] at HCT
  have hlen : decide ((s.size : Int) < 100) = true := decide_eq_true (by omega)
  have hlen2 : decide (s.size < 100) = true := decide_eq_true (by omega)
  have hss : (s.toList == s.toList) = true := beq_self_eq_true _
  have hts : (TS.toList == TS.toList) = true := beq_self_eq_true _
  unfold opV at *
  clear hv he hr hLL0 hLN hLl hk ha hb hs64 hk14 hPe hTe hNP hR hlenP hRlt
  have OO := hide (ob_new w k a b s)
  have HBC := hide (show Below w.heap.size w (w.alloc (.cells #[.int .u8 (k : Int), .int .u64 (a : Int), .int .u64 (b : Int), .string s] 25)) from (Below.refl _ _).alloc (Nat.le_refl _) _)
  go_enter Tryz.func3, Tryz.ntmps3
  go_wp2_with (first
    | (go_at_call 4; (with_reducible refine (unhide (HAW _ (unhide HBC))).mono ?_); rintro e w1 ⟨rfl, hb⟩; go_loud (have OO := hide (ob_below (unhide OO) hb); have HBC := hide (ridec hb (unhide HBC)); obtain ⟨z0, z1, z2, z3, zf0, zf1, zf2, zf3⟩ := ob_cells (unhide OO); clear hb))
    | (go_at_call 5; (with_reducible refine (unhide (HCT _ (unhide HBC))).mono ?_); rintro e w2 ⟨A2, n2, c2, rfl, hM2, hb⟩; go_loud (have HRAW := hide hM2.bytes; clear hM2; have OO := hide (ob_below (unhide OO) hb); have HBC := hide (ridec hb (unhide HBC)); obtain ⟨z0, z1, z2, z3, zf0, zf1, zf2, zf3⟩ := ob_cells (unhide OO); clear hb))
    | (go_at_call 6; (with_reducible refine (unhide (HTX _)).mono ?_); rintro e w3 ⟨rfl, hw⟩; rw [← hw]; clear hw w3)
    | (go_at_call 8; (with_reducible refine (unhide (HOO _)).mono ?_); rintro e w4 ⟨rfl, hb⟩; go_loud (have OO := hide (ob_below (unhide OO) hb); have HRAW := hide ((unhide HRAW).along hb); have HBC := hide (ridec hb (unhide HBC)); obtain ⟨z0, z1, z2, z3, zf0, zf1, zf2, zf3⟩ := ob_cells (unhide OO); clear hb))
    | (go_at_call 7; (with_reducible refine (unhide (HRR _)).mono ?_); rintro e w5 ⟨rfl, hb⟩; go_loud (have OO := hide (ob_below (unhide OO) hb); have HRAW := hide ((unhide HRAW).along hb); have HBC := hide (ridec hb (unhide HBC)); obtain ⟨z0, z1, z2, z3, zf0, zf1, zf2, zf3⟩ := ob_cells (unhide OO); clear hb))
    | (go_at_call 9; (with_reducible refine (unhide (HRO _ (unhide HBC))).mono ?_); rintro e w6 ⟨rfl, hb⟩; go_loud (have OO := hide (ob_below (unhide OO) hb); have HRAW := hide ((unhide HRAW).along hb); have HBC := hide (ridec hb (unhide HBC)); obtain ⟨z0, z1, z2, z3, zf0, zf1, zf2, zf3⟩ := ob_cells (unhide OO); clear hb)))
  obtain ⟨wk, hwk⟩ : ∃ x, x = w6 := ⟨_, rfl⟩
  rw [← hwk]
  rw [← hwk] at OO HBC HRAW
  clear hwk HRAW z0 z1 z2 z3 zf0 zf1 zf2 zf3
  have HSK := Lib.hid (show ∀ x, Below wk.heap.size wk x → (Below wk.heap.size wk x ∧ x.cell? ⟨w.heap.size, 0, none⟩ = some (.int .u8 (k : Int)) ∧ x.cell? ⟨w.heap.size, 1, none⟩ = some (.int .u64 (a : Int)) ∧ x.cell? ⟨w.heap.size, 2, none⟩ = some (.int .u64 (b : Int)) ∧ x.cell? ⟨w.heap.size, 3, none⟩ = some (.string s)) from fun x hx => by
    obtain ⟨z0, z1, z2, z3, zf0, zf1, zf2, zf3⟩ := ob_cells (ob_below (unhide OO) hx)
    exact ⟨hx, z0, z1, z2, z3⟩)
  have HKB := Lib.hid (show ∀ x, Below wk.heap.size wk x → Below w.heap.size w x from fun x hx => ridec hx (unhide HBC))
  refine wp_region_noPanic ?_
  refine wp_region_held_drew (S := fun x => Below wk.heap.size wk x ∧ x.cell? ⟨w.heap.size, 0, none⟩ = some (.int .u8 (k : Int)) ∧ x.cell? ⟨w.heap.size, 1, none⟩ = some (.int .u64 (a : Int)) ∧ x.cell? ⟨w.heap.size, 2, none⟩ = some (.int .u64 (b : Int)) ∧ x.cell? ⟨w.heap.size, 3, none⟩ = some (.string s)) (by kernel_rfl) (HSK.out _ (ride_drew (Below.refl _ _))) (fun hHeld => ?_)
  refine take_at (i := 0) (v := ?_) (some 41) rfl rfl (by kernel_rfl) (by kernel_rfl) (by kernel_rfl) (fun _ _ _ h => h) (Or.inl ⟨by rfl, ?_⟩) (by assumption) ?_
  rotate_left
  · intro w hSw
    obtain ⟨hSb, z0, z1, z2, z3⟩ := hSw
    first | (go_simp; done) | (go_simp; with_reducible rfl)
  try simp only [Act.put, List.setIfInBounds_toArray, List.set_cons_zero, List.set_cons_succ]
  refine take_at (i := 2) (v := ?_) (some 43) rfl rfl (by kernel_rfl) (by kernel_rfl) (by kernel_rfl) (fun _ _ _ h => h) (Or.inl ⟨by rfl, ?_⟩) (by assumption) ?_
  rotate_left
  · intro w hSw
    obtain ⟨hSb, z0, z1, z2, z3⟩ := hSw
    first | (go_simp; done) | (go_simp; with_reducible rfl)
  try simp only [Act.put, List.setIfInBounds_toArray, List.set_cons_zero, List.set_cons_succ]
  refine wpAnyH_ready (rs := [1]) (by kernel_rfl) (by simp) ?_
  refine AllReadyH.cons rfl (fun K hK => ?_) AllReadyH.nil
  go_simp
  refine (unhide (HBB _ (HKB.out _ hHeld.1))).mono ?_
  rintro e x1 ⟨v7, rfl, hP1, hb1⟩
  refine hK.out _ _ ?_ (fun hHeld2 => ?_)
  · exact HSK.out _ (ridec hb1 hHeld.1)
  clear hK K hHeld
  have hHeld := hHeld2
  clear hHeld2
  try simp only [Act.put, List.setIfInBounds_toArray, List.set_cons_zero, List.set_cons_succ]
  refine wpAnyH_ready (rs := [3]) (by kernel_rfl) (by simp) ?_
  refine AllReadyH.cons rfl (fun K hK => ?_) AllReadyH.nil
  go_simp
  refine (unhide (HTB _ (HKB.out _ hHeld.1))).mono ?_
  rintro e x2 ⟨rfl, hb2⟩
  have hP1 := hP1.along hb2
  refine hK.out _ _ ?_ (fun hHeld2 => ?_)
  · exact HSK.out _ (ridec hb2 hHeld.1)
  clear hK K hHeld
  have hHeld := hHeld2
  clear hHeld2
  try simp only [Act.put, List.setIfInBounds_toArray, List.set_cons_zero, List.set_cons_succ]
  refine take_at (i := 4) (v := ?_) (some 12) rfl rfl (by kernel_rfl) (by kernel_rfl) (by kernel_rfl) (fun _ _ _ h => h) (Or.inl ⟨by rfl, ?_⟩) (by assumption) ?_
  rotate_left
  · intro w hSw
    obtain ⟨hSb, z0, z1, z2, z3⟩ := hSw
    first | (go_simp; done) | (go_simp; with_reducible rfl)
  try simp only [Act.put, List.setIfInBounds_toArray, List.set_cons_zero, List.set_cons_succ]
  refine take_at (i := 5) (v := ?_) (some 13) rfl rfl (by kernel_rfl) (by kernel_rfl) (by kernel_rfl) (fun _ _ _ h => h) (Or.inl ⟨by rfl, ?_⟩) (by assumption) ?_
  rotate_left
  · intro w hSw
    obtain ⟨hSb, z0, z1, z2, z3⟩ := hSw
    first | (go_simp; done) | (go_simp; with_reducible rfl)
  try simp only [Act.put, List.setIfInBounds_toArray, List.set_cons_zero, List.set_cons_succ]
  refine wpAnyH_done (by kernel_rfl) ?_ _
  refine NoPanic.normal ?_
  have hb := hHeld.1
  clear hHeld
  have OO := hide (ob_below (unhide OO) hb)
  obtain ⟨A7, c7, hv7, -⟩ := hP1.form
  rw [← HNP.out] at hv7
  subst hv7
  have HP := hide hP1
  have HBC := hide (HKB.out _ hb)
  clear hb hP1
  go_wp2_with fail
  refine (unhide (HPO _ _ (unhide HBC) (unhide HP))).mono ?_
  rintro e P1 ⟨rfl, hb⟩
  have OO := hide (ob_below (unhide OO) hb)
  have HP := hide ((unhide HP).along hb)
  have HBC := hide (ridec hb (unhide HBC))
  clear hb
  go_wp2_with fail
  have OX := hide (ob_new P1 k a b s)
  have hb : Below P1.heap.size P1 (P1.alloc (.cells #[.int .u8 (k : Int), .int .u64 (a : Int), .int .u64 (b : Int), .string s] 25)) := (Below.refl _ _).alloc (Nat.le_refl _) _
  have OO := hide (ob_below (unhide OO) hb)
  have HP := hide ((unhide HP).along hb)
  have HBC := hide (ridec hb (unhide HBC))
  clear hb
  refine (unhide (HRE _ (unhide HBC))).mono ?_
  rintro e P2 ⟨rfl, hb⟩
  have OO := hide (ob_below (unhide OO) hb)
  have OX := hide (ob_below (unhide OX) hb)
  have HP := hide ((unhide HP).along hb)
  have HBC := hide (ridec hb (unhide HBC))
  clear hb
  obtain ⟨g14, hg14⟩ : ∃ g, g = P1.heap.size := ⟨_, rfl⟩
  rw [← hg14] at OX ⊢
  clear hg14
  have OY := hide (ob_new P2 k a b s)
  have hb : Below P2.heap.size P2 (P2.alloc (.cells #[.int .u8 (k : Int), .int .u64 (a : Int), .int .u64 (b : Int), .string s] 25)) := (Below.refl _ _).alloc (Nat.le_refl _) _
  have OO := hide (ob_below (unhide OO) hb)
  have OX := hide (ob_below (unhide OX) hb)
  have HP := hide ((unhide HP).along hb)
  have HBC := hide (ridec hb (unhide HBC))
  clear hb
  obtain ⟨z0, z1, z2, z3, zf0, zf1, zf2, zf3⟩ := ob_cells (unhide OO)
  obtain ⟨p0, p1, p2, p3, pf0, pf1, pf2, pf3⟩ := ob_cells (unhide OX)
  obtain ⟨q0, q1, q2, q3, qf0, qf1, qf2, qf3⟩ := ob_cells (unhide OY)
  go_wp2_with (first
    | (go_at_call 8; (with_reducible refine (unhide (HOO _)).mono ?_); rintro e w4 ⟨rfl, hb⟩; go_loud (have OO := hide (ob_below (unhide OO) hb); have OX := hide (ob_below (unhide OX) hb); have OY := hide (ob_below (unhide OY) hb); have HP := hide ((unhide HP).along hb); have HBC := hide (ridec hb (unhide HBC)); obtain ⟨z0, z1, z2, z3, zf0, zf1, zf2, zf3⟩ := ob_cells (unhide OO); obtain ⟨p0, p1, p2, p3, pf0, pf1, pf2, pf3⟩ := ob_cells (unhide OX); obtain ⟨q0, q1, q2, q3, qf0, qf1, qf2, qf3⟩ := ob_cells (unhide OY); clear hb))
    | (go_at_call 15; (with_reducible refine (unhide (HRB _)).mono ?_); rintro e w5 ⟨A5, n5, c5, rfl, hM5, hb⟩; go_loud (have OO := hide (ob_below (unhide OO) hb); have OX := hide (ob_below (unhide OX) hb); have OY := hide (ob_below (unhide OY) hb); have HP := hide ((unhide HP).along hb); have HBC := hide (ridec hb (unhide HBC)); obtain ⟨z0, z1, z2, z3, zf0, zf1, zf2, zf3⟩ := ob_cells (unhide OO); obtain ⟨p0, p1, p2, p3, pf0, pf1, pf2, pf3⟩ := ob_cells (unhide OX); obtain ⟨q0, q1, q2, q3, qf0, qf1, qf2, qf3⟩ := ob_cells (unhide OY); clear hb; have HSA := hide (same_any _ _ _ P P (unhide HP) hM5.bytes); rw [decide_eq_true (rfl : P = P)] at HSA; clear hM5))
    | (go_at_call 14; (with_reducible refine (unhide HSA).mono ?_); rintro e w6 ⟨rfl, nq, rfl⟩; go_loud (have hb : Below w5.heap.size w5 (w5.drewN nq) := below_drewN (Below.refl _ _) nq; have OO := hide (ob_below (unhide OO) hb); have OX := hide (ob_below (unhide OX) hb); have OY := hide (ob_below (unhide OY) hb); have HP := hide ((unhide HP).along hb); have HBC := hide (ridec hb (unhide HBC)); obtain ⟨z0, z1, z2, z3, zf0, zf1, zf2, zf3⟩ := ob_cells (unhide OO); obtain ⟨p0, p1, p2, p3, pf0, pf1, pf2, pf3⟩ := ob_cells (unhide OX); obtain ⟨q0, q1, q2, q3, qf0, qf1, qf2, qf3⟩ := ob_cells (unhide OY); clear hb))
    | (go_at_call 16; (with_reducible refine (unhide (HRT _)).mono ?_); rintro e w7 ⟨rfl, hb⟩; go_loud (have OO := hide (ob_below (unhide OO) hb); have OX := hide (ob_below (unhide OX) hb); have OY := hide (ob_below (unhide OY) hb); have HP := hide ((unhide HP).along hb); have HBC := hide (ridec hb (unhide HBC)); obtain ⟨z0, z1, z2, z3, zf0, zf1, zf2, zf3⟩ := ob_cells (unhide OO); obtain ⟨p0, p1, p2, p3, pf0, pf1, pf2, pf3⟩ := ob_cells (unhide OX); obtain ⟨q0, q1, q2, q3, qf0, qf1, qf2, qf3⟩ := ob_cells (unhide OY); clear hb; have HJN := hide (join_one w7 _ P (unhide HP) (by (have h1 := HNP.out; have h2 := HLP.out.2; omega)))))
    | (go_at_call 17; (with_reducible refine (unhide HJN).mono ?_); rintro e w8 ⟨A8, n8, c8, rfl, hM8, hb8⟩; go_loud (have e8 : n8 = NP := hM8.len.trans HNP.out.symm; subst e8; obtain ⟨g8, b8, rfl, hg8, hbb8, hs8, kc8, fz8⟩ := mine_at hM8 (k := R) HRL.out; have hx8 := u8_xor_nat b8 j hs8 HJ8.out; have hM9 := omine_set (i := R) hM8 (Nat.xor_lt_two_pow (n := 8) (x := b8) (y := j) (by omega) (by (have := HJ8.out; omega))); have HM9 := Lib.hid hM9; have HB9 := Lib.hid (show Below w.heap.size w (w8.setCell ⟨g8, R, none⟩ (.int .u8 ((b8 ^^^ j : Nat) : Int))) from ((unhide HBC).trans (hb8.mono (unhide HBC).size)).setCell (p := ⟨g8, R, none⟩) (Nat.le_trans (unhide HBC).size hg8) _); clear hM9 hM8 hb8 hbb8)))
  obtain ⟨LL, hLL⟩ : ∃ x, x = P.set R (b8 ^^^ j) := ⟨_, rfl⟩
  have HLL := hide (show LL.length ≤ 1000 by (rw [hLL, List.length_set]; have h1 := HNP.out; have h2 := HLP.out.2; omega))
  have HRAW := hide HM9.out.bytes
  rw [← hLL] at HRAW
  clear hLL
  have HBC := hide HB9.out
  refine (oparse_any _ _ LL (unhide HRAW) (by have := unhide HLL; omega) (HV.out.below (unhide HBC))).mono ?_
  rintro e P1 ⟨hb, hres⟩
  have HRAW := hide ((unhide HRAW).along hb)
  have HBC := hide (ridec hb (unhide HBC))
  clear hb
  rcases hres with ⟨k1, a1, b1, s1, hk1, ha1, hb1, hs1, hr1, he1, rfl⟩ | ⟨rfl, hno⟩
  · unfold opV
    go_wp2_with fail
    have OX := hide (ob_new P1 k1 a1 b1 s1)
    have hb : Below P1.heap.size P1 (P1.alloc (.cells #[.int .u8 (k1 : Int), .int .u64 (a1 : Int), .int .u64 (b1 : Int), .string s1] 25)) := (Below.refl _ _).alloc (Nat.le_refl _) _
    have HRAW := hide ((unhide HRAW).along hb)
    have HBC := hide (ridec hb (unhide HBC))
    clear hb
    refine (oread_any _ LN (by have := unhide HLN; omega) (HV.out.below (unhide HBC)) (HE.out.below (unhide HBC))).mono ?_
    rintro e P2 ⟨hb, hres⟩
    have OX := hide (ob_below (unhide OX) hb)
    have HRAW := hide ((unhide HRAW).along hb)
    have HBC := hide (ridec hb (unhide HBC))
    clear hb
    obtain ⟨g18, hg18⟩ : ∃ g, g = P1.heap.size := ⟨_, rfl⟩
    rw [← hg18] at OX ⊢
    clear hg18
    rcases hres with ⟨k2, a2, b2, s2, hk2, ha2, hb2, hs2, hr2, ht2, rfl⟩ | ⟨rfl, hno⟩
    · have HOX := fun (x : World) => hide (own_any x k1 a1 b1 s1)
      have HRX := fun (x : World) => hide (rright_any x k1 a1 b1 s1 hk1 (by omega))
      rw [hr1] at HRX
      have HBX := fun (x : World) => hide (rbytes_good x k1 a1 b1 s1 hk1 hs1 ha1 hb1)
      rw [he1] at HBX
      have HOY := fun (x : World) => hide (own_any x k2 a2 b2 s2)
      have HRY := fun (x : World) => hide (rright_any x k2 a2 b2 s2 hk2 (by omega))
      rw [hr2] at HRY
      have HTY := fun (x : World) => hide (rtext_good x k2 a2 b2 s2 ha2 hb2 hr2)
      rw [show ba (textO k2 a2 b2 (str s2)) = LN by rw [ht2, ba_str]] at HTY
      have hll : (LN.toList == LN.toList) = true := beq_self_eq_true _
      unfold opV at *
      have OY := hide (ob_new P2 k2 a2 b2 s2)
      have hb : Below P2.heap.size P2 (P2.alloc (.cells #[.int .u8 (k2 : Int), .int .u64 (a2 : Int), .int .u64 (b2 : Int), .string s2] 25)) := (Below.refl _ _).alloc (Nat.le_refl _) _
      have OX := hide (ob_below (unhide OX) hb)
      have HRAW := hide ((unhide HRAW).along hb)
      have HBC := hide (ridec hb (unhide HBC))
      clear hb
      obtain ⟨p0, p1, p2, p3, pf0, pf1, pf2, pf3⟩ := ob_cells (unhide OX)
      obtain ⟨q0, q1, q2, q3, qf0, qf1, qf2, qf3⟩ := ob_cells (unhide OY)
      go_wp2_with (first
        | (go_at_call 8; (with_reducible refine (unhide (HOX _)).mono ?_); rintro e w1 ⟨rfl, hb⟩; go_loud (have OX := hide (ob_below (unhide OX) hb); have OY := hide (ob_below (unhide OY) hb); have HRAW := hide ((unhide HRAW).along hb); have HBC := hide (ridec hb (unhide HBC)); obtain ⟨p0, p1, p2, p3, pf0, pf1, pf2, pf3⟩ := ob_cells (unhide OX); obtain ⟨q0, q1, q2, q3, qf0, qf1, qf2, qf3⟩ := ob_cells (unhide OY); clear hb))
        | (go_at_call 7; (with_reducible refine (unhide (HRX _)).mono ?_); rintro e w2 ⟨rfl, hb⟩; go_loud (have OX := hide (ob_below (unhide OX) hb); have OY := hide (ob_below (unhide OY) hb); have HRAW := hide ((unhide HRAW).along hb); have HBC := hide (ridec hb (unhide HBC)); obtain ⟨p0, p1, p2, p3, pf0, pf1, pf2, pf3⟩ := ob_cells (unhide OX); obtain ⟨q0, q1, q2, q3, qf0, qf1, qf2, qf3⟩ := ob_cells (unhide OY); clear hb))
        | (go_at_call 15; (with_reducible refine (unhide (HBX _)).mono ?_); rintro e w3 ⟨A3, n3, c3, rfl, hM3, hb⟩; go_loud (have OX := hide (ob_below (unhide OX) hb); have OY := hide (ob_below (unhide OY) hb); have HRAW := hide ((unhide HRAW).along hb); have HBC := hide (ridec hb (unhide HBC)); obtain ⟨p0, p1, p2, p3, pf0, pf1, pf2, pf3⟩ := ob_cells (unhide OX); obtain ⟨q0, q1, q2, q3, qf0, qf1, qf2, qf3⟩ := ob_cells (unhide OY); clear hb; have HSA := hide (same_any _ _ _ LL LL hM3.bytes (unhide HRAW)); rw [decide_eq_true (rfl : LL = LL)] at HSA; clear hM3))
        | (go_at_call 14; (with_reducible refine (unhide HSA).mono ?_); rintro e w4 ⟨rfl, nq, rfl⟩; go_loud (have hb : Below w3.heap.size w3 (w3.drewN nq) := below_drewN (Below.refl _ _) nq; have OX := hide (ob_below (unhide OX) hb); have OY := hide (ob_below (unhide OY) hb); have HRAW := hide ((unhide HRAW).along hb); have HBC := hide (ridec hb (unhide HBC)); obtain ⟨p0, p1, p2, p3, pf0, pf1, pf2, pf3⟩ := ob_cells (unhide OX); obtain ⟨q0, q1, q2, q3, qf0, qf1, qf2, qf3⟩ := ob_cells (unhide OY); clear hb))
        | (go_at_call 8; (with_reducible refine (unhide (HOY _)).mono ?_); rintro e w5 ⟨rfl, hb⟩; go_loud (have OX := hide (ob_below (unhide OX) hb); have OY := hide (ob_below (unhide OY) hb); have HRAW := hide ((unhide HRAW).along hb); have HBC := hide (ridec hb (unhide HBC)); obtain ⟨p0, p1, p2, p3, pf0, pf1, pf2, pf3⟩ := ob_cells (unhide OX); obtain ⟨q0, q1, q2, q3, qf0, qf1, qf2, qf3⟩ := ob_cells (unhide OY); clear hb))
        | (go_at_call 7; (with_reducible refine (unhide (HRY _)).mono ?_); rintro e w6 ⟨rfl, hb⟩; go_loud (have OX := hide (ob_below (unhide OX) hb); have OY := hide (ob_below (unhide OY) hb); have HRAW := hide ((unhide HRAW).along hb); have HBC := hide (ridec hb (unhide HBC)); obtain ⟨p0, p1, p2, p3, pf0, pf1, pf2, pf3⟩ := ob_cells (unhide OX); obtain ⟨q0, q1, q2, q3, qf0, qf1, qf2, qf3⟩ := ob_cells (unhide OY); clear hb))
        | (go_at_call 16; (with_reducible refine (unhide (HTY _)).mono ?_); rintro e w7 ⟨rfl, hb⟩; go_loud (have OX := hide (ob_below (unhide OX) hb); have OY := hide (ob_below (unhide OY) hb); have HRAW := hide ((unhide HRAW).along hb); have HBC := hide (ridec hb (unhide HBC)); obtain ⟨p0, p1, p2, p3, pf0, pf1, pf2, pf3⟩ := ob_cells (unhide OX); obtain ⟨q0, q1, q2, q3, qf0, qf1, qf2, qf3⟩ := ob_cells (unhide OY); clear hb)))
      all_goals (go_ret; exact ⟨rfl, unhide HBC⟩)
    · have HOX := fun (x : World) => hide (own_any x k1 a1 b1 s1)
      have HRX := fun (x : World) => hide (rright_any x k1 a1 b1 s1 hk1 (by omega))
      rw [hr1] at HRX
      have HBX := fun (x : World) => hide (rbytes_good x k1 a1 b1 s1 hk1 hs1 ha1 hb1)
      rw [he1] at HBX
      unfold opV at *
      rw [show (Value.agg #[.int .u8 ((0 : Nat) : Int), .int .u64 ((0 : Nat) : Int), .int .u64 ((0 : Nat) : Int), .string ⟨#[]⟩]) = .agg #[.int .u8 0, .int .u64 0, .int .u64 0, .string ⟨#[]⟩] from rfl]
      have OY := hide (ob_new P2 0 0 0 ⟨#[]⟩)
      have hb : Below P2.heap.size P2 (P2.alloc (.cells #[.int .u8 0, .int .u64 0, .int .u64 0, .string ⟨#[]⟩] 25)) := (Below.refl _ _).alloc (Nat.le_refl _) _
      have OX := hide (ob_below (unhide OX) hb)
      have HRAW := hide ((unhide HRAW).along hb)
      have HBC := hide (ridec hb (unhide HBC))
      clear hb
      obtain ⟨p0, p1, p2, p3, pf0, pf1, pf2, pf3⟩ := ob_cells (unhide OX)
      obtain ⟨q0, q1, q2, q3, qf0, qf1, qf2, qf3⟩ := obz_cells (unhide OY)
      go_wp2_with (first
        | (go_at_call 8; (with_reducible refine (unhide (HOX _)).mono ?_); rintro e w1 ⟨rfl, hb⟩; go_loud (have OX := hide (ob_below (unhide OX) hb); have OY := hide (ob_below (unhide OY) hb); have HRAW := hide ((unhide HRAW).along hb); have HBC := hide (ridec hb (unhide HBC)); obtain ⟨p0, p1, p2, p3, pf0, pf1, pf2, pf3⟩ := ob_cells (unhide OX); obtain ⟨q0, q1, q2, q3, qf0, qf1, qf2, qf3⟩ := obz_cells (unhide OY); clear hb))
        | (go_at_call 7; (with_reducible refine (unhide (HRX _)).mono ?_); rintro e w2 ⟨rfl, hb⟩; go_loud (have OX := hide (ob_below (unhide OX) hb); have OY := hide (ob_below (unhide OY) hb); have HRAW := hide ((unhide HRAW).along hb); have HBC := hide (ridec hb (unhide HBC)); obtain ⟨p0, p1, p2, p3, pf0, pf1, pf2, pf3⟩ := ob_cells (unhide OX); obtain ⟨q0, q1, q2, q3, qf0, qf1, qf2, qf3⟩ := obz_cells (unhide OY); clear hb))
        | (go_at_call 15; (with_reducible refine (unhide (HBX _)).mono ?_); rintro e w3 ⟨A3, n3, c3, rfl, hM3, hb⟩; go_loud (have OX := hide (ob_below (unhide OX) hb); have OY := hide (ob_below (unhide OY) hb); have HRAW := hide ((unhide HRAW).along hb); have HBC := hide (ridec hb (unhide HBC)); obtain ⟨p0, p1, p2, p3, pf0, pf1, pf2, pf3⟩ := ob_cells (unhide OX); obtain ⟨q0, q1, q2, q3, qf0, qf1, qf2, qf3⟩ := obz_cells (unhide OY); clear hb; have HSA := hide (same_any _ _ _ LL LL hM3.bytes (unhide HRAW)); rw [decide_eq_true (rfl : LL = LL)] at HSA; clear hM3))
        | (go_at_call 14; (with_reducible refine (unhide HSA).mono ?_); rintro e w4 ⟨rfl, nq, rfl⟩; go_loud (have hb : Below w3.heap.size w3 (w3.drewN nq) := below_drewN (Below.refl _ _) nq; have OX := hide (ob_below (unhide OX) hb); have OY := hide (ob_below (unhide OY) hb); have HRAW := hide ((unhide HRAW).along hb); have HBC := hide (ridec hb (unhide HBC)); obtain ⟨p0, p1, p2, p3, pf0, pf1, pf2, pf3⟩ := ob_cells (unhide OX); obtain ⟨q0, q1, q2, q3, qf0, qf1, qf2, qf3⟩ := obz_cells (unhide OY); clear hb)))
      all_goals (go_ret; exact ⟨rfl, unhide HBC⟩)
  · rw [show opV 0 0 0 ⟨#[]⟩ = .agg #[.int .u8 0, .int .u64 0, .int .u64 0, .string ⟨#[]⟩] from rfl]
    go_wp2_with fail
    have OX := hide (ob_new P1 0 0 0 ⟨#[]⟩)
    have hb : Below P1.heap.size P1 (P1.alloc (.cells #[.int .u8 0, .int .u64 0, .int .u64 0, .string ⟨#[]⟩] 25)) := (Below.refl _ _).alloc (Nat.le_refl _) _
    have HRAW := hide ((unhide HRAW).along hb)
    have HBC := hide (ridec hb (unhide HBC))
    clear hb
    refine (oread_any _ LN (by have := unhide HLN; omega) (HV.out.below (unhide HBC)) (HE.out.below (unhide HBC))).mono ?_
    rintro e P2 ⟨hb, hres⟩
    have OX := hide (ob_below (unhide OX) hb)
    have HRAW := hide ((unhide HRAW).along hb)
    have HBC := hide (ridec hb (unhide HBC))
    clear hb
    obtain ⟨g18, hg18⟩ : ∃ g, g = P1.heap.size := ⟨_, rfl⟩
    rw [← hg18] at OX ⊢
    clear hg18
    rcases hres with ⟨k2, a2, b2, s2, hk2, ha2, hb2, hs2, hr2, ht2, rfl⟩ | ⟨rfl, hno⟩
    · have HOY := fun (x : World) => hide (own_any x k2 a2 b2 s2)
      have HRY := fun (x : World) => hide (rright_any x k2 a2 b2 s2 hk2 (by omega))
      rw [hr2] at HRY
      have HTY := fun (x : World) => hide (rtext_good x k2 a2 b2 s2 ha2 hb2 hr2)
      rw [show ba (textO k2 a2 b2 (str s2)) = LN by rw [ht2, ba_str]] at HTY
      have hll : (LN.toList == LN.toList) = true := beq_self_eq_true _
      unfold opV at *
      have OY := hide (ob_new P2 k2 a2 b2 s2)
      have hb : Below P2.heap.size P2 (P2.alloc (.cells #[.int .u8 (k2 : Int), .int .u64 (a2 : Int), .int .u64 (b2 : Int), .string s2] 25)) := (Below.refl _ _).alloc (Nat.le_refl _) _
      have OX := hide (ob_below (unhide OX) hb)
      have HRAW := hide ((unhide HRAW).along hb)
      have HBC := hide (ridec hb (unhide HBC))
      clear hb
      obtain ⟨p0, p1, p2, p3, pf0, pf1, pf2, pf3⟩ := obz_cells (unhide OX)
      obtain ⟨q0, q1, q2, q3, qf0, qf1, qf2, qf3⟩ := ob_cells (unhide OY)
      go_wp2_with (first
        | (go_at_call 8; (with_reducible refine (unhide (HOY _)).mono ?_); rintro e w5 ⟨rfl, hb⟩; go_loud (have OX := hide (ob_below (unhide OX) hb); have OY := hide (ob_below (unhide OY) hb); have HRAW := hide ((unhide HRAW).along hb); have HBC := hide (ridec hb (unhide HBC)); obtain ⟨p0, p1, p2, p3, pf0, pf1, pf2, pf3⟩ := obz_cells (unhide OX); obtain ⟨q0, q1, q2, q3, qf0, qf1, qf2, qf3⟩ := ob_cells (unhide OY); clear hb))
        | (go_at_call 7; (with_reducible refine (unhide (HRY _)).mono ?_); rintro e w6 ⟨rfl, hb⟩; go_loud (have OX := hide (ob_below (unhide OX) hb); have OY := hide (ob_below (unhide OY) hb); have HRAW := hide ((unhide HRAW).along hb); have HBC := hide (ridec hb (unhide HBC)); obtain ⟨p0, p1, p2, p3, pf0, pf1, pf2, pf3⟩ := obz_cells (unhide OX); obtain ⟨q0, q1, q2, q3, qf0, qf1, qf2, qf3⟩ := ob_cells (unhide OY); clear hb))
        | (go_at_call 16; (with_reducible refine (unhide (HTY _)).mono ?_); rintro e w7 ⟨rfl, hb⟩; go_loud (have OX := hide (ob_below (unhide OX) hb); have OY := hide (ob_below (unhide OY) hb); have HRAW := hide ((unhide HRAW).along hb); have HBC := hide (ridec hb (unhide HBC)); obtain ⟨p0, p1, p2, p3, pf0, pf1, pf2, pf3⟩ := obz_cells (unhide OX); obtain ⟨q0, q1, q2, q3, qf0, qf1, qf2, qf3⟩ := ob_cells (unhide OY); clear hb)))
      all_goals (go_ret; exact ⟨rfl, unhide HBC⟩)
    · rw [show opV 0 0 0 ⟨#[]⟩ = .agg #[.int .u8 0, .int .u64 0, .int .u64 0, .string ⟨#[]⟩] from rfl]
      have OY := hide (ob_new P2 0 0 0 ⟨#[]⟩)
      have hb : Below P2.heap.size P2 (P2.alloc (.cells #[.int .u8 0, .int .u64 0, .int .u64 0, .string ⟨#[]⟩] 25)) := (Below.refl _ _).alloc (Nat.le_refl _) _
      have OX := hide (ob_below (unhide OX) hb)
      have HRAW := hide ((unhide HRAW).along hb)
      have HBC := hide (ridec hb (unhide HBC))
      clear hb
      obtain ⟨p0, p1, p2, p3, pf0, pf1, pf2, pf3⟩ := obz_cells (unhide OX)
      obtain ⟨q0, q1, q2, q3, qf0, qf1, qf2, qf3⟩ := obz_cells (unhide OY)
      go_wp2
      all_goals (go_ret; exact ⟨rfl, unhide HBC⟩)
end Go.Proofs.YtfnobibjphnmdaaGreatDoor
namespace Go.Proofs.YtfnobibjphnmdaaGreatDoor
open Go.RowKit
theorem forms_core (w : World) (k a b : Nat) (s : ByteArray) (v : Value) (l : List Nat) (line : ByteArray) (i j : Nat) (hk : k < 256) (ha : a < 18446744073709551616) (hb : b < 18446744073709551616) (hs : s.size ≤ 9223372036854775807) (hp : Bytes w w.heap.size v l) (hline : line.size ≤ 9223372036854775807) (hi : i < 256) (hj : j < 256) (hv : Vo w) (he : Ve w) :
    Calls Tryz.prog 3 #[opV k a b s, v, .string line, .int .u8 (i : Int), .int .u8 (j : Int)] w fun e w' => e = .returned (.bool true) ∧ Below w.heap.size w w' := by
  rcases hr : rightO k a b (str s) with _ | _
  · rcases Nat.lt_or_ge s.size 100 with h | h
    · exact forms_y w k a b s v l line i j hk ha hb hs hp hline hi hj hv he hr h
    · exact forms_x w k a b s v l line i j hk ha hb hs hp hline hi hj hv he hr h
  · exact forms_z w k a b s v l line i j hk ha hb hs hp hline hi hj hv he hr
end Go.Proofs.YtfnobibjphnmdaaGreatDoor
