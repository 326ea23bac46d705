/- Parse, Pages: joined by program (tools/merge.py). -/
import Derived.Test.YtalpippeelomjaaZ12
import Derived.Laws.BytesArg
import Derived.Lib.QuoteBits
import Derived.Laws.ResultCell
import Derived.Laws.Rows
namespace Go.Proofs.Ytalpippeelomjaa
open Go.RowKit
set_option linter.unusedSimpArgs false
set_option linter.unusedVariables false

theorem zero_page (w : World) : (zeroValue 85).run Try.prog w = .ok (.agg #[.int .u32 0, .int .u32 0, .int .u32 0, .int .u8 0, .slice none 0 0]) w := by kernel_rfl

theorem pageInfo : (Try.prog.info? 85).map (·.size) = some 5 := by kernel_rfl
theorem page_ret {a : Act} {w : World} {R : Ending → World → Prop} {g : Nat} {cs : Array Value} {v : Value} (hd : a.defers = []) (h2 : a.tmps.getD 2 undef = .pointer (some ⟨g, 0, none⟩)) (h3 : a.tmps.getD 3 undef = v)
    (hg : w.heap[g]? = some (.cells cs 85 (0, 0))) (hs : cs.size = 5) (hR : R (.returned (.tuple #[.agg cs, v])) w) : bodyPost Try.prog Try.f72 R .ret a w := by
  refine bodyPost_ret_by (v := .tuple #[.agg cs, v]) ?_ hd hR
  have hl := run_loadVar_row (P := Try.prog) w g 85 85 cs (0, 0) _ hg Try.underlying85 rfl (by rw [pageInfo, hs])
  rw [results_cell_tmp (p := 2) (ty := 85) (u := 3) rfl, h2, h3]
  simp [asAddr, Result.andThen, hl]

def zcells : Array Value := #[.int .u32 0, .int .u32 0, .int .u32 0, .int .u8 0, .slice none 0 0]
theorem cell_row_kept (w : World) (o : Obj) {w2 w3 : World} (h2 : Below (w.alloc o).heap.size (w.alloc o) w2) (h3 : Below w2.heap.size w2 w3) : w3.heap[w.heap.size]? = some o := by
  have hs : (w.alloc o).heap.size = w.heap.size + 1 := by simp
  have h2s := h2.size
  rw [h3.block _ (by omega), h2.block _ (by omega), Go.heap_alloc_new]
/-- A page's cell can be read and written whole. -/
theorem cell_facts {w : World} {g : Nat} (h : w.heap[g]? = some (.cells zcells 85 (0, 0))) :
    w.cell? ⟨g, 0, none⟩ = some (.int .u32 0) ∧ w.cell? ⟨g, 1, none⟩ = some (.int .u32 0) ∧ w.cell? ⟨g, 2, none⟩ = some (.int .u32 0) ∧ w.cell? ⟨g, 3, none⟩ = some (.int .u8 0) ∧ w.cell? ⟨g, 4, none⟩ = some (.slice none 0 0) ∧
    w.frozen? ⟨g, 0, none⟩ = false ∧ w.frozen? ⟨g, 1, none⟩ = false ∧ w.frozen? ⟨g, 2, none⟩ = false ∧ w.frozen? ⟨g, 3, none⟩ = false ∧ w.frozen? ⟨g, 4, none⟩ = false := by
  refine ⟨?_, ?_, ?_, ?_, ?_, frozen_of_row w g _ _ _ h, frozen_of_row w g _ _ _ h, frozen_of_row w g _ _ _ h, frozen_of_row w g _ _ _ h, frozen_of_row w g _ _ _ h⟩
  all_goals (rw [cell_of_row w g _ _ _ _ h]; rfl)
theorem set_five {w : World} {g : Nat} {v0 v1 v2 v3 v4 : Value} (h : w.heap[g]? = some (.cells zcells 85 (0, 0))) :
    (((((w.setCell ⟨g, 0, none⟩ v0).setCell ⟨g, 1, none⟩ v1).setCell ⟨g, 2, none⟩ v2).setCell ⟨g, 3, none⟩ v3).setCell ⟨g, 4, none⟩ v4).heap[g]? = some (.cells #[v0, v1, v2, v3, v4] 85 (0, 0)) := by
  rw [heap_setCell_same _ g 4 _ _ _ (heap_setCell_same _ g 3 _ _ _ (heap_setCell_same _ g 2 _ _ _ (heap_setCell_same _ g 1 _ _ _ (heap_setCell_same _ g 0 _ _ _ h))))]
  rfl
theorem set_fived {w : World} {g : Nat} {v0 v1 v2 v3 v4 : Value} (h : w.heap[g]? = some (.cells zcells 85 (0, 0))) :
    (((((w.setCell ⟨g, 0, none⟩ v0).setCell ⟨g, 1, none⟩ v1).setCell ⟨g, 2, none⟩ v2).setCell ⟨g, 3, none⟩ v3).setCell ⟨g, 4, none⟩ v4).drew.heap[g]? = some (.cells #[v0, v1, v2, v3, v4] 85 (0, 0)) := by
  have h2 := set_five (v0 := v0) (v1 := v1) (v2 := v2) (v3 := v3) (v4 := v4) h
  generalize ((((w.setCell ⟨g, 0, none⟩ v0).setCell ⟨g, 1, none⟩ v1).setCell ⟨g, 2, none⟩ v2).setCell ⟨g, 3, none⟩ v3).setCell ⟨g, 4, none⟩ v4 = x at h2 ⊢
  exact h2
theorem below_five {B : Nat} {a w : World} {g : Nat} {v0 v1 v2 v3 v4 : Value} (h : Below B a w) (hg : B ≤ g) :
    Below B a (((((w.setCell ⟨g, 0, none⟩ v0).setCell ⟨g, 1, none⟩ v1).setCell ⟨g, 2, none⟩ v2).setCell ⟨g, 3, none⟩ v3).setCell ⟨g, 4, none⟩ v4) :=
  ((((h.setCell (p := ⟨g, 0, none⟩) hg _).setCell (p := ⟨g, 1, none⟩) hg _).setCell (p := ⟨g, 2, none⟩) hg _).setCell (p := ⟨g, 3, none⟩) hg _).setCell (p := ⟨g, 4, none⟩) hg _
set_option maxRecDepth 100000 in
set_option maxHeartbeats 2000000 in
theorem parse_short (w : World) (A : Option Addr) (n c : Nat) (hn : n ≠ 512) :
    Calls Try.prog 72 #[.slice A n c] w fun e w' => e = .returned (.tuple #[.agg #[.int .u32 0, .int .u32 0, .int .u32 0, .int .u8 0, .slice none 0 0], .int .i64 1]) ∧ Below w.heap.size w w' := by
  have h1 : ((n : Int) != 512) = true := by simp; omega
  have h2 : ¬ (n : Int) = 512 := by omega
  go_enter Try.func72, Try.ntmps72
  go_wp2
  exact page_ret rfl rfl rfl (Go.heap_alloc_new w _) rfl ⟨rfl, (Below.refl _ _).alloc (Nat.le_refl _) _⟩
set_option maxRecDepth 100000 in
set_option maxHeartbeats 2000000 in
theorem parse_blank (w : World) (A : Option Addr) (c : Nat) (l : List Nat) (hp : Bytes w w.heap.size (.slice A 512 c) l) (hz : ∀ b ∈ l, b = 0) :
    Calls Try.prog 72 #[.slice A 512 c] w fun e w' => e = .returned (.tuple #[.agg #[.int .u32 0, .int .u32 0, .int .u32 0, .int .u8 0, .slice none 0 0], .int .i64 3]) ∧ Below w.heap.size w w' := by
  have HB := fun o => hide (pblank_any (w.alloc o) _ l (hp.along ((Below.refl w.heap.size w).alloc (Nat.le_refl _) o)))
  rw [decide_eq_true hz] at HB
  clear hp hz
  go_enter Try.func72, Try.ntmps72
  go_wp2_with (first
    | (go_at_call 89; (with_reducible refine (unhide (HB _)).mono ?_); rintro e w1 ⟨rfl, rfl⟩))
  exact page_ret rfl rfl rfl (Go.heap_alloc_new w _) rfl ⟨rfl, (Below.refl _ _).alloc (Nat.le_refl _) _⟩
set_option maxRecDepth 100000 in
set_option maxHeartbeats 2000000 in
theorem parse_corrupt (w : World) (A : Option Addr) (c : Nat) (l : List Nat) (hp : Bytes w w.heap.size (.slice A 512 c) l) (hz : ¬ ∀ b ∈ l, b = 0) (hs : ¬ val (l.drop 508) = crc (l.take 508)) :
    Calls Try.prog 72 #[.slice A 512 c] w fun e w' => e = .returned (.tuple #[.agg #[.int .u32 0, .int .u32 0, .int .u32 0, .int .u8 0, .slice none 0 0], .int .i64 7]) ∧ Below w.heap.size w w' := by
  have HP := fun o => hide (hp.along ((Below.refl w.heap.size w).alloc (Nat.le_refl _) o))
  have HB := fun o => hide (pblank_any (w.alloc o) _ l (unhide (HP o)))
  rw [decide_eq_false hz] at HB
  have HS := Lib.hid (decide_eq_false hs)
  clear hp hz hs
  go_enter Try.func72, Try.ntmps72
  go_wp2_with (first
    | (go_at_call 89; (with_reducible refine (unhide (HB _)).mono ?_); rintro e w1 ⟨rfl, rfl⟩)
    | (go_at_call 90; (with_reducible refine (make_list _).mono ?_); rintro e w2 ⟨C, hC, rfl, hb2⟩; go_loud (
       have HO := hide (open_core hC w2 A 512 508 c l ((unhide (HP _)).along hb2) rfl (by decide) false HS.out)))
    | (go_at_call 91; (with_reducible refine (unhide HO).mono ?_); rintro e w3 ⟨hb3, he3⟩; obtain rfl : e = .returned (.tuple #[.slice none 0 0, .int .i64 7]) := he3; go_loud (
       have hbb := ((Below.refl w.heap.size w).alloc (Nat.le_refl _) (.cells zcells 85)).trans ((hb2.trans (hb3.mono hb2.size)).mono (by simp));
       have hg3 := cell_row_kept w (.cells zcells 85) hb2 hb3;
       have HG3 := Lib.hid hg3;
       have HBel3 := Lib.hid hbb;
       obtain ⟨k0, k1, k2, k3, k4, f0, f1, f2, f3, f4⟩ := cell_facts hg3;
       clear hg3 hbb)))
  exact page_ret rfl rfl rfl (set_five HG3.out) rfl ⟨rfl, below_five HBel3.out (Nat.le_refl _)⟩

theorem len_or (a b : Nat) (ha : a < 256) (hb : b < 256) : bits .or .i64 ((a : Int) * 256) (b : Int) = ((a * 256 + b : Nat) : Int) := by
  have h1 : ((a : Int) * 256) = ((a * 256 : Nat) : Int) := by omega
  rw [h1]
  show IntKind.i64.wrap ((BitVec.ofInt 64 ((a * 256 : Nat) : Int) ||| BitVec.ofInt 64 (b : Int)).toNat : Int) = _
  rw [BitVec.toNat_or, ofInt_u64 (a * 256) (by omega), ofInt_u64 b (by omega)]
  have h := Nat.two_pow_add_eq_or_of_lt (i := 8) (b := b) (by omega) a
  have e2 : a * 256 ||| b = a * 256 + b := by
    rw [Nat.mul_comm a 256]
    exact h.symm
  rw [e2]
  exact Lib.wrap_i64_small _ (by omega)

theorem bytes_tail {w3 : World} {g c2 k : Nat} {F : List Nat} (h : Bytes w3 w3.heap.size (.slice (some ⟨g, 0, none⟩) 508 c2) F) (hF : F.length = 508) (hk : k ≤ 508) (hc : 508 ≤ c2) (hne : ¬ c2 = k) :
    Bytes w3.drew w3.drew.heap.size (.slice (some ⟨g, k, none⟩) (508 - k) (c2 - k)) (F.drop k) := by
  have h1 := h.rest (k := k) hk
  rw [if_neg hne] at h1
  have e : Option.map (fun a => a.add k) (some (⟨g, 0, none⟩ : Addr)) = some ⟨g, k, none⟩ := by
    show some ((⟨g, 0, none⟩ : Addr).add k) = _
    rw [Addr.add_mid]
    simp
  rw [e] at h1
  exact h1.of_cells fun _ _ => rfl
theorem held_last {A0 A1 A2 A3 A4 A5 A6 A7 A8 A9 A10 P : Prop} (h : A0 ∧ A1 ∧ A2 ∧ A3 ∧ A4 ∧ A5 ∧ A6 ∧ A7 ∧ A8 ∧ A9 ∧ A10 ∧ P) : P := h.2.2.2.2.2.2.2.2.2.2.2
theorem mine_other {w : World} {base m c g i : Nat} {A : Option Addr} {l : List Nat} (v : Value) (h : Mine w base A m c l) (hg : g < base) : Mine (w.setCell ⟨g, i, none⟩ v) base A m c l := by
  refine ⟨?_, h.len, h.small⟩
  obtain ⟨hl, hv⟩ := id h.own
  refine ⟨hl, ?_⟩
  rcases hv with hv | ⟨g', cap, cur, h0, h1, h2, h3⟩
  · exact .inl hv
  · refine .inr ⟨g', cap, cur, h0, h1, ?_, h3⟩
    rw [heap_setCell_other w ⟨g, i, none⟩ g' v (by show g' ≠ g; omega)]
    exact h2
theorem mine_five {w : World} {base m c g : Nat} {A : Option Addr} {l : List Nat} {v0 v1 v2 v3 v4 : Value} (h : Mine w base A m c l) (hg : g < base) :
    Mine (((((w.setCell ⟨g, 0, none⟩ v0).setCell ⟨g, 1, none⟩ v1).setCell ⟨g, 2, none⟩ v2).setCell ⟨g, 3, none⟩ v3).setCell ⟨g, 4, none⟩ v4) base A m c l :=
  mine_other v4 (mine_other v3 (mine_other v2 (mine_other v1 (mine_other v0 h hg) hg) hg) hg) hg
/-- A part of bytes of one's own, read later on. -/
theorem bytes_mid {w3 : World} {g c2 k n q : Nat} {F : List Nat} (h : Bytes w3 w3.heap.size (.slice (some ⟨g, 0, none⟩) 508 c2) F) (hF : F.length = 508) (hk : k + n ≤ 508) (hc : 508 ≤ c2) (hne : k < 508) (hq : q = c2 - k) :
    ∀ x, Below w3.heap.size w3 x → Bytes x x.heap.size (.slice (some ⟨g, k, none⟩) n q) ((F.drop k).take n) := fun x hx => by
  subst hq
  have h1 := h.rest (k := k) (by omega)
  rw [if_neg (by omega)] at h1
  have e : Option.map (fun a => a.add k) (some (⟨g, 0, none⟩ : Addr)) = some ⟨g, k, none⟩ := by
    show some ((⟨g, 0, none⟩ : Addr).add k) = _
    rw [Addr.add_mid]
    simp
  rw [e] at h1
  exact ((h1.first (k := n) (by omega)).below hx).up hx.size
def lenOf (F : List Nat) : Nat := F.getD 15 0 * 256 + F.getD 16 0
/-- Bytes that are a page's, but for the sum. -/
def Formed (F : List Nat) : Prop := F[0]? = some 104 ∧ F[1]? = some 103 ∧ F[14]? ≠ some 0 ∧ lenOf F ≤ 491 ∧ ∀ b ∈ F.drop (17 + lenOf F), b = 0
def kindOf (F : List Nat) : Nat := F.getD 14 0
/-- What Parse leaves of bytes that are sealed. -/
def ParsePost (F : List Nat) (w : World) (e : Ending) (w' : World) : Prop := Below w.heap.size w w' ∧
  (¬ Formed F → e = .returned (.tuple #[.agg #[.int .u32 0, .int .u32 0, .int .u32 0, .int .u8 0, .slice none 0 0], .int .i64 2])) ∧
  (Formed F → ∃ A2 n2 c2, e = .returned (.tuple #[.agg #[.int .u32 ((be ((F.drop 2).take 4) : Nat) : Int), .int .u32 ((be ((F.drop 6).take 4) : Nat) : Int), .int .u32 ((be ((F.drop 10).take 4) : Nat) : Int), .int .u8 ((kindOf F : Nat) : Int), .slice A2 n2 c2], .int .i64 0]) ∧
    Mine w' w.heap.size A2 n2 c2 ((F.drop 17).take (lenOf F)))
theorem two_toList (x y : UInt8) : (ByteArray.mk #[x, y]).toList = [x, y] := by
  unfold ByteArray.toList
  rw [ByteArray.toList.loop, if_pos (by simp [ByteArray.size]), ByteArray.toList.loop, if_pos (by simp [ByteArray.size]), ByteArray.toList.loop, if_neg (by simp [ByteArray.size])]
  rfl
theorem mark_toList (a b : Nat) (ha : a < 256) (hb : b < 256) : (strOfNums [(a : Int), (b : Int)]).toList = [104, 103] ↔ a = 104 ∧ b = 103 := by
  have e : (strOfNums [(a : Int), (b : Int)]).toList = [UInt8.ofNat a, UInt8.ofNat b] := two_toList _ _
  rw [e]
  constructor
  · intro h
    injection h with h1 h2
    injection h2 with h2 _
    have h3 := congrArg UInt8.toNat h1
    have h4 := congrArg UInt8.toNat h2
    simp at h3 h4
    omega
  · rintro ⟨rfl, rfl⟩
    rfl

set_option maxRecDepth 100000 in
set_option maxHeartbeats 4000000 in
theorem parse_sealed (w : World) (A : Option Addr) (c : Nat) (l : List Nat) (hp : Bytes w w.heap.size (.slice A 512 c) l) (hz : ¬ ∀ b ∈ l, b = 0) (hs : val (l.drop 508) = crc (l.take 508)) :
    Calls Try.prog 72 #[.slice A 512 c] w (ParsePost (l.take 508) w) := by
  have hl : l.length = 512 := by
    obtain ⟨⟨A1, c1, hv, _⟩, _, _⟩ := hp
    injection hv with _ h _
    exact h.symm
  have HP := fun o => hide (hp.along ((Below.refl w.heap.size w).alloc (Nat.le_refl _) o))
  have HB := fun o => hide (pblank_any (w.alloc o) _ l (unhide (HP o)))
  rw [decide_eq_false hz] at HB
  have HS := Lib.hid (decide_eq_true hs)
  obtain ⟨F, hF⟩ : ∃ F, F = l.take 508 := ⟨_, rfl⟩
  have hFl : F.length = 508 := by rw [hF, List.length_take]; omega
  rw [← hF]
  have HF := Lib.hid hF
  have HFL := Lib.hid hFl
  clear hp hz hs hF hFl hl
  go_enter Try.func72, Try.ntmps72
  go_wp2_with (first
    | (go_at_call 89; (with_reducible refine (unhide (HB _)).mono ?_); rintro e w1 ⟨rfl, rfl⟩)
    | (go_at_call 90; (with_reducible refine (make_list _).mono ?_); rintro e w2 ⟨C, hC, rfl, hb2⟩; go_loud (
       have HO := hide (open_core hC w2 A 512 508 c l ((unhide (HP _)).along hb2) rfl (by decide) true HS.out)))
    | (go_at_call 91; (with_reducible refine (unhide HO).mono ?_); rintro e w3 ⟨hb3, he3⟩; obtain ⟨A2, n2, c2, rfl, hM3⟩ := he3))
  have hbb := ((Below.refl w.heap.size w).alloc (Nat.le_refl _) (.cells zcells 85)).trans ((hb2.trans (hb3.mono hb2.size)).mono (by simp))
  have hg3 := cell_row_kept w (.cells zcells 85) hb2 hb3
  have hws := hb2.size
  rw [← HF.out] at hM3
  have hn2 : n2 = 508 := by rw [hM3.len, HFL.out]
  subst hn2
  obtain ⟨g, b14, rfl, hg2, hb14, hs14, k14, fz14⟩ := hM3.at_ (k := 14) (by omega)
  obtain ⟨g', b15, e15, -, hb15, hs15, k15, -⟩ := hM3.at_ (k := 15) (by omega)
  obtain ⟨g'', b16, e16, -, hb16, hs16, k16, -⟩ := hM3.at_ (k := 16) (by omega)
  obtain ⟨g0, b0, e0, -, hb0, hs0, k0, -⟩ := hM3.at_ (k := 0) (by omega)
  obtain ⟨g1, b1, e1, -, hb1, hs1, k1, -⟩ := hM3.at_ (k := 1) (by omega)
  obtain rfl : g = g' := by simpa using e15
  obtain rfl : g = g'' := by simpa using e16
  obtain rfl : g = g0 := by simpa using e0
  obtain rfl : g = g1 := by simpa using e1
  obtain ⟨L, hL⟩ : ∃ L, L = b15 * 256 + b16 := ⟨_, rfl⟩
  have hor := len_or b15 b16 hs15 hs16
  rw [← hL] at hor
  have hLF : lenOf F = L := by rw [hL]; unfold lenOf; rw [List.getD_eq_getElem?_getD, List.getD_eq_getElem?_getD, hb15, hb16]; rfl
  have hKF : kindOf F = b14 := by unfold kindOf; rw [List.getD_eq_getElem?_getD, hb14]; rfl
  have hcap : 508 ≤ c2 := hM3.bytes.cap
  have hcapi : (2 : Int) ≤ (c2 : Int) := by omega
  have hcapj : (508 : Int) ≤ (c2 : Int) := by omega
  have hgl : g < w3.heap.size := World.block_lt_of_cell? w3 _ k0
  obtain ⟨S, hS⟩ : ∃ S, S = strOfNums [(b0 : Int), (b1 : Int)] := ⟨_, rfl⟩
  have hmark := mark_toList b0 b1 hs0 hs1
  rw [← hS] at hmark
  have hconv : ∀ x : World, Below w3.heap.size w3 x → (convert 43 9 (.slice (some ⟨g, 0, none⟩) 2 c2)).run Try.prog x = .ok (.string S) x := fun x hx => by
    rw [hS]
    refine run_convert_bytes_arg (P := Try.prog) x 43 5 Try.underlying43 Try.underlying5 g 0 2 c2 [(b0 : Int), (b1 : Int)] rfl (fun i hi => ?_) 9 Try.underlying9
    rcases (show i = 0 ∨ i = 1 by omega) with rfl | rfl
    · exact (hx.cell (p := ⟨g, 0, none⟩) hgl).trans k0
    · exact (hx.cell (p := ⟨g, 1, none⟩) hgl).trans k1
  have hconv1 := hconv w3.drew (Below.refl _ _).drew
  have HG3 := Lib.hid hg3
  have HBel3 := Lib.hid hbb
  have HM3 := Lib.hid hM3
  have HLF := Lib.hid hLF
  have HKF := Lib.hid hKF
  have Hb0 := Lib.hid hb0
  have Hb1 := Lib.hid hb1
  have Hb14 := Lib.hid hb14
  have hbel3 := hb3.size
  obtain ⟨z0, z1, z2, z3, z4, f0, f1, f2, f3, f4⟩ := cell_facts hg3
  clear hg3 hbb hM3 e15 e16 e0 e1 hconv hS hL hLF hKF hb0 hb1 hb14 hb15 hb16 hb2 hb3 hC HO HP HB
  go_region
  by_cases hmk : b0 = 104 ∧ b1 = 103
  · have hmk1 := hmark.2 hmk
    have Hmk := Lib.hid hmk
    clear hmark hmk
    by_cases hk0 : b14 = 0
    · have Hk0 := Lib.hid hk0
      subst hk0
      go_wp2
      refine page_ret rfl rfl rfl (set_fived HG3.out) rfl ⟨(below_five HBel3.out (Nat.le_refl _)).drew, fun _ => rfl, fun h => absurd Hb14.out h.2.2.1⟩
    · have hk1 : ((b14 : Int) == 0) = false := by rw [beq_eq_false_iff_ne]; omega
      have Hk0 := Lib.hid hk0
      by_cases hlen : L ≤ 491
      · have hlen1 : ¬ (L : Int) > 491 := by omega
        have hlen2 : (L : Int) ≤ 491 := by omega
        have hq1 : (17 : Int) + (L : Int) ≤ 508 := by omega
        have hq2 : (17 : Int) + (L : Int) ≤ (c2 : Int) := by omega
        have hq3 : (0 : Int) ≤ 17 + (L : Int) := by omega
        have HT := Lib.hid (bytes_tail HM3.out.bytes HFL.out (k := 17 + L) (by omega) hcap)
        by_cases hcl : c2 = 17 + L
        · obtain rfl : L = 491 := by omega
          obtain rfl : c2 = 508 := by omega
          have HBk := hide (pblank_any w3.drew (.slice (some ⟨g, 0, none⟩) 0 0) [] ⟨⟨_, 0, rfl, Lies.nil _ _ _, Nat.le_refl _, fun h => by cases h⟩, by simp, by simp⟩)
          rw [decide_eq_true (by simp)] at HBk
          have hbk : ∀ b ∈ F.drop (17 + 491), b = 0 := by rw [List.drop_of_length_le (by rw [HFL.out]; omega)]; simp
          clear hq1 hq2 hq3 hcl hlen1 hlen2 hcapi hcapj HT
          have hform : Hid (Formed F) := Lib.hid ⟨by rw [Hb0.out, Hmk.out.1], by rw [Hb1.out, Hmk.out.2], fun h => Hk0.out (Option.some.inj (Hb14.out.symm.trans h)), by rw [HLF.out]; exact hlen, by rw [HLF.out]; exact hbk⟩
          clear hbk
          go_wp2_with (first
            | (go_at_call 89; (with_reducible refine (unhide HBk).mono ?_); rintro e wb ⟨rfl, rfl⟩))
          have HW2 := Lib.hid (bytes_mid HM3.out.bytes HFL.out (k := 2) (n := 506) (q := 506) (by omega) hcap (by omega) rfl)
          have HW6 := Lib.hid (bytes_mid HM3.out.bytes HFL.out (k := 6) (n := 502) (q := 502) (by omega) hcap (by omega) rfl)
          have HW10 := Lib.hid (bytes_mid HM3.out.bytes HFL.out (k := 10) (n := 498) (q := 498) (by omega) hcap (by omega) rfl)
          have HW17 := Lib.hid (bytes_mid HM3.out.bytes HFL.out (k := 17) (n := 491) (q := 491) (by omega) hcap (by omega) rfl)
          have e2 : (F.drop 2).take 506 = F.drop 2 := List.take_of_length_le (by rw [List.length_drop, HFL.out]; omega)
          have e6 : (F.drop 6).take 502 = F.drop 6 := List.take_of_length_le (by rw [List.length_drop, HFL.out]; omega)
          have e10 : (F.drop 10).take 498 = F.drop 10 := List.take_of_length_le (by rw [List.length_drop, HFL.out]; omega)
          rw [e2] at HW2
          rw [e6] at HW6
          rw [e10] at HW10
          clear e2 e6 e10
          have HL2 : Hid (4 ≤ (F.drop 2).length) := by show 4 ≤ (F.drop 2).length; rw [List.length_drop, HFL.out]; omega
          have HL6 : Hid (4 ≤ (F.drop 6).length) := by show 4 ≤ (F.drop 6).length; rw [List.length_drop, HFL.out]; omega
          have HL10 : Hid (4 ≤ (F.drop 10).length) := by show 4 ≤ (F.drop 10).length; rw [List.length_drop, HFL.out]; omega
          have hLm : 491 ≤ 1048576 := by omega
          have hgw := HG3.out
          have HGX : Hid (∀ x : World, Below w3.heap.size w3 x → x.heap[w.heap.size]? = some (.cells zcells 85 (0, 0))) := fun x hx => (hx.block _ (by
              rcases Nat.lt_or_ge w.heap.size w3.heap.size with h | h
              · exact h
              · rw [Array.getElem?_eq_none h] at hgw; cases hgw)).trans hgw
          have hwlt : Hid (w.heap.size < w3.drew.drew.heap.size) := by
            show w.heap.size < w3.heap.size
            rcases Nat.lt_or_ge w.heap.size w3.heap.size with h | h
            · exact h
            · rw [Array.getElem?_eq_none h] at hgw; cases hgw
          have HSB : Hid (∀ x : World, Below w3.heap.size w3 x → x.cell? ⟨g, 14, none⟩ = some (.int .u8 (b14 : Int)) ∧ x.cell? ⟨w.heap.size, 0, none⟩ = some (.int .u32 0) ∧ x.cell? ⟨w.heap.size, 1, none⟩ = some (.int .u32 0) ∧ x.cell? ⟨w.heap.size, 2, none⟩ = some (.int .u32 0) ∧ x.cell? ⟨w.heap.size, 3, none⟩ = some (.int .u8 0) ∧ x.cell? ⟨w.heap.size, 4, none⟩ = some (.slice none 0 0) ∧
              x.frozen? ⟨w.heap.size, 0, none⟩ = false ∧ x.frozen? ⟨w.heap.size, 1, none⟩ = false ∧ x.frozen? ⟨w.heap.size, 2, none⟩ = false ∧ x.frozen? ⟨w.heap.size, 3, none⟩ = false ∧ x.frozen? ⟨w.heap.size, 4, none⟩ = false ∧ Below w3.heap.size w3 x) := fun x hx => by
            have h9 := HGX.out x hx
            obtain ⟨a0, a1, a2, a3, a4, a5, a6, a7, a8, a9⟩ := cell_facts h9
            exact ⟨(hx.cell (p := ⟨g, 14, none⟩) hgl).trans k14, a0, a1, a2, a3, a4, a5, a6, a7, a8, a9, hx⟩
          clear hgw z0 z1 z2 z3 z4 f0 f1 f2 f3 f4 hconv1
          have hdd : Below w3.heap.size w3 w3.drew.drew := (Below.refl _ _).drew.drew
          have HC2 := hide (word_any _ _ _ (HW2.out _ hdd) HL2.out)
          have HC6 := hide (word_any _ _ _ (HW6.out _ hdd) HL6.out)
          have HC10 := hide (word_any _ _ _ (HW10.out _ hdd) HL10.out)
          have HC17 := hide (clone_any _ _ _ _ _ (HW17.out _ hdd) hLm)
          have HDD := Lib.hid hdd
          clear hdd HW2 HW6 HW10 HW17 HL2 HL6 HL10
          go_region_law (first
            | (go_simp; go_at_call 92; (first | (with_reducible refine (unhide HC2).mono ?_) | (with_reducible refine (unhide HC6).mono ?_) | (with_reducible refine (unhide HC10).mono ?_)); rintro e w' ⟨rfl, rfl⟩)
            | (go_simp; go_at_call 66; (with_reducible refine (unhide HC17).mono ?_); rintro e w9 ⟨A9, n9, c9, rfl, hM9, hb9⟩; obtain ⟨k14', z0, z1, z2, z3, z4, f0, f1, f2, f3, f4, hbw9⟩ := HSB.out w9 (below_on HDD.out hb9)))
          all_goals
            go_wp2
            refine page_ret rfl rfl rfl (set_five (HGX.out w9 hbw9)) rfl ⟨?_, ?_, ?_⟩
            · exact below_five (HBel3.out.trans (hbw9.mono HBel3.out.size)) (Nat.le_refl _)
            · exact fun h => absurd hform.out h
            · intro _
              rw [HKF.out, HLF.out]
              exact ⟨A9, n9, c9, rfl, (mine_five hM9 hwlt.out).lower (Nat.le_of_lt hwlt.out)⟩
        · have hcl1 : ¬ (c2 : Int) = 17 + (L : Int) := by omega
          have HBk := hide (pblank_any w3.drew (.slice (some ⟨g, 17 + L, none⟩) (508 - (17 + L)) (c2 - (17 + L))) _ (HT.out hcl))
          by_cases hbk : ∀ b ∈ F.drop (17 + L), b = 0
          · rw [decide_eq_true hbk] at HBk
            have hform : Hid (Formed F) := Lib.hid ⟨by rw [Hb0.out, Hmk.out.1], by rw [Hb1.out, Hmk.out.2], fun h => Hk0.out (Option.some.inj (Hb14.out.symm.trans h)), by rw [HLF.out]; exact hlen, by rw [HLF.out]; exact hbk⟩
            clear hbk
            go_wp2_with (first
              | (go_at_call 89; (with_reducible refine (unhide HBk).mono ?_); rintro e wb ⟨rfl, rfl⟩))
            have HW2 := Lib.hid (bytes_mid HM3.out.bytes HFL.out (k := 2) (n := 506) (by omega) hcap (by omega) rfl)
            have HW6 := Lib.hid (bytes_mid HM3.out.bytes HFL.out (k := 6) (n := 502) (by omega) hcap (by omega) rfl)
            have HW10 := Lib.hid (bytes_mid HM3.out.bytes HFL.out (k := 10) (n := 498) (by omega) hcap (by omega) rfl)
            have HW17 := Lib.hid (bytes_mid HM3.out.bytes HFL.out (k := 17) (n := L) (by omega) hcap (by omega) rfl)
            have e2 : (F.drop 2).take 506 = F.drop 2 := List.take_of_length_le (by rw [List.length_drop, HFL.out]; omega)
            have e6 : (F.drop 6).take 502 = F.drop 6 := List.take_of_length_le (by rw [List.length_drop, HFL.out]; omega)
            have e10 : (F.drop 10).take 498 = F.drop 10 := List.take_of_length_le (by rw [List.length_drop, HFL.out]; omega)
            rw [e2] at HW2
            rw [e6] at HW6
            rw [e10] at HW10
            have hq4 : (17 : Int) ≤ 17 + (L : Int) := by omega
            have hq5 : (17 : Int) ≤ (c2 : Int) := by omega
            have hq6 : (17 : Int) + (L : Int) - 17 = (L : Int) := by omega
            have hq7 : ¬ (c2 : Int) = 17 := by omega
            have hq8 : 17 + L - 17 = L := by omega
            have hq9 : ¬ c2 = 17 := by omega
            have hr2 : ¬ c2 = 2 := by omega
            have hq10 : ((17 : Int) + (L : Int)).toNat = 17 + L := by omega
            have hq11 : ((17 : Int) + (L : Int)).toNat - 17 = L := by omega
            have hr6 : ¬ c2 = 6 := by omega
            have hr10 : ¬ c2 = 10 := by omega
            clear e2 e6 e10
            have HL2 : Hid (4 ≤ (F.drop 2).length) := by show 4 ≤ (F.drop 2).length; rw [List.length_drop, HFL.out]; omega
            have HL6 : Hid (4 ≤ (F.drop 6).length) := by show 4 ≤ (F.drop 6).length; rw [List.length_drop, HFL.out]; omega
            have HL10 : Hid (4 ≤ (F.drop 10).length) := by show 4 ≤ (F.drop 10).length; rw [List.length_drop, HFL.out]; omega
            have hLm : L ≤ 1048576 := by omega
            have hgw := HG3.out
            have HGX : Hid (∀ x : World, Below w3.heap.size w3 x → x.heap[w.heap.size]? = some (.cells zcells 85 (0, 0))) := fun x hx => (hx.block _ (by
                rcases Nat.lt_or_ge w.heap.size w3.heap.size with h | h
                · exact h
                · rw [Array.getElem?_eq_none h] at hgw; cases hgw)).trans hgw
            have hwlt : Hid (w.heap.size < w3.drew.drew.heap.size) := by
              show w.heap.size < w3.heap.size
              rcases Nat.lt_or_ge w.heap.size w3.heap.size with h | h
              · exact h
              · rw [Array.getElem?_eq_none h] at hgw; cases hgw
            have HSB : Hid (∀ x : World, Below w3.heap.size w3 x → x.cell? ⟨g, 14, none⟩ = some (.int .u8 (b14 : Int)) ∧ x.cell? ⟨w.heap.size, 0, none⟩ = some (.int .u32 0) ∧ x.cell? ⟨w.heap.size, 1, none⟩ = some (.int .u32 0) ∧ x.cell? ⟨w.heap.size, 2, none⟩ = some (.int .u32 0) ∧ x.cell? ⟨w.heap.size, 3, none⟩ = some (.int .u8 0) ∧ x.cell? ⟨w.heap.size, 4, none⟩ = some (.slice none 0 0) ∧
                x.frozen? ⟨w.heap.size, 0, none⟩ = false ∧ x.frozen? ⟨w.heap.size, 1, none⟩ = false ∧ x.frozen? ⟨w.heap.size, 2, none⟩ = false ∧ x.frozen? ⟨w.heap.size, 3, none⟩ = false ∧ x.frozen? ⟨w.heap.size, 4, none⟩ = false ∧ Below w3.heap.size w3 x) := fun x hx => by
              have h9 := HGX.out x hx
              obtain ⟨a0, a1, a2, a3, a4, a5, a6, a7, a8, a9⟩ := cell_facts h9
              exact ⟨(hx.cell (p := ⟨g, 14, none⟩) hgl).trans k14, a0, a1, a2, a3, a4, a5, a6, a7, a8, a9, hx⟩
            clear hgw z0 z1 z2 z3 z4 f0 f1 f2 f3 f4 hconv1
            have hdd : Below w3.heap.size w3 w3.drew.drew := (Below.refl _ _).drew.drew
            have HC2 := hide (word_any _ _ _ (HW2.out _ hdd) HL2.out)
            have HC6 := hide (word_any _ _ _ (HW6.out _ hdd) HL6.out)
            have HC10 := hide (word_any _ _ _ (HW10.out _ hdd) HL10.out)
            have HC17 := hide (clone_any _ _ _ _ _ (HW17.out _ hdd) hLm)
            have HDD := Lib.hid hdd
            clear hdd HW2 HW6 HW10 HW17 HL2 HL6 HL10
            go_region_law (first
              | (go_simp; go_at_call 92; (first | (with_reducible refine (unhide HC2).mono ?_) | (with_reducible refine (unhide HC6).mono ?_) | (with_reducible refine (unhide HC10).mono ?_)); rintro e w' ⟨rfl, rfl⟩)
              | (go_simp; go_at_call 66; (with_reducible refine (unhide HC17).mono ?_); rintro e w9 ⟨A9, n9, c9, rfl, hM9, hb9⟩; obtain ⟨k14', z0, z1, z2, z3, z4, f0, f1, f2, f3, f4, hbw9⟩ := HSB.out w9 (below_on HDD.out hb9)))
            all_goals
              go_wp2
              refine page_ret rfl rfl rfl (set_five (HGX.out w9 hbw9)) rfl ⟨?_, ?_, ?_⟩
              · exact below_five (HBel3.out.trans (hbw9.mono HBel3.out.size)) (Nat.le_refl _)
              · exact fun h => absurd hform.out h
              · intro _
                rw [HKF.out, HLF.out]
                exact ⟨A9, n9, c9, rfl, (mine_five hM9 hwlt.out).lower (Nat.le_of_lt hwlt.out)⟩
          · rw [decide_eq_false hbk] at HBk
            have Hbk := Lib.hid hbk
            clear hbk
            go_wp2_with (first
              | (go_at_call 89; go_loud (with_reducible refine (unhide HBk).mono ?_); rintro e wb ⟨rfl, rfl⟩))
            refine page_ret rfl rfl rfl (set_fived HG3.out) rfl ⟨(below_five HBel3.out (Nat.le_refl _)).drew, fun _ => rfl, fun h => absurd (HLF.out ▸ h.2.2.2.2) Hbk.out⟩
      · have hlen1 : (L : Int) > 491 := by omega
        have Hlen := Lib.hid hlen
        go_wp2
        refine page_ret rfl rfl rfl (set_fived HG3.out) rfl ⟨(below_five HBel3.out (Nat.le_refl _)).drew, fun _ => rfl, fun h => absurd (HLF.out ▸ h.2.2.2.1) Hlen.out⟩
  · have hmk1 : ¬ S.toList = [104, 103] := fun h => hmk (hmark.1 h)
    have Hmk := Lib.hid hmk
    clear hmark hmk
    go_wp2
    refine page_ret rfl rfl rfl (set_fived HG3.out) rfl ⟨(below_five HBel3.out (Nat.le_refl _)).drew, fun _ => rfl, fun h => absurd ⟨Option.some.inj (Hb0.out.symm.trans h.1), Option.some.inj (Hb1.out.symm.trans h.2.1)⟩ Hmk.out⟩
end Go.Proofs.Ytalpippeelomjaa
namespace Go.Proofs.Ytalpippeelomjaa
open Go.RowKit
set_option linter.unusedSimpArgs false
set_option linter.unusedVariables false

/-- The whole bytes of a page. -/
def page (gen ser num kind : Nat) (d : List Nat) : List Nat := pg gen ser num kind d ++ le4 (crc (pg gen ser num kind d))
theorem page_length {gen ser num kind : Nat} {d : List Nat} (h : d.length ≤ 491) : (page gen ser num kind d).length = 512 := by
  unfold page
  rw [List.length_append, pg_length h]
  rfl
theorem page_take {gen ser num kind : Nat} {d : List Nat} (h : d.length ≤ 491) : (page gen ser num kind d).take 508 = pg gen ser num kind d := by
  unfold page
  exact List.take_left' (pg_length h)
theorem page_drop {gen ser num kind : Nat} {d : List Nat} (h : d.length ≤ 491) : (page gen ser num kind d).drop 508 = le4 (crc (pg gen ser num kind d)) := by
  unfold page
  exact List.drop_left' (pg_length h)
theorem page_sealed {gen ser num kind : Nat} {d : List Nat} (h : d.length ≤ 491) : val ((page gen ser num kind d).drop 508) = crc ((page gen ser num kind d).take 508) := by
  rw [page_take h, page_drop h]
  exact val_le4 _ (crc_lt _)
theorem pg_head (gen ser num kind : Nat) (d : List Nat) : pg gen ser num kind d = 104 :: 103 :: (be4 gen ++ (be4 ser ++ (be4 num ++ (kind :: d.length / 256 % 256 :: d.length % 256 :: (d ++ List.replicate (491 - d.length) 0))))) := by
  unfold pg
  simp
theorem page_not_blank (gen ser num kind : Nat) (d : List Nat) : ¬ ∀ b ∈ page gen ser num kind d, b = 0 := by
  intro h
  have h1 := h 104 (by unfold page; rw [pg_head]; simp)
  cases h1
theorem pg_parts {gen ser num kind : Nat} {d : List Nat} (hd : d.length ≤ 491) (h0 : gen < 4294967296) (h1 : ser < 4294967296) (h2 : num < 4294967296) :
    lenOf (pg gen ser num kind d) = d.length ∧ kindOf (pg gen ser num kind d) = kind ∧ be (((pg gen ser num kind d).drop 2).take 4) = gen ∧ be (((pg gen ser num kind d).drop 6).take 4) = ser ∧
      be (((pg gen ser num kind d).drop 10).take 4) = num ∧ ((pg gen ser num kind d).drop 17).take d.length = d ∧ (pg gen ser num kind d).drop (17 + d.length) = List.replicate (491 - d.length) 0 := by
  have e : pg gen ser num kind d = [104, 103] ++ be4 gen ++ be4 ser ++ be4 num ++ [kind, d.length / 256 % 256, d.length % 256] ++ d ++ List.replicate (491 - d.length) 0 := rfl
  refine ⟨?_, ?_, ?_, ?_, ?_, ?_, ?_⟩
  · unfold lenOf
    rw [pg_head]
    simp [be4]
    omega
  · unfold kindOf
    rw [pg_head]
    simp [be4]
  · rw [pg_head]
    exact be_be4 gen h0
  · rw [pg_head]
    exact be_be4 ser h1
  · rw [pg_head]
    exact be_be4 num h2
  · rw [pg_head]
    simp [be4]
  · rw [← List.drop_drop, pg_head]
    simp [be4]
theorem pg_formed {gen ser num kind : Nat} {d : List Nat} (hd : d.length ≤ 491) (hk : 0 < kind) : Formed (pg gen ser num kind d) := by
  refine ⟨by rw [pg_head]; rfl, by rw [pg_head]; rfl, ?_, ?_, ?_⟩
  · rw [pg_head]
    simp [be4]
    omega
  · unfold lenOf
    rw [pg_head]
    simp [be4]
    omega
  · have h1 : lenOf (pg gen ser num kind d) = d.length := by
      unfold lenOf
      rw [pg_head]
      simp [be4]
      omega
    rw [h1, ← List.drop_drop, pg_head]
    simp [be4]
theorem parse_page (w : World) (A : Option Addr) (n c : Nat) (x0 x1 x2 x3 : Nat) (d : List Nat) (h0 : x0 < 4294967296) (h1 : x1 < 4294967296) (h2 : x2 < 4294967296) (h3 : 0 < x3) (hd : d.length ≤ 491) (hp : Bytes w w.heap.size (.slice A n c) (page x0 x1 x2 x3 d)) :
    Calls Try.prog 72 #[.slice A n c] w fun e w' => ∃ A2 n2 c2, e = .returned (.tuple #[.agg #[.int .u32 (x0 : Int), .int .u32 (x1 : Int), .int .u32 (x2 : Int), .int .u8 (x3 : Int), .slice A2 n2 c2], .int .i64 0]) ∧ Mine w' w.heap.size A2 n2 c2 d ∧ Below w.heap.size w w' := by
  have hn : n = 512 := by
    obtain ⟨⟨A1, c1, hv, _⟩, _, _⟩ := id hp
    injection hv with _ h _
    rw [h, page_length hd]
  subst hn
  refine (parse_sealed w A c _ hp (page_not_blank _ _ _ _ _) (page_sealed hd)).mono fun e w' ⟨hb, _, hx⟩ => ?_
  rw [page_take hd] at hx
  obtain ⟨A2, n2, c2, he, hM⟩ := hx (pg_formed hd h3)
  obtain ⟨e1, e2, e3, e4, e5, e6, _⟩ := pg_parts (kind := x3) hd h0 h1 h2
  rw [e2, e3, e4, e5] at he
  rw [e1, e6] at hM
  exact ⟨A2, n2, c2, he, hM, hb⟩
end Go.Proofs.Ytalpippeelomjaa
