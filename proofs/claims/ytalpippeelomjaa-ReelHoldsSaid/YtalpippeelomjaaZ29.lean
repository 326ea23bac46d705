/- RParse: joined by program (tools/merge.py). -/
import Derived.Test.YtalpippeelomjaaZ14
import Derived.Test.YtalpippeelomjaaZ28
import Derived.Deep.RegionLaw
import Derived.Deep.DeepCutAuto
namespace Go.Proofs.Ytalpippeelomjaa
open Go.RowKit
set_option linter.unusedSimpArgs false
set_option linter.unusedVariables false
theorem rpageInfo : (Try.prog.info? 56).map (·.size) = some 5 := by kernel_rfl
theorem rpage_ret {a : Act} {w : World} {R : Ending → World → Prop} {g : Nat} {cs : Array Value} {v : Value} (hd : a.defers = []) (h2 : a.tmps.getD 2 undef = .pointer (some ⟨g, 0, none⟩)) (h3 : a.tmps.getD 3 undef = v)
    (hg : w.heap[g]? = some (.cells cs 56 (0, 0))) (hs : cs.size = 5) (hR : R (.returned (.tuple #[.agg cs, v])) w) : bodyPost Try.prog Try.f55 R .ret a w := by
  refine bodyPost_ret_by (v := .tuple #[.agg cs, v]) ?_ hd hR
  have hl := run_loadVar_row (P := Try.prog) w g 56 56 cs (0, 0) _ hg Try.underlying56 rfl (by rw [rpageInfo, hs])
  rw [results_cell_tmp (p := 2) (ty := 56) (u := 3) rfl, h2, h3]
  simp [asAddr, Result.andThen, hl]
theorem rcell_facts {w : World} {g : Nat} (h : w.heap[g]? = some (.cells #[.int .u32 0, .int .u32 0, .int .u32 0, .int .u8 0, .slice none 0 0] 56 (0, 0))) :
    w.cell? ⟨g, 0, none⟩ = some (.int .u32 0) ∧ w.cell? ⟨g, 1, none⟩ = some (.int .u32 0) ∧ w.cell? ⟨g, 2, none⟩ = some (.int .u32 0) ∧ w.cell? ⟨g, 3, none⟩ = some (.int .u8 0) ∧ w.cell? ⟨g, 4, none⟩ = some (.slice none 0 0) ∧
    w.frozen? ⟨g, 0, none⟩ = false ∧ w.frozen? ⟨g, 1, none⟩ = false ∧ w.frozen? ⟨g, 2, none⟩ = false ∧ w.frozen? ⟨g, 3, none⟩ = false ∧ w.frozen? ⟨g, 4, none⟩ = false := by
  refine ⟨?_, ?_, ?_, ?_, ?_, frozen_of_row w g _ _ _ h, frozen_of_row w g _ _ _ h, frozen_of_row w g _ _ _ h, frozen_of_row w g _ _ _ h, frozen_of_row w g _ _ _ h⟩
  all_goals (rw [cell_of_row w g _ _ _ _ h]; rfl)
theorem rset_five {w : World} {g : Nat} {u0 u1 u2 u3 u4 v0 v1 v2 v3 v4 : Value} (h : w.heap[g]? = some (.cells #[u0, u1, u2, u3, u4] 56 (0, 0))) :
    (((((w.setCell ⟨g, 0, none⟩ v0).setCell ⟨g, 1, none⟩ v1).setCell ⟨g, 2, none⟩ v2).setCell ⟨g, 3, none⟩ v3).setCell ⟨g, 4, none⟩ v4).heap[g]? = some (.cells #[v0, v1, v2, v3, v4] 56 (0, 0)) := by
  rw [heap_setCell_same _ g 4 _ _ _ (heap_setCell_same _ g 3 _ _ _ (heap_setCell_same _ g 2 _ _ _ (heap_setCell_same _ g 1 _ _ _ (heap_setCell_same _ g 0 _ _ _ h))))]
  rfl
set_option maxRecDepth 100000 in
set_option maxHeartbeats 2000000 in
theorem refParse_short (w : World) (A : Option Addr) (n c : Nat) (l : List Nat) (hn : n ≠ 512) (hl : n = l.length) :
    Calls Try.prog 55 #[.slice A n c] w (Parsed l w) := by
  have h1 : ((n : Int) != 512) = true := by simp; omega
  have h2 : ¬ (n : Int) = 512 := by omega
  have HL := Lib.hid hl
  have HN := Lib.hid hn
  clear hl hn
  go_enter Try.func55, Try.ntmps55
  go_wp2
  exact rpage_ret rfl rfl rfl (Go.heap_alloc_new w _) rfl (parsed_bad (err_short (by rw [← HL.out]; exact HN.out)) (by decide) rfl ((Below.refl _ _).alloc (Nat.le_refl _) _))
theorem run_make_512 (w : World) : (Instr.makeSlice 43 (.int .i64 512) (.int .i64 512)).run Try.prog w = .ok (.slice (some ⟨w.heap.size, 0, none⟩) 512 512) (w.alloc (.cells (byt (List.replicate 512 0)).toArray 5)) := run_make_i w 512 (by omega)
theorem zeros_n (w : World) (n g : Nat) (hn : n < 600) (hg : g = w.heap.size) : Bytes (w.alloc (.cells (byt (List.replicate n 0)).toArray 5)) (w.alloc (.cells (byt (List.replicate n 0)).toArray 5)).heap.size (.slice (some ⟨g, 0, none⟩) n n) (List.replicate n 0) := by
  subst hg
  exact bytes_block (Go.heap_alloc_new w _) (by simp) List.length_replicate.symm (Nat.le_refl _) (fun b hb => by rw [List.eq_of_mem_replicate hb]; omega) (by unfold maxLen; rw [List.length_replicate]; omega)
theorem zeros_new (w : World) (g : Nat) (hg : g = w.heap.size) : Bytes (w.alloc (.cells (byt (List.replicate 512 0)).toArray 5)) (w.alloc (.cells (byt (List.replicate 512 0)).toArray 5)).heap.size (.slice (some ⟨g, 0, none⟩) 512 512) (List.replicate 512 0) := zeros_n w 512 g (by omega) hg
theorem zeros_iff {l : List Nat} (h : l.length = 512) : l = List.replicate 512 0 ↔ ∀ b ∈ l, b = 0 := by
  rw [List.eq_replicate_iff]
  exact ⟨fun h => h.2, fun h2 => ⟨h, h2⟩⟩
theorem be_zero {l : List Nat} (h : ∀ b ∈ l, b = 0) : be l = 0 := by
  rw [show l = List.replicate l.length 0 from List.eq_replicate_iff.2 ⟨rfl, h⟩]
  generalize l.length = n
  induction n with
  | zero => rfl
  | succ n ih => rw [List.replicate_succ', be_snoc, ih]
set_option maxRecDepth 100000 in
set_option maxHeartbeats 4000000 in
theorem refParse_blank (w : World) (A : Option Addr) (c : Nat) (l : List Nat) (hp : Bytes w w.heap.size (.slice A 512 c) l) (hl : l.length = 512) (hz : ∀ b ∈ l, b = 0) :
    Calls Try.prog 55 #[.slice A 512 c] w (Parsed l w) := by
  have hcap := hp.cap
  have hc8 : (8 : Int) ≤ (c : Int) := by omega
  have HV := fun o => hide (value_any (w.alloc o) _ _ ((hp.along ((Below.refl w.heap.size w).alloc (Nat.le_refl _) o)).first (k := 8) (by decide)) (by rw [List.length_take]; omega))
  have h0 : be (l.take 8) = 0 := be_zero fun b hb => hz b (List.mem_of_mem_take hb)
  simp only [h0, show ((0 : Nat) : Int) = 0 from rfl] at HV
  have HP := Lib.hid hp
  have HZ := Lib.hid hz
  have HL := Lib.hid hl
  have hmk := run_make_512
  have hzn := zeros_new
  obtain ⟨Z, hZ⟩ : ∃ Z, Z = byt (List.replicate 512 0) := ⟨_, rfl⟩
  rw [← hZ] at hmk hzn
  have HZN := Lib.hid hzn
  clear hZ hp hl hz h0 hzn
  go_enter Try.func55, Try.ntmps55
  go_wp2_with (first
    | (go_at_call 56; (with_reducible refine (unhide (HV _)).mono ?_); rintro e w1 ⟨rfl, rfl⟩)
    | (go_at_call 39; (with_reducible refine (same_any _ _ _ l (List.replicate 512 0) (go_alloc (go_alloc HP.out _) _) (HZN.out _ _ (by simp))).mono ?_); rintro e w2 ⟨rfl, nq, rfl⟩; go_loud (
       obtain ⟨d, hd, hdt⟩ : ∃ d, d = decide (l = List.replicate 512 0) ∧ d = true := ⟨_, rfl, decide_eq_true ((zeros_iff HL.out).2 HZ.out)⟩;
       rw [← hd, hdt];
       have hb2 := below_drewN ((Below.refl (w.alloc (.cells #[.int .u32 0, .int .u32 0, .int .u32 0, .int .u8 0, .slice none 0 0] 56)).heap.size _).alloc (Nat.le_refl _) (.cells Z.toArray 5)) nq;
       have g2 := (hb2.block w.heap.size (by simp)).trans (Go.heap_alloc_new w _);
       have HG2 := Lib.hid g2;
       have HB2 := Lib.hid (((Below.refl w.heap.size w).alloc (Nat.le_refl _) (.cells #[.int .u32 0, .int .u32 0, .int .u32 0, .int .u8 0, .slice none 0 0] 56)).trans (hb2.mono (by simp)));
       obtain ⟨k0, k1, k2, k3, k4, f0, f1, f2, f3, f4⟩ := rcell_facts g2;
       clear hd hdt hb2 g2)))
  exact rpage_ret rfl rfl rfl (rset_five HG2.out) rfl (parsed_bad (err_blank HL.out HZ.out) (by decide) rfl (below_five HB2.out (Nat.le_refl _)))
theorem piece_bytes {w : World} {ad : Addr} {c k n : Nat} {l : List Nat} (h : Bytes w w.heap.size (.slice (some ad) 512 c) l) (hk : k < c) (hn : k + n ≤ 512) : ∀ x, Below w.heap.size w x → Bytes x x.heap.size (.slice (some (ad.add k)) n (c - k)) ((l.drop k).take n) := fun x hx => by
  have h1 := (h.along hx).rest (k := k) (by omega)
  rw [if_neg (by omega)] at h1
  exact h1.first (by omega)
theorem lenOf_be {l : List Nat} (hl : l.length = 512) : lenOf (l.take 508) = be ((l.drop 15).take 2) := by
  obtain ⟨y, hy⟩ : ∃ y, l[15]? = some y := ⟨_, List.getElem?_eq_getElem (by omega)⟩
  obtain ⟨z, hz⟩ : ∃ z, l[16]? = some z := ⟨_, List.getElem?_eq_getElem (by omega)⟩
  have e : (l.drop 15).take 2 = [y, z] := piece_two (by rw [List.getElem?_drop]; exact hy) (by rw [List.getElem?_drop]; exact hz)
  unfold lenOf
  rw [e, List.getD_eq_getElem?_getD, List.getD_eq_getElem?_getD, List.getElem?_take_of_lt (by omega), List.getElem?_take_of_lt (by omega), hy, hz]
  simp [be]
  omega
theorem rsealed_iff {l : List Nat} (hl : l.length = 512) (hs : ∀ b ∈ l, b < 256) : l.drop 508 = le4 (crc (l.take 508)) ↔ val (l.drop 508) = crc (l.take 508) :=
  ⟨fun h => by rw [h, val_le4 _ (crc_lt _)], fun h => (val_four _ (by rw [List.length_drop]; omega) (fun b hb => hs b (List.mem_of_mem_drop hb)) _ h).symm⟩
theorem page_iff {l : List Nat} {g s n k : Nat} {d : List Nat} (hd : d.length ≤ 491) (hk : 0 < k) (h : page g s n k d = l) : Formed (l.take 508) := by
  rw [← h, page_take hd]
  exact pg_formed hd hk
set_option maxRecDepth 100000 in
set_option maxHeartbeats 4000000 in
theorem refParse_corrupt (w : World) (A : Option Addr) (c : Nat) (l : List Nat) (hp : Bytes w w.heap.size (.slice A 512 c) l) (hl : l.length = 512) (hz : ¬ ∀ b ∈ l, b = 0) (hs : ¬ val (l.drop 508) = crc (l.take 508)) :
    Calls Try.prog 55 #[.slice A 512 c] w (Parsed l w) := by
  have hcap := hp.cap
  have hc8 : (8 : Int) ≤ (c : Int) := by omega
  have hv8 := fun o => (value_any (w.alloc o) _ _ ((hp.along ((Below.refl w.heap.size w).alloc (Nat.le_refl _) o)).first (k := 8) (by decide)) (by rw [List.length_take]; omega))
  obtain ⟨v8, hv8e⟩ : ∃ v8, v8 = be (l.take 8) := ⟨_, rfl⟩
  rw [← hv8e] at hv8
  have HV := fun o => hide (hv8 o)
  have HP := Lib.hid hp
  have HZ := Lib.hid hz
  have HL := Lib.hid hl
  have HS := Lib.hid hs
  have hmk := run_make_512
  have hzn := zeros_new
  obtain ⟨Z, hZ⟩ : ∃ Z, Z = byt (List.replicate 512 0) := ⟨_, rfl⟩
  rw [← hZ] at hmk hzn
  have HZN := Lib.hid hzn
  have HO := fun x hx => hide (refOpen_core x A 512 508 c l (hp.along (w' := x) hx) rfl (by decide))
  rw [decide_eq_false (fun h => hs ((rsealed_iff hl hp.small).1 h))] at HO
  clear hZ hp hl hz hzn hv8 hv8e hs
  by_cases h80 : v8 = 0
  · have h81 : ((v8 : Int) == 0) = true := by rw [h80]; rfl
    have h82 : (v8 : Int) = 0 := by omega
    clear h80
    go_enter Try.func55, Try.ntmps55
    go_wp2_with (first
      | (go_at_call 56; (with_reducible refine (unhide (HV _)).mono ?_); rintro e w1 ⟨rfl, rfl⟩)
      | (go_at_call 39; (with_reducible refine (same_any _ _ _ l (List.replicate 512 0) (go_alloc (go_alloc HP.out _) _) (HZN.out _ _ (by simp))).mono ?_); rintro e w2 ⟨rfl, nq, rfl⟩; go_loud (
         obtain ⟨d, hd, hdt⟩ : ∃ d, d = decide (l = List.replicate 512 0) ∧ d = false := ⟨_, rfl, decide_eq_false (fun h => HZ.out ((zeros_iff HL.out).1 h))⟩;
         rw [← hd, hdt];
         have hb2 := below_drewN ((Below.refl (w.alloc (.cells #[.int .u32 0, .int .u32 0, .int .u32 0, .int .u8 0, .slice none 0 0] 56)).heap.size _).alloc (Nat.le_refl _) (.cells Z.toArray 5)) nq;
         have g2 := (hb2.block w.heap.size (by simp)).trans (Go.heap_alloc_new w _);
         have HG2 := Lib.hid g2;
         have HB2 := Lib.hid (((Below.refl w.heap.size w).alloc (Nat.le_refl _) (.cells #[.int .u32 0, .int .u32 0, .int .u32 0, .int .u8 0, .slice none 0 0] 56)).trans (hb2.mono (by simp)));
         clear hd hdt hb2 g2))
      | (go_at_call 81; go_loud ((with_reducible refine (unhide (HO _ HB2.out)).mono ?_)); go_loud (rintro e w3 ⟨rfl, hb3⟩); go_loud (
         have g3 := (hb3.block _ (Array.getElem?_eq_some_iff.1 HG2.out).1).trans HG2.out;
         have HG3 := Lib.hid g3;
         have HB3 := Lib.hid (HB2.out.trans (hb3.mono HB2.out.size));
         obtain ⟨k0, k1, k2, k3, k4, f0, f1, f2, f3, f4⟩ := rcell_facts g3;
         clear g3 hb3)))
    exact rpage_ret rfl rfl rfl (rset_five HG3.out) rfl (parsed_bad (err_corrupt HL.out HZ.out HS.out) (by decide) rfl (below_five HB3.out (Nat.le_refl _)))
  · have h81 : ((v8 : Int) == 0) = false := by rw [beq_eq_false_iff_ne]; omega
    have h82 : ¬ (v8 : Int) = 0 := by omega
    have HB2 := Lib.hid ((Below.refl w.heap.size w).alloc (Nat.le_refl _) (.cells #[.int .u32 0, .int .u32 0, .int .u32 0, .int .u8 0, .slice none 0 0] 56))
    have HG2 := Lib.hid (Go.heap_alloc_new w (.cells #[.int .u32 0, .int .u32 0, .int .u32 0, .int .u8 0, .slice none 0 0] 56))
    clear h80
    go_enter Try.func55, Try.ntmps55
    go_wp2_with (first
      | (go_at_call 56; (with_reducible refine (unhide (HV _)).mono ?_); rintro e w1 ⟨rfl, rfl⟩)
      | (go_at_call 81; go_loud ((with_reducible refine (unhide (HO _ HB2.out)).mono ?_)); go_loud (rintro e w3 ⟨rfl, hb3⟩); go_loud (
         have g3 := (hb3.block _ (Array.getElem?_eq_some_iff.1 HG2.out).1).trans HG2.out;
         have HG3 := Lib.hid g3;
         have HB3 := Lib.hid (HB2.out.trans (hb3.mono HB2.out.size));
         obtain ⟨k0, k1, k2, k3, k4, f0, f1, f2, f3, f4⟩ := rcell_facts g3;
         clear g3 hb3)))
    exact rpage_ret rfl rfl rfl (rset_five HG3.out) rfl (parsed_bad (err_corrupt HL.out HZ.out HS.out) (by decide) rfl (below_five HB3.out (Nat.le_refl _)))
/- behind the seal -/
theorem add_lit (ad : Addr) (k : Nat) (hk : k ≠ 0) : ad.add k = ⟨ad.block, ad.off + k, none⟩ := by
  unfold Addr.add
  rw [if_neg hk]
set_option maxRecDepth 100000 in
set_option maxHeartbeats 8000000 in
theorem refParse_kind (w : World) (ad : Addr) (c L b14 : Nat) (l : List Nat) (hp : Bytes w w.heap.size (.slice (some ad) 512 c) l) (hl : l.length = 512) (hz : ¬ ∀ b ∈ l, b = 0) (hs : val (l.drop 508) = crc (l.take 508)) (hL : be ((l.drop 15).take 2) = L) (hb14 : l[14]? = some b14) (hk : b14 = 0) :
    Calls Try.prog 55 #[.slice (some ad) 512 c] w (Parsed l w) := by
  have hcap := hp.cap
  have hc8 : (8 : Int) ≤ (c : Int) := by omega
  have hc17 : (17 : Int) ≤ (c : Int) := by omega
  have hcn15 : ¬ c = 15 := by omega
  have hLs : L < 65536 := by
    have h1 := be_lt (l := (l.drop 15).take 2) (fun b hb => hp.small b (List.mem_of_mem_drop (List.mem_of_mem_take hb)))
    have h2 : ((l.drop 15).take 2).length ≤ 2 := by rw [List.length_take]; omega
    have h3 := Nat.pow_le_pow_right (n := 256) (by omega) h2
    omega
  have hb256 : b14 < 256 := hp.small b14 (List.mem_of_getElem? hb14)
  have hv8 := fun o => (value_any (w.alloc o) _ _ ((hp.along ((Below.refl w.heap.size w).alloc (Nat.le_refl _) o)).first (k := 8) (by decide)) (by rw [List.length_take]; omega))
  obtain ⟨v8, hv8e⟩ : ∃ v8, v8 = be (l.take 8) := ⟨_, rfl⟩
  rw [← hv8e] at hv8
  have HV := fun o => hide (hv8 o)
  have HP := Lib.hid hp
  have HZ := Lib.hid hz
  have HL := Lib.hid hl
  have HS := Lib.hid hs
  have hmk := run_make_512
  have hzn := zeros_new
  obtain ⟨Z, hZ⟩ : ∃ Z, Z = byt (List.replicate 512 0) := ⟨_, rfl⟩
  rw [← hZ] at hmk hzn
  have HZN := Lib.hid hzn
  have HO := fun x hx => hide (refOpen_core x (some ad) 512 508 c l (hp.along (w' := x) hx) rfl (by decide))
  rw [decide_eq_true ((rsealed_iff hl hp.small).2 hs)] at HO
  have hp15 := piece_bytes hp (k := 15) (n := 2) (by omega) (by decide)
  rw [add_lit ad 15 (by decide)] at hp15
  have HP15 := Lib.hid hp15
  have HLL := Lib.hid hL
  have HLF : Hid (lenOf (l.take 508) = L) := Lib.hid ((lenOf_be hl).trans hL)
  have HB14 := Lib.hid hb14
  have HK : Hid (kindOf (l.take 508) = b14) := Lib.hid (by unfold kindOf; rw [List.getD_eq_getElem?_getD, List.getElem?_take_of_lt (by omega), hb14]; rfl)
  have hc14 : ∀ x, Below w.heap.size w x → x.cell? (ad.add 14) = some (.int .u8 (b14 : Int)) := fun x hx => by
    obtain ⟨⟨A1, c1, hv, hlies, _, _⟩, _, _⟩ := hp
    injection hv with e1 _ e3
    subst e1 e3
    obtain ⟨ad2, e, hbl, hc⟩ := hlies 14 (.int .u8 (b14 : Int)) (by rw [byt_at, hb14]; rfl)
    injection e with e
    subst e
    exact (hx.cell (p := ad.add 14) (by rw [addr_add_block]; exact hbl)).trans hc
  rw [add_lit ad 14 (by decide)] at hc14
  have HC14 := Lib.hid hc14
  have HF : Hid (¬ Formed (l.take 508)) := Lib.hid fun h => h.2.2.1 (by rw [List.getElem?_take_of_lt (by omega), hb14, hk])
  have hk1 : ((b14 : Int) == 0) = true := by rw [hk]; rfl
  have hk2 : (b14 : Int) = 0 := by omega
  subst hk
  clear hk2
  clear hZ hp hl hz hzn hv8 hv8e hs hL hb14 hc14 hp15
  by_cases h80 : v8 = 0
  · have h81 : ((v8 : Int) == 0) = true := by rw [h80]; rfl
    have h82 : (v8 : Int) = 0 := by omega
    clear h80
    go_enter Try.func55, Try.ntmps55
    go_wp2_with (first
      | (go_at_call 39; (with_reducible refine (same_any _ _ _ l (List.replicate 512 0) (go_alloc (go_alloc HP.out _) _) (HZN.out _ _ (by simp))).mono ?_); rintro e w2 ⟨rfl, nq, rfl⟩; go_loud (
         obtain ⟨d, hd, hdt⟩ : ∃ d, d = decide (l = List.replicate 512 0) ∧ d = false := ⟨_, rfl, decide_eq_false (fun h => HZ.out ((zeros_iff HL.out).1 h))⟩;
         rw [← hd, hdt];
         have hb2 := below_drewN ((Below.refl (w.alloc (.cells #[.int .u32 0, .int .u32 0, .int .u32 0, .int .u8 0, .slice none 0 0] 56)).heap.size _).alloc (Nat.le_refl _) (.cells Z.toArray 5)) nq;
         have g2 := (hb2.block w.heap.size (by simp)).trans (Go.heap_alloc_new w _);
         have HG2 := Lib.hid g2;
         have HB2 := Lib.hid (((Below.refl w.heap.size w).alloc (Nat.le_refl _) (.cells #[.int .u32 0, .int .u32 0, .int .u32 0, .int .u8 0, .slice none 0 0] 56)).trans (hb2.mono (by simp)));
         clear hd hdt hb2 g2))
      | (go_at_call 81; (with_reducible refine (unhide (HO _ HB2.out)).mono ?_); rintro e w3 ⟨rfl, hb3⟩; go_loud (
         have g3 := (hb3.block _ (Array.getElem?_eq_some_iff.1 HG2.out).1).trans HG2.out;
         have hb03 := HB2.out.trans (hb3.mono HB2.out.size);
         have HG3 := Lib.hid g3;
         have HB3 := Lib.hid hb03;
         have hk14 := HC14.out w3 hb03;
         have hv15 := value_any w3 _ _ (HP15.out w3 hb03) (by rw [List.length_take]; omega);
         rw [HLL.out] at hv15;
         have HV15 := hide hv15;
         obtain ⟨k0, k1, k2, k3, k4, f0, f1, f2, f3, f4⟩ := rcell_facts g3;
         clear g3 hb3 hv15 hb03))
      | (go_at_call 56; (first | (with_reducible refine (unhide (HV _)).mono ?_) | (with_reducible refine (unhide HV15).mono ?_)); rintro e w1 ⟨rfl, rfl⟩)
)
    exact rpage_ret rfl rfl rfl (rset_five HG3.out) rfl (parsed_bad (err_form HL.out HZ.out HS.out HF.out) (by decide) rfl (below_five HB3.out (Nat.le_refl _)))
  · have h81 : ((v8 : Int) == 0) = false := by rw [beq_eq_false_iff_ne]; omega
    have h82 : ¬ (v8 : Int) = 0 := by omega
    have HB2 := Lib.hid ((Below.refl w.heap.size w).alloc (Nat.le_refl _) (.cells #[.int .u32 0, .int .u32 0, .int .u32 0, .int .u8 0, .slice none 0 0] 56))
    have HG2 := Lib.hid (Go.heap_alloc_new w (.cells #[.int .u32 0, .int .u32 0, .int .u32 0, .int .u8 0, .slice none 0 0] 56))
    clear h80
    go_enter Try.func55, Try.ntmps55
    go_wp2_with (first
      | (go_at_call 81; (with_reducible refine (unhide (HO _ HB2.out)).mono ?_); rintro e w3 ⟨rfl, hb3⟩; go_loud (
         have g3 := (hb3.block _ (Array.getElem?_eq_some_iff.1 HG2.out).1).trans HG2.out;
         have hb03 := HB2.out.trans (hb3.mono HB2.out.size);
         have HG3 := Lib.hid g3;
         have HB3 := Lib.hid hb03;
         have hk14 := HC14.out w3 hb03;
         have hv15 := value_any w3 _ _ (HP15.out w3 hb03) (by rw [List.length_take]; omega);
         rw [HLL.out] at hv15;
         have HV15 := hide hv15;
         obtain ⟨k0, k1, k2, k3, k4, f0, f1, f2, f3, f4⟩ := rcell_facts g3;
         clear g3 hb3 hv15 hb03))
      | (go_at_call 56; (first | (with_reducible refine (unhide (HV _)).mono ?_) | (with_reducible refine (unhide HV15).mono ?_)); rintro e w1 ⟨rfl, rfl⟩)
)
    exact rpage_ret rfl rfl rfl (rset_five HG3.out) rfl (parsed_bad (err_form HL.out HZ.out HS.out HF.out) (by decide) rfl (below_five HB3.out (Nat.le_refl _)))
set_option maxRecDepth 100000 in
set_option maxHeartbeats 8000000 in
theorem refParse_long (w : World) (ad : Addr) (c L b14 : Nat) (l : List Nat) (hp : Bytes w w.heap.size (.slice (some ad) 512 c) l) (hl : l.length = 512) (hz : ¬ ∀ b ∈ l, b = 0) (hs : val (l.drop 508) = crc (l.take 508)) (hL : be ((l.drop 15).take 2) = L) (hb14 : l[14]? = some b14) (hk : b14 ≠ 0) (hlen : ¬ L ≤ 491) :
    Calls Try.prog 55 #[.slice (some ad) 512 c] w (Parsed l w) := by
  have hcap := hp.cap
  have hc8 : (8 : Int) ≤ (c : Int) := by omega
  have hc17 : (17 : Int) ≤ (c : Int) := by omega
  have hcn15 : ¬ c = 15 := by omega
  have hLs : L < 65536 := by
    have h1 := be_lt (l := (l.drop 15).take 2) (fun b hb => hp.small b (List.mem_of_mem_drop (List.mem_of_mem_take hb)))
    have h2 : ((l.drop 15).take 2).length ≤ 2 := by rw [List.length_take]; omega
    have h3 := Nat.pow_le_pow_right (n := 256) (by omega) h2
    omega
  have hb256 : b14 < 256 := hp.small b14 (List.mem_of_getElem? hb14)
  have hv8 := fun o => (value_any (w.alloc o) _ _ ((hp.along ((Below.refl w.heap.size w).alloc (Nat.le_refl _) o)).first (k := 8) (by decide)) (by rw [List.length_take]; omega))
  obtain ⟨v8, hv8e⟩ : ∃ v8, v8 = be (l.take 8) := ⟨_, rfl⟩
  rw [← hv8e] at hv8
  have HV := fun o => hide (hv8 o)
  have HP := Lib.hid hp
  have HZ := Lib.hid hz
  have HL := Lib.hid hl
  have HS := Lib.hid hs
  have hmk := run_make_512
  have hzn := zeros_new
  obtain ⟨Z, hZ⟩ : ∃ Z, Z = byt (List.replicate 512 0) := ⟨_, rfl⟩
  rw [← hZ] at hmk hzn
  have HZN := Lib.hid hzn
  have HO := fun x hx => hide (refOpen_core x (some ad) 512 508 c l (hp.along (w' := x) hx) rfl (by decide))
  rw [decide_eq_true ((rsealed_iff hl hp.small).2 hs)] at HO
  have hp15 := piece_bytes hp (k := 15) (n := 2) (by omega) (by decide)
  rw [add_lit ad 15 (by decide)] at hp15
  have HP15 := Lib.hid hp15
  have HLL := Lib.hid hL
  have HLF : Hid (lenOf (l.take 508) = L) := Lib.hid ((lenOf_be hl).trans hL)
  have HB14 := Lib.hid hb14
  have HK : Hid (kindOf (l.take 508) = b14) := Lib.hid (by unfold kindOf; rw [List.getD_eq_getElem?_getD, List.getElem?_take_of_lt (by omega), hb14]; rfl)
  have hc14 : ∀ x, Below w.heap.size w x → x.cell? (ad.add 14) = some (.int .u8 (b14 : Int)) := fun x hx => by
    obtain ⟨⟨A1, c1, hv, hlies, _, _⟩, _, _⟩ := hp
    injection hv with e1 _ e3
    subst e1 e3
    obtain ⟨ad2, e, hbl, hc⟩ := hlies 14 (.int .u8 (b14 : Int)) (by rw [byt_at, hb14]; rfl)
    injection e with e
    subst e
    exact (hx.cell (p := ad.add 14) (by rw [addr_add_block]; exact hbl)).trans hc
  rw [add_lit ad 14 (by decide)] at hc14
  have HC14 := Lib.hid hc14
  have HF : Hid (¬ Formed (l.take 508)) := Lib.hid fun h => hlen (by have := h.2.2.2.1; rw [lenOf_be hl, hL] at this; exact this)
  have hk1 : ((b14 : Int) == 0) = false := by rw [beq_eq_false_iff_ne]; omega
  have hk2 : ¬ (b14 : Int) = 0 := by omega
  have hlen1 : (L : Int) > 491 := by omega
  clear hlen hk
  clear hZ hp hl hz hzn hv8 hv8e hs hL hb14 hc14 hp15
  by_cases h80 : v8 = 0
  · have h81 : ((v8 : Int) == 0) = true := by rw [h80]; rfl
    have h82 : (v8 : Int) = 0 := by omega
    clear h80
    go_enter Try.func55, Try.ntmps55
    go_wp2_with (first
      | (go_at_call 39; (with_reducible refine (same_any _ _ _ l (List.replicate 512 0) (go_alloc (go_alloc HP.out _) _) (HZN.out _ _ (by simp))).mono ?_); rintro e w2 ⟨rfl, nq, rfl⟩; go_loud (
         obtain ⟨d, hd, hdt⟩ : ∃ d, d = decide (l = List.replicate 512 0) ∧ d = false := ⟨_, rfl, decide_eq_false (fun h => HZ.out ((zeros_iff HL.out).1 h))⟩;
         rw [← hd, hdt];
         have hb2 := below_drewN ((Below.refl (w.alloc (.cells #[.int .u32 0, .int .u32 0, .int .u32 0, .int .u8 0, .slice none 0 0] 56)).heap.size _).alloc (Nat.le_refl _) (.cells Z.toArray 5)) nq;
         have g2 := (hb2.block w.heap.size (by simp)).trans (Go.heap_alloc_new w _);
         have HG2 := Lib.hid g2;
         have HB2 := Lib.hid (((Below.refl w.heap.size w).alloc (Nat.le_refl _) (.cells #[.int .u32 0, .int .u32 0, .int .u32 0, .int .u8 0, .slice none 0 0] 56)).trans (hb2.mono (by simp)));
         clear hd hdt hb2 g2))
      | (go_at_call 81; (with_reducible refine (unhide (HO _ HB2.out)).mono ?_); rintro e w3 ⟨rfl, hb3⟩; go_loud (
         have g3 := (hb3.block _ (Array.getElem?_eq_some_iff.1 HG2.out).1).trans HG2.out;
         have hb03 := HB2.out.trans (hb3.mono HB2.out.size);
         have HG3 := Lib.hid g3;
         have HB3 := Lib.hid hb03;
         have hk14 := HC14.out w3 hb03;
         have hv15 := value_any w3 _ _ (HP15.out w3 hb03) (by rw [List.length_take]; omega);
         rw [HLL.out] at hv15;
         have HV15 := hide hv15;
         obtain ⟨k0, k1, k2, k3, k4, f0, f1, f2, f3, f4⟩ := rcell_facts g3;
         clear g3 hb3 hv15 hb03))
      | (go_at_call 56; (first | (with_reducible refine (unhide (HV _)).mono ?_) | (with_reducible refine (unhide HV15).mono ?_)); rintro e w1 ⟨rfl, rfl⟩)
)
    exact rpage_ret rfl rfl rfl (rset_five HG3.out) rfl (parsed_bad (err_form HL.out HZ.out HS.out HF.out) (by decide) rfl (below_five HB3.out (Nat.le_refl _)))
  · have h81 : ((v8 : Int) == 0) = false := by rw [beq_eq_false_iff_ne]; omega
    have h82 : ¬ (v8 : Int) = 0 := by omega
    have HB2 := Lib.hid ((Below.refl w.heap.size w).alloc (Nat.le_refl _) (.cells #[.int .u32 0, .int .u32 0, .int .u32 0, .int .u8 0, .slice none 0 0] 56))
    have HG2 := Lib.hid (Go.heap_alloc_new w (.cells #[.int .u32 0, .int .u32 0, .int .u32 0, .int .u8 0, .slice none 0 0] 56))
    clear h80
    go_enter Try.func55, Try.ntmps55
    go_wp2_with (first
      | (go_at_call 81; (with_reducible refine (unhide (HO _ HB2.out)).mono ?_); rintro e w3 ⟨rfl, hb3⟩; go_loud (
         have g3 := (hb3.block _ (Array.getElem?_eq_some_iff.1 HG2.out).1).trans HG2.out;
         have hb03 := HB2.out.trans (hb3.mono HB2.out.size);
         have HG3 := Lib.hid g3;
         have HB3 := Lib.hid hb03;
         have hk14 := HC14.out w3 hb03;
         have hv15 := value_any w3 _ _ (HP15.out w3 hb03) (by rw [List.length_take]; omega);
         rw [HLL.out] at hv15;
         have HV15 := hide hv15;
         obtain ⟨k0, k1, k2, k3, k4, f0, f1, f2, f3, f4⟩ := rcell_facts g3;
         clear g3 hb3 hv15 hb03))
      | (go_at_call 56; (first | (with_reducible refine (unhide (HV _)).mono ?_) | (with_reducible refine (unhide HV15).mono ?_)); rintro e w1 ⟨rfl, rfl⟩)
)
    exact rpage_ret rfl rfl rfl (rset_five HG3.out) rfl (parsed_bad (err_form HL.out HZ.out HS.out HF.out) (by decide) rfl (below_five HB3.out (Nat.le_refl _)))
end Go.Proofs.Ytalpippeelomjaa
