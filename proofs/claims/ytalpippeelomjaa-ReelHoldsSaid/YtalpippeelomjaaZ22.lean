/- LEqual, RNum, Like: joined by program (tools/merge.py). -/
import Derived.Test.YtalpippeelomjaaZ15
import Derived.Test.YtalpippeelomjaaZ21
import Derived.Test.YtalpippeelomjaaZ11
import Derived.Test.YtalpippeelomjaaZ3
import Derived.Test.YtalpippeelomjaaZ13
namespace Go.Proofs.Ytalpippeelomjaa
open Go.RowKit
set_option linter.unusedSimpArgs false
set_option linter.unusedVariables false
theorem txt_inj {l m : List Nat} (hl : ∀ b ∈ l, b < 256) (hm : ∀ b ∈ m, b < 256) (h : txt l = txt m) : l = m := by
  rw [← str_txt hl, ← str_txt hm, h]
theorem txt_eqb {l f : List Nat} (hl : ∀ b ∈ l, b < 256) (hf : ∀ b ∈ f, b < 256) : ((txt l).toList == (txt f).toList) = decide (l = f) := by
  by_cases h : l = f
  · rw [h, decide_eq_true rfl, beq_self_eq_true]
  · rw [decide_eq_false h, beq_eq_false_iff_ne, ByteArray.toList_eq, ByteArray.toList_eq]
    exact fun e => h (txt_inj hl hf (ByteArray.ext (Array.toList_inj.mp e)))
set_option maxRecDepth 100000 in
set_option maxHeartbeats 1000000 in
theorem bytesEqual_any (w : World) (A B : Option Addr) (n c m k : Nat) (l f : List Nat) (hp : Bytes w w.heap.size (.slice A n c) l) (hq : Bytes w w.heap.size (.slice B m k) f) :
    Calls Try.prog 78 #[.slice A n c, .slice B m k] w fun e w' => e = .returned (.bool (decide (l = f))) ∧ w = w' := by
  have h1 := convert_bytes hp
  have h2 := convert_bytes hq
  have HD := Lib.hid (txt_eqb hp.small hq.small)
  clear hp hq
  go_enter Try.func78, Try.ntmps78
  go_wp2
  go_ret
  exact ⟨congrArg (fun z => Ending.returned (Value.bool z)) HD.out, rfl⟩
theorem take_ne_short {l f : List Nat} (h : l.length < f.length) : decide (l.take f.length = f) = false := decide_eq_false fun e => by
  have := congrArg List.length e
  rw [List.length_take] at this
  omega
set_option maxRecDepth 100000 in
set_option maxHeartbeats 1000000 in
theorem hasPrefix_any (w : World) (A B : Option Addr) (n c m k : Nat) (l f : List Nat) (hp : Bytes w w.heap.size (.slice A n c) l) (hq : Bytes w w.heap.size (.slice B m k) f) :
    Calls Try.prog 73 #[.slice A n c, .slice B m k] w fun e w' => e = .returned (.bool (decide (l.take f.length = f))) ∧ w = w' := by
  have hn : n = l.length := by
    obtain ⟨⟨A1, c1, hv, _⟩, _, _⟩ := hp
    injection hv with _ h _
  have hm : m = f.length := by
    obtain ⟨⟨A1, c1, hv, _⟩, _, _⟩ := hq
    injection hv with _ h _
  have hc : n ≤ c := by
    obtain ⟨⟨A1, c1, hv, _, hcc, _⟩, _, _⟩ := hp
    injection hv with _ _ h
    omega
  by_cases hmn : m ≤ n
  · have HE := hide (bytesEqual_any w A B m c m k (l.take m) f (hp.first hmn) hq)
    rw [hm] at HE
    rw [← hm] at HE ⊢
    have hge : (n : Int) ≥ (m : Int) := by omega
    clear hp hq hn hm
    go_enter Try.func73, Try.ntmps73
    go_wp2_with (go_at_call 78; (with_reducible refine (unhide HE).mono ?_); rintro e w1 ⟨rfl, rfl⟩)
    go_ret
    exact ⟨rfl, rfl⟩
  · have hd := take_ne_short (l := l) (f := f) (by omega)
    have HD := Lib.hid hd
    have hge : ¬ (n : Int) ≥ (m : Int) := by omega
    have hge2 : decide (m ≤ n) = false := decide_eq_false hmn
    clear hp hq hn hm hd
    go_enter Try.func73, Try.ntmps73
    go_wp2
    go_ret
    exact ⟨congrArg (fun z => Ending.returned (Value.bool z)) HD.out.symm, rfl⟩
set_option maxRecDepth 100000 in
set_option maxHeartbeats 1000000 in
theorem full_page (w : World) (x0 x1 x2 x3 : Int) (A : Option Addr) (n c : Nat) :
    Calls Try.prog 47 #[.agg #[.int .u32 x0, .int .u32 x1, .int .u32 x2, .int .u8 x3, .slice A n c]] w fun e w' => e = .returned (.bool (decide (n = 491))) ∧ Below w.heap.size w w' := by
  have hd : ((n : Int) == 491) = decide (n = 491) := by
    rw [Bool.eq_iff_iff]
    simp
    omega
  have HD := Lib.hid hd
  clear hd
  go_enter Try.func47, Try.ntmps47
  go_wp2
  go_ret
  exact ⟨congrArg (fun z => Ending.returned (Value.bool z)) HD.out, (Below.refl _ _).alloc (Nat.le_refl _) _⟩
/-- The serial of the page ahead of a place. -/
def serB (ps : List PV) : Nat → Nat
  | 0 => 0
  | i + 1 => (ps[i]?.map PV.ser).getD 0
set_option maxRecDepth 100000 in
set_option maxHeartbeats 1000000 in
theorem before_zero (w : World) (v : Value) : Calls Try.prog 75 #[v, .int .i64 0] w fun e w' => e = .returned (.int .u32 0) ∧ w = w' := by
  go_enter Try.func75, Try.ntmps75
  go_wp2
  go_ret
  exact ⟨rfl, rfl⟩
theorem before_all (w : World) (base i : Nat) (v : Value) (ps : List PV) (h : Pages w base v ps) (hi : i ≤ ps.length) (hl : ps.length ≤ 1048576) :
    Calls Try.prog 75 #[v, .int .i64 (i : Int)] w fun e w' => e = .returned (.int .u32 (serB ps i : Int)) ∧ w = w' := by
  rcases i with _ | i
  · exact before_zero w v
  · have hp : ps[i]? = some (ps[i]'(by omega)) := List.getElem?_eq_getElem (by omega)
    have h1 := before_any w base i v ps h _ hp hl
    show Calls _ _ _ _ fun e w' => e = .returned (.int .u32 (((ps[i]?.map PV.ser).getD 0 : Nat) : Int)) ∧ w = w'
    rw [hp]
    exact h1
theorem read_ret2 {a : Act} {w : World} {R : Ending → World → Prop} {g : Nat} {cs : Array Value} {v : Value} (hd : a.defers = []) (h2 : a.tmps.getD 4 undef = .pointer (some ⟨g, 0, none⟩)) (h3 : a.tmps.getD 5 undef = v)
    (hg : w.heap[g]? = some (.cells cs 85 (0, 0))) (hs : cs.size = 5) (hR : R (.returned (.tuple #[.agg cs, v])) w) : bodyPost Try.prog Try.f45 R .ret a w := by
  refine bodyPost_ret_by (v := .tuple #[.agg cs, v]) ?_ hd hR
  have hl := run_loadVar_row (P := Try.prog) w g 85 85 cs (0, 0) _ hg Try.underlying85 rfl (by rw [pageInfo, hs])
  rw [results_cell_tmp (p := 4) (ty := 85) (u := 5) rfl, h2, h3]
  simp [asAddr, Result.andThen, hl]
set_option maxRecDepth 100000 in
set_option maxHeartbeats 2000000 in
theorem read_page {w : World} {gs : Nat} {b : DB} {dur : List (List Nat)} {pend : List (Nat × List Nat)} {nw bud : Int} (h : Disk w gs b dur pend nw bud) (i : Nat) (hi : i < dur.length) (s : List Nat) (hs : (applied pend dur)[i]? = some s) :
    Calls Try.prog 45 #[.pointer (some ⟨gs, 0, none⟩), .int .i64 (i : Int)] w (Parsed s w) := by
  have hb0 := (Below.refl w.heap.size w).alloc (Nat.le_refl _) (.cells #[.int .u32 0, .int .u32 0, .int .u32 0, .int .u8 0, .slice none 0 0] 85)
  have HR := hide (read_any (h.below hb0) i hi s hs)
  have HB0 := Lib.hid hb0
  clear h hs hb0
  go_enter Try.func45, Try.ntmps45
  go_wp2_with (first
    | (go_at_call 37; (with_reducible refine (unhide HR).mono ?_); rintro e w1 ⟨g, rfl, hM, hb1⟩; go_loud (
        have HP := hide (parse_all w1 (some ⟨g, 0, none⟩) 512 512 s hM.bytes);
        have HB1 := Lib.hid hb1;
        clear hM hb1))
    | (go_at_call 72; (with_reducible refine (unhide HP).mono ?_); rintro e w2 ⟨A2, n2, c2, rfl, hM2, hb2⟩; go_loud (
        have hg2 : w2.heap[w.heap.size]? = some (.cells zcells 85 (0, 0)) := cell_row_kept w _ HB1.out hb2;
        obtain ⟨q0, q1, q2, q3, q4, f0, f1, f2, f3, f4⟩ := cell_facts hg2;
        have HG2 := Lib.hid hg2;
        have HM2 := Lib.hid hM2;
        have HB2 := Lib.hid hb2;
        clear hg2 hM2 hb2)))
  refine read_ret2 rfl rfl rfl (set_five HG2.out) rfl ⟨A2, n2, c2, rfl, ?_, ?_⟩
  · have hm := HM2.out.keep (w' := ((((w2.setCell ⟨w.heap.size, 0, none⟩ (.int .u32 (genOf s : Int))).setCell ⟨w.heap.size, 1, none⟩ (.int .u32 (serOf s : Int))).setCell ⟨w.heap.size, 2, none⟩ (.int .u32 (numbOf s : Int))).setCell ⟨w.heap.size, 3, none⟩ (.int .u8 (kinOf s : Int))).setCell ⟨w.heap.size, 4, none⟩ (.slice A2 n2 c2)) (fun k hk => ?_)
    · exact hm.lower (by have := HB1.out.size; simp at this; omega)
    · have h1 := (own_block_lt HM2.out.own hk).1
      have h2 := HB1.out.size
      simp at h2
      have hne : k ≠ w.heap.size := by omega
      rw [heap_setCell_other _ ⟨w.heap.size, 4, none⟩ k _ hne, heap_setCell_other _ ⟨w.heap.size, 3, none⟩ k _ hne, heap_setCell_other _ ⟨w.heap.size, 2, none⟩ k _ hne, heap_setCell_other _ ⟨w.heap.size, 1, none⟩ k _ hne, heap_setCell_other _ ⟨w.heap.size, 0, none⟩ k _ hne]
  · exact below_five ((HB0.out.trans (HB1.out.mono HB0.out.size)).trans (HB2.out.mono (HB0.out.trans (HB1.out.mono HB0.out.size)).size)) (Nat.le_refl _)
end Go.Proofs.Ytalpippeelomjaa
namespace Go.Proofs.Ytalpippeelomjaa
open Go.RowKit
set_option linter.unusedSimpArgs false
set_option linter.unusedVariables false

/-- The lowest k bytes of a number, the highest first. -/
def beN : Nat → Nat → List Nat
  | 0, _ => []
  | k + 1, n => (n / 256 ^ k % 256) :: beN k n
theorem beN_length (n : Nat) : ∀ k, (beN k n).length = k
  | 0 => rfl
  | k + 1 => by rw [beN, List.length_cons, beN_length n k]
theorem beN_small (n : Nat) : ∀ k, ∀ b ∈ beN k n, b < 256
  | 0, b, hb => by cases hb
  | k + 1, b, hb => by
    rw [beN, List.mem_cons] at hb
    rcases hb with rfl | hb
    · exact Nat.mod_lt _ (by decide)
    · exact beN_small n k b hb
theorem beN_four (v : Nat) : beN 4 v = be4 v := by
  simp [beN, be4]
def NumR (W : World) (g k n : Nat) (s t : Value) (x : World) : Prop :=
  ∃ j m : Nat, j ≤ k ∧ m = n / 256 ^ j ∧ s = .int .u64 (m : Int) ∧ t = .int .i64 ((k : Int) - 1 - (j : Int)) ∧ x.heap[g]? = some (.cells (byt (List.replicate (k - j) 0 ++ beN j n)).toArray 5 (0, 0)) ∧ Below g W x
theorem num_next {j k n : Nat} (h : j < k) : (List.replicate (k - j) 0 ++ beN j n).set (k - 1 - j) (n / 256 ^ j % 256) = List.replicate (k - (j + 1)) 0 ++ beN (j + 1) n := by
  obtain ⟨m, hm⟩ : ∃ m, k - j = m + 1 := ⟨k - j - 1, by omega⟩
  rw [hm, show k - (j + 1) = m by omega, show k - 1 - j = m by omega, List.replicate_succ', List.append_assoc, List.set_append_right _ _ (by simp), List.length_replicate, Nat.sub_self]
  rfl
theorem run_make_i (w : World) (k : Nat) (hk : k < 600) : (Instr.makeSlice 43 (.int .i64 (k : Int)) (.int .i64 (k : Int))).run Try.prog w = .ok (.slice (some ⟨w.heap.size, 0, none⟩) k k) (w.alloc (.cells (byt (List.replicate k 0)).toArray 5)) := by
  obtain ⟨i0, hi0, hz0, hz1, hz2⟩ := info_parts infoByte
  have h := run_make (P := Try.prog) w 43 5 i0 (.int .u8 0) Try.underlying43 hi0 hz0 .i64 .i64 (k : Int) (k : Int) (by omega) (by omega) (by rw [hz2]; omega) (by omega)
  rw [hz1] at h
  have e : madeCells (Value.cells (.int .u8 0)) ((k : Int).toNat * 1) = (byt (List.replicate k 0)).toArray := by
    have e2 := toList_madeCells_one (.int .u8 0) k
    have e3 : (byt (List.replicate k 0)).toArray = (madeCells #[Value.int .u8 0] k).toList.toArray := by
      rw [e2]
      unfold byt
      rw [List.map_replicate]
      rfl
    rw [e3, Array.toArray_toList]
    simp
    rfl
  rw [e] at h
  simpa using h
set_option maxRecDepth 100000 in
set_option maxHeartbeats 4000000 in
theorem num_any (w : World) (n k : Nat) (hn : n < 18446744073709551616) (hk : k ≤ 8) :
    Calls Try.prog 58 #[.int .u64 (n : Int), .int .i64 (k : Int)] w fun e w' => e = .returned (.slice (some ⟨w.heap.size, 0, none⟩) k k) ∧ w'.heap[w.heap.size]? = some (.cells (byt (beN k n)).toArray 5 (0, 0)) ∧ Below w.heap.size w w' := by
  have hmk := fun x => run_make_i x k (by omega)
  have hG := Go.heap_alloc_new w (.cells (byt (List.replicate k 0)).toArray 5)
  have HG := Lib.hid hG
  clear hG
  go_enter Try.func58, Try.ntmps58
  go_wp2
  go_loopw [0, 6] (fun s t x => NumR (w.alloc (.cells (byt (List.replicate k 0)).toArray 5)) w.heap.size k n s t x) (fun s t _ => (intOf t + 1).toNat)
  case atStart => exact ⟨0, n, by omega, by simp, rfl, by go_num, by simpa [beN] using HG.out, Below.refl _ _⟩
  case round =>
    obtain ⟨j, m, hj, hm, rfl, rfl, hX, hB⟩ := hrel
    have hm64 : m < 18446744073709551616 := by rw [hm]; exact Nat.lt_of_le_of_lt (Nat.div_le_self _ _) hn
    have HX := Lib.hid hX
    have HB := Lib.hid hB
    have HM := Lib.hid hm
    by_cases hlt : j < k
    · obtain ⟨q, hq⟩ : ∃ q : Nat, q = k - 1 - j := ⟨_, rfl⟩
      have hqi : (k : Int) - 1 - (j : Int) = (q : Int) := by omega
      obtain ⟨y, hy⟩ : ∃ y, (List.replicate (k - j) 0 ++ beN j n)[q]? = some y := ⟨_, List.getElem?_eq_getElem (by rw [List.length_append, List.length_replicate, beN_length]; omega)⟩
      have hc := buf_cell hX hy
      have hf := buf_fz (i := q) hX
      have hqk : q < k := by omega
      rw [hqi]
      have HQ := Lib.hid hq
      have HQI := Lib.hid hqi
      clear hX hB hy hm hq hqi
      go_wp2
      go_roundw
      case rel =>
        refine ⟨j + 1, m / 256, by omega, by rw [HM.out, Nat.div_div_eq_div_mul, Nat.pow_succ], rfl, by have := HQ.out; congr 1; omega, ?_, HB.out.setCell (Nat.le_refl _) _⟩
        have h := buf_set (i := q) (b := m % 256) HX.out
        rw [HM.out, show q = k - 1 - j from HQ.out, num_next hlt, ← HM.out, ← HQ.out] at h
        exact h
      case measure => simp [intOf]
    · obtain rfl : j = k := by omega
      rw [Nat.sub_self, List.replicate_zero, List.nil_append] at hX
      have HX := Lib.hid hX
      clear hX hB hm
      go_wp2
      exact bodyPost_ret_by (results_tmp rfl _ _ _) rfl ⟨rfl, HX.out, ((Below.refl _ _).alloc (Nat.le_refl _) _).trans HB.out⟩
end Go.Proofs.Ytalpippeelomjaa
namespace Go.Proofs.Ytalpippeelomjaa
open Go.RowKit
set_option linter.unusedSimpArgs false
set_option linter.unusedVariables false

theorem below_two {w : World} {o o2 : Obj} : Below w.heap.size w ((w.alloc o).alloc o2) := ((Below.refl _ _).alloc (Nat.le_refl _) o).alloc (by simp) o2
set_option maxRecDepth 100000 in
set_option maxHeartbeats 2000000 in
theorem same_page (w : World) (x0 x1 x2 x3 y0 y1 y2 y3 : Nat) (A B : Option Addr) (n m c k : Nat) (d f : List Nat) (hp : Bytes w w.heap.size (.slice A n c) d) (hq : Bytes w w.heap.size (.slice B m k) f) :
    Calls Try.prog 79 #[.agg #[.int .u32 (x0 : Int), .int .u32 (x1 : Int), .int .u32 (x2 : Int), .int .u8 (x3 : Int), .slice A n c], .agg #[.int .u32 (y0 : Int), .int .u32 (y1 : Int), .int .u32 (y2 : Int), .int .u8 (y3 : Int), .slice B m k]] w fun e w' =>
      e = .returned (.bool (decide (x0 = y0 ∧ x1 = y1 ∧ x2 = y2 ∧ x3 = y3 ∧ d = f))) ∧ Below w.heap.size w w' := by
  have HB := fun o o2 => hide (equal_any ((w.alloc o).alloc o2) _ _ _ _ (hp.along below_two) (hq.along below_two))
  obtain ⟨r, hr⟩ : ∃ r, r = decide (x0 = y0 ∧ x1 = y1 ∧ x2 = y2 ∧ x3 = y3 ∧ d = f) := ⟨_, rfl⟩
  rw [← hr]
  have HR := Lib.hid hr
  clear hp hq hr
  by_cases h0 : x0 = y0
  · subst h0
    by_cases h1 : x1 = y1
    · subst h1
      by_cases h2 : x2 = y2
      · subst h2
        by_cases h3 : x3 = y3
        · subst h3
          obtain ⟨s, hs⟩ : ∃ s, s = decide (d = f) := ⟨_, rfl⟩
          rw [← hs] at HB
          have hrs : r = s := by rw [HR.out, hs]; simp
          subst hrs
          clear hs HR
          go_enter Try.func79, Try.ntmps79
          go_wp2_with (go_at_call 95; (with_reducible refine (unhide (HB _ _)).mono ?_); rintro e w1 ⟨rfl, nq, rfl⟩)
          go_ret
          exact ⟨rfl, below_drewN below_two nq⟩
        · have hf : r = false := by rw [HR.out]; exact decide_eq_false fun h => h3 h.2.2.2.1
          subst hf
          have g3 : ((x3 : Int) == (y3 : Int)) = false := by rw [beq_eq_false_iff_ne]; omega
          have g3' : ¬ (x3 : Int) = (y3 : Int) := by omega
          clear HR h3
          go_enter Try.func79, Try.ntmps79
          go_wp2
          go_ret
          exact ⟨rfl, below_two⟩
      · have hf : r = false := by rw [HR.out]; exact decide_eq_false fun h => h2 h.2.2.1
        subst hf
        have g2 : ((x2 : Int) == (y2 : Int)) = false := by rw [beq_eq_false_iff_ne]; omega
        have g2' : ¬ (x2 : Int) = (y2 : Int) := by omega
        clear HR h2
        go_enter Try.func79, Try.ntmps79
        go_wp2
        go_ret
        exact ⟨rfl, below_two⟩
    · have hf : r = false := by rw [HR.out]; exact decide_eq_false fun h => h1 h.2.1
      subst hf
      have g1 : ((x1 : Int) == (y1 : Int)) = false := by rw [beq_eq_false_iff_ne]; omega
      have g1' : ¬ (x1 : Int) = (y1 : Int) := by omega
      clear HR h1
      go_enter Try.func79, Try.ntmps79
      go_wp2
      go_ret
      exact ⟨rfl, below_two⟩
  · have hf : r = false := by rw [HR.out]; exact decide_eq_false fun h => h0 h.1
    subst hf
    have g0 : ((x0 : Int) == (y0 : Int)) = false := by rw [beq_eq_false_iff_ne]; omega
    have g0' : ¬ (x0 : Int) = (y0 : Int) := by omega
    clear HR h0
    go_enter Try.func79, Try.ntmps79
    go_wp2
    go_ret
    exact ⟨rfl, below_two⟩
end Go.Proofs.Ytalpippeelomjaa
