/- SBreak, SPdq: joined by program (tools/merge.py). -/
import Derived.Test.YtdphpjlhkamadaaZ29
import Derived.Test.YtdphpjlhkamadaaKLaid
import Derived.Laws.Bits64
import Derived.Laws.Bits64b
import Derived.Lib.ItoaNum
import Derived.Deep.CutBlock
import Derived.Deep.DeepCutAuto
import Derived.Test.YtdphpjlhkamadaaZ31
import Derived.Test.YtdphpjlhkamadaaZ30
import Derived.Test.YtdphpjlhkamadaaZ32
import Derived.Test.YtdphpjlhkamadaaZ33
import Derived.Test.YtdphpjlhkamadaaZ34
import Derived.Test.YtdphpjlhkamadaaSPinsW
namespace Go.Proofs.Ytdphpjlhkamadaa
open Go.RowKit
open Go.Sort (PermIn SortedIn SWO swp Holds putRow grow At mapBlock setCell_eq mapBlock_grow mapBlock_grow_new onCells cell?_grow frozen?_grow putRow_swp size_swp permIn_refl permIn_trans swp_permIn)
set_option linter.unusedSimpArgs false
set_option linter.unusedVariables false
set_option maxRecDepth 100000
set_option maxHeartbeats 1600000 in
theorem power_any (w : World) (L : Nat) (h1 : 1 ≤ L) (hL : L < 4611686018427387904) :
    Calls Try.prog 105 #[.int .i64 (L : Int)] w fun e w' => ∃ M : Nat, e = .returned (.int .u64 (M : Int)) ∧ 1 ≤ M ∧ M ≤ 2 * L ∧ w' = w := by
  have hb := Lib.bitLenAux_bounds 64 L (by omega) (by omega)
  obtain ⟨n, hn⟩ : ∃ n, n = Lib.bitLen L := ⟨_, rfl⟩
  have hn2 : Lib.bitLenAux 64 L = n := hn.symm
  rw [hn2] at hb
  have hn62 : n ≤ 62 := by
    rcases Nat.lt_or_ge 62 n with h | h
    · have h2 : 2 ^ 62 ≤ 2 ^ (n - 1) := Nat.pow_le_pow_right (by omega) (by omega)
      omega
    · exact h
  have hp : 2 ^ n = 2 * 2 ^ (n - 1) := by
    rw [← Nat.pow_succ']
    congr 1
    omega
  obtain ⟨M, hM⟩ : ∃ M, M = 2 ^ n := ⟨_, rfl⟩
  have hMb : M ≤ 2 * L := by rw [hM, hp]; omega
  have hM1 : 1 ≤ M := by rw [hM]; exact Nat.one_le_two_pow
  have hMI : (2 : Int) ^ n = (M : Int) := by rw [hM]; simp
  have hM64 : M < 9223372036854775808 := by omega
  have HC := fun (x : World) => Lib.hid (Try.bits_Len (L : Int) x (by omega) (by omega))
  rw [show (L : Int).toNat = L by omega, ← hn] at HC
  have HM := Lib.hid hM
  clear hb hn hn2 hp hM
  go_enter Try.func105, Try.ntmps105
  go_wp2_with (go_at_call 83; refine (HC _).out.mono ?_; rintro e w' ⟨rfl, rfl⟩)
  go_ret
  exact ⟨M, rfl, hM1, hMb, rfl⟩
theorem grown_cell (X : World) (v : Value) (T : TypeId) : (grow X #[Obj.cells #[v] T]).cell? ⟨X.heap.size, 0, none⟩ = some v := by
  rw [← Sort.alloc_eq_grow, World.cell?_alloc_at _ _ _ _ rfl]
  rfl
theorem grown_frozen (X : World) (v : Value) (T : TypeId) : (grow X #[Obj.cells #[v] T]).frozen? ⟨X.heap.size, 0, none⟩ = false := by
  rw [← Sort.alloc_eq_grow, World.frozen?_alloc_at _ _ _ _ rfl]
/-- The row, and a number in a block of its own. -/
def Brk (w : World) (blk off : Nat) (d : Array Nat) (R : Nat) (wr : World) : Prop := ∃ n, wr = grow (putRow eU (Sort.ahead w n) blk off d) #[Obj.cells #[.int .u64 (R : Int)] 161]
section
variable {w wr : World} {blk off R : Nat} {d d0 : Array Nat}
theorem Brk.at_ (h : Brk w blk off d R wr) : At eU w blk off d wr := by
  obtain ⟨n, h⟩ := h
  exact ⟨n, _, h⟩
theorem Brk.cell (h : Brk w blk off d R wr) : wr.cell? ⟨w.heap.size, 0, none⟩ = some (.int .u64 (R : Int)) := by
  obtain ⟨n, rfl⟩ := h
  have e : w.heap.size = (putRow eU (Sort.ahead w n) blk off d).heap.size := by simp
  rw [e]
  exact grown_cell _ _ _
theorem Brk.frozen (h : Brk w blk off d R wr) : wr.frozen? ⟨w.heap.size, 0, none⟩ = false := by
  obtain ⟨n, rfl⟩ := h
  have e : w.heap.size = (putRow eU (Sort.ahead w n) blk off d).heap.size := by simp
  rw [e]
  exact grown_frozen _ _ _
theorem Brk.set (h : Brk w blk off d R wr) (R' : Nat) : Brk w blk off d R' (wr.setCell ⟨w.heap.size, 0, none⟩ (.int .u64 (R' : Int))) := by
  obtain ⟨n, rfl⟩ := h
  refine ⟨n, ?_⟩
  have e : w.heap.size = (putRow eU (Sort.ahead w n) blk off d).heap.size := by simp
  rw [setCell_eq, e, mapBlock_grow_new _ _ _ _ (Nat.le_refl _)]
  simp [onCells]
theorem Brk.drewN (h : Brk w blk off d R wr) (m : Nat) : Brk w blk off d R (wr.drewN m) := by
  obtain ⟨n, rfl⟩ := h
  exact ⟨n + m, by rw [← Sort.ahead_ahead]; rfl⟩
theorem Brk.drew (h : Brk w blk off d R wr) : Brk w blk off d R wr.drew := h.drewN 1
theorem Brk.swap (h : Brk w blk off d R wr) (hb : blk < w.heap.size) {j k : Nat} (hj : j < d.size) (hk : k < d.size) {x y : Nat} (hx : x = d[k]!) (hy : y = d[j]!) :
    Brk w blk off (swp d j k) R ((wr.setCell ⟨blk, off + j, none⟩ (.int .u64 (x : Int))).setCell ⟨blk, off + k, none⟩ (.int .u64 (y : Int))) := by
  obtain ⟨n, rfl⟩ := h
  subst hx hy
  refine ⟨n, ?_⟩
  have h2 := putRow_swp eU (Sort.ahead w n) blk off d j k hj hk
  rw [setCell_eq, setCell_eq, mapBlock_grow _ _ _ _ (by simpa using hb), mapBlock_grow _ _ _ _ (by simpa [mapBlock] using hb), ← setCell_eq, ← setCell_eq, ← h2]
  rfl
end
set_option maxHeartbeats 1600000 in
theorem next_any (w wr : World) (blk off R : Nat) (d : Array Nat) (hR : R < 18446744073709551616) (hB : Brk w blk off d R wr) :
    Calls Try.prog 106 #[.pointer (some ⟨w.heap.size, 0, none⟩)] wr fun e w' => ∃ R' : Nat, e = .returned (.int .u64 (R' : Int)) ∧ R' < 18446744073709551616 ∧ Brk w blk off d R' w' := by
  obtain ⟨g, hg⟩ : ∃ g, g = w.heap.size := ⟨_, rfl⟩
  have hc := hB.cell
  have hf := hB.frozen
  have HB := Lib.hid hB
  rw [← hg] at hc hf ⊢
  have HG := Lib.hid hg
  clear hB hg
  obtain ⟨A, hA⟩ : ∃ A : Nat, A = R ^^^ (R * 8192 % 18446744073709551616) := ⟨_, rfl⟩
  obtain ⟨B, hB⟩ : ∃ B : Nat, B = A ^^^ (A / 128) := ⟨_, rfl⟩
  obtain ⟨C, hC⟩ : ∃ C : Nat, C = B ^^^ (B * 131072 % 18446744073709551616) := ⟨_, rfl⟩
  have lA : A < 18446744073709551616 := by rw [hA]; exact Nat.xor_lt_two_pow (n := 64) (by omega) (by omega)
  have lB : B < 18446744073709551616 := by rw [hB]; exact Nat.xor_lt_two_pow (n := 64) (by omega) (by omega)
  have lC : C < 18446744073709551616 := by rw [hC]; exact Nat.xor_lt_two_pow (n := 64) (by omega) (by omega)
  have e1 : bits .xor .u64 (R : Int) (IntKind.u64.wrap ((R : Int) * 8192)) = (A : Int) := by
    rw [IntKind.wrap_u64, show ((R : Int) * 8192 % 18446744073709551616) = ((R * 8192 % 18446744073709551616 : Nat) : Int) by omega, bits_xor_u64_nat _ _ hR (by omega), hA]
  have e2 : bits .xor .u64 (A : Int) ((A : Int) / 128) = (B : Int) := by
    rw [show ((A : Int) / 128) = ((A / 128 : Nat) : Int) by omega, bits_xor_u64_nat _ _ lA (by omega), hB]
  have e3 : bits .xor .u64 (B : Int) (IntKind.u64.wrap ((B : Int) * 131072)) = (C : Int) := by
    rw [IntKind.wrap_u64, show ((B : Int) * 131072 % 18446744073709551616) = ((B * 131072 % 18446744073709551616 : Nat) : Int) by omega, bits_xor_u64_nat _ _ lB (by omega), hC]
  clear hA hB hC
  go_enter Try.func106, Try.ntmps106
  go_upto_region 1 with fail
  go_cut [] (fun wx => Brk w blk off d A wx)
  case first =>
    go_region
    all_goals go_wp2_with fail
    all_goals go_meet
    all_goals (rw [HG.out]; exact (HB.out.set A).drew)
  case rest =>
  have HB1 := Lib.hid hcut
  obtain ⟨w1, hw1⟩ : ∃ x : World, x = wc := ⟨_, rfl⟩
  rw [← hw1] at HB1 ⊢
  have hc1 := HB1.out.cell
  have hf1 := HB1.out.frozen
  rw [← HG.out] at hc1 hf1
  clear hcut hw1 hc hf HB
  go_upto_region 2 with fail
  go_cut [] (fun wx => Brk w blk off d B wx)
  case first =>
    go_region
    all_goals go_wp2_with fail
    all_goals go_meet
    all_goals (rw [HG.out]; exact (HB1.out.set B).drew)
  case rest =>
  have HB2 := Lib.hid hcut
  obtain ⟨w2, hw2⟩ : ∃ x : World, x = wc := ⟨_, rfl⟩
  rw [← hw2] at HB2 ⊢
  have hc2 := HB2.out.cell
  have hf2 := HB2.out.frozen
  rw [← HG.out] at hc2 hf2
  clear hcut hw2 hc1 hf1 HB1
  go_upto_region 3 with fail
  go_cut [] (fun wx => Brk w blk off d C wx)
  case first =>
    go_region
    all_goals go_wp2_with fail
    all_goals go_meet
    all_goals (rw [HG.out]; exact (HB2.out.set C).drew)
  case rest =>
  have HB3 := Lib.hid hcut
  obtain ⟨w3, hw3⟩ : ∃ x : World, x = wc := ⟨_, rfl⟩
  rw [← hw3] at HB3 ⊢
  have hc3 := HB3.out.cell
  rw [← HG.out] at hc3
  clear hcut hw3 hc2 hf2 HB2
  go_wp2_with fail
  go_ret
  exact ⟨C, rfl, lC, HB3.out⟩
set_option maxHeartbeats 3200000 in
theorem break_any (w : World) (blk off len cap a b : Nat) (d : Array Nat) (hlen : d.size = len) (h0 : Holds eU w blk off d) (hb : blk < w.heap.size) (hab : a ≤ b) (hbd : b ≤ len) (hsz : len < 4611686018427387904) :
    Calls Try.prog 92 #[.slice (some ⟨blk, off, none⟩) len cap, .int .i64 a, .int .i64 b] w fun e w' => e = .returned (.tuple #[]) ∧ ∃ d', PermIn a b d d' ∧ At eU w blk off d' w' := by
  obtain ⟨L, rfl⟩ : ∃ L, b = a + L := ⟨b - a, by omega⟩
  have H0 := Lib.hid h0
  have HL := Lib.hid hlen
  have HB := Lib.hid hb
  have HA0 := Lib.hid (At.refl h0)
  have HBK := Lib.hid (show Brk w blk off d L (w.alloc (.cells #[.int .u64 (L : Int)] 161)) from ⟨0, by rw [Sort.ahead_zero, Sort.putRow_self _ _ _ _ _ h0, Sort.alloc_eq_grow]⟩)
  clear h0 hlen hb
  go_enter Try.func92, Try.ntmps92
  go_upto_region 0 with fail
  go_cut [6] (fun v wx => v = .int .i64 (L : Int) ∧ wx = w)
  case first =>
    go_wp2_with fail
    go_meet
    exact ⟨by congr 1; omega, rfl⟩
  case rest =>
  obtain ⟨rfl, hwc⟩ := hcut
  rw [hwc]
  clear hwc
  by_cases h8 : 8 ≤ L
  · have h8I : (8 : Int) ≤ (L : Int) := by omega
    have HPW := fun (x : World) => Lib.hid (power_any x L (by omega) (by omega))
    obtain ⟨q, hq⟩ : ∃ q, q = L / 4 := ⟨_, rfl⟩
    have hq1 : (L : Int).tdiv 4 = (q : Int) := by rw [Int.tdiv_eq_ediv_of_nonneg (by omega)]; omega
    have hq2 : (L : Int) / 4 = (q : Int) := by omega
    have hqL : 4 * q ≤ L := by omega
    have hL4 : L < 4 * q + 4 := by omega
    clear hq
    go_wp2_with fail
    refine (HPW _).out.mono ?_
    rintro e wq ⟨M, rfl, hM1, hM2, hwq⟩
    have HBK2 := Lib.hid (show Brk w blk off d L wq by rw [hwq]; exact HBK.out)
    clear hwq HBK
    have hM64 : M < 18446744073709551616 := by omega
    go_wp2_with fail
    go_loopw [9] (fun v wr => ∃ (t R : Nat) (dk : Array Nat), v = .int .i64 ((a + q * 2 - 1 + t : Nat) : Int) ∧ t ≤ 3 ∧ R < 18446744073709551616 ∧ dk.size = len ∧ PermIn a (a + L) d dk ∧ Brk w blk off dk R wr) (fun v _ => a + q * 2 + 3 - (sInt v).toNat)
    case atStart => exact ⟨0, L, d, by congr 1; omega, by omega, by omega, HL.out, permIn_refl _ _ _, HBK2.out⟩
    case round =>
      obtain ⟨t, R, dk, rfl, ht, hR, hsk, hP, hBk⟩ := hrel
      have HP := Lib.hid hP
      have HK := Lib.hid hsk
      have HN := Lib.hid (next_any w wr blk off R dk hR hBk)
      have HBk := Lib.hid hBk
      clear hP hsk hBk
      by_cases ht3 : t < 3
      · have htI : ((a + q * 2 - 1 + t : Nat) : Int) ≤ (a : Int) + (q : Int) * 2 + 1 := by omega
        go_wp2_with fail
        refine HN.out.mono ?_
        rintro e w1 ⟨R', rfl, hR', hB1⟩
        obtain ⟨G, hG, hcw, hfw⟩ := row_fam hB1.at_ H0.out HB.out (HK.out.trans HL.out.symm)
        rw [HL.out] at hcw hfw
        have HG := Lib.hid hG
        have HB1 := Lib.hid hB1
        obtain ⟨O, hO⟩ : ∃ O : Nat, O = R' &&& (M - 1) := ⟨_, rfl⟩
        have lO : O ≤ M - 1 := by rw [hO]; exact Nat.and_le_right
        have eAnd : bits .and .u64 (R' : Int) ((M : Int) - 1) = (O : Int) := by
          rw [show ((M : Int) - 1) = ((M - 1 : Nat) : Int) by omega, bits_and_u64_nat _ _ hR' (by omega), hO]
        clear hG hB1 hO HN
        by_cases hLO : L ≤ O
        · have hLOI : (L : Int) ≤ (O : Int) := by omega
          obtain ⟨O2, hO2⟩ : ∃ x, O = L + x := ⟨O - L, by omega⟩
          have hO2I : (O : Int) - (L : Int) = (O2 : Int) := by omega
          have hO2L : O2 < L := by omega
          by_cases hEq : a + q * 2 - 1 + t = a + O2
          · have hEq2 : ((a + q * 2 - 1 + t : Nat) : Int) = (a : Int) + ((O2 : Nat) : Int) := by omega
            go_wp2_with fail
            go_region
            all_goals go_wp2
            go_roundw
            case rel =>
              refine ⟨t + 1, R', swp dk (a + q * 2 - 1 + t) (a + O2), by first | rfl | (congr 1 <;> omega), by omega, hR', by rw [size_swp]; exact HK.out, permIn_trans _ _ _ _ _ HP.out (swp_permIn _ _ _ _ _ (by omega) (by omega) (by omega) (by omega) (by rw [HK.out]; omega)), ?_⟩
              try rw [hEq]
              first
                | exact (HB1.out.swap HB.out (by rw [HK.out]; omega) (by rw [HK.out]; omega) (HG.out _) (HG.out _)).drew
                | exact (HB1.out.drew.swap HB.out (by rw [HK.out]; omega) (by rw [HK.out]; omega) (HG.out _) (HG.out _))
            case measure => simp [sInt]; omega
          · have hEq2 : ¬ ((a + q * 2 - 1 + t : Nat) : Int) = (a : Int) + ((O2 : Nat) : Int) := by omega
            go_wp2_with fail
            go_region
            all_goals go_wp2
            go_roundw
            case rel =>
              refine ⟨t + 1, R', swp dk (a + q * 2 - 1 + t) (a + O2), by first | rfl | (congr 1 <;> omega), by omega, hR', by rw [size_swp]; exact HK.out, permIn_trans _ _ _ _ _ HP.out (swp_permIn _ _ _ _ _ (by omega) (by omega) (by omega) (by omega) (by rw [HK.out]; omega)), ?_⟩
              skip
              first
                | exact (HB1.out.swap HB.out (by rw [HK.out]; omega) (by rw [HK.out]; omega) (HG.out _) (HG.out _)).drew
                | exact (HB1.out.drew.swap HB.out (by rw [HK.out]; omega) (by rw [HK.out]; omega) (HG.out _) (HG.out _))
            case measure => simp [sInt]; omega
        · have hLOI : ¬ (L : Int) ≤ (O : Int) := by omega
          by_cases hEq : a + q * 2 - 1 + t = a + O
          · have hEq2 : ((a + q * 2 - 1 + t : Nat) : Int) = (a : Int) + ((O : Nat) : Int) := by omega
            go_wp2_with fail
            go_region
            all_goals go_wp2
            go_roundw
            case rel =>
              refine ⟨t + 1, R', swp dk (a + q * 2 - 1 + t) (a + O), by first | rfl | (congr 1 <;> omega), by omega, hR', by rw [size_swp]; exact HK.out, permIn_trans _ _ _ _ _ HP.out (swp_permIn _ _ _ _ _ (by omega) (by omega) (by omega) (by omega) (by rw [HK.out]; omega)), ?_⟩
              try rw [hEq]
              first
                | exact (HB1.out.swap HB.out (by rw [HK.out]; omega) (by rw [HK.out]; omega) (HG.out _) (HG.out _)).drew
                | exact (HB1.out.drew.swap HB.out (by rw [HK.out]; omega) (by rw [HK.out]; omega) (HG.out _) (HG.out _))
            case measure => simp [sInt]; omega
          · have hEq2 : ¬ ((a + q * 2 - 1 + t : Nat) : Int) = (a : Int) + ((O : Nat) : Int) := by omega
            go_wp2_with fail
            go_region
            all_goals go_wp2
            go_roundw
            case rel =>
              refine ⟨t + 1, R', swp dk (a + q * 2 - 1 + t) (a + O), by first | rfl | (congr 1 <;> omega), by omega, hR', by rw [size_swp]; exact HK.out, permIn_trans _ _ _ _ _ HP.out (swp_permIn _ _ _ _ _ (by omega) (by omega) (by omega) (by omega) (by rw [HK.out]; omega)), ?_⟩
              skip
              first
                | exact (HB1.out.swap HB.out (by rw [HK.out]; omega) (by rw [HK.out]; omega) (HG.out _) (HG.out _)).drew
                | exact (HB1.out.drew.swap HB.out (by rw [HK.out]; omega) (by rw [HK.out]; omega) (HG.out _) (HG.out _))
            case measure => simp [sInt]; omega
      · have htI : ¬ ((a + q * 2 - 1 + t : Nat) : Int) ≤ (a : Int) + (q : Int) * 2 + 1 := by omega
        clear HN
        go_wp2_with fail
        go_end0
        exact ⟨rfl, dk, HP.out, HBk.out.at_⟩
  · have h8I : ¬ (8 : Int) ≤ (L : Int) := by omega
    go_wp2_with fail
    go_end0
    exact ⟨rfl, d, permIn_refl _ _ _, HA0.out⟩
end Go.Proofs.Ytdphpjlhkamadaa
namespace Go.Proofs.Ytdphpjlhkamadaa
open Go.RowKit
open Go.Sort (PermIn SortedIn SWO swp Holds putRow grow At permIn_refl permIn_trans)
set_option linter.unusedSimpArgs false
set_option linter.unusedVariables false
set_option maxRecDepth 100000
/-- What is told of a row that is sorted from a to b. -/
def SortR (w : World) (blk off a b : Nat) (d : Array Nat) (e : Ending) (w' : World) : Prop := e = .returned (.tuple #[]) ∧ ∃ d', PermIn a b d d' ∧ SortedIn ltU a b d' ∧ At eU w blk off d' w'
/-- A round: what is left to be sorted is from x to y. -/
def PdqR (w : World) (blk off len a b limit : Nat) (d : Array Nat) (s1 s2 s3 s8 s9 : Value) (wr : World) : Prop :=
  ∃ (x y lim : Nat) (p q : Bool) (dk : Array Nat), s1 = .int .i64 x ∧ s2 = .int .i64 y ∧ s3 = .int .i64 lim ∧ s8 = .bool p ∧ s9 = .bool q ∧ a ≤ x ∧ x ≤ y ∧ y ≤ b ∧ lim ≤ limit ∧ dk.size = len ∧ FloorU x y dk ∧ At eU w blk off dk wr ∧
    ∀ R, PermIn x y dk R → SortedIn ltU x y R → PermIn a b d R ∧ SortedIn ltU a b R
theorem PdqR.mk {w wr : World} {blk off len a b limit x y lim : Nat} {d dk : Array Nat} {p q : Bool} (h1 : a ≤ x) (h2 : x ≤ y) (h3 : y ≤ b) (h4 : lim ≤ limit) (h5 : dk.size = len) (h6 : FloorU x y dk) (h7 : At eU w blk off dk wr)
    (h8 : ∀ R, PermIn x y dk R → SortedIn ltU x y R → PermIn a b d R ∧ SortedIn ltU a b R) : PdqR w blk off len a b limit d (.int .i64 x) (.int .i64 y) (.int .i64 lim) (.bool p) (.bool q) wr :=
  ⟨x, y, lim, p, q, dk, rfl, rfl, rfl, rfl, rfl, h1, h2, h3, h4, h5, h6, h7, h8⟩
/-- From a callee's world to the one that all began with. -/
theorem at_more {w wr w' : World} {blk off : Nat} {d d' d0 : Array Nat} (h : At eU w blk off d wr) (hb : blk < w.heap.size) (hs : d'.size = d.size) (h2 : At eU wr blk off d' w') : At eU w blk off d' w' := by
  obtain ⟨n, os, h3⟩ := h2
  exact h.stepG hb hs ⟨n, os, h3⟩
set_option maxHeartbeats 6400000 in
theorem pdq_any : ∀ (N : Nat) (w : World) (blk off len cap a b limit : Nat) (d : Array Nat), b - a < N → d.size = len → Holds eU w blk off d → blk < w.heap.size → a ≤ b → b ≤ len → len < 4611686018427387904 → limit < 4611686018427387904 → FloorU a b d →
    Calls Try.prog 82 #[.slice (some ⟨blk, off, none⟩) len cap, .int .i64 a, .int .i64 b, .int .i64 limit] w (SortR w blk off a b d) := by
  intro N
  induction N with
  | zero => intro _ _ _ _ _ _ _ _ _ h; exact absurd h (Nat.not_lt_zero _)
  | succ N ih =>
    intro w blk off len cap a b limit d hN hlen h0 hb hab hbd hsz hlim hfl
    have H0 := Lib.hid h0
    have HL := Lib.hid hlen
    have HB := Lib.hid hb
    have HST := Lib.hid (show PdqR w blk off len a b limit d (.int .i64 a) (.int .i64 b) (.int .i64 limit) (.bool true) (.bool true) w from PdqR.mk (Nat.le_refl _) hab (Nat.le_refl _) (Nat.le_refl _) hlen hfl (At.refl h0) fun R h1 h2 => ⟨h1, h2⟩)
    have IH := Lib.hid ih
    clear h0 hlen hb hfl ih
    go_enter Try.func82, Try.ntmps82
    go_wp2_with fail
    go_loopw [1, 2, 3, 8, 9] (fun s1 s2 s3 s8 s9 wr => PdqR w blk off len a b limit d s1 s2 s3 s8 s9 wr) (fun s1 s2 _ _ _ _ => (sInt s2 - sInt s1).toNat)
    case atStart => exact HST.out
    case round =>
      obtain ⟨x, y, lim, p, q, dk, rfl, rfl, rfl, rfl, rfl, hax, hxy, hyb, hll, hsk, hfk, hA, hG⟩ := hrel
      have HK := Lib.hid hsk
      have HFk := Lib.hid hfk
      have HA := Lib.hid hA
      have HG := Lib.hid hG
      have hh := hA.holds H0.out (hsk.trans HL.out.symm) HB.out
      have HH := Lib.hid hh
      clear hsk hfk hA hG hh HST
      by_cases h12 : y - x ≤ 12
      · have h12I : (y : Int) - (x : Int) ≤ 12 := by omega
        have HC := Lib.hid (insertion_any wr blk off len cap x y dk HK.out HH.out.1 HH.out.2 hxy (by omega) hsz)
        go_wp2_with fail
        refine HC.out.mono ?_
        rintro e w1 ⟨rfl, d', hP, hS, hA'⟩
        have HR := Lib.hid (HG.out d' hP hS)
        have HA' := Lib.hid (at_more (d0 := dk) HA.out HB.out hP.1 hA')
        clear hP hS hA' HC
        go_wp2_with fail
        (try simp only [Exit.inBlock, Exit.then])
        refine bodyPost_ret (results_none rfl _ _ _) rfl ?_
        exact ⟨rfl, d', HR.out.1, HR.out.2, HA'.out⟩
      · have h12I : ¬ (y : Int) - (x : Int) ≤ 12 := by omega
        by_cases hl0 : lim = 0
        · subst hl0
          have HC := Lib.hid (heap_any wr blk off len cap x y dk HK.out HH.out.1 HH.out.2 hxy (by omega) hsz)
          go_wp2_with fail
          refine HC.out.mono ?_
          rintro e w1 ⟨rfl, d', hP, hS, hA'⟩
          have HR := Lib.hid (HG.out d' hP hS)
          have HA' := Lib.hid (at_more (d0 := dk) HA.out HB.out hP.1 hA')
          clear hP hS hA' HC
          go_wp2_with fail
          (try simp only [Exit.inBlock, Exit.then])
          refine bodyPost_ret (results_none rfl _ _ _) rfl ?_
          exact ⟨rfl, d', HR.out.1, HR.out.2, HA'.out⟩
        · have hl0I : ¬ ((lim : Int) = 0) := by omega
          have hl0J : ((lim : Int) == 0) = false := by rw [beq_eq_false_iff_ne]; exact hl0I
          go_upto_if 35 with fail
          go_cut [3] (fun s3 wx => ∃ (lm : Nat) (d1 : Array Nat), s3 = .int .i64 lm ∧ lm ≤ lim ∧ PermIn x y dk d1 ∧ At eU w blk off d1 wx)
          case first =>
            cases p
            · have HC := Lib.hid (break_any wr blk off len cap x y dk HK.out HH.out.1 HH.out.2 hxy (by omega) hsz)
              go_wp2_with fail
              refine HC.out.mono ?_
              rintro e w1 ⟨rfl, d', hP, hA'⟩
              have HP := Lib.hid hP
              have HA' := Lib.hid (at_more (d0 := dk) HA.out HB.out hP.1 hA')
              clear hP hA' HC
              go_wp2_with fail
              go_meet
              exact ⟨lim - 1, d', by go_num, by omega, HP.out, HA'.out⟩
            · go_wp2_with fail
              go_meet
              exact ⟨lim, dk, rfl, Nat.le_refl _, permIn_refl _ _ _, HA.out⟩
          case rest =>
          obtain ⟨lm, d1, rfl, hlm, hP1, hA1⟩ := hcut
          have HP1 := Lib.hid hP1
          have HA1 := Lib.hid hA1
          have hh1 := hA1.holds H0.out ((hP1.1.trans HK.out).trans HL.out.symm) HB.out
          have HC := Lib.hid (choose_any wc blk off len cap x y d1 (hP1.1.trans HK.out) hh1.1 hh1.2 (by omega) (by omega) hsz)
          clear hP1 hA1 hh1
          have HK1 := Lib.hid (show d1.size = len from HP1.out.1.trans HK.out)
          have HF1 := Lib.hid (HFk.out.perm (by rw [HK.out]; omega) HP1.out)
          clear HA HH
          go_upto_if 50 with (go_at_call 93; refine HC.out.mono ?_; rintro e w2 ⟨pv, ht, rfl, hpv1, hpv2, hht, hw2⟩)
          have HA2 := Lib.hid (HA1.out.same H0.out (HK1.out.trans HL.out.symm) HB.out hw2)
          clear hw2 HA1 HC
          go_cut [11, 12] (fun s11 s12 wx => ∃ (pw hw : Nat) (d2 : Array Nat), s11 = .int .i64 pw ∧ s12 = .int .i64 hw ∧ x ≤ pw ∧ pw < y ∧ hw ≤ 2 ∧ PermIn x y d1 d2 ∧ At eU w blk off d2 wx)
          case first =>
            by_cases hd : ht = 2
            · subst hd
              have hh2 := HA2.out.holds H0.out (HK1.out.trans HL.out.symm) HB.out
              have HC := Lib.hid (reverse_any w2 blk off len cap x y d1 HK1.out hh2.1 hh2.2 hxy (by omega) hsz)
              clear hh2
              go_wp2_with fail
              refine HC.out.mono ?_
              rintro e w3 ⟨rfl, d', hP, hA'⟩
              have HP := Lib.hid hP
              have HA' := Lib.hid (at_more (d0 := dk) HA2.out HB.out hP.1 hA')
              clear hP hA' HC
              go_wp2_with fail
              go_meet
              exact ⟨(y - 1) - (pv - x), 1, d', by congr 1; omega, rfl, by omega, by omega, by omega, HP.out, HA'.out⟩
            · have hdI : ¬ ((ht : Int) = 2) := by omega
              have hdJ : ((ht : Int) == 2) = false := by rw [beq_eq_false_iff_ne]; exact hdI
              go_wp2_with fail
              go_meet
              exact ⟨pv, ht, d1, rfl, rfl, hpv1, hpv2, hht, permIn_refl _ _ _, HA2.out⟩
          case rest =>
          obtain ⟨pw, hw, d2, rfl, rfl, hpw1, hpw2, hhw, hP2, hA2⟩ := hcut
          have HP2 := Lib.hid hP2
          have HA3 := Lib.hid hA2
          have HK2 := Lib.hid (show d2.size = len from hP2.1.trans HK1.out)
          have HF2 := Lib.hid (HF1.out.perm (by rw [HK1.out]; omega) hP2)
          clear hP2 hA2 HA2 hpv1 hpv2 hht
          clear pv ht
          obtain ⟨w3, hw3⟩ : ∃ z : World, z = wc := ⟨_, rfl⟩
          rw [← hw3] at HA3 ⊢
          clear hw3
          go_upto_region 15 with fail
          go_cut [68] (fun s68 wx => (s68 = .bool true ∨ s68 = .bool false) ∧ wx = w3)
          case first =>
            by_cases hw1 : hw = 1
            · subst hw1
              cases p <;> cases q
              all_goals go_wp2_with fail
              all_goals go_meet
              all_goals first | exact ⟨Or.inl rfl, rfl⟩ | exact ⟨Or.inr rfl, rfl⟩
            · have hwI : ¬ ((hw : Int) = 1) := by omega
              have hwJ : ((hw : Int) == 1) = false := by rw [beq_eq_false_iff_ne]; exact hwI
              cases p <;> cases q
              all_goals go_wp2_with fail
              all_goals go_meet
              all_goals first | exact ⟨Or.inl rfl, rfl⟩ | exact ⟨Or.inr rfl, rfl⟩
          case rest =>
          obtain ⟨hcv, hwc⟩ := hcut
          rw [hwc]
          clear hwc
          go_upto_if 68 with fail
          go_cut [] (fun wx => ∃ d3 : Array Nat, PermIn x y d2 d3 ∧ At eU w blk off d3 wx)
          case first =>
            rcases hcv with rfl | rfl
            · have hh3 := HA3.out.holds H0.out (HK2.out.trans HL.out.symm) HB.out
              have HC := Lib.hid (partial_any w3 blk off len cap x y d2 HK2.out hh3.1 hh3.2 (by omega) (by omega) hsz HF2.out)
              clear hh3
              go_wp2_with fail
              refine HC.out.mono ?_
              rintro e w4 ⟨r, d', rfl, hP, hS, hA'⟩
              have HP := Lib.hid hP
              have HS := Lib.hid hS
              have HA' := Lib.hid (at_more (d0 := dk) HA3.out HB.out hP.1 hA')
              clear hP hS hA' HC
              cases r
              · go_wp2_with fail
                go_meet
                exact ⟨d', HP.out, HA'.out⟩
              · go_wp2_with fail
                (try simp only [Exit.inBlock, Exit.then])
                refine bodyPost_ret (results_none rfl _ _ _) rfl ?_
                have HR := HG.out d' (permIn_trans _ _ _ _ _ HP1.out (permIn_trans _ _ _ _ _ HP2.out HP.out)) (by first | exact HS.out rfl | exact HS.out trivial)
                exact ⟨rfl, d', HR.1, HR.2, HA'.out⟩
            · go_wp2_with fail
              go_meet
              exact ⟨d2, permIn_refl _ _ _, HA3.out⟩
          case rest =>
          obtain ⟨d3, hP3, hA3⟩ := hcut
          have HA4 := Lib.hid hA3
          have HK3 := Lib.hid (show d3.size = len from hP3.1.trans HK2.out)
          have HF3 := Lib.hid (HF2.out.perm (by rw [HK2.out]; omega) hP3)
          have HPK := Lib.hid (permIn_trans _ _ _ _ _ HP1.out (permIn_trans _ _ _ _ _ HP2.out hP3))
          clear hP3 hA3 HA3 HP1 HP2 HK1 HF1 HK2 HF2 hcv hhw
          have HG3 := Lib.hid (show ∀ R, PermIn x y d3 R → SortedIn ltU x y R → PermIn a b d R ∧ SortedIn ltU a b R from fun R h1 h2 => HG.out R (permIn_trans _ _ _ _ _ HPK.out h1) h2)
          clear HG HPK HFk HK d1 d2 dk
          obtain ⟨w4, hw4⟩ : ∃ z : World, z = wc := ⟨_, rfl⟩
          rw [← hw4] at HA4 ⊢
          clear hw4
          obtain ⟨G, hG, hcw, hfw⟩ := row_fam HA4.out H0.out HB.out (HK3.out.trans HL.out.symm)
          rw [HL.out] at hcw
          have HGG := Lib.hid hG
          clear hG hfw
          go_upto_region 17 with fail
          go_cut [87] (fun s87 wx => ((s87 = .bool true ∧ 0 < x ∧ ltU (G (x - 1)) (G pw) = false) ∨ s87 = .bool false) ∧ ∃ n, wx = w4.drewN n)
          case first =>
            by_cases hx0 : x = 0
            · subst hx0
              go_quiet (first | (go_at_call 96; refine Calls.quiet_of_same (less_any _ _ _)))
              go_wp2_with fail
              go_meet
              exact ⟨Or.inr rfl, nq, rfl⟩
            · have hx0I : (0 : Int) < (x : Int) := by omega
              have hx0N : 0 < x := by omega
              have hx0D : decide (0 < x) = true := decide_eq_true hx0N
              go_quiet (first | (go_at_call 96; refine Calls.quiet_of_same (less_any _ _ _)))
              rcases hl : ltU (G (x - 1)) (G pw) with _ | _
              · go_wp2_with fail
                go_meet
                refine ⟨Or.inl ⟨?_, hx0N, hl⟩, nq, rfl⟩
                first | rfl | simp [hl]
              · go_wp2_with fail
                go_meet
                refine ⟨Or.inr ?_, nq, rfl⟩
                first | rfl | simp [hl]
          case rest =>
          obtain ⟨hcv, n5, hw5⟩ := hcut
          have HA5 := Lib.hid (at_drewN HA4.out n5)
          rw [← hw5] at HA5
          clear hw5 hcw HA4
          obtain ⟨w5, hw5⟩ : ∃ z : World, z = wc := ⟨_, rfl⟩
          rw [← hw5] at HA5 ⊢
          clear hw5
          have hh5 := HA5.out.holds H0.out (HK3.out.trans HL.out.symm) HB.out
          have HH5 := Lib.hid hh5
          clear hh5
          rcases hcv with ⟨rfl, hx0, hnl⟩ | rfl
          · have HNL := Lib.hid hnl
            have HC := Lib.hid (partEq_any w5 blk off len cap x y pw d3 HK3.out HH5.out.1 HH5.out.2 hpw1 hpw2 (by omega) hsz)
            clear hnl
            go_wp2_with fail
            refine HC.out.mono ?_
            rintro e w6 ⟨mid, d4, rfl, hm1, hm2, hP4, hlo, hhi, hA6⟩
            have HK4 := Lib.hid (hP4.1.trans HK3.out)
            have HA6 := Lib.hid (at_more (d0 := d3) HA5.out HB.out hP4.1 hA6)
            have hge : ∀ t, x ≤ t → t < y → ltU d3[t]! d3[pw]! = false := fun t h1 h2 => by
              rcases HF3.out with h | h
              · omega
              · exact swoU.ntrans _ _ _ (h t h1 h2) (by rw [← HGG.out, ← HGG.out]; exact HNL.out)
            have HGL := Lib.hid (glue_eq hm1 hm2 (by rw [HK3.out]; omega) hge hP4 hlo hhi)
            clear hP4 hlo hhi hA6 hge HC
            go_wp2_with fail
            go_roundw
            case rel =>
              refine PdqR.mk (by omega) hm2 hyb (by omega) HK4.out HGL.out.1 HA6.out (fun R h1 h2 => ?_)
              have hg := HGL.out.2 R h1 h2
              exact HG3.out R hg.1 hg.2
            case measure => simp [sInt]; omega
          · have HC := Lib.hid (part_any w5 blk off len cap x y pw d3 HK3.out HH5.out.1 HH5.out.2 hpw1 hpw2 (by omega) hsz)
            go_wp2_with fail
            refine HC.out.mono ?_
            rintro e w6 ⟨mid, d4, ap, rfl, hm1, hm2, hP4, hlo, hhi, hA6⟩
            have HK4 := Lib.hid (hP4.1.trans HK3.out)
            have HA6 := Lib.hid (at_more (d0 := d3) HA5.out HB.out hP4.1 hA6)
            have hh6 := HA6.out.holds H0.out (HK4.out.trans HL.out.symm) HB.out
            obtain ⟨f1, f2, f3, f4⟩ := glue_part hm1 hm2 (by rw [HK3.out]; omega) HF3.out hP4 hlo hhi
            have HF5 := Lib.hid f3
            have HF6 := Lib.hid f4
            have HIL := Lib.hid (IH.out w6 blk off len cap x mid lm d4 (by omega) HK4.out hh6.1 hh6.2 hm1 (by omega) hsz (by omega) f1)
            have hir := IH.out w6 blk off len cap (mid + 1) y lm d4 (by omega) HK4.out hh6.1 hh6.2 (by omega) (by omega) hsz (by omega) f2
            rw [show ((mid + 1 : Nat) : Int) = (mid : Int) + 1 by omega] at hir
            have HIR := Lib.hid hir
            clear hP4 hlo hhi hA6 hh6 f1 f2 f3 f4 hir HC
            by_cases hlr : mid - x < y - mid
            · have hlrI : (mid : Int) - (x : Int) < (y : Int) - (mid : Int) := by omega
              go_wp2_with fail
              refine HIL.out.mono ?_
              rintro e w7 ⟨rfl, d5, hP5, hS5, hA7⟩
              have HA7 := Lib.hid (at_more (d0 := d3) HA6.out HB.out hP5.1 hA7)
              have HK5 := Lib.hid (hP5.1.trans HK4.out)
              have HF7 := Lib.hid (HF5.out d5 hP5 hS5)
              clear hP5 hS5 hA7
              go_wp2_with fail
              go_roundw
              case rel =>
                rw [show ((mid : Int) + 1) = ((mid + 1 : Nat) : Int) by omega]
                refine PdqR.mk (by omega) (by omega) hyb (by omega) HK5.out HF7.out.1 HA7.out (fun R h1 h2 => ?_)
                have hg := HF7.out.2 R h1 h2
                exact HG3.out R hg.1 hg.2
              case measure => simp [sInt]; omega
            · have hlrI : ¬ (mid : Int) - (x : Int) < (y : Int) - (mid : Int) := by omega
              go_wp2_with fail
              refine HIR.out.mono ?_
              rintro e w7 ⟨rfl, d5, hP5, hS5, hA7⟩
              have HA7 := Lib.hid (at_more (d0 := d3) HA6.out HB.out hP5.1 hA7)
              have HK5 := Lib.hid (hP5.1.trans HK4.out)
              have HF7 := Lib.hid (HF6.out d5 hP5 hS5)
              clear hP5 hS5 hA7
              go_wp2_with fail
              go_roundw
              case rel =>
                refine PdqR.mk hax hm1 (by omega) (by omega) HK5.out HF7.out.1 HA7.out (fun R h1 h2 => ?_)
                have hg := HF7.out.2 R h1 h2
                exact HG3.out R hg.1 hg.2
              case measure => simp [sInt]; omega
end Go.Proofs.Ytdphpjlhkamadaa
