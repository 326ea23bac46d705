/- Contracts of the library's functions that the operations call: a number written, a number read, a line cut at its blanks. -/
import Derived.Test.YtfnobibjphnmdaaGreatDoorOVar
import Derived.Lib.AppendIntMem
import Derived.Lib.ItoaMem
import Derived.Lib.ItoaNum
import Derived.Lib.Walk
import Derived.Lib.SplitLaws
import Derived.Laws.IdiomStrings
import Derived.Laws.Strings3
namespace Go.Proofs.YtfnobibjphnmdaaGreatDoor
open Go.RowKit Go.Sort
set_option linter.unusedVariables false
set_option linter.unusedSimpArgs false
theorem ba_dec (u : Nat) : (⟨(Lib.decDigits u).toArray⟩ : ByteArray) = ba (decL u) := by
  unfold ba decL
  rw [List.map_map, show UInt8.ofNat ∘ UInt8.toNat = id from by funext x; simp, List.map_id]
set_option maxRecDepth 100000 in
set_option maxHeartbeats 4000000 in
theorem fmtu_in (w : World) (u : Nat) (hu : u < 18446744073709551616) (hv : Vo w) :
    Calls Tryz.prog 66 #[.int .u64 (u : Int), .int .i64 10] w fun e w' => e = .returned (.string ⟨(Lib.decDigits u).toArray⟩) ∧ Below w.heap.size w w' := by
  by_cases hs : u < 100
  · have hx : decide ((u : Int) < 100) = true := decide_eq_true (by omega)
    go_enter Tryz.func66, Tryz.ntmps66
    go_wp2_with (go_at_call 75; refine (Tryz.internal_strconv_small u hs _).mono ?_; rintro e w' ⟨rfl, rfl⟩)
    go_ret
    exact ⟨rfl, Below.refl _ _⟩
  · have hx : decide ((u : Int) < 100) = false := decide_eq_false (by omega)
    have hu1 : 1 ≤ u := by omega
    have hnd20 : Lib.nDigits u ≤ 20 := by have := Lib.numDigits_eq u hu1 hu; split at this <;> omega
    have hb3 : Lib.nDigits u ≤ 24 := by omega
    have hal : Tryz.prog.arrayLen 105 = 24 := by kernel_rfl
    have hsl : ∀ W, (Instr.sliceAt 105 (.pointer (some ⟨w.heap.size, 0, none⟩)) none (some (.int .i64 (Lib.nDigits u : Int))) none).run Tryz.prog W = .ok (.slice (some ⟨w.heap.size, 0, none⟩) (Lib.nDigits u) 24) W := fun W => by
      rw [run_sliceAt_array_h W 105 ⟨w.heap.size, 0, none⟩ Tryz.underlying105 .i64 (Lib.nDigits u : Int) (by omega) (by rw [hal]; omega)]
      go_simp
    have hH0 := Lib.holds_zero0 w 105 (Lib.nDigits u) (by omega)
    have hfmt := Tryz.internal_strconv_formatBase10 w.heap.size 0 24 u (Array.replicate (Lib.nDigits u) 0) (w.alloc (.cells Lib.zeros24 105)) hH0 (by rw [Array.size_replicate]; exact Lib.lt_pow_nDigits u) hu (by rw [Array.size_replicate]; omega)
    rw [Array.size_replicate] at hfmt
    have HH0 := Lib.hid hH0
    have htab := Lib.tabIs_alloc hv.tab (.cells Lib.zeros24 105)
    clear hH0 hal hv
    go_enter Tryz.func66, Tryz.ntmps66
    go_wp2_with (go_at_call 76; refine (Tryz.internal_strconv_numDigits u hu1 hu _ htab).mono ?_; rintro e w' ⟨rfl, rfl⟩)
    go_at_call 77
    refine hfmt.mono ?_
    rintro e w' ⟨rfl, k, v', dk, rfl, hF⟩
    have hcv : (convert 26 9 (.slice (some ⟨w.heap.size, 0, none⟩) (Lib.nDigits u) 24)).run Tryz.prog ((putRow (fun (b : UInt8) => Value.int .u8 (b.toNat : Int)) (w.alloc (.cells Lib.zeros24 105)) w.heap.size 0 dk).drewN k) = .ok (.string ⟨(Lib.decDigits u).toArray⟩) ((putRow (fun (b : UInt8) => Value.int .u8 (b.toNat : Int)) (w.alloc (.cells Lib.zeros24 105)) w.heap.size 0 dk).drewN k) := by
      have h := run_convert_bytes_back (P := Tryz.prog) ((putRow (fun (b : UInt8) => Value.int .u8 (b.toNat : Int)) (w.alloc (.cells Lib.zeros24 105)) w.heap.size 0 dk).drewN k) 26 9 5 ⟨w.heap.size, 0, none⟩ 24 (Lib.decDigits u) Tryz.underlying26 Tryz.underlying5 Tryz.underlying9 (fun j hj => by
        rw [Lib.row_is_numeral hF j hj, Lib.add_plain, World.cell?_drewN]
        exact cell?_putRow (fun (b : UInt8) => Value.int .u8 (b.toNat : Int)) _ w.heap.size 0 _ dk HH0.out (by rw [hF.size, Array.size_replicate]) j (by rw [hF.size]; rw [Lib.decDigits_length] at hj; exact hj))
      rw [Lib.decDigits_length] at h
      exact h
    go_wp2
    go_ret
    obtain ⟨os, eo⟩ := Lib.fin_at w (.cells Lib.zeros24 105) dk k 0
    refine ⟨rfl, ?_⟩
    rw [eo]
    exact Lib.below_grow _ w (Nat.le_refl _) k os
theorem fmtu_any (w : World) (u : Nat) (hu : u < 18446744073709551616) (hv : Vo w) :
    Calls Tryz.prog 52 #[.int .u64 (u : Int), .int .i64 10] w fun e w' => e = .returned (.string (ba (decL u))) ∧ Below w.heap.size w w' := by
  have HF := fun (x : World) (h : Vo x) => hide (fmtu_in x u hu h)
  go_enter Tryz.func52, Tryz.ntmps52
  go_wp2_with (go_at_call 66; (with_reducible refine (unhide (HF _ hv)).mono ?_); rintro e w1 ⟨rfl, hb⟩; have HB := Lib.hid hb; clear hb)
  go_ret
  exact ⟨by rw [ba_dec]; rfl, HB.out⟩
theorem decimal_any (w : World) (u : Nat) (hu : u < 18446744073709551616) (hv : Vo w) :
    Calls Tryz.prog 30 #[.int .u64 (u : Int)] w fun e w' => e = .returned (.string (ba (decL u))) ∧ Below w.heap.size w w' := by
  have HF := fun (x : World) (h : Vo x) => hide (fmtu_any x u hu h)
  go_enter Tryz.func30, Tryz.ntmps30
  go_wp2_with (go_at_call 52; (with_reducible refine (unhide (HF _ hv)).mono ?_); rintro e w1 ⟨rfl, hb⟩; have HB := Lib.hid hb; clear hb)
  go_ret
  exact ⟨rfl, HB.out⟩
end Go.Proofs.YtfnobibjphnmdaaGreatDoor
