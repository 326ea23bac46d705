/- What CrownHolds asks besides: the count of writes; the reference's bytes of a crown; what survives of two writes. -/
import Derived.Test.YtnojkifndcffjaaCBoth
import Derived.Test.YtnojkifndcffjaaRPage
import Derived.Test.YtnojkifndcffjaaDWait
namespace Go.Proofs.Ytnojkifndcffjaa
open Go.RowKit
set_option linter.unusedSimpArgs false
set_option linter.unusedVariables false
theorem Flags.along {w w' : World} {v : Value} {ks : List Bool} (h : Flags w v ks) (hb : Below w.heap.size w w') : Flags w' v ks := by
  obtain ⟨A, c, rfl, hl⟩ := h.form
  exact ⟨A, c, rfl, (hl.below hb).up hb.size⟩
theorem writes_any {w : World} {gs : Nat} {b : DB} {dur : List (List Nat)} {pend : List (Nat × List Nat)} {nw bud : Int} (h : Disk w gs b dur pend nw bud) :
    Calls Try.prog 21 #[.pointer (some ⟨gs, 0, none⟩)] w fun e w' => e = .returned (.int .i64 nw) ∧ w = w' := by
  have c0 := h.c3
  clear h
  go_enter Try.func21, Try.ntmps21
  go_wp2
  go_ret
  exact ⟨rfl, rfl⟩
theorem half_new (w : World) (o : Obj) (half : Nat) (hh : half < 256) : Bytes ((w.alloc o).alloc (.cells #[.int .u8 (half : Int)] 5)) ((w.alloc o).alloc (.cells #[.int .u8 (half : Int)] 5)).heap.size (.slice (some ⟨w.heap.size + 1, 0, none⟩) 1 1) [half] :=
  bytes_block (l := [half]) (by rw [show w.heap.size + 1 = (w.alloc o).heap.size by simp]; exact Go.heap_alloc_new _ _) (by simp) rfl (Nat.le_refl _) (by simpa using hh) (by unfold maxLen; simp)
set_option maxRecDepth 100000 in
set_option maxHeartbeats 2000000 in
theorem rcBytes_any (w : World) (gen half ser : Nat) (hg : gen < 4294967296) (hh : half < 256) (hs : ser < 4294967296) :
    Calls Try.prog 9 #[.agg #[.int .u32 (gen : Int), .int .u8 (half : Int), .int .u32 (ser : Int)]] w fun e w' => ∃ A c, e = .returned (.slice A 512 c) ∧ Mine w' w.heap.size A 512 c (crownSec gen half ser) ∧ Below w.heap.size w w' := by
  have hr := fun o => refPage_any ((w.alloc o).alloc (.cells #[.int .u8 (half : Int)] 5)) gen ser 0 9 _ _ _ [half] hg hs (by decide) (by decide) (half_new w o half hh) (by decide) rfl (by simpa using hh)
  simp only [show ((0 : Nat) : Int) = 0 from rfl, show ((9 : Nat) : Int) = 9 from rfl] at hr
  have HR := fun o => hide (hr o)
  clear hr
  have hsec := crownSec_sec (gen := gen) (half := half) (ser := ser) hh
  have HSEC := Lib.hid hsec
  clear hsec
  go_enter Try.func9, Try.ntmps9
  go_wp2_with (first
    | (go_at_call 11; (with_reducible refine (unhide (HR _)).mono ?_); rintro e w2 ⟨A2, n2, c2, rfl, hM2, hb2⟩))
  go_ret
  obtain rfl : n2 = 512 := hM2.len.trans HSEC.out.1
  have h2 := (below_two (w := w) (o := .cells #[.int .u32 (gen : Int), .int .u8 (half : Int), .int .u32 (ser : Int)] 35) (o2 := .cells #[.int .u8 (half : Int)] 5))
  exact ⟨A2, c2, rfl, hM2.lower h2.size, h2.trans (hb2.mono h2.size)⟩
theorem exoN_best7 {n : Nat} (h : n ≤ 8) : bestOf (exoN n) 2 = some (n + 1, n % 2, n) := by
  rcases (show n = 0 ∨ n = 1 ∨ n = 2 ∨ n = 3 ∨ n = 4 ∨ n = 5 ∨ n = 6 ∨ n = 7 ∨ n = 8 by omega) with rfl | rfl | rfl | rfl | rfl | rfl | rfl | rfl | rfl <;> rfl
theorem both_next7 {n : Nat} {dur : List (List Nat)} (h : Both n dur) (hn : n ≤ 100) (hl : dur.length = 10) : Both (n + 1) (dur.set ((n + 2) % 2) (crownSec (n + 2) ((n + 1) % 2) (n + 1))) := by
  intro i hi
  by_cases hin : i = (n + 2) % 2
  · refine ⟨crownSec (n + 2) ((n + 1) % 2) (n + 1), by rw [hin, List.getElem?_set_self (by omega)], ?_⟩
    unfold exoN
    rw [if_pos hin]
    exact ⟨rfl, by show n + 2 < _; omega, by show (n + 1) % 2 ≤ 1; omega, by show n + 1 < _; omega, by show (n + 2) % 2 = i; omega⟩
  · obtain ⟨s, hs, hh⟩ := h i hi
    refine ⟨s, by rw [List.getElem?_set_ne (by omega)]; exact hs, ?_⟩
    have h1 : i = (n + 1) % 2 := by omega
    unfold exoN at hh ⊢
    rw [if_pos h1] at hh
    rw [if_neg hin, if_neg (by omega)]
    exact hh
theorem both_far {n k : Nat} {dur : List (List Nat)} {F : List Nat} (h : Both n dur) (hk : 2 ≤ k) : Both n (dur.set k F) := fun i hi => by
  obtain ⟨s, hs, hh⟩ := h i hi
  exact ⟨s, by rw [List.getElem?_set_ne (by omega)]; exact hs, hh⟩
/-- Whatever survives of both writes, the crown ahead or the new one stands. -/
theorem both_kept {n : Nat} {dur : List (List Nat)} {F : List Nat} (h : Both n dur) (hn : n ≤ 100) (hl : dur.length = 10) (ks : List Bool) :
    ∃ m, (m = n ∨ m = n + 1) ∧ Both m (kept ks [(5, F), ((n + 2) % 2, crownSec (n + 2) ((n + 1) % 2) (n + 1))] dur) := by
  have h2 : ∀ a : Bool, Both n (if a then dur.set 5 F else dur) := fun a => by cases a; exact h; exact both_far h (by decide)
  have hl2 : ∀ a : Bool, (if a then dur.set 5 F else dur).length = 10 := fun a => by cases a; exact hl; rw [if_pos rfl, List.length_set]; exact hl
  match ks with
  | [] => exact ⟨n, Or.inl rfl, h⟩
  | [a] => exact ⟨n, Or.inl rfl, h2 a⟩
  | a :: false :: _ => exact ⟨n, Or.inl rfl, by unfold kept; simpa using h2 a⟩
  | a :: true :: _ => exact ⟨n + 1, Or.inr rfl, by unfold kept; simpa using both_next7 (h2 a) hn (hl2 a)⟩
end Go.Proofs.Ytnojkifndcffjaa
