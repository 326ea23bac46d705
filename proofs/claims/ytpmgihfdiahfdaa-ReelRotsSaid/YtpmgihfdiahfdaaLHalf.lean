/- Contract: the law's half: the sectors of a crown's half. -/
import Derived.Test.YtpmgihfdiahfdaaZ42
import Derived.Test.YtpmgihfdiahfdaaZ24
import Derived.Deep.RegionHeld3
namespace Go.Proofs.Ytpmgihfdiahfdaa
open Go.RowKit Go.Shelf
set_option linter.unusedSimpArgs false
set_option linter.unusedVariables false
def HalfI (w1 : World) (K : Nat) (X : List (List Nat)) (out i : Value) (wr : World) : Prop := ∃ k : Nat, k ≤ K ∧ i = .int .i64 (k : Int) ∧ Rows3 wr w1.heap.size out (X.take k) ∧ Below w1.heap.size w1 wr
set_option maxRecDepth 100000 in
set_option maxHeartbeats 8000000 in
theorem half_any {w : World} {gs : Nat} {b : DB} {dur : List (List Nat)} {pend : List (Nat × List Nat)} {nw bud : Int} (hD : Disk w gs b dur pend nw bud) (gen h ser : Nat) (h4 : 4 ≤ dur.length) (hh : h ≤ 1) (X : List (List Nat)) (hX : X = ((applied pend dur).drop (halfN dur.length h)).take (halfK dur.length h)) :
    Calls Try.prog 25 #[.pointer (some ⟨gs, 0, none⟩), .agg #[.int .u32 (gen : Int), .int .u8 (h : Int), .int .u32 (ser : Int)]] w fun e w' => ∃ u, e = .returned u ∧ Rows3 w' w.heap.size u X ∧ Below w.heap.size w w' := by
  have hfew := hD.few
  obtain ⟨n, hn⟩ : ∃ n, n = dur.length := ⟨_, rfl⟩
  obtain ⟨K, hK⟩ : ∃ K, K = halfK n h := ⟨_, rfl⟩
  obtain ⟨F, hF⟩ : ∃ F, F = halfN n h := ⟨_, rfl⟩
  have hKF : F + K ≤ n ∧ K ≤ 2048 := by
    rw [hF, hK]
    unfold halfN halfK
    rw [if_neg (by omega), if_neg (by omega)]
    rcases (show h = 0 ∨ h = 1 by omega) with rfl | rfl <;> omega
  have hXl : X.length = K := by
    rw [hX, List.length_take, List.length_drop, applied_length, ← hn, ← hF, ← hK]
    omega
  have hXat : ∀ k, k < K → (applied pend dur)[F + k]? = X[k]? := fun k hk => by
    rw [hX, ← hn, ← hF, ← hK, getElem?_view hk]
  have hf := fun x => from_any x (gen : Int) (ser : Int) h n (by omega)
  rw [← hF, ← hK] at hf
  have HF := Lib.hid hf
  have HS : Hid (∀ x, Below w.heap.size w x → Calls Try.prog 28 #[.pointer (some ⟨gs, 0, none⟩)] x fun e w' => e = .returned (.int .i64 (n : Int)) ∧ x = w') := Lib.hid fun x hx => by rw [hn]; exact sectors_any (hD.below hx)
  have HRD : Hid (∀ y, Below w.heap.size w y → ∀ (k : Nat) (s : List Nat) (i : Int), k < K → X[k]? = some s → i = ((F + k : Nat) : Int) → Calls Try.prog 37 #[.pointer (some ⟨gs, 0, none⟩), .int .i64 i] y fun e w' => ∃ g, e = .returned (.tuple #[.slice (some ⟨g, 0, none⟩) 512 512, .int .i64 0]) ∧ Mine w' y.heap.size (some ⟨g, 0, none⟩) 512 512 s ∧ Below y.heap.size y w') := Lib.hid fun y hy k s i hk hs hi => by
    rw [hi]
    exact read_any (hD.below hy) (F + k) (by omega) s (by rw [hXat k hk]; exact hs)
  have HXL := Lib.hid hXl
  have hFK : F + K ≤ 4096 := by omega
  obtain ⟨i0, hi0, hz0, hz1, hz2⟩ := info_parts infoSlice
  have HI := Lib.hid hi0
  have H0 := Lib.hid hz0
  have H1 := Lib.hid hz1
  have H2 := Lib.hid hz2
  have HW : Hid (∀ o, Below w.heap.size w (w.alloc o)) := Lib.hid fun o => (Below.refl _ _).alloc (Nat.le_refl _) o
  obtain ⟨W, hW⟩ : ∃ W, W = w.alloc (.cells #[.int .u32 (gen : Int), .int .u8 (h : Int), .int .u32 (ser : Int)] 24) := ⟨_, rfl⟩
  have hWb : Below w.heap.size w W := by rw [hW]; exact HW.out _
  have h0 : W.heap[w.heap.size]? = some (.cells #[.int .u32 (gen : Int), .int .u8 (h : Int), .int .u32 (ser : Int)] 24 (0, 0)) := by rw [hW]; exact Go.heap_alloc_new w _
  have HC : Hid (∀ x, Below W.heap.size W x → x.cell? ⟨w.heap.size, 0, none⟩ = some (.int .u32 (gen : Int)) ∧ x.cell? ⟨w.heap.size, 1, none⟩ = some (.int .u8 (h : Int)) ∧ x.cell? ⟨w.heap.size, 2, none⟩ = some (.int .u32 (ser : Int))) := Lib.hid fun x hx => by
    have h3 := (hx.block w.heap.size (lt_of_heap h0)).trans h0
    exact ⟨by unfold World.cell?; rw [h3]; rfl, by unfold World.cell?; rw [h3]; rfl, by unfold World.cell?; rw [h3]; rfl⟩
  have HS2 : Hid (∀ x, Below W.heap.size W x → Calls Try.prog 28 #[.pointer (some ⟨gs, 0, none⟩)] x fun e w' => e = .returned (.int .i64 (n : Int)) ∧ x = w') := Lib.hid fun x hx => HS.out x (hWb.trans (hx.mono hWb.size))
  have HWE := Lib.hid hW
  have HWB := Lib.hid hWb
  clear hW hWb h0 hf hD hX hXat hXl hn hK hF hi0 hz0 hz1 hz2
  go_enter Try.func25, Try.ntmps25
  go_wp2
  rw [← HWE.out]
  go_region_held3 (fun x => Below W.heap.size W x ∧ x.cell? ⟨w.heap.size, 0, none⟩ = some (.int .u32 (gen : Int)) ∧ x.cell? ⟨w.heap.size, 1, none⟩ = some (.int .u8 (h : Int)) ∧ x.cell? ⟨w.heap.size, 2, none⟩ = some (.int .u32 (ser : Int)))
    ((refine (fun h => ⟨h, HC.out _ h⟩) ?_; repeat (with_reducible (first | exact Below.refl _ _ | assumption | refine ride_alloc ?_ _ | refine ride_drew ?_ | refine below_drewN ?_ _ | refine ride_call (by assumption) ?_))))
    (first
      | (go_at_call 28; (with_reducible refine (HS2.out _ (by repeat (with_reducible (first | exact Below.refl _ _ | assumption | refine ride_alloc ?_ _ | refine ride_drew ?_ | refine below_drewN ?_ _ | refine ride_call (by assumption) ?_)))).mono ?_); rintro e w1 ⟨rfl, rfl⟩)
      | (go_at_call 27; (with_reducible refine (HF.out _).mono ?_); rintro e w2 ⟨rfl, hb2⟩))
  rename_i hHeld
  have hw2 : Below w.heap.size w w2 := HWB.out.trans (hHeld.1.mono HWB.out.size)
  have HW2 := Lib.hid hw2
  clear hHeld hw2 hb2
  go_wp2
  go_loopw [5, 19] (fun out i wr => HalfI w2 K X out i wr) (fun _ i _ => K - (intOf i).toNat)
  case atStart => exact ⟨0, Nat.zero_le _, rfl, Rows3.nil _ _, Below.refl _ _⟩
  case round =>
    obtain ⟨k, hk, rfl, hR, hb⟩ := hrel
    by_cases hlt : k < K
    · obtain ⟨s, hs⟩ : ∃ s, X[k]? = some s := ⟨_, List.getElem?_eq_getElem (by rw [HXL.out]; exact hlt)⟩
      obtain ⟨vs, hv1, hv2, hv3⟩ := id hR
      obtain ⟨Ao, co, rfl⟩ := hR.len
      obtain ⟨dn, hdn⟩ : ∃ x, x = (X.take k).length := ⟨_, rfl⟩
      rw [← hdn] at hv2 ⊢
      have hdl : dn ≤ 2048 := by rw [hdn, List.length_take]; omega
      have hFk : (F : Int) + (k : Int) = ((F + k : Nat) : Int) := by omega
      have HRK : Hid (∀ i : Int, i = ((F + k : Nat) : Int) → Calls Try.prog 37 #[.pointer (some ⟨gs, 0, none⟩), .int .i64 i] wr fun e w' => ∃ g, e = .returned (.tuple #[.slice (some ⟨g, 0, none⟩) 512 512, .int .i64 0]) ∧ Mine w' wr.heap.size (some ⟨g, 0, none⟩) 512 512 s ∧ Below wr.heap.size wr w') := Lib.hid fun i hi => HRD.out _ (HW2.out.trans (hb.mono HW2.out.size)) k s i hlt hs hi
      have hFk2 : F + k ≤ 4096 := by omega
      have HSK := Lib.hid hs
      have HDN := Lib.hid hdn
      have HV1 := Lib.hid hv1
      have HV2 := Lib.hid hv2
      have HV3 := Lib.hid hv3
      have HFK := Lib.hid hFk
      clear hs hdn hv1 hv2 hv3 hR hFk
      go_wp2_with (first
        | (go_at_call 37; (with_reducible refine (HRK.out _ HFK.out).mono ?_); rintro e w3 ⟨g3, rfl, hM3, hb3⟩; go_loud (
            have HM3 := Lib.hid hM3;
            have HB3 := Lib.hid hb3;
            clear hM3 hb3))
        | (at_builtin; go_loud (refine wpList_append_lies _ (by rfl) (.tmp 30) (.tmp 32) 34 (by rfl) w2.heap.size 43 i0 (.slice none 0 0) 1 24 Try.underlying34 HI.out H0.out H1.out H2.out (by rfl) (by omega) (.slice Ao dn co) dn _ (by rfl) (ownsRow_below HV2.out (HB3.out.alloc HB3.out.size _)) ⟨w3.heap.size, 0, none⟩ 1 1 [.slice (some ⟨g3, 0, none⟩) 512 512] (by rfl) (by rfl) (World.news_of_block (heap_new_at rfl)) (by intro u hu; simp at hu; rcases hu with rfl; rfl) (by omega) (by unfold maxLen; omega) (by omega) (Nat.le_trans hb.size (Nat.le_trans HB3.out.size (by simp))) _ rfl ?_; intro g6 k6 w6 hown6 hg6 hat6 hlt6)))
      have HBL := Lib.hid (rows3_more hg6 hown6 HDN.out HV1.out HV2.out HV3.out hb hb.size (HB3.out.alloc HB3.out.size _) (by exact (TBytes.of_mine HM3.out).keep (.of_below ((Below.refl _ _).alloc (Nat.le_refl _) _))))
      clear hown6 hg6 hat6
      go_wp2
      go_roundw
      case rel => exact ⟨k + 1, by omega, by go_num, by rw [List.take_add_one, HSK.out]; exact HBL.out.1, HBL.out.2⟩
      case measure => simp [intOf]; omega
    · obtain rfl : k = K := by omega
      rw [List.take_of_length_le (by rw [HXL.out]; exact Nat.le_refl _)] at hR
      obtain ⟨Ao, co, rfl⟩ := hR.len
      have HR := Lib.hid hR
      have HB := Lib.hid hb
      clear hR hb
      go_wp2
      go_ret
      exact ⟨_, rfl, HR.out.lower HW2.out.size, HW2.out.trans (HB.out.mono HW2.out.size)⟩
end Go.Proofs.Ytpmgihfdiahfdaa
