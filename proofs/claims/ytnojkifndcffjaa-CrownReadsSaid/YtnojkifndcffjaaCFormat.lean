/- Contract: what Format leaves of a disk: no crown but the first one, in its place. -/
import Derived.Test.YtnojkifndcffjaaCOwn
namespace Go.Proofs.Ytnojkifndcffjaa
open Go.RowKit
set_option linter.unusedSimpArgs false
set_option linter.unusedVariables false

/-- The first i sectors are noughts. -/
def wiped (l : List (List Nat)) : Nat → List (List Nat)
  | 0 => l
  | i + 1 => (wiped l i).set i noughts
theorem wiped_length (l : List (List Nat)) : ∀ i, (wiped l i).length = l.length
  | 0 => rfl
  | i + 1 => by rw [wiped, List.length_set, wiped_length l i]
def FmtR (w : World) (gs : Nat) (b : DB) (dur : List (List Nat)) (pend : List (Nat × List Nat)) (nw : Int) (t : Value) (x : World) : Prop :=
  ∃ (i : Nat) (b2 : DB) (pend2 : List (Nat × List Nat)) (n2 : Int), i ≤ 2 ∧ t = .int .i64 (i : Int) ∧ Disk x gs b2 dur pend2 n2 (-1) ∧ applied pend2 dur = wiped (applied pend dur) i ∧ nw ≤ n2 ∧ n2 ≤ nw + i ∧ pend2.length ≤ pend.length + i ∧
    b2.gd = b.gd ∧ b2.gl = b.gl ∧ (b2.pv.ownBlock = b.pv.ownBlock ∨ ∃ g, b2.pv.ownBlock = some g ∧ w.heap.size ≤ g) ∧ OnlyAt w x (fun k => (k = gs ∨ k = b.gd ∨ k = b.gl ∨ some k = b.pv.ownBlock) ∨ w.heap.size ≤ k)
theorem bytes_noughts (w : World) : Bytes (w.alloc (.cells (byt noughts).toArray 5)) (w.alloc (.cells (byt noughts).toArray 5)).heap.size (.slice (some ⟨w.heap.size, 0, none⟩) 512 512) noughts :=
  bytes_block (Go.heap_alloc_new w _) (by simp) noughts_length.symm (Nat.le_refl _) noughts_small (by unfold maxLen; rw [noughts_length]; omega)
theorem only_pv {w x y : World} {gs : Nat} {b b2 : DB} (h : OnlyAt w x (fun k => (k = gs ∨ k = b.gd ∨ k = b.gl ∨ some k = b.pv.ownBlock) ∨ w.heap.size ≤ k)) (ho : OnlyAt x y (fun k => k = gs ∨ k = b2.gl ∨ some k = b2.pv.ownBlock)) (e2 : b2.gl = b.gl)
    (e3 : b2.pv.ownBlock = b.pv.ownBlock ∨ ∃ g, b2.pv.ownBlock = some g ∧ w.heap.size ≤ g) : OnlyAt w y (fun k => (k = gs ∨ k = b.gd ∨ k = b.gl ∨ some k = b.pv.ownBlock) ∨ w.heap.size ≤ k) :=
  h.trans (ho.mono fun k _ hk => by
    rcases hk with h1 | h1 | h1
    · exact .inl (.inl h1)
    · exact .inl (.inr (.inr (.inl (by rw [h1, e2]))))
    · rcases e3 with h2 | ⟨g, h2, h3⟩
      · exact .inl (.inr (.inr (.inr (by rw [h1, h2]))))
      · rw [h2] at h1
        injection h1 with h1
        exact .inr (by omega))

set_option maxRecDepth 100000 in
set_option maxHeartbeats 4000000 in
theorem cformat_good {w : World} {gs : Nat} {b : DB} {dur : List (List Nat)} {pend : List (Nat × List Nat)} {nw : Int} (h : Disk w gs b dur pend nw (-1)) (hl : 4 ≤ dur.length) (hnw : 0 ≤ nw ∧ nw ≤ 1000000) (hpl : pend.length ≤ 1000) :
    Calls Try.prog 15 #[.pointer (some ⟨gs, 0, none⟩)] w fun e w' => e = .returned (.int .i64 0) ∧
      ∃ cd cl n2, Disk w' gs ⟨b.gd, cd, b.gl, cl, .slice none 0 0⟩ ((wiped (applied pend dur) 2).set 1 (crownSec 1 0 0)) [] n2 (-1) ∧ nw ≤ n2 ∧ n2 ≤ nw + 3 ∧ OnlyAt w w' (fun k => (k = gs ∨ k = b.gd ∨ k = b.gl ∨ some k = b.pv.ownBlock) ∨ w.heap.size ≤ k) := by
  have HSc := hide (sectors_any h)
  have hn1 : ¬ (dur.length : Int) < 4 := by omega
  have hmk : ∀ w : World, (Instr.makeSlice 25 (.int .i64 512) (.int .i64 512)).run Try.prog w = .ok (.slice (some ⟨w.heap.size, 0, none⟩) 512 512) (w.alloc (.cells (byt noughts).toArray 5)) := run_make512
  have HBN := Lib.hid bytes_noughts
  obtain ⟨Z, hZ⟩ : ∃ Z, Z = byt noughts := ⟨_, rfl⟩
  rw [← hZ] at hmk HBN
  have HD := Lib.hid h
  clear h hZ
  go_enter Try.func15, Try.ntmps15
  go_wp2_with (first
    | (go_at_call 34; (with_reducible refine (unhide HSc).mono ?_); rintro e w1 ⟨rfl, rfl⟩))
  go_loopw [11] (fun t x => FmtR w gs b dur pend nw t x) (fun t _ => 2 - (intOf t).toNat)
  case atStart => exact ⟨0, b, pend, nw, by omega, rfl, HD.out, rfl, by omega, by omega, by omega, rfl, rfl, .inl rfl, OnlyAt.refl _ _⟩
  case round =>
    obtain ⟨i, b2, pend2, n2, hi, rfl, hDx, hap, hn2, hn3, hpl2, e1, e2, e3, hO⟩ := hrel
    have HDx := Lib.hid hDx
    have HAP := Lib.hid hap
    have HO := Lib.hid hO
    have HE3 := Lib.hid e3
    by_cases hlt : i < 2
    · obtain ⟨s, hs⟩ : ∃ s, (applied pend2 dur)[i]? = some s := ⟨_, List.getElem?_eq_getElem (by rw [applied_length]; omega)⟩
      have HBl := hide (blank_any hDx i (by omega) s hs)
      have HS := Lib.hid hs
      clear hDx hap hO e3 hs
      by_cases hz : s = noughts
      · rw [decide_eq_true hz] at HBl
        have HZz := Lib.hid hz
        clear hz
        go_wp2_with (first
          | (go_at_call 25; (with_reducible refine (unhide HBl).mono ?_); rintro e w2 ⟨rfl, rfl⟩))
        go_roundw
        case rel =>
          refine ⟨i + 1, b2, pend2, n2, by omega, by go_num, HDx.out, ?_, hn2, by omega, by omega, e1, e2, HE3.out, HO.out⟩
          rw [wiped, ← HAP.out]
          apply List.ext_getElem?
          intro j
          by_cases hj : i = j
          · subst hj
            rw [List.getElem?_set_self (by rw [applied_length]; omega), HS.out, HZz.out]
          · rw [List.getElem?_set_ne hj]
        case measure => simp [intOf]; omega
      · rw [decide_eq_false hz] at HBl
        clear hz
        go_wp2_with (first
          | (go_at_call 25; (with_reducible refine (unhide HBl).mono ?_); rintro e w2 ⟨rfl, rfl⟩; go_loud (
             have hbz := (Below.refl wr.heap.size wr).alloc (Nat.le_refl _) (.cells Z.toArray 5);
             have hDz := HDx.out.below hbz;
             have HW1 := hide (write_good hDz (by decide) (by decide) (by omega) (by omega) i (by omega) (some ⟨wr.heap.size, 0, none⟩) 512 noughts (HBN.out wr) ⟨noughts_length, noughts_small⟩)))
          | (go_at_call 12; (with_reducible refine (unhide HW1).mono ?_); rintro e w3 ⟨rfl, b3, hD3, i1, i2, i3, i4, i5, hO3⟩))
        go_roundw
        case rel =>
          refine ⟨i + 1, b3, pend2 ++ [(i, noughts)], n2 + 1, by omega, by go_num, hD3, ?_, by omega, by omega, by rw [List.length_append]; simp; omega, by rw [i1, e1], by rw [i3, e2], ?_, only_pv (HO.out.trans (below_only hbz)) hO3 e2 HE3.out⟩
          · rw [applied_snoc, HAP.out]
            rfl
          · have hsz : w.heap.size ≤ (wr.alloc (.cells Z.toArray 5)).heap.size := Nat.le_trans HO.out.size hbz.size
            rcases i5 with h | ⟨g, h, h2⟩
            · rw [h]; exact HE3.out
            · exact .inr ⟨g, h, by omega⟩
        case measure => simp [intOf]; omega
    · obtain rfl : i = 2 := by omega
      have hlt2 : ¬ ((2 : Nat) : Int) < 2 := by omega
      have HSy := hide (sync_good hDx (by decide) (by decide))
      have hpl3 := hDx.few
      clear hDx hap hO e3
      go_wp2_with (first
        | (go_at_call 20; (with_reducible refine (unhide HSy).mono ?_); rintro e w4 ⟨rfl, hD4, hO4⟩; go_loud (
           have HF := hide (first_any w4)))
        | (go_at_call 16; (with_reducible refine (unhide HF).mono ?_); rintro e w5 ⟨rfl, hb5⟩; go_loud (
           have hD5 := hD4.below hb5;
           have HW := hide (cwrite_good hD5 1 0 0 (by decide) (by decide) (by decide) (by rw [applied_length]; omega) (by omega));
           rw [show ((0 : Nat) : Int) = 0 from rfl, show ((1 : Nat) : Int) = 1 from rfl] at HW))
        | (go_at_call 18; (with_reducible refine (unhide HW).mono ?_); rintro e w6 ⟨rfl, cd, cl, hD6, hO6⟩))
      go_ret
      refine ⟨rfl, cd, cl, n2 + 1, ?_, by omega, by omega, ?_⟩
      · have e : applied [] (applied pend2 dur) = applied pend2 dur := rfl
        rw [e, HAP.out] at hD6
        simp only [e1, e2] at hD6
        exact hD6
      · refine ((HO.out.trans (hO4.mono fun k _ hk => ?_)).trans (below_only hb5)).trans (hO6.mono fun k _ hk => ?_)
        all_goals
          rcases hk with h | h | h
          · exact .inl (.inl h)
          · exact .inl (.inr (.inl (by rw [h, e1])))
          · exact .inl (.inr (.inr (.inl (by rw [h, e2]))))
end Go.Proofs.Ytnojkifndcffjaa
