/- TpRefNum, LRefLay: joined by program (tools/merge.py). -/
import Derived.Test.YtalpippeelomjaaZ9
import Derived.Test.YtalpippeelomjaaZ6
import Derived.Test.YtalpippeelomjaaZ3
import Derived.Laws.IdiomStrings
import Derived.Deep.RegionLaw
import Derived.Test.YtalpippeelomjaaZ37
namespace Go.Proofs.Ytalpippeelomjaa
open Go.RowKit
set_option linter.unusedSimpArgs false
set_option linter.unusedVariables false
/-- A slice that has just been built of bytes. -/
theorem bytes_new (w : World) (l : List Nat) (n : Nat) (hn : n = l.length) (hs : ∀ b ∈ l, b < 256) (hl : l.length ≤ maxLen) : Bytes (w.alloc (.cells (byt l).toArray 5)) (w.heap.size + 1) (.slice (some ⟨w.heap.size, 0, none⟩) n n) l := by
  subst hn
  refine ⟨⟨_, _, rfl, fun j v hj => ⟨_, rfl, by simp, ?_⟩, Nat.le_refl _, fun h => by cases h⟩, hs, hl⟩
  have hplain : (⟨w.heap.size, 0, none⟩ : Addr).add j = ⟨w.heap.size, j, none⟩ := by unfold Addr.add; split <;> simp_all
  rw [hplain, World.cell?_alloc_at _ _ _ _ rfl]
  simpa using hj

theorem tp_lies_block {w : World} {B g : Nat} {vs : Array Value} {t : TypeId} {z : Nat × Nat} (hb : w.heap[g]? = some (.cells vs t z)) (hB : g < B) : Lies w B (some ⟨g, 0, none⟩) vs.toList := fun j v hj => by
  refine ⟨_, rfl, hB, ?_⟩
  have hplain : (⟨g, 0, none⟩ : Addr).add j = ⟨g, j, none⟩ := by unfold Addr.add; split <;> simp_all
  rw [hplain]
  unfold World.cell?
  rw [hb]
  simpa using hj
/-- Join of two slices that have just been laid beside one another. -/
theorem join_two (w : World) (v u : Value) (l1 l2 : List Nat) (h1 : Bytes w w.heap.size v l1) (h2 : Bytes w w.heap.size u l2) (hl : l1.length + l2.length ≤ 1048576) :
    Calls Try.prog 57 #[.slice (some ⟨w.heap.size, 0, none⟩) 2 2] (w.alloc (.cells #[v, u] 43)) fun e w' => ∃ A n c, e = .returned (.slice A n c) ∧ Mine w' w.heap.size A n c (l1 ++ l2) ∧ Below w.heap.size w w' := by
  have hb := (Below.refl w.heap.size w).alloc (Nat.le_refl _) (.cells #[v, u] 43)
  have hP := parts_two (Go.heap_alloc_new w (.cells #[v, u] 43)) (h1.below hb) (h2.below hb) (by simp)
  have e : [l1, l2].flatten = l1 ++ l2 := by simp
  have hJ := join_mine _ _ _ hP (by rw [e]; exact small_append h1.small h2.small) (by rw [e, List.length_append]; exact hl)
  rw [e] at hJ
  exact hJ.mono fun e w' ⟨A, n, c, he, hM, hB⟩ => ⟨A, n, c, he, hM.lower (by simp), below_on hb hB⟩
set_option maxRecDepth 100000 in
set_option maxHeartbeats 1000000 in
theorem refNum_any : ∀ (n : Nat) (w : World), n < 18446744073709551616 →
    Calls Try.prog 54 #[.int .u64 (n : Int)] w fun e w' => ∃ A m c, e = .returned (.slice A m c) ∧ Mine w' w.heap.size A m c (num n) ∧ Below w.heap.size w w' := by
  intro n
  induction n using Nat.strongRecOn with
  | _ n ih =>
    intro w hn
    by_cases h : n < 128
    · have hb := bytes_new w [n] 1 rfl (by simp; omega) (by unfold maxLen; simp)
      have e : (n : Int) % 256 = (n : Int) := by omega
      have HM : Hid (Mine (w.alloc (.cells #[.int .u8 (n : Int)] 5)) w.heap.size (some ⟨w.heap.size, 0, none⟩) 1 1 (num n)) := by
        rw [num_lt h]
        exact ⟨⟨by simp [byt], .inr ⟨_, _, _, rfl, Nat.le_refl _, Go.heap_alloc_new w _, Nat.le_refl _, by unfold maxLen; omega, rfl, rfl⟩⟩, rfl, by simp; omega⟩
      have hlt : (n : Int) < 128 := by omega
      clear ih hb
      go_enter Try.func54, Try.ntmps54
      go_wp2
      go_ret
      exact ⟨_, _, _, rfl, HM.out, (Below.refl _ _).alloc (Nat.le_refl _) _⟩
    · have hge : ¬ (n : Int) < 128 := by omega
      have hd : (n : Int) / 128 = ((n / 128 : Nat) : Int) := by omega
      have e1 : (n : Int) % 128 + 128 = ((n % 128 + 128 : Nat) : Int) := by omega
      have HC := hide (ih (n / 128) (by omega) (w.alloc (.cells #[.int .u8 ((n : Int) % 128 + 128)] 5)) (by omega))
      rw [← hd] at HC
      have hb := bytes_new w [n % 128 + 128] 1 rfl (by simp; omega) (by unfold maxLen; simp)
      rw [show (byt [n % 128 + 128]).toArray = #[Value.int .u8 ((n : Int) % 128 + 128)] by rw [e1]; rfl] at hb
      have HB := Lib.hid hb
      have HL := Lib.hid (num_length64 (n := n / 128) (by omega))
      have HNM := Lib.hid (num_ge h)
      clear ih hd e1 hb h
      go_enter Try.func54, Try.ntmps54
      go_wp2_with (first
        | (go_at_call 54; (with_reducible refine (unhide HC).mono ?_); rintro e w1 ⟨A1, m1, c1, rfl, hM1, hb1⟩; go_loud (
             have HJ := hide (join_two w1 _ _ _ _ ((HB.out.up (by simp)).along hb1) hM1.bytes (by have := HL.out; simp; omega));
             rw [show ([n % 128 + 128] ++ num (n / 128) : List Nat) = num n from HNM.out.symm] at HJ;
             have hb2 := ((Below.refl w.heap.size w).alloc (Nat.le_refl _) (.cells #[.int .u8 ((n : Int) % 128 + 128)] 5)).trans (hb1.mono (by simp));
             have HB2 := Lib.hid hb2;
             clear hM1 hb1 hb2))
        | (go_at_call 57; (with_reducible refine (unhide HJ).mono ?_); rintro e w2 ⟨A2, m2, c2, rfl, hM2, hb2⟩))
      go_ret
      exact ⟨A2, m2, c2, rfl, hM2.lower HB2.out.size, HB2.out.trans (hb2.mono HB2.out.size)⟩
end Go.Proofs.Ytalpippeelomjaa
namespace Go.Proofs.Ytalpippeelomjaa
open Go.RowKit Go.Shelf
set_option linter.unusedSimpArgs false
set_option linter.unusedVariables false
def LayRS (W : World) (n : Nat) (ls : List (List Nat)) (out i : Value) (wr : World) : Prop :=
  ∃ k : Nat, k ≤ n ∧ i = .int .i64 (k : Int) ∧ Own wr W.heap.size out (layR (ls.take k)) ∧ Below W.heap.size W wr
set_option maxRecDepth 100000 in
set_option maxHeartbeats 2000000 in
theorem refLayR_any (w : World) (v : Value) (ls : List (List Nat)) (hp : Parts w w.heap.size v ls) (htot : (layR ls).length ≤ 1048576) :
    Calls Try.prog 21 #[v] w fun e w' => ∃ u, e = .returned u ∧ Own w' w.heap.size u (layR ls) ∧ Below w.heap.size w w' := by
  obtain ⟨⟨A, c, vs, rfl, hvl, hlies, hbytes⟩, hlong⟩ := hp
  unfold maxLen at hlong
  obtain ⟨i0, hi0, hz0, hz1, hz2⟩ := info_parts infoByte
  have HV := Lib.hid hvl
  have HL := Lib.hid hlies
  have HB := Lib.hid hbytes
  clear hvl hlies hbytes
  obtain ⟨n, hn⟩ : ∃ n, n = ls.length := ⟨_, rfl⟩
  rw [← hn] at hlong ⊢
  have HN := Lib.hid hn
  have HI := Lib.hid hi0
  have H0 := Lib.hid hz0
  have H1 := Lib.hid hz1
  have H2 := Lib.hid hz2
  have HT := Lib.hid htot
  clear hn hi0 hz0 hz1 hz2 htot
  go_enter Try.func21, Try.ntmps21
  go_wp2
  go_loopw [3, 8] (fun out i wr => LayRS w n ls out i wr) (fun _ i _ => n - (intOf i).toNat)
  case atStart => exact ⟨0, by omega, rfl, own_nil _ _, Below.refl _ _⟩
  case round =>
    obtain ⟨k, hk, rfl, hown, hb⟩ := hrel
    obtain ⟨Ao, co, rfl, _, _, _, hown⟩ := hown.form
    by_cases hlt : k < n
    · obtain ⟨l, hl⟩ : ∃ l, ls[k]? = some l := ⟨_, List.getElem?_eq_getElem (by rw [← HN.out]; exact hlt)⟩
      obtain ⟨u, hu⟩ : ∃ u, vs[k]? = some u := ⟨_, List.getElem?_eq_getElem (by rw [HV.out, ← HN.out]; exact hlt)⟩
      have hB0 := (HB.out k u l hu hl).below hb
      obtain ⟨ad, hA, hbb, hc0⟩ := HL.out k _ hu
      subst hA
      have hc := (hb.cell (p := ad.add k) (by rw [addr_add_block]; exact hbb)).trans hc0
      obtain ⟨A1, c1, rfl⟩ : ∃ A c, u = .slice A l.length c := by obtain ⟨A, c, h, _⟩ := hB0.form; exact ⟨A, c, h⟩
      have hmore : (layR (ls.take k)).length + (rec1 l).length ≤ 1048576 := by
        have h1 := layR_take_le ls (k + 1)
        rw [layR_next hl, List.length_append] at h1
        have := HT.out
        omega
      have hnl : (num l.length).length + l.length = (rec1 l).length := by unfold rec1; rw [List.length_append]
      obtain ⟨L, hL⟩ : ∃ L, L = l.length := ⟨_, rfl⟩
      obtain ⟨S, hS⟩ : ∃ S, S = (layR (ls.take k)).length := ⟨_, rfl⟩
      obtain ⟨R, hR⟩ : ∃ R, R = (num l.length).length := ⟨_, rfl⟩
      have hSR : S + R + L ≤ 1048576 := by omega
      rw [← hS] at hown ⊢
      rw [← hL] at hc
      have HNUM : Hid (Calls Try.prog 54 #[.int .u64 (L : Int)] wr fun e w' => ∃ A m c, e = .returned (.slice A m c) ∧ Mine w' wr.heap.size A m c (num L) ∧ Below wr.heap.size wr w') := Lib.hid (refNum_any L wr (by omega))
      have HO := Lib.hid hown
      have HB0 := Lib.hid hB0
      have Hl := Lib.hid hl
      have HL2 := Lib.hid hL
      have HRR := Lib.hid hR
      clear hl hu hc0 hmore hown hnl hS hL hB0 hR
      go_wp2_with (first
        | (go_at_call 54; (with_reducible refine (HNUM.out).mono ?_); rintro e w2 ⟨A2, n2, c2, rfl, hM2, hb2⟩; go_loud (
            obtain rfl : n2 = R := by rw [HRR.out, ← HL2.out]; exact hM2.len;
            have HM2 := Lib.hid hM2;
            have HB2 := Lib.hid hb2;
            have HO2 := Lib.hid (ownsRow_below HO.out hb2);
            clear hM2 hb2))
        | (at_builtin; refine wpList_append_bytes (by rfl) (.tmp 12) (.tmp 16) 43 (by rfl) w.heap.size 5 i0 (.int .u8 0) Try.underlying43 HI.out H0.out H1.out H2.out (by rfl) (.slice Ao S co) S _ (by rfl) HO2.out A2 n2 c2 _ (num L) (by rfl) HM2.out.bytes (by omega) (Nat.le_trans hb.size HB2.out.size) ?_; intro v3 w3 hown3 hg3; go_loud (
            have HO3 := Lib.hid hown3;
            have hb3 := (HB2.out.mono hb.size).grown hg3 (Nat.le_trans hb.size HB2.out.size) (fun g hg => (World.ownsRow.lt HO2.out g hg).1);
            have HBL := Lib.hid hb3;
            have HBY := Lib.hid (HB0.out.below hb3);
            obtain ⟨A3, c3, rfl⟩ := row_slice2 HO3.out;
            clear hown3 hg3 hb3))
        | (at_builtin; refine wpList_append_bytes (by rfl) (.tmp 17) (.tmp 18) 43 (by rfl) w.heap.size 5 i0 (.int .u8 0) Try.underlying43 HI.out H0.out H1.out H2.out (by rfl) (.slice A3 (S + n2) c3) (S + n2) _ (by rfl) HO3.out A1 L c1 _ l (by rfl) (by rw [HL2.out]; exact HBY.out) (by omega) (Nat.le_trans hb.size HBL.out.size) ?_; intro v4 w4 hown4 hg4; go_loud (
            have HO4 := Lib.hid hown4;
            have hb4 := HBL.out.grown hg4 (Nat.le_trans hb.size HBL.out.size) (fun g hg => (World.ownsRow.lt HO3.out g hg).1);
            have HBL4 := Lib.hid hb4;
            clear hown4 hg4 hb4)))
      go_roundw
      case rel =>
        refine ⟨k + 1, by omega, by go_num, ?_, hb.trans HBL4.out⟩
        have h1 := HO4.out
        rw [List.append_assoc, ← byt_append, ← byt_append] at h1
        have e : layR (ls.take (k + 1)) = layR (ls.take k) ++ (num L ++ l) := by rw [layR_next Hl.out, HL2.out]; rfl
        rw [e]
        exact own_of_row h1
      case measure => simp [intOf]; omega
    · obtain rfl : k = n := by omega
      have HO := Lib.hid hown
      clear hown
      go_wp2
      go_ret
      refine ⟨_, rfl, ?_, hb⟩
      have h1 := own_of_row HO.out
      rw [HN.out, List.take_length] at h1
      rw [HN.out, List.take_length]
      exact h1
end Go.Proofs.Ytalpippeelomjaa
