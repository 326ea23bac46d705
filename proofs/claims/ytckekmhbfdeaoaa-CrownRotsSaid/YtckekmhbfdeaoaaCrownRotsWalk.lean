/- The walk of the law CrownRots: it answers true whatever is turned, and writes nothing that was there. -/
import Derived.Test.YtckekmhbfdeaoaaCBad
import Derived.Test.YtckekmhbfdeaoaaCAwake
import Derived.Laws.StructEq
import Derived.OpenShut
namespace Go.Proofs.Ytckekmhbfdeaoaa
open Go.RowKit
set_option linter.unusedSimpArgs false
set_option linter.unusedVariables false

/-- The crowns that stand in both sectors after so many writes. -/
def exoN (n : Nat) : Nat → Option (Nat × Nat × Nat) := fun i => if i = (n + 1) % 2 then some (n + 1, n % 2, n) else if n = 0 then none else some (n, (n - 1) % 2, n - 1)
theorem exoN_best {n : Nat} (h : n ≤ 5) : bestOf (exoN n) 2 = some (n + 1, n % 2, n) := by
  rcases (show n = 0 ∨ n = 1 ∨ n = 2 ∨ n = 3 ∨ n = 4 ∨ n = 5 by omega) with rfl | rfl | rfl | rfl | rfl | rfl <;> rfl
def Both (n : Nat) (dur : List (List Nat)) : Prop := ∀ i, i < 2 → ∃ s, dur[i]? = some s ∧ Holds s i (exoN n i)
theorem both_next {n : Nat} {dur : List (List Nat)} (h : Both n dur) (hn : n ≤ 5) (hl : dur.length = 10) : Both (n + 1) (dur.set ((n + 2) % 2) (crownSec (n + 2) ((n + 1) % 2) (n + 1))) := by
  intro i hi
  by_cases hin : i = (n + 2) % 2
  · refine ⟨crownSec (n + 2) ((n + 1) % 2) (n + 1), by rw [hin, List.getElem?_set_self (by omega)], ?_⟩
    unfold exoN
    rw [if_pos hin]
    exact ⟨rfl, by show n + 2 < _; omega, by show (n + 1) % 2 ≤ 1; omega, by show n + 1 < _; omega, by show (n + 2) % 2 = i; omega⟩
  · obtain ⟨s, hs, hh⟩ := h i hi
    refine ⟨s, by rw [List.getElem?_set_ne (by omega)]; exact hs, ?_⟩
    have h1 : i = (n + 1) % 2 := by omega
    unfold exoN at hh ⊢
    rw [if_pos h1] at hh
    rw [if_neg hin, if_neg (by omega)]
    exact hh
theorem broken_of {n i a mask : Nat} {s : List Nat} (h : Holds s i (exoN n i)) (ha : a ≤ 4064) (hm : mask < 4294967296) (h0 : mask ≠ 0) : Broken (flip a mask s 32) := by
  cases ho : exoN n i with
  | none =>
    rw [ho] at h
    have h' : s = noughts := h
    rw [h']
    exact noughts_broken ha hm h0
  | some c =>
    rw [ho] at h
    obtain ⟨h1, _, h3, _, _⟩ := h
    rw [h1]
    exact crown_broken (by omega) ha hm h0
theorem half_next (n : Nat) : nextHalf (n % 2) = (n + 1) % 2 := by
  rcases (show n % 2 = 0 ∨ n % 2 = 1 by omega) with h | h
  · rw [h, show (n + 1) % 2 = 1 by omega]; rfl
  · rw [h, show (n + 1) % 2 = 0 by omega]; rfl
theorem disk_crown {w : World} {gs gc : Nat} {b : DB} {dur : List (List Nat)} {nw bud : Int} (h : Disk w gs b dur [] nw bud) (h1 : gs < gc) (h2 : b.gd < gc) (h3 : b.gl < gc) (h4 : b.pv = .slice none 0 0) (v0 v1 v2 : Value) :
    Disk (((w.setCell ⟨gc, 0, none⟩ v0).setCell ⟨gc, 1, none⟩ v1).setCell ⟨gc, 2, none⟩ v2) gs b dur [] nw bud :=
  h.only (((OnlyAt.setCell w gc 0 v0).trans (OnlyAt.setCell _ gc 1 v1)).trans (OnlyAt.setCell _ gc 2 v2)) (by omega) (by omega) (by omega) (fun g hg => by rw [h4] at hg; cases hg)
def RotsR (W : World) (n gs GD GL gc : Nat) (i : Value) (wr : World) : Prop :=
  ∃ (j cd cl : Nat) (nw : Int) (dur : List (List Nat)), j ≤ n ∧ i = .int .u8 (j : Int) ∧ Disk wr gs ⟨GD, cd, GL, cl, .slice none 0 0⟩ dur [] nw (-1) ∧ dur.length = 10 ∧ Both j dur ∧ 0 ≤ nw ∧ nw ≤ 100 + j ∧
    wr.heap[gc]? = some (.cells #[.int .u32 ((j + 1 : Nat) : Int), .int .u8 ((j % 2 : Nat) : Int), .int .u32 (j : Int)] 24 (0, 0)) ∧ Below W.heap.size W wr
theorem both_first {D : List (List Nat)} (hl : D.length = 10) : Both 0 ((wiped (applied [] D) 2).set 1 (crownSec 1 0 0)) := by
  intro i hi
  rcases (show i = 0 ∨ i = 1 by omega) with rfl | rfl
  · refine ⟨noughts, ?_, rfl⟩
    rw [List.getElem?_set_ne (by decide)]
    show ((wiped (applied [] D) 1).set 1 noughts)[0]? = some noughts
    rw [List.getElem?_set_ne (by decide)]
    show (((wiped (applied [] D) 0)).set 0 noughts)[0]? = some noughts
    rw [List.getElem?_set_self (by rw [wiped_length, applied_length]; omega)]
  · exact ⟨crownSec 1 0 0, by rw [List.getElem?_set_self (by rw [wiped_length, applied_length]; omega)], rfl, by decide, by decide, by decide, by decide⟩
set_option maxRecDepth 100000 in
set_option maxHeartbeats 4000000 in
theorem rots_core (w : World) (st att mask : Nat) (which : Bool) (hst : st < 256) (hat : att < 65536) (hma : mask < 4294967296) :
    Calls Try.prog 7 #[.int .u8 (st : Int), .bool which, .int .u16 (att : Int), .int .u32 (mask : Int)] w fun e w' => e = .returned (.bool true) ∧ Below w.heap.size w w' := by
  obtain ⟨D, hD⟩ : ∃ D, D = List.replicate 10 noughts := ⟨_, rfl⟩
  have hDl : D.length = 10 := by rw [hD, List.length_replicate]
  have HL := Lib.hid hDl
  have HA := hide (awake_true w)
  have HN0 := fun x : World => hide (new_good x 10 (by omega) (by omega))
  rw [← hD] at HN0
  simp only [show ((10 : Nat) : Int) = 10 from rfl] at HN0
  obtain ⟨n, hn⟩ : ∃ n, n = st % 6 := ⟨_, rfl⟩
  have hn5 : n ≤ 5 := by omega
  have hk1 : (st : Int) % 6 = (n : Int) := by omega
  have HK := Lib.hid hk1
  clear hD hDl hn hk1
  go_enter Try.func7, Try.ntmps7
  go_wp2_with (first
    | (go_at_call 8; (with_reducible refine (unhide HA).mono ?_); rintro e w1 ⟨rfl, hw1⟩; go_loud (
       have HN := HN0 w1))
    | (go_at_call 9; (with_reducible refine (unhide HN).mono ?_); rintro e w2 ⟨gs, b, rfl, hD2, hgs, hgd, hgl, hpv, hw2⟩; go_loud (
       have HF := hide (cformat_good hD2 (by rw [HL.out]; decide) (by decide) (by simp))))
    | (go_at_call 16; (with_reducible refine (unhide HF).mono ?_); rintro e w3 ⟨rfl, cd, cl, n2, hD3, hn2, hn3, hO3⟩)
    | (go_at_call 17; (with_reducible refine (first_any _).mono ?_); rintro e w4 ⟨rfl, hb4⟩))
  have s1 := hw1.size
  have s2 := hw2.size
  have q1 := hD3.lt
  have q2 := (World.ownsRow.lt hD3.la b.gl rfl).2
  have q3 := (World.ownsRow.lt hD3.du b.gd rfl).2
  have q4 := hb4.size
  have hb2 := hw1.trans (hw2.mono s1)
  have hb3 := hb2.trans (hO3.below (B := w.heap.size) (fun k hk => by
    rcases hk with (h | h | h | h) | h
    · omega
    · omega
    · omega
    · rw [hpv] at h; cases h
    · have := hb2.size; omega) hb2.size)
  have hb34 := hb3.trans (hb4.mono hb3.size)
  have hbx := hb34.alloc hb34.size (.cells #[.int .u32 1, .int .u8 0, .int .u32 0] 24)
  have hD4 := (hD3.below hb4).below ((Below.refl w4.heap.size w4).alloc (Nat.le_refl _) (.cells #[.int .u32 1, .int .u8 0, .int .u32 0] 24))
  have g4 := Go.heap_alloc_new w4 (.cells #[.int .u32 1, .int .u8 0, .int .u32 0] 24)
  have hlen3 : ((wiped (applied [] D) 2).set 1 (crownSec 1 0 0)).length = 10 := by rw [List.length_set, wiped_length, applied_length]; exact HL.out
  have hboth := both_first HL.out
  obtain ⟨GD, hGD⟩ : ∃ GD, GD = b.gd := ⟨_, rfl⟩
  obtain ⟨GL, hGL⟩ : ∃ GL, GL = b.gl := ⟨_, rfl⟩
  rw [← hGD] at hgd q3 hD4
  rw [← hGL] at hgl q2 hD4
  have HD4 := Lib.hid hD4
  have HG4 := Lib.hid g4
  have HBX := Lib.hid hbx
  have HLN := Lib.hid hlen3
  have HBT := Lib.hid hboth
  have hgc1 : gs < w4.heap.size := by omega
  have hgc2 : GD < w4.heap.size := by omega
  have hgc3 : GL < w4.heap.size := by omega
  clear hGD hGL hD4 g4 hbx hlen3 hboth hb34 hb3 hb2 hD3 hO3 hb4 hw2 hw1 hD2 HF HN HA HN0
  go_loopw [27] (fun i wr => RotsR w n gs GD GL w4.heap.size i wr) (fun i _ => n - (intOf i).toNat)
  case atStart => exact ⟨0, cd, cl, n2, _, by omega, rfl, HD4.out, HLN.out, HBT.out, by omega, by omega, HG4.out, HBX.out⟩
  case round =>
    obtain ⟨j, cdj, clj, nwj, dur, hj, rfl, hDj, hlj, hbj, hn0, hn1, hgj, hBj⟩ := hrel
    obtain ⟨g0, hg0⟩ : ∃ g0, g0 = j + 1 := ⟨_, rfl⟩
    obtain ⟨h0, hh0⟩ : ∃ h0, h0 = j % 2 := ⟨_, rfl⟩
    obtain ⟨s0, hs0⟩ : ∃ s0, s0 = j := ⟨_, rfl⟩
    rw [← hg0, ← hh0] at hgj
    rw [show (Value.int .u32 (j : Int)) = .int .u32 (s0 : Int) by rw [hs0]] at hgj
    have hgc := (Array.getElem?_eq_some_iff.1 hgj).1
    obtain ⟨c0, c1, c2, f0, f1, f2⟩ := crown_facts hgj
    have HDj := Lib.hid hDj
    have HGj := Lib.hid hgj
    have HBj := Lib.hid hBj
    have HBB := Lib.hid hbj
    have HLj := Lib.hid hlj
    by_cases hlt : (j : Int) < (st : Int) % 6
    · have hjn : j < n := by have := HK.out; omega
      have HNx := next_any wr g0 h0 s0 (by omega) (by omega) (by omega)
      have hnh : nextHalf h0 = (j + 1) % 2 := by rw [hh0]; exact half_next j
      obtain ⟨g1, hg1⟩ : ∃ g1, g1 = g0 + 1 := ⟨_, rfl⟩
      obtain ⟨h1, hh1⟩ : ∃ h1, h1 = nextHalf h0 := ⟨_, rfl⟩
      obtain ⟨s1, hs1⟩ : ∃ s1, s1 = s0 + 1 := ⟨_, rfl⟩
      rw [← hg1, ← hh1, ← hs1] at HNx
      rw [← hh1] at hnh
      have HE := Lib.hid (show g1 = j + 2 ∧ h1 = (j + 1) % 2 ∧ s1 = j + 1 from ⟨by omega, hnh, by omega⟩)
      have HNx := hide HNx
      clear hDj hgj hBj hbj hlj hg0 hh0 hs0 hg1 hh1 hs1 hnh
      go_wp2_with (first
        | (go_at_call 18; (with_reducible refine (unhide HNx).mono ?_); rintro e w5 ⟨rfl, hb5⟩; go_loud (
           have g5 := (hb5.block _ hgc).trans HGj.out;
           obtain ⟨d0, d1, d2, e0, e1, e2⟩ := crown_facts g5;
           have hD5 := HDj.out.below hb5;
           have hD6 := disk_crown hD5 hgc1 hgc2 hgc3 rfl (.int .u32 (g1 : Int)) (.int .u8 (h1 : Int)) (.int .u32 (s1 : Int));
           have g6 := set_crown (v0 := .int .u32 (g1 : Int)) (v1 := .int .u8 (h1 : Int)) (v2 := .int .u32 (s1 : Int)) g5;
           have hbb := below_crown (g := w4.heap.size) (v0 := .int .u32 (g1 : Int)) (v1 := .int .u8 (h1 : Int)) (v2 := .int .u32 (s1 : Int)) (HBj.out.trans (hb5.mono HBj.out.size)) (by omega);
           have HW := hide (cwrite_good hD6 g1 h1 s1 (by have := HE.out; omega) (by have := HE.out; omega) (by have := HE.out; omega) (by rw [HLj.out]; decide) (by omega));
           have HG6 := Lib.hid g6;
           have HBBB := Lib.hid hbb;
           clear g5 hD5 hD6 g6 hbb hb5))
        | (go_at_call 19; (with_reducible refine (unhide HW).mono ?_); rintro e w7 ⟨rfl, cdn, cln, hD7, hO7⟩))
      have hE := HE.out
      rw [hE.1, hE.2.1, hE.2.2, show (j + 2) % 2 = j % 2 by omega] at hD7
      have hlen := HLj.out
      have hg7 := (hO7.block _ (Array.getElem?_eq_some_iff.1 HG6.out).1 (by rintro (h | h | h) <;> omega)).trans HG6.out
      have hB7 := HBBB.out.trans (hO7.below (B := w.heap.size) (fun k hk => by rcases hk with h | h | h <;> omega) HBBB.out.size)
      have hnb := both_next HBB.out (by omega) hlen
      rw [show (j + 2) % 2 = j % 2 by omega] at hnb
      rw [hE.1, hE.2.1, hE.2.2] at hg7
      go_round
      case rel => exact ⟨j + 1, cdn, cln, nwj + 1, _, by omega, rfl, hD7, by show (dur.set _ _).length = 10; rw [List.length_set]; exact hlen, hnb, by omega, by omega, hg7, hB7⟩
      case measure => simp [intOf]; omega
    · have hjn : j = n := by have := HK.out; omega
      obtain ⟨A, Av, hA4, hAv, hAc⟩ : ∃ (A : Nat) (Av : Int), A ≤ 4064 ∧ (A : Int) = Av ∧ ((att ≤ 4064 ∧ Av = (att : Int)) ∨ (¬ att ≤ 4064 ∧ Av = 4064)) := by
        by_cases ha : att ≤ 4064
        · exact ⟨att, (att : Int), ha, rfl, Or.inl ⟨ha, rfl⟩⟩
        · exact ⟨4064, 4064, by omega, rfl, Or.inr ⟨ha, rfl⟩⟩
      have hKx : ∃ K : Nat, K < 2 ∧ ((which = false ∧ (g0 : Int) % 2 = (K : Int)) ∨ (which = true ∧ 1 - (g0 : Int) % 2 = (K : Int))) := by
        cases which
        · exact ⟨g0 % 2, by omega, Or.inl ⟨rfl, by omega⟩⟩
        · exact ⟨1 - g0 % 2, by omega, Or.inr ⟨rfl, by omega⟩⟩
      obtain ⟨K, hK2, hKv⟩ := hKx
      obtain ⟨sK, hsK, hhK⟩ := hbj K hK2
      have HR := rot_good hDj K A 32 mask sK hsK (by omega) (by omega) hma
      have HRD : ∃ rg rh rs rk re : Int, (∀ w8, Disk w8 gs ⟨GD, cdj, GL, clj, .slice none 0 0⟩ (dur.set K (flip A mask sK 32)) [] nwj (-1) → Calls Try.prog 14 #[.pointer (some ⟨gs, 0, none⟩)] w8 fun e w' => e = .returned (.tuple #[.agg #[.int .u32 rg, .int .u8 rh, .int .u32 rs], .int .i64 rk, .int .i64 re]) ∧ Below w8.heap.size w8 w') ∧
          ((mask = 0 ∧ rg = (g0 : Int) ∧ rh = (h0 : Int) ∧ rs = (s0 : Int) ∧ rk = 0 ∧ re = 0) ∨ (mask ≠ 0 ∧ rg = 0 ∧ rh = 0 ∧ rs = 0 ∧ rk = (K : Int) ∧ re = 7)) := by
        by_cases hm : mask = 0
        · refine ⟨g0, h0, s0, 0, 0, fun w8 hd => ?_, Or.inl ⟨hm, rfl, rfl, rfl, rfl, rfl⟩⟩
          have hself : dur.set K sK = dur := by obtain ⟨h, rfl⟩ := List.getElem?_eq_some_iff.1 hsK; exact List.set_getElem_self h
          rw [hm, flip_none, hself] at hd
          have h := cread_good hd (by omega) (exoN n) (by rw [← hjn]; exact hbj) _ (exoN_best hn5)
          rw [show g0 = n + 1 by omega, show h0 = n % 2 by rw [hh0, hjn], show s0 = n by omega]
          exact h
        · refine ⟨0, 0, 0, K, 7, fun w8 hd => ?_, Or.inr ⟨hm, rfl, rfl, rfl, rfl, rfl⟩⟩
          exact cread_bad hd (by rw [List.length_set]; omega) (exoN j) K hK2 (fun i hi => by
            obtain ⟨s, h1, h2⟩ := hbj i (by omega)
            exact ⟨s, by show (dur.set K _)[i]? = some s; rw [List.getElem?_set_ne (by omega)]; exact h1, h2⟩) (flip A mask sK 32) (by show (dur.set K _)[K]? = _; rw [List.getElem?_set_self (by omega)]) (broken_of hhK hA4 hma hm)
      obtain ⟨rg, rh, rs, rk, re, HRD, hcs⟩ := HRD
      have HRD := Lib.hid HRD
      have hE := Lib.hid (show g0 = n + 1 ∧ h0 = n % 2 ∧ s0 = n from ⟨by omega, by rw [hh0, hjn], by omega⟩)
      clear hDj hgj hBj hbj hlj hg0 hh0 hs0 hA4 hsK hhK
      rw [hAv] at HR
      simp only [show ((32 : Nat) : Int) = 32 from rfl] at HR
      clear hAv
      rcases hcs with ⟨rfl, rfl, rfl, rfl, rfl, rfl⟩ | ⟨hm, rfl, rfl, rfl, rfl, rfl⟩
      all_goals (try simp only [show ((0 : Nat) : Int) = 0 from rfl] at HR)
      all_goals have HR := hide HR
      all_goals rcases hAc with ⟨hale, rfl⟩ | ⟨hale, rfl⟩
      all_goals rcases hKv with ⟨rfl, hKv⟩ | ⟨rfl, hKv⟩
      all_goals go_wp2_with (first
         | (go_at_call 28; (with_reducible refine (unhide HR).mono ?_); rintro e w8 ⟨rfl, hD8, hO8⟩; go_loud (
            have g8 := (hO8.block _ hgc (by rintro (h | h); omega; cases h)).trans HGj.out;
            have hB8 := HBj.out.trans (hO8.below (B := w.heap.size) (fun k hk => by
              rcases hk with h | h
              · subst h; omega
              · cases h) HBj.out.size);
            have HRd := hide (HRD.out w8 hD8);
            have HG8 := Lib.hid g8;
            have HB8 := Lib.hid hB8;
            have hgc8 := (Array.getElem?_eq_some_iff.1 g8).1;
            clear g8 hB8 hD8 hO8))
         | (go_at_call 14; (with_reducible refine (unhide HRd).mono ?_); rintro e w9 ⟨rfl, hb9⟩; go_loud (
            have g9 := (hb9.block _ hgc8).trans HG8.out;
            have hgc9 := (Array.getElem?_eq_some_iff.1 g9).1;
            have F9 := fun o => crown_facts ((((Below.refl w9.heap.size w9).alloc (Nat.le_refl _) o).block _ hgc9).trans g9);
            have d0 := fun o => (F9 o).1;
            have d1 := fun o => (F9 o).2.1;
            have d2 := fun o => (F9 o).2.2.1;
            clear F9;
            have hB9 := HB8.out.trans (hb9.mono HB8.out.size);
            have HB9 := Lib.hid hB9;
            clear hB9 g9)))
      all_goals exact ⟨rfl, _, by simp [results, Try.func7] <;> rfl, rfl, HB9.out.alloc HB9.out.size _⟩
theorem crownRots_walk (a0 : Int) (a1 : Bool) (a2 : Int) (a3 : Int) (w0 : (Lit.int .u8 a0).wf = true) (w2 : (Lit.int .u16 a2).wf = true) (w3 : (Lit.int .u32 a3).wf = true) (w : World) :
    Calls Try.prog 7 #[.int .u8 a0, .bool a1, .int .u16 a2, .int .u32 a3] w fun e w' => e = .returned (.bool true) ∧ Below w.heap.size w w' := by
  have b0 := bounds_u8 w0
  have b2 := bounds_u16 w2
  have b3 := bounds_u32 w3
  obtain ⟨m0, rfl⟩ := Int.eq_ofNat_of_zero_le b0.1
  obtain ⟨m2, rfl⟩ := Int.eq_ofNat_of_zero_le b2.1
  obtain ⟨m3, rfl⟩ := Int.eq_ofNat_of_zero_le b3.1
  exact rots_core w m0 m2 m3 a1 (by omega) (by omega) (by omega)
end Go.Proofs.Ytckekmhbfdeaoaa
