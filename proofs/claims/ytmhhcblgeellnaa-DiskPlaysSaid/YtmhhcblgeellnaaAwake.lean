/- Contract: the document's example of the disk holds: awake answers true. -/
import Derived.Test.YtmhhcblgeellnaaCrash
import Derived.Test.YtmhhcblgeellnaaBlank
namespace Go.Proofs.Ytmhhcblgeellnaa
open Go.RowKit
set_option linter.unusedSimpArgs false

/-- A text of one's own stays where only other blocks turn. -/
theorem Mine.only {w w' : World} {base m c : Nat} {A : Option Addr} {l : List Nat} {p : Nat → Prop} (h : Mine w base A m c l) (ho : OnlyAt w w' p) (hp : ∀ k, base ≤ k → k < w.heap.size → ¬ p k) : Mine w' base A m c l := by
  refine ⟨?_, h.len, h.small⟩
  obtain ⟨hl, hv⟩ := id h.own
  refine ⟨hl, ?_⟩
  rcases hv with hv | ⟨g, cap, cur, h0, h1, h2, h3⟩
  · exact .inl hv
  · refine .inr ⟨g, cap, cur, h0, h1, ?_, h3⟩
    have hlt : g < w.heap.size := (Array.getElem?_eq_some_iff.1 h2).1
    rw [ho.block g hlt (hp g h1 hlt)]
    exact h2
theorem full_sec {l : List Nat} (h : ∀ b ∈ l, b < 256) : IsSec (full l) := ⟨full_length l, full_small h⟩
theorem one_not : ¬ full [1] = noughts := fun h => by
  have h1 := congrArg List.head? h
  exact absurd h1 (by decide)
theorem less_free : less (-1) = -1 := rfl
theorem flags_block {w : World} {g n c : Nat} {t : TypeId} {fr : Nat × Nat} {ks : List Bool} (hb : w.heap[g]? = some (.cells (ks.map Value.bool).toArray t fr)) (hg : g < w.heap.size) (hn : n = ks.length) : Flags w (.slice (some ⟨g, 0, none⟩) n c) ks := by
  subst hn
  have h := lies_block (B := w.heap.size) hb hg
  exact ⟨_, c, rfl, h⟩

theorem awake_far {w1 : World} {gs : Nat} {b : DB} {D : List (List Nat)} {o : Obj} (h : Disk w1 gs b D [] 0 (-1)) (hpv : b.pv = .slice none 0 0) (k : Nat) (k1 : (w1.alloc o).heap.size ≤ k) (k3 : k = gs ∨ k = b.gl ∨ some k = b.pv.ownBlock) : False := by
  have e0 : (w1.alloc o).heap.size = w1.heap.size + 1 := by simp
  have e1 := h.lt
  have e2 : b.gl < w1.heap.size := (World.ownsRow.lt h.la b.gl rfl).2
  rcases k3 with h1 | h1 | h1
  · omega
  · omega
  · rw [hpv] at h1; cases h1
theorem awake_a {p : List Nat} {D : List (List Nat)} (h : ∀ i, i < 8 → D[i]? = some noughts) : (applied [] (kept [false, true] [(3, p), (5, p)] D))[3]? = some noughts := by
  show (D.set 5 p)[3]? = _
  rw [List.getElem?_set_ne (by decide)]
  exact h 3 (by decide)
theorem awake_b {p : List Nat} {D : List (List Nat)} (h : D.length = 8) : (applied [] (kept [false, true] [(3, p), (5, p)] D))[5]? = some p := by
  show (D.set 5 p)[5]? = _
  rw [List.getElem?_set_self (by omega)]
theorem awake_c {p : List Nat} {D : List (List Nat)} (h : D.length = 8) : (applied [(3, p), (5, p)] D)[3]? = some p := by
  show ((D.set 3 p).set 5 p)[3]? = _
  rw [List.getElem?_set_ne (by decide), List.getElem?_set_self (by omega)]
set_option maxRecDepth 100000 in
set_option maxHeartbeats 2000000 in
theorem awake_true (w : World) : Calls Try.prog 9 #[] w fun e w' => e = .returned (.bool true) ∧ Below w.heap.size w w' := by
  obtain ⟨p, hp⟩ : ∃ p, p = full [1] := ⟨_, rfl⟩
  have hsec : IsSec p := by rw [hp]; exact full_sec (by simp)
  have hnot : ¬ p = noughts := by rw [hp]; exact one_not
  obtain ⟨D, hD⟩ : ∃ D, D = List.replicate 8 noughts := ⟨_, rfl⟩
  have hDl : D.length = 8 := by rw [hD, List.length_replicate]
  have hDn : ∀ i, i < 8 → D[i]? = some noughts := fun i hi => by rw [hD, List.getElem?_replicate, if_pos hi]
  have HN := hide (new_good w 8 (by omega) (by omega))
  rw [← hD, show ((8 : Nat) : Int) = 8 from rfl] at HN
  have HP := Lib.hid hp
  have HE := Lib.hid hD
  have HS := Lib.hid hsec
  have HNot := Lib.hid hnot
  have HL := Lib.hid hDl
  have HDn := Lib.hid hDn
  clear hp hD hsec hnot hDl hDn
  go_enter Try.func9, Try.ntmps9
  go_wp2_with (first
    | (go_at_call 10; (with_reducible refine (unhide HN).mono ?_); rintro e w1 ⟨gs, b, rfl, hD1, hgs, hgd, hgl, hpv, hb1⟩;
       have HF := hide (full_any (w1.alloc (.cells #[.int .u8 1] 5)) (.slice (some ⟨w1.heap.size, 0, none⟩) 1 1) [1] (bytes_block (Go.heap_alloc_new w1 _) (by simp) rfl (Nat.le_refl _) (by simp) (by unfold maxLen; simp)));
       rw [← HP.out] at HF)
    | (go_at_call 17; (with_reducible refine (unhide HF).mono ?_); rintro e w2 ⟨A, n, c, rfl, hM, hb2⟩;
       obtain rfl : n = 512 := hM.len.trans HS.out.1;
       have hbel2 := (Below.refl _ _).alloc (Nat.le_refl _) (.cells #[.int .u8 1] 5) |>.trans (hb2.mono (by simp));
       have hD2 := hD1.below hbel2;
       have HW1 := hide (write_good hD2 (by decide) (by decide) (by decide) (by decide) 3 (by rw [HL.out]; decide) A c p hM.bytes HS.out);
       rw [show ((3 : Nat) : Int) = 3 from rfl] at HW1)
    | (go_at_call 18; (with_reducible refine (unhide HW1).mono ?_); rintro e w3 ⟨rfl, b3, hD3, h31, h32, h33, h34, h35, h36⟩; go_loud (
       have hD3' : Disk w3 gs b3 D [(3, p)] 1 (-1) := hD3;
       have hM3 := hM.only h36 (fun k k1 k2 k3 => awake_far hD1 hpv k k1 k3);
       have HW2 := hide (write_good hD3' (by decide) (by decide) (by decide) (by simp) 5 (by rw [HL.out]; decide) A c p hM3.bytes HS.out);
       rw [show ((5 : Nat) : Int) = 5 from rfl] at HW2))
    | (go_at_call 18; (with_reducible refine (unhide HW2).mono ?_); rintro e w4 ⟨rfl, b4, hD4, h41, h42, h43, h44, h45, h46⟩; go_loud (
       have hD4' : Disk w4 gs b4 D [(3, p), (5, p)] 2 (-1) := hD4;
       have HC := hide (crash_any (hD4'.below ((Below.refl _ _).alloc (Nat.le_refl _) (.cells #[.bool false, .bool true] 4))) (.slice (some ⟨w4.heap.size, 0, none⟩) 2 2) [false, true] (flags_block (Go.heap_alloc_new w4 _) (by simp) rfl))))
    | (go_at_call 20; (with_reducible refine (unhide HC).mono ?_); rintro e w5 ⟨gs5, b5, rfl, hD5, h51, h52, h53, h54, h55⟩; go_loud (
       have hb5 := (Below.refl w4.heap.size w4).alloc (Nat.le_refl _) (.cells #[.bool false, .bool true] 4) |>.trans (h55.mono (by simp));
       have hB1 := hide (blank_any hD5 3 (by rw [kept_length, HL.out]; decide) noughts (awake_a HDn.out));
       have hB2 := hide (blank_any hD5 5 (by rw [kept_length, HL.out]; decide) p (awake_b HL.out));
       have hB3 := hide (blank_any (hD4'.below hb5) 3 (by rw [HL.out]; decide) p (awake_c HL.out));
       have dp : decide (p = noughts) = false := decide_eq_false HNot.out;
       rw [dp, show ((5 : Nat) : Int) = 5 from rfl] at hB2;
       rw [dp, show ((3 : Nat) : Int) = 3 from rfl] at hB3;
       rw [show ((3 : Nat) : Int) = 3 from rfl, decide_eq_true (rfl : noughts = noughts)] at hB1))
    | (go_at_call 25; (with_reducible refine (unhide hB1).mono ?_); rintro e w' ⟨rfl, rfl⟩)
    | (go_at_call 25; (with_reducible refine (unhide hB2).mono ?_); rintro e w' ⟨rfl, rfl⟩)
    | (go_at_call 25; (with_reducible refine (unhide hB3).mono ?_); rintro e w' ⟨rfl, rfl⟩))
  go_ret
  have e3 : b.gl < w1.heap.size := (World.ownsRow.lt hD1.la b.gl rfl).2
  have hw2 := hb1.trans (hbel2.mono hb1.size)
  have hw3 := hw2.trans (h36.below (B := w.heap.size) (fun k hk => by
    rcases hk with rfl | rfl | hk
    · exact hgs
    · exact hgl
    · rw [hpv] at hk; cases hk) hw2.size)
  have hw4 := hw3.trans (h46.below (B := w.heap.size) (fun k hk => by
    rcases hk with rfl | rfl | hk
    · exact hgs
    · rw [h33]; exact hgl
    · rcases h35 with h | ⟨g, h1, h2⟩
      · rw [h, hpv] at hk; cases hk
      · rw [h1] at hk; cases hk; exact Nat.le_trans hw2.size h2) hw3.size)
  exact ⟨rfl, hw4.trans (hb5.mono hw4.size)⟩
end Go.Proofs.Ytmhhcblgeellnaa
