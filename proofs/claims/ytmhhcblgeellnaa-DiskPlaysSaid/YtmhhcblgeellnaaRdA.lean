/- Contracts: what the reference's New, Read and turned answer. (Its drawn regions are typed by program: tools/gendisk.py.) -/
import Derived.Test.YtmhhcblgeellnaaRd
import Derived.Test.YtmhhcblgeellnaaCopy
namespace Go.Proofs.Ytmhhcblgeellnaa
open Go.RowKit
set_option linter.unusedSimpArgs false
set_option linter.unusedVariables false

theorem held_late {ss : List Nat} {C : Nat → World → Prop} {listed : Array Bool} {x : World} (h : (ss.all fun s => listed.getD s true) = true) : Held ss C listed x := fun s hs hl => by
  have := List.all_eq_true.1 h s hs
  rw [hl] at this
  cases this
theorem sec_made (w : World) : Mine (w.alloc (.cells (byt noughts).toArray 5)) w.heap.size (some ⟨w.heap.size, 0, none⟩) 512 512 noughts :=
  ⟨⟨by rw [byt_length, noughts_length], .inr ⟨_, 512, _, rfl, Nat.le_refl _, Go.heap_alloc_new w _, by omega, by unfold maxLen; omega, by simp [byt_length, noughts_length], by
    rw [show 512 * 1 = (byt noughts).length by rw [byt_length, noughts_length]]
    exact List.take_length⟩⟩, noughts_length.symm, noughts_small⟩
/-- A block of the reference's disk is none of bytes, nor one of a row. -/
theorem not_same {w : World} {g : Nat} {c d : Array Value} {t t' : TypeId} {f f' : Nat × Nat} (h : w.heap[g]? = some (.cells c t f)) (h' : w.heap[g]? = some (.cells d t' f')) (hne : t ≠ t') : False := by
  rw [h] at h'
  injection h' with h'
  injection h' with _ h2
  exact hne h2
theorem Secs.stset {x : World} {base gx i : Nat} {v u : Value} {ls : List (List Nat)} {vs : List Value} {c : Array Value} {t : TypeId} {f : Nat × Nat} (h : Secs x base v ls vs) (hx : x.heap[gx]? = some (.cells c t f)) (h1 : t ≠ 5) (h2 : t ≠ 30) : Secs (x.setCell ⟨gx, i, none⟩ u) base v ls vs :=
  h.only (OnlyAt.setCell x gx i u) (fun g cur hg e => not_same (e ▸ hx) hg h1) (fun g hg e => by
    rcases h.row.2 with ⟨h3, _⟩ | ⟨g2, cap, cur, h3, _, h4, _⟩
    · rw [h3] at hg; cases hg
    · rw [h3] at hg
      injection hg with hg
      have : g2 = gx := by rw [← e]; exact hg
      subst this
      exact not_same hx h4 h2)
/-- One sector more behind a row. -/
theorem Secs.snoc {w w5 : World} {base g cap c n : Nat} {v : Value} {ls : List (List Nat)} {vs : List Value} {A : Option Addr} {l : List Nat} {p : Nat → Prop} (h : Secs w base v ls vs) (hn : n = ls.length)
    (hown : w5.ownsRow base 30 1 (.slice (some ⟨g, 0, none⟩) (n + 1) cap) (n + 1) (vs ++ [.slice A 512 c])) (ho : OnlyAt w w5 p) (hp : ∀ k cur, w.heap[k]? = some (.cells cur 5 (0, 0)) → ¬ p k) (hm : Mine w5 base A 512 c l) :
    Secs w5 base (.slice (some ⟨g, 0, none⟩) (n + 1) cap) (ls ++ [l]) (vs ++ [.slice A 512 c]) := by
  subst hn
  refine ⟨by rw [List.length_append]; exact hown, fun i u x h1 h2 => ?_⟩
  have hl := h.len
  rcases Nat.lt_or_ge i ls.length with hi | hi
  · rw [List.getElem?_append_left (by omega)] at h1 h2
    obtain ⟨A1, c1, e, hm1⟩ := h.each i u x h1 h2
    exact ⟨A1, c1, e, mine_only hm1 ho hp⟩
  · rw [List.getElem?_append_right (by omega)] at h1 h2
    rw [show i - vs.length = i - ls.length by omega] at h1
    rcases Nat.eq_zero_or_pos (i - ls.length) with h0 | h0
    · rw [h0] at h1 h2
      simp at h1 h2
      subst h1 h2
      exact ⟨A, c, rfl, hm⟩
    · rw [List.getElem?_eq_none (by simp; omega)] at h1; cases h1
/-- At the head of each round of New: so many sectors of noughts. -/
def NewR (w : World) (n : Nat) (i : Value) (x : World) : Prop :=
  ∃ (k : Nat) (sv : Value) (ss : List Value), k ≤ n ∧ i = .int .i64 (k : Int) ∧ x.heap[w.heap.size]? = some (.cells #[sv, .slice none 0 0, .slice none 0 0, .int .i64 (-1)] 63 (0, 0)) ∧ Secs x w.heap.size sv (List.replicate k noughts) ss ∧ Below w.heap.size w x
theorem newR_step {w wr w5 : World} {n k gg cap : Nat} {sv : Value} {ss : List Value} (hk : k < n) (hst : wr.heap[w.heap.size]? = some (.cells #[sv, .slice none 0 0, .slice none 0 0, .int .i64 (-1)] 63 (0, 0))) (hs : Secs wr w.heap.size sv (List.replicate k noughts) ss) (hb : Below w.heap.size w wr)
    (hown : w5.ownsRow w.heap.size 30 1 (.slice (some ⟨gg, 0, none⟩) (k + 1) cap) (k + 1) (ss ++ [.slice (some ⟨wr.heap.size, 0, none⟩) 512 512])) (ho : OnlyAt wr w5 (fun k => some k = sv.ownBlock))
    (hM : Mine w5 w.heap.size (some ⟨wr.heap.size, 0, none⟩) 512 512 noughts) :
    NewR w n (.int .i64 ((k : Int) + 1)) (w5.setCell ⟨w.heap.size, 0, none⟩ (.slice (some ⟨gg, 0, none⟩) (k + 1) cap)) := by
  have hrow : ∀ g, sv.ownBlock = some g → ∃ cur, wr.heap[g]? = some (.cells cur 30 (0, 0)) := fun g hg => by
    rcases hs.row.2 with ⟨h3, _⟩ | ⟨g2, cap, cur, h3, _, h4, _⟩
    · rw [h3] at hg; cases hg
    · rw [h3] at hg
      injection hg with hg
      subst hg
      exact ⟨cur, h4⟩
  have h1 : w5.heap[w.heap.size]? = some (.cells #[sv, .slice none 0 0, .slice none 0 0, .int .i64 (-1)] 63 (0, 0)) := (ho.block _ (Array.getElem?_eq_some_iff.1 hst).1 (fun e => by
    obtain ⟨cur, h4⟩ := hrow _ e.symm
    exact not_same hst h4 (by decide))).trans hst
  have hge : ∀ g, sv.ownBlock = some g → w.heap.size ≤ g := fun g hg => (World.ownsRow.lt hs.row g hg).1
  have hS : Secs w5 w.heap.size (.slice (some ⟨gg, 0, none⟩) (k + 1) cap) (List.replicate k noughts ++ [noughts]) (ss ++ [.slice (some ⟨wr.heap.size, 0, none⟩) 512 512]) :=
    hs.snoc (by rw [List.length_replicate]) hown ho (fun g cur hg e => by
      obtain ⟨c2, h4⟩ := hrow _ e.symm
      exact not_same hg h4 (by decide)) hM
  refine ⟨k + 1, _, ss ++ [.slice (some ⟨wr.heap.size, 0, none⟩) 512 512], by omega, by go_num, heap_setCell_same _ _ 0 _ _ _ h1, ?_, ((hb.trans (ho.below (B := w.heap.size) (fun g hg => hge g hg.symm) hb.size)).setCell (p := ⟨w.heap.size, 0, none⟩) (Nat.le_refl _) _)⟩
  rw [List.replicate_succ']
  exact hS.stset h1 (by decide) (by decide)
set_option maxRecDepth 100000 in
set_option maxHeartbeats 4000000 in
theorem newref_any (w : World) (n : Nat) (hn : n ≤ 6) :
    Calls Try.prog 11 #[.int .i64 (n : Int)] w fun e w' => ∃ sv ss, e = .returned (.pointer (some ⟨w.heap.size, 0, none⟩)) ∧ RD w' w.heap.size w.heap.size sv (.slice none 0 0) (.slice none 0 0) ss [] (List.replicate n noughts) [] (-1) ∧ Below w.heap.size w w' := by
  obtain ⟨i0, hi0, hz0, hz1, hz2⟩ := info_parts infoRow
  have HI := Lib.hid hi0
  have H0 := Lib.hid hz0
  have H1 := Lib.hid hz1
  have H2 := Lib.hid hz2
  clear hi0 hz0 hz1 hz2
  have hmk : ∀ w : World, (Instr.makeSlice 30 (.int .i64 512) (.int .i64 512)).run Try.prog w = .ok (.slice (some ⟨w.heap.size, 0, none⟩) 512 512) (w.alloc (.cells (byt noughts).toArray 5)) := run_make512
  have HZ : Hid (∀ w : World, Mine (w.alloc (.cells (byt noughts).toArray 5)) w.heap.size (some ⟨w.heap.size, 0, none⟩) 512 512 noughts) := sec_made
  obtain ⟨Z, hZ⟩ : ∃ Z, Z = byt noughts := ⟨_, rfl⟩
  rw [← hZ] at hmk HZ
  clear hZ
  go_enter Try.func11, Try.ntmps11
  go_wp2
  go_loopw [4] (fun i x => NewR w n i x) (fun i _ => n - (intOf i).toNat)
  case atStart => exact ⟨0, .slice none 0 0, [], Nat.zero_le _, rfl, Go.heap_alloc_new w _, ⟨⟨rfl, .inl ⟨rfl, rfl⟩⟩, by simp⟩, (Below.refl _ _).alloc (Nat.le_refl _) _⟩
  case round =>
    obtain ⟨k, sv, ss, hk, rfl, hst, hS, hb⟩ := hrel
    by_cases hlt : k < n
    · have c0 : wr.cell? ⟨w.heap.size, 0, none⟩ = some sv := by rw [cell_of_row wr _ 0 _ _ _ hst]; rfl
      have hcx : ∀ x, OnlyAt wr x (fun k => some k = sv.ownBlock) → x.cell? ⟨w.heap.size, 0, none⟩ = some sv ∧ x.frozen? ⟨w.heap.size, 0, none⟩ = false := fun x hx => by
        have h1 : x.heap[w.heap.size]? = some (.cells #[sv, .slice none 0 0, .slice none 0 0, .int .i64 (-1)] 63 (0, 0)) := (hx.block _ (Array.getElem?_eq_some_iff.1 hst).1 (fun e => by
          rcases hS.row.2 with ⟨h3, _⟩ | ⟨g2, cap, cur, h3, _, h4, _⟩
          · rw [h3] at e; cases e
          · rw [h3] at e
            injection e with e
            subst e
            exact not_same hst h4 (by decide))).trans hst
        exact ⟨by rw [cell_of_row x _ 0 _ _ _ h1]; rfl, frozen_of_row x _ 0 _ _ h1⟩
      have HCX := Lib.hid hcx
      have hrow : wr.ownsRow w.heap.size 30 1 sv k ss := by have := hS.row; rw [List.length_replicate] at this; exact this
      have HROW := Lib.hid hrow
      have HST := Lib.hid hst
      have HS := Lib.hid hS
      have HB := Lib.hid hb
      clear hcx hrow hst hS hb
      go_wp2
      refine wp_region_noPanic ?_
      refine region_till [10] (fun _ x => x.cell? ⟨w.heap.size, 0, none⟩ = some sv) (by kernel_rfl) (fun _ => c0) (fun hHeld => ?_)
      refine till_take 10 (i := 0) (v := ?_) (some 12) rfl rfl (by kernel_rfl) (by kernel_rfl) (by kernel_rfl) (by kernel_rfl) (fun _ _ _ h => h) (Or.inl ⟨by rfl, ?_⟩) (by assumption) (fun hHeld2 => ?_)
      rotate_left
      · intro w hSw
        have hSw2 : w.cell? _ = _ := hSw
        first | (go_simp; done) | (go_simp; with_reducible rfl)
      clear hHeld
      have hHeld := hHeld2
      clear hHeld2
      try simp only [Act.put, List.setIfInBounds_toArray, List.set_cons_zero, List.set_cons_succ]
      refine till_take 10 (i := 1) (v := ?_) (some 13) rfl rfl (by kernel_rfl) (by kernel_rfl) (by kernel_rfl) (by kernel_rfl) (fun _ _ _ h => h) (Or.inl ⟨by rfl, ?_⟩) (by assumption) (fun hHeld2 => ?_)
      rotate_left
      · intro w hSw
        have hSw2 : w.cell? _ = _ := hSw
        first | (go_simp; done) | (go_simp; with_reducible rfl)
      clear hHeld
      have hHeld := hHeld2
      clear hHeld2
      try simp only [Act.put, List.setIfInBounds_toArray, List.set_cons_zero, List.set_cons_succ]
      refine till_take 10 (i := 2) (v := ?_) (some 14) rfl rfl (by kernel_rfl) (by kernel_rfl) (by kernel_rfl) (by kernel_rfl) (fun _ _ _ h => h) (Or.inl ⟨by rfl, ?_⟩) (by assumption) (fun hHeld2 => ?_)
      rotate_left
      · intro w hSw
        have hSw2 : w.cell? _ = _ := hSw
        first | (go_simp; done) | (go_simp; with_reducible rfl)
      clear hHeld
      have hHeld := hHeld2
      clear hHeld2
      try simp only [Act.put, List.setIfInBounds_toArray, List.set_cons_zero, List.set_cons_succ]
      refine till_take 10 (i := 3) (v := ?_) (some 15) rfl rfl (by kernel_rfl) (by kernel_rfl) (by kernel_rfl) (by kernel_rfl) (fun _ _ _ h => h) (Or.inl ⟨by rfl, ?_⟩) (by assumption) (fun hHeld2 => ?_)
      rotate_left
      · intro w hSw
        have hSw2 : w.cell? _ = _ := hSw
        first | (go_simp; done) | (go_simp; with_reducible rfl)
      clear hHeld
      have hHeld := hHeld2
      clear hHeld2
      try simp only [Act.put, List.setIfInBounds_toArray, List.set_cons_zero, List.set_cons_succ]
      refine till_take 10 (i := 4) (v := ?_) (some 16) rfl rfl (by kernel_rfl) (by kernel_rfl) (by kernel_rfl) (by kernel_rfl) (fun _ _ _ h => h) (Or.inl ⟨by rfl, ?_⟩) (by assumption) (fun hHeld2 => ?_)
      rotate_left
      · intro w hSw
        have hSw2 : w.cell? _ = _ := hSw
        first | (go_simp; done) | (go_simp; with_reducible rfl)
      clear hHeld
      have hHeld := hHeld2
      clear hHeld2
      try simp only [Act.put, List.setIfInBounds_toArray, List.set_cons_zero, List.set_cons_succ]
      refine till_ready (rs := [5]) (by kernel_rfl) (by simp) ?_
      refine (AllTill.cons rfl (fun K hK => ?_) AllTill.nil)
      go_simp
      refine hK.out _ _ ?_ (fun hHeld2 => ?_)
      · exact fun _ _ _ => (HCX.out _ (OnlyAt.of_below ((Below.refl _ _).drew.alloc (Nat.le_refl _) _) _)).1
      clear hK K
      clear hHeld
      have hHeld := hHeld2
      clear hHeld2
      try simp only [Act.put, List.setIfInBounds_toArray, List.set_cons_zero, List.set_cons_succ]
      refine till_ready (rs := [6]) (by kernel_rfl) (by simp) ?_
      refine (AllTill.cons rfl (fun K hK => ?_) AllTill.nil)
      go_simp
      refine hK.out _ _ ?_ (fun hHeld2 => ?_)
      · exact fun _ _ _ => (HCX.out _ (OnlyAt.of_below (((Below.refl _ _).alloc (Nat.le_refl _) _).alloc (by simp) _).drew _)).1
      clear hK K
      clear hHeld
      have hHeld := hHeld2
      clear hHeld2
      try simp only [Act.put, List.setIfInBounds_toArray, List.set_cons_zero, List.set_cons_succ]
      refine till_ready (rs := [7]) (by kernel_rfl) (by simp) ?_
      refine (AllTill.cons rfl (fun K hK => ?_) AllTill.nil)
      refine step_append_lies _ (by rfl) _ _ _ (by rfl) w.heap.size 30 i0 _ 1 24 Try.underlying58 HI.out H0.out H1.out H2.out (by rfl) (by omega) sv k ss (by rfl) (ownsRow_below HROW.out (((Below.refl _ _).alloc (Nat.le_refl _) _).alloc (by simp) _).drew) _ 1 1 [.slice (some ⟨wr.heap.size, 0, none⟩) 512 512] rfl (by rfl) (fun j u hj => cell_of_new_drew (by simp) hj) (by simp; rfl) (by omega) (by unfold maxLen; omega) (by omega) (by have := HB.out.size; simp; omega) _ rfl ?_
      intro gg cap w5 hown5 hg5 hat5 hlt5
      have ho5 : OnlyAt wr w5 (fun k => some k = sv.ownBlock) := (OnlyAt.of_below (((Below.refl _ _).alloc (Nat.le_refl _) _).alloc (by simp) _).drew _).trans (OnlyAt.grown hg5)
      obtain ⟨hc5, hf5⟩ := HCX.out _ ho5
      have HOWN5 := Lib.hid hown5
      have HO5 := Lib.hid ho5
      have HG5 := Lib.hid hg5
      clear hown5 ho5 hg5 hat5
      refine hK.out _ _ ?_ (fun hHeld2 => ?_)
      · exact fun _ _ _ => hc5
      clear hK K
      clear hHeld
      have hHeld := hHeld2
      clear hHeld2
      try simp only [Act.put, List.setIfInBounds_toArray, List.set_cons_zero, List.set_cons_succ]
      refine till_take 10 (i := 8) (v := ?_) (some 20) rfl rfl (by kernel_rfl) (by kernel_rfl) (by kernel_rfl) (by kernel_rfl) (fun _ _ _ h => h) (Or.inl ⟨by rfl, ?_⟩) (by assumption) (fun hHeld2 => ?_)
      rotate_left
      · intro w hSw
        have hSw2 : w.cell? _ = _ := hSw
        first | (go_simp; done) | (go_simp; with_reducible rfl)
      clear hHeld
      have hHeld := hHeld2
      clear hHeld2
      try simp only [Act.put, List.setIfInBounds_toArray, List.set_cons_zero, List.set_cons_succ]
      refine till_take 10 (i := 9) (v := ?_) (some 21) rfl rfl (by kernel_rfl) (by kernel_rfl) (by kernel_rfl) (by kernel_rfl) (fun _ _ _ h => h) (Or.inl ⟨by rfl, ?_⟩) (by assumption) (fun hHeld2 => ?_)
      rotate_left
      · intro w hSw
        have hSw2 : w.cell? _ = _ := hSw
        first | (go_simp; done) | (go_simp; with_reducible rfl)
      clear hHeld
      have hHeld := hHeld2
      clear hHeld2
      try simp only [Act.put, List.setIfInBounds_toArray, List.set_cons_zero, List.set_cons_succ]
      refine till_ready (rs := [10]) (by kernel_rfl) (by simp) ?_
      refine (AllTill.cons rfl (fun K hK => ?_) AllTill.nil)
      go_simp
      refine hK.out _ _ ?_ (fun hHeld2 => ?_)
      · exact held_late rfl
      clear hK K
      clear hHeld
      have hHeld := hHeld2
      clear hHeld2
      try simp only [Act.put, List.setIfInBounds_toArray, List.set_cons_zero, List.set_cons_succ]
      refine till_done (by kernel_rfl) ?_ _
      refine NoPanic.normal ?_
      go_wp2
      go_roundw
      case rel => exact newR_step hlt HST.out HS.out HB.out HOWN5.out HO5.out (mine_only ((HZ.out _).lower (show w.heap.size ≤ _ from HB.out.size) |>.below ((Below.refl _ _).alloc (Nat.le_refl _) _).drew) (OnlyAt.grown HG5.out) (fun g cur hg e => by
        rcases HROW.out.2 with ⟨h3, _⟩ | ⟨g2, cap, cur2, h3, _, h4, _⟩
        · rw [h3] at e; cases e
        · rw [h3] at e
          injection e with e
          subst e
          have h5 := (((Below.refl _ _).alloc (Nat.le_refl _) (.cells Z.toArray 5)).alloc (by simp) (.cells #[.slice (some ⟨wr.heap.size, 0, none⟩) 512 512] 30) : Below wr.heap.size wr _).block _ (Array.getElem?_eq_some_iff.1 h4).1
          exact not_same (h5.trans h4) hg (by decide)))
      case measure => simp [intOf]; omega
    · obtain rfl : k = n := by omega
      go_wp2
      go_ret
      exact ⟨sv, ss, rfl, ⟨hst, Nat.le_refl _, hS, ⟨rfl, .inl ⟨rfl, rfl⟩⟩, ⟨⟨rfl, .inl ⟨rfl, rfl⟩⟩, by simp⟩, by simp [Value.ownBlock]⟩, hb⟩
end Go.Proofs.Ytmhhcblgeellnaa
