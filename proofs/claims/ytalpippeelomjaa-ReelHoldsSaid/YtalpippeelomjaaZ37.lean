/- LArgs, LSame: joined by program (tools/merge.py). -/
import Derived.Test.YtalpippeelomjaaZ36
import Derived.Deep.QuietTactic
import Derived.BigQuiet
namespace Go.Proofs.Ytalpippeelomjaa
open Go.RowKit Go.Shelf
set_option linter.unusedSimpArgs false
set_option linter.unusedVariables false
theorem append_long (w : World) (gr : Nat) (A : Option Addr) (n c : Nat) (hn : 65536 < n) : Calls Try.prog 20 #[.pointer (some ⟨gr, 0, none⟩), .slice A n c] w fun e w' => e = .returned (.int .i64 4) ∧ w = w' := by
  have h1 : (n : Int) > 65536 := by omega
  go_enter Try.func20, Try.ntmps20
  go_wp2
  go_ret
  exact ⟨rfl, rfl⟩
theorem append_full {w : World} {base gs gr gen ser first secs N : Nat} {recs dur : List (List Nat)} {pend : List (Nat × List Nat)} (h : Log w base gs gr gen ser first secs N recs dur pend) (A : Option Addr) (n c : Nat) (p : List Nat) (hp : Bytes w w.heap.size (.slice A n c) p) (hn : n ≤ 65536) (hfull : secs * 487 < (rec1 p).length + (layR recs).length) :
    Calls Try.prog 20 #[.pointer (some ⟨gr, 0, none⟩), .slice A n c] w fun e w' => e = .returned (.int .i64 5) ∧ Below w.heap.size w w' := by
  have hpl : p.length ≤ 65536 := by
    obtain ⟨⟨_, _, hv, _⟩, _, _⟩ := hp
    injection hv with _ h1 _
    omega
  have hr1 := rec1_le hpl
  obtain ⟨L, hL⟩ : ∃ L, L = (rec1 p).length := ⟨_, rfl⟩
  obtain ⟨room, hrm⟩ : ∃ r, r = secs * 487 - (layR recs).length := ⟨_, rfl⟩
  have hsz : (layR recs).length ≤ secs * 487 := by
    obtain ⟨b, pv, ps, nw, h⟩ := h
    exact h.size_le
  have hLr : (L : Int) > (room : Int) := by omega
  have hLr2 : (room : Int) < (L : Int) := by omega
  have hn1 : ¬ (n : Int) > 65536 := by omega
  have hn2 : ¬ (65536 : Int) < (n : Int) := by omega
  have HB := Lib.hid hp
  have hlay1 : layR [p] = rec1 p := by rw [layR_cons, layR_nil, List.append_nil]
  have HLAY : Hid (∀ y g, Below w.heap.size w y → y.heap[g]? = some (.cells #[.slice A n c] 43 (0, 0)) → Calls Try.prog 40 #[.slice (some ⟨g, 0, none⟩) 1 1] y fun e w' => ∃ A n c, e = .returned (.slice A n c) ∧ Mine w' y.heap.size A n c (rec1 p) ∧ Below y.heap.size y w') := Lib.hid fun y g hy hg => by
    have h := lay_any y _ _ (parts1 hg (HB.out.along hy)) (by rw [hlay1]; omega)
    rw [hlay1] at h
    exact h
  have HROOM : Hid (∀ y, Below w.heap.size w y → Calls Try.prog 18 #[.pointer (some ⟨gr, 0, none⟩)] y fun e w' => e = .returned (.int .i64 (room : Int)) ∧ Below y.heap.size y w') := Lib.hid fun y hy => by rw [hrm]; exact room_log (h.below hy)
  have HL := Lib.hid hL
  clear h hp hlay1 hL hrm hfull hr1
  go_enter Try.func20, Try.ntmps20
  go_wp2_with (first
    | (go_at_call 40; (with_reducible refine (HLAY.out _ _ ((Below.refl _ _).alloc (Nat.le_refl _) _) (Go.heap_alloc_new _ _)).mono ?_); rintro e w2 ⟨A2, n2, c2, rfl, hM2, hb2⟩; go_loud (
       obtain rfl : n2 = L := hM2.len.trans HL.out.symm;
       have hbw2 := ((Below.refl w.heap.size w).alloc (Nat.le_refl _) (.cells #[.slice A n c] 43)).trans (hb2.mono (by simp));
       have HRO := hide (HROOM.out _ hbw2);
       have HBW2 := Lib.hid hbw2;
       clear hM2 hbw2 hb2))
    | (go_at_call 18; (with_reducible refine (unhide HRO).mono ?_); rintro e w3 ⟨rfl, hb3⟩))
  go_ret
  exact ⟨rfl, HBW2.out.trans (hb3.mono HBW2.out.size)⟩
section
variable (w : World)
theorem reel_append_nil (v : Value) : Calls Try.prog 20 #[.pointer none, v] w fun e w' => e = .returned (.int .i64 3) ∧ w = w' := by
  go_enter Try.func20, Try.ntmps20
  go_wp2
  go_ret
  exact ⟨rfl, rfl⟩
theorem reel_sync_nil : Calls Try.prog 13 #[.pointer none] w fun e w' => e = .returned (.int .i64 3) ∧ w = w' := by
  go_enter Try.func13, Try.ntmps13
  go_wp2
  go_ret
  exact ⟨rfl, rfl⟩
theorem reel_records_nil : Calls Try.prog 15 #[.pointer none] w fun e w' => e = .returned (.slice none 0 0) ∧ w = w' := by
  go_enter Try.func15, Try.ntmps15
  go_wp2
  go_ret
  exact ⟨rfl, rfl⟩
theorem reel_count_nil : Calls Try.prog 23 #[.pointer none] w fun e w' => e = .returned (.int .i64 0) ∧ w = w' := by
  go_enter Try.func23, Try.ntmps23
  go_wp2
  go_ret
  exact ⟨rfl, rfl⟩
theorem reel_serial_nil : Calls Try.prog 34 #[.pointer none] w fun e w' => e = .returned (.int .u32 0) ∧ w = w' := by
  go_enter Try.func34, Try.ntmps34
  go_wp2
  go_ret
  exact ⟨rfl, rfl⟩
theorem reel_size_nil : Calls Try.prog 24 #[.pointer none] w fun e w' => e = .returned (.int .i64 0) ∧ w = w' := by
  go_enter Try.func24, Try.ntmps24
  go_wp2
  go_ret
  exact ⟨rfl, rfl⟩
theorem reel_room_nil : Calls Try.prog 18 #[.pointer none] w fun e w' => e = .returned (.int .i64 0) ∧ w = w' := by
  go_enter Try.func18, Try.ntmps18
  go_wp2
  go_ret
  exact ⟨rfl, rfl⟩
end
end Go.Proofs.Ytalpippeelomjaa
namespace Go.Proofs.Ytalpippeelomjaa
open Go.RowKit Go.Shelf
set_option linter.unusedSimpArgs false
set_option linter.unusedVariables false
def SameRS (w : World) (n : Nat) (ls ms : List (List Nat)) (i : Value) (wr : World) : Prop :=
  ∃ k q : Nat, k ≤ n ∧ i = .int .i64 (k : Int) ∧ ls.take k = ms.take k ∧ wr = w.drewN q
set_option maxRecDepth 100000 in
set_option maxHeartbeats 2000000 in
theorem same_rows (w : World) (v u : Value) (ls ms : List (List Nat)) (hp : Parts w w.heap.size v ls) (hq : Parts w w.heap.size u ms) :
    Calls Try.prog 22 #[v, u] w (Quietly w (.bool (decide (ls = ms)))) := by
  obtain ⟨⟨A, c, vs, rfl, hvl, hlies, hbytes⟩, hlong⟩ := hp
  obtain ⟨⟨A2, c2, us, rfl, hvl2, hlies2, hbytes2⟩, hlong2⟩ := hq
  unfold maxLen at hlong hlong2
  have HV := Lib.hid hvl
  have HL := Lib.hid hlies
  have HB := Lib.hid hbytes
  have HV2 := Lib.hid hvl2
  have HL2 := Lib.hid hlies2
  have HB2 := Lib.hid hbytes2
  clear hvl hlies hbytes hvl2 hlies2 hbytes2
  obtain ⟨n, hn⟩ : ∃ n, n = ls.length := ⟨_, rfl⟩
  obtain ⟨n2, hn2⟩ : ∃ n2, n2 = ms.length := ⟨_, rfl⟩
  rw [← hn] at hlong ⊢
  rw [← hn2] at hlong2 ⊢
  by_cases hne : n = n2
  · subst hne
    have HN := Lib.hid hn
    have HN2 := Lib.hid hn2
    clear hn hn2
    go_enter Try.func22, Try.ntmps22
    go_wp2
    go_loopw [13] (fun i wr => SameRS w n ls ms i wr) (fun i _ => n - (intOf i).toNat)
    case atStart => exact ⟨0, 0, by omega, rfl, rfl, rfl⟩
    case round =>
      obtain ⟨k, q, hk, rfl, heq, hwr⟩ := hrel
      have HE := Lib.hid heq
      have HWR := Lib.hid hwr
      have HBW : Hid (∀ (v : Value) (l : List Nat), Bytes w w.heap.size v l → ∀ n : Nat, Bytes (wr.drewN n) (wr.drewN n).heap.size v l) := Lib.hid fun v l h n => by rw [hwr]; exact (h.quiet q).quiet n
      have HCW : Hid (∀ p : Addr, wr.cell? p = w.cell? p) := Lib.hid fun p => by rw [hwr]; rfl
      clear heq hwr
      by_cases hlt : k < n
      · obtain ⟨l, hl⟩ : ∃ l, ls[k]? = some l := ⟨_, List.getElem?_eq_getElem (by rw [← HN.out]; exact hlt)⟩
        obtain ⟨m, hm⟩ : ∃ m, ms[k]? = some m := ⟨_, List.getElem?_eq_getElem (by rw [← HN2.out]; exact hlt)⟩
        obtain ⟨a, ha⟩ : ∃ a, vs[k]? = some a := ⟨_, List.getElem?_eq_getElem (by rw [HV.out, ← HN.out]; exact hlt)⟩
        obtain ⟨b, hb⟩ : ∃ b, us[k]? = some b := ⟨_, List.getElem?_eq_getElem (by rw [HV2.out, ← HN2.out]; exact hlt)⟩
        have hB0 := HB.out k a l ha hl
        have hB1 := HB2.out k b m hb hm
        obtain ⟨ad, hA, hbb, hc0⟩ := HL.out k a ha
        obtain ⟨ad2, hA2, hbb2, hc2⟩ := HL2.out k b hb
        subst hA
        subst hA2
        have h1 : wr.cell? (ad.add k) = some a := (HCW.out _).trans hc0
        have h2 : wr.cell? (ad2.add k) = some b := (HCW.out _).trans hc2
        have HSA : Hid (∀ n : Nat, Calls Try.prog 39 #[a, b] (wr.drewN n) (Quietly (wr.drewN n) (.bool (decide (l = m))))) := Lib.hid fun n => same_any (wr.drewN n) a b l m (HBW.out _ _ hB0 n) (HBW.out _ _ hB1 n)
        have Hl := Lib.hid hl
        have Hm := Lib.hid hm
        clear hl hm ha hb hB0 hB1
        by_cases hlm : l = m
        · have hd : decide (l = m) = true := decide_eq_true hlm
          rw [hd] at HSA
          have HLM := Lib.hid hlm
          clear hd hlm
          go_wp2
          go_quiet ((go_at_call 39; exact Calls.quiet_of (HSA.out _)))
          go_wp2
          go_roundw
          case rel => exact ⟨k + 1, _, by omega, by go_num, by rw [List.take_add_one, List.take_add_one, HE.out, Hl.out, Hm.out, HLM.out], by rw [HWR.out]; exact World.drewN_drewN _ _ _⟩
          case measure => simp [intOf]; omega
        · have hd : decide (l = m) = false := decide_eq_false hlm
          rw [hd] at HSA
          have HLM := Lib.hid hlm
          clear hd hlm
          go_wp2
          go_quiet ((go_at_call 39; exact Calls.quiet_of (HSA.out _)))
          go_wp2
          go_ret
          refine ⟨congrArg Ending.returned (congrArg Value.bool (Eq.symm (decide_eq_false ?_))), _, by rw [HWR.out]; exact World.drewN_drewN _ _ _⟩
          intro e
          have h1 := Hl.out
          rw [e, Hm.out] at h1
          exact HLM.out (Option.some.inj h1).symm
      · go_wp2
        go_ret
        refine ⟨congrArg Ending.returned (congrArg Value.bool (Eq.symm (decide_eq_true ?_))), _, HWR.out⟩
        obtain rfl : k = n := by omega
        have h := HE.out
        rw [HN.out, List.take_length, ← HN.out, HN2.out, List.take_length] at h
        exact h
  · have hnl : ¬ ls = ms := fun e => hne (by rw [hn, hn2, e])
    have hd : ((n : Int) != (n2 : Int)) = true := by simp; omega
    clear hn hn2
    go_enter Try.func22, Try.ntmps22
    go_wp2
    go_ret
    exact ⟨congrArg Ending.returned (congrArg Value.bool (Eq.symm (decide_eq_false hnl))), 0, rfl⟩
theorem Parts.first {w : World} {B : Nat} {A : Option Addr} {n c : Nat} {ls : List (List Nat)} (h : Parts w B (.slice A n c) ls) {k : Nat} (hk : k ≤ n) : Parts w B (.slice A k c) (ls.take k) := by
  obtain ⟨⟨A', c', vs, hv, hvl, hlies, hb⟩, hl⟩ := h
  injection hv with h1 h2 h3
  subst h1 h2 h3
  have e : (ls.take k).length = k := by rw [List.length_take]; omega
  refine ⟨⟨A, c, vs.take k, by rw [e], by rw [List.length_take, List.length_take]; omega, hlies.first k, fun j u l hj hl' => ?_⟩, by rw [e]; omega⟩
  rw [List.getElem?_take] at hj hl'
  split at hj
  · rename_i hlt
    rw [if_pos hlt] at hl'
    exact hb j u l hj hl'
  · cases hj
def beginsB (ls ms : List (List Nat)) : Bool := decide (ls.length ≤ ms.length) && decide (ls = ms.take ls.length)
set_option maxRecDepth 100000 in
set_option maxHeartbeats 2000000 in
theorem begins_any (w : World) (v u : Value) (ls ms : List (List Nat)) (hp : Parts w w.heap.size v ls) (hq : Parts w w.heap.size u ms) (hcap : ∀ A n c, u = .slice A n c → n ≤ c) :
    Calls Try.prog 16 #[v, u] w (Quietly w (.bool (beginsB ls ms))) := by
  obtain ⟨A, c, hv⟩ : ∃ A c, v = .slice A ls.length c := by obtain ⟨A, c, _, h, _⟩ := hp.form; exact ⟨A, c, h⟩
  obtain ⟨A2, c2, hu⟩ : ∃ A c, u = .slice A ms.length c := by obtain ⟨A, c, _, h, _⟩ := hq.form; exact ⟨A, c, h⟩
  have hcc : ms.length ≤ c2 := hcap _ _ _ hu
  have hl1 := hp.long
  have hl2 := hq.long
  unfold maxLen at hl1 hl2
  subst hv hu
  by_cases hle : ls.length ≤ ms.length
  · have HS := hide (same_rows w _ _ ls (ms.take ls.length) hp (hq.first hle))
    have hb : beginsB ls ms = decide (ls = ms.take ls.length) := by unfold beginsB; rw [decide_eq_true hle, Bool.true_and]
    rw [hb]
    obtain ⟨n, hn⟩ : ∃ n, n = ls.length := ⟨_, rfl⟩
    obtain ⟨m, hm⟩ : ∃ n, n = ms.length := ⟨_, rfl⟩
    obtain ⟨bb, hbb⟩ : ∃ b, b = decide (ls = ms.take ls.length) := ⟨_, rfl⟩
    rw [← hbb] at HS ⊢
    rw [← hn] at HS hle hl1 ⊢
    rw [← hm] at hle hl2 hcc ⊢
    have h1 : (n : Int) ≤ (m : Int) := by omega
    clear hp hq hb hbb hn hm hcap
    go_enter Try.func16, Try.ntmps16
    go_wp2_with (go_at_call 22; (with_reducible refine (unhide HS).mono ?_); rintro e w2 ⟨rfl, q, rfl⟩)
    go_ret
    exact ⟨rfl, q, rfl⟩
  · have hb : beginsB ls ms = false := by unfold beginsB; rw [decide_eq_false hle, Bool.false_and]
    rw [hb]
    obtain ⟨n, hn⟩ : ∃ n, n = ls.length := ⟨_, rfl⟩
    obtain ⟨m, hm⟩ : ∃ n, n = ms.length := ⟨_, rfl⟩
    rw [← hn] at hle hl1 ⊢
    rw [← hm] at hle hl2 ⊢
    have h1 : ¬ (n : Int) ≤ (m : Int) := by omega
    have h2 : decide (n ≤ m) = false := decide_eq_false hle
    clear hp hq hb hn hm hcap
    go_enter Try.func16, Try.ntmps16
    go_wp2
    go_ret
    exact ⟨rfl, 0, rfl⟩
end Go.Proofs.Ytalpippeelomjaa
