/- ARdF, AREq: joined by program (tools/merge.py). -/
import Derived.Test.YtdphpjlhkamadaaZ44
import Derived.Test.YtdphpjlhkamadaaALay
import Derived.BigQuiet
import Derived.StillTailTactics
namespace Go.Proofs.Ytdphpjlhkamadaa
open Go.RowKit
set_option linter.unusedSimpArgs false
set_option linter.unusedVariables false
theorem cutS_le (s : ByteArray) (m : Nat) : (cutS s m).size ≤ m := by
  unfold cutS
  split
  · assumption
  · rw [ByteArray.size_extract]; omega
theorem few_fit {n : Nd} (h : NdOk n) (hk : ∀ k ∈ n.kids, k < 18446744073709551616) : Fit (fewNd n) := by
  refine ⟨fewNd_ok h, cutS_le _ _, fun k hk2 => hk k (List.mem_of_mem_take hk2), ?_⟩
  show (n.kids.take 12).length < _
  rw [List.length_take]
  omega
def LaidOk (p : Nat × Nd) : Prop := Fit p.2 ∧ 0 < p.1 ∧ p.1 < 18446744073709551616
theorem layF_fit : ∀ (rs acc : List (Nat × Nd)) (i : Nat), (∀ p ∈ acc, LaidOk p) → (∀ p ∈ rs, NdOk p.2 ∧ (∀ k ∈ p.2.kids, k < 18446744073709551616) ∧ p.1 < 18446744073709551616) → ∀ p ∈ layF acc rs i, LaidOk p
  | [], acc, i, ha, _ => ha
  | q :: rs, acc, i, ha, hr => by
    refine layF_fit rs (layS acc q i) (i + 1) (fun p hp => ?_) fun p hp => hr p (by simp [hp])
    unfold layS at hp
    split at hp
    case isTrue h =>
      rcases putL_mem hp with rfl | hp
      · obtain ⟨h1, h2, h3⟩ := hr q (by simp)
        exact ⟨few_fit h1 h2, Nat.pos_of_ne_zero h.2, h3⟩
      · exact ha p hp
    case isFalse => exact ha p hp
theorem layL_fit {rs : List (Nat × Nd)} (hr : ∀ p ∈ rs, NdOk p.2 ∧ (∀ k ∈ p.2.kids, k < 18446744073709551616) ∧ p.1 < 18446744073709551616) : ∀ p ∈ layL rs, LaidOk p := by
  refine layF_fit rs _ 0 (fun p hp => ?_) hr
  rw [List.mem_singleton] at hp
  rw [hp]
  exact ⟨⟨⟨by decide, by decide, by decide, by decide, by decide⟩, by decide, by simp [progNd], by decide⟩, by decide, by decide⟩
/-- More bytes behind an arena's are no arena. -/
theorem arena_more {ns : List (Nat × Nd)} {r : List Nat} (hr : Rise ns) (h0 : ∀ p ∈ ns, LaidOk p) (hl : ns.length ≤ 20000) (hne : r ≠ []) : parseL (arenaB ns ++ r) = none := by
  have h1 : rNum 20000 (false, arenaB ns ++ r) = (ns.length, (false, nodesB 0 ns ++ r)) := by
    unfold arenaB
    rw [List.append_assoc]
    exact rNum_num _ (by omega) hl
  have h2 := nodes_again ns [] 0 r hr (fun p hp => (h0 p hp).2.1) (fun p hp => (h0 p hp).2.2) (by simp) (fun p hp => (h0 p hp).1)
  unfold parseL
  rw [h1]
  dsimp only
  rw [h2]
  dsimp only
  rw [if_pos (.inr hne)]
end Go.Proofs.Ytdphpjlhkamadaa
namespace Go.Proofs.Ytdphpjlhkamadaa
open Go.RowKit Go.Shelf
set_option linter.unusedSimpArgs false
set_option linter.unusedVariables false
set_option maxRecDepth 100000
attribute [local go_sem] Oper.semAt_some undef
theorem xNs_at {xs : XL} {k : Nat} {p : Nat × (Value × Nd)} (h : xs[k]? = some p) : (xNs xs)[k]? = some (p.1, p.2.2) := by
  unfold xNs mapL
  rw [List.getElem?_map, h]
  rfl
theorem xNs_end {l l' : List (Nat × Nd)} (h : l.length = l'.length) (h2 : ∀ j < l.length, l[j]? = l'[j]?) : l = l' := by
  apply List.ext_getElem?
  intro j
  by_cases hj : j < l.length
  · exact h2 j hj
  · rw [List.getElem?_eq_none (by omega), List.getElem?_eq_none (by omega)]
def REqI (w : World) (n : Nat) (xs xs' : XL) (i : Value) (wr : World) : Prop := ∃ p : Nat, p ≤ n ∧ i = .int .i64 (p : Int) ∧ (∀ j < p, (xNs xs)[j]? = (xNs xs')[j]?) ∧ Below w.heap.size w wr
theorem REqI.mk {w wr : World} {n : Nat} {xs xs' : XL} (p : Nat) (hp : p ≤ n) (h : ∀ j < p, (xNs xs)[j]? = (xNs xs')[j]?) (hb : Below w.heap.size w wr) : REqI w n xs xs' (.int .i64 (p : Int)) wr := ⟨p, hp, rfl, h, hb⟩
set_option maxHeartbeats 4000000 in
theorem requal_any (w : World) (base base' n n' c c' : Nat) (A A' : Option Addr) (xs xs' : XL) (h : XR w base (.slice A n c) xs) (h' : XR w base' (.slice A' n' c') xs') (hn : n = xs.length) (hn' : n' = xs'.length) (hl : n ≤ 1000000) :
    Calls Try.prog 14 #[.slice A n c, .slice A' n' c'] w (BoolR w (xNs xs = xNs xs')) := by
  have HN := Lib.hid hn
  have HN' := Lib.hid hn'
  have HH := Lib.hid h
  have HH' := Lib.hid h'
  clear h h' hn hn'
  by_cases hne : n = n'
  case neg =>
    have z1 : ((n : Int) == (n' : Int)) = false := by rw [beq_eq_false_iff_ne]; omega
    have z2 : ¬ (n : Int) = (n' : Int) := by omega
    have z3 : ((n : Int) != (n' : Int)) = true := by simp; omega
    go_enter Try.func14, Try.ntmps14
    go_wp2_with fail
    go_ret
    exact ⟨⟨false, rfl, by simp; intro e; exact hne (by rw [HN.out, HN'.out, ← xNs_length xs, ← xNs_length xs', e])⟩, Below.refl _ _⟩
  subst hne
  go_enter Try.func14, Try.ntmps14
  go_wp2_with fail
  go_loopw [13] (fun i wr => REqI w n xs xs' i wr) (fun i _ => n - (intOf i).toNat)
  case atStart => exact REqI.mk 0 (Nat.zero_le _) (fun j hj => absurd hj (by omega)) (Below.refl _ _)
  case round =>
    obtain ⟨p, hp, rfl, hno, hb⟩ := hrel
    have HNO := Lib.hid hno
    have HB := Lib.hid hb
    clear hno hb
    by_cases hlt : p < n
    · have hltI : (p : Int) < (n : Int) := by omega
      obtain ⟨x, hx⟩ : ∃ x, xs[p]? = some x := by rw [HN.out] at hlt; exact ⟨_, List.getElem?_eq_getElem hlt⟩
      obtain ⟨y, hy⟩ : ∃ x, xs'[p]? = some x := by rw [HN'.out] at hlt; exact ⟨_, List.getElem?_eq_getElem hlt⟩
      obtain ⟨g, Ak, ck, hA, _, hv, hi, hok, c0, c1, c2, c3, c4, c5, c6⟩ := (HH.out.below HB.out).at_ hx
      obtain ⟨g', Ak', ck', hA', _, hv', hi', hok', d0, d1, d2, d3, d4, d5, d6⟩ := (HH'.out.below HB.out).at_ hy
      obtain ⟨xi, xv, xn⟩ := x
      obtain ⟨yi, yv, yn⟩ := y
      dsimp only at hv hi hok hv' hi' hok' c0 c1 c2 c3 c4 c5 c6 d0 d1 d2 d3 d4 d5 d6
      have HX := Lib.hid (xNs_at hx)
      have HY := Lib.hid (xNs_at hy)
      have HI := Lib.hid hi
      have HI' := Lib.hid hi'
      clear hx hy hv hv' hi hi' hok hok'
      subst hA
      subst hA'
      by_cases hxy : xi = yi
      · subst hxy
        have hdec : ((xi : Int) != (xi : Int)) = false := by simp
        go_wp2_with fail
        go_still_tail 22, (by kernel_rfl)
        change wpList _ _ _ _ _ wr.drew
        have hbd : Below w.heap.size w wr.drew := ride_drew HB.out
        have HBD := Lib.hid hbd
        have hsm := rsame_any wr.drew xn yn ck ck' Ak Ak' (HI.out.keep fun j cs z _ hj => rfl) (HI'.out.keep fun j cs z _ hj => rfl)
        unfold ndV at hsm
        have HSM := Lib.hid hsm
        clear hbd hsm
        have e1 : ∀ a : Addr, wr.drew.cell? a = wr.cell? a := fun _ => rfl
        rw [← e1] at c0 c1 c2 c3 c4 c5 c6 d0 d1 d2 d3 d4 d5 d6
        clear e1
        generalize wr.drew = w2 at *
        by_cases hs : xn = yn
        · subst hs
          go_wp2_with (go_at_call 34; go_loud (
            (with_reducible refine (HSM.out).mono ?_);
            rintro e w3 ⟨⟨b, rfl, hbi⟩, hb3⟩;
            obtain rfl : b = true := hbi.2 rfl;
            have HB3 := Lib.hid (HBD.out.trans (hb3.mono HBD.out.size));
            clear hbi hb3))
          have hrl : REqI w n xs xs' (.int .i64 ((p + 1 : Nat) : Int)) w3 := by
            refine REqI.mk (p + 1) (by omega) (fun j hj => ?_) HB3.out
            by_cases e2 : j = p
            · rw [e2, HX.out, HY.out]
            · exact HNO.out j (by omega)
          refine ⟨⟨_, _, _, _, _, _, _, _, _, _, _, _, _, _, _, _, _, _, _, _, _, _, _, _, _, _, _, _, _, _, _, hrl, rfl⟩, ?_⟩
          simp [intOf]
          omega
        · go_wp2_with (go_at_call 34; go_loud (
            (with_reducible refine (HSM.out).mono ?_);
            rintro e w3 ⟨⟨b, rfl, hbi⟩, hb3⟩;
            obtain rfl : b = false := by cases b; rfl; exact absurd (hbi.1 rfl) hs;
            have HB3 := Lib.hid (HBD.out.trans (hb3.mono HBD.out.size));
            clear hbi hb3))
          go_ret
          refine ⟨⟨false, rfl, by simp; intro e; have h1 := HX.out; rw [e, HY.out] at h1; injection h1 with h1; injection h1 with h1 h2; exact hs h2.symm⟩, HB3.out⟩
      · have hxI : ((xi : Int) != (yi : Int)) = true := by simp; omega
        have hxJ : ¬ (xi : Int) = (yi : Int) := by omega
        have hdec : decide ((xi : Int) = (yi : Int)) = false := by simp; omega
        go_wp2_with fail
        go_quiet (fail)
        go_wp2_with fail
        go_ret
        refine ⟨⟨false, rfl, by simp; intro e; have h1 := HX.out; rw [e, HY.out] at h1; injection h1 with h1; injection h1 with h1 h2; exact hxy h1.symm⟩, below_drewN HB.out _⟩
    · have hltI : ¬ (p : Int) < (n : Int) := by omega
      have hkn : p = n := by omega
      go_wp2_with fail
      go_ret
      refine ⟨⟨true, rfl, iff_of_true rfl (xNs_end (by rw [xNs_length, xNs_length, ← HN.out, ← HN'.out]) (by rw [xNs_length, ← HN.out, ← hkn]; exact HNO.out))⟩, HB.out⟩
end Go.Proofs.Ytdphpjlhkamadaa
