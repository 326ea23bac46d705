/- A script of calls in memory, and one call of it: what the reference's Do and the law's do answer, the same. -/
import Derived.Test.YtmhhcblgeellnaaRdJ
import Derived.Test.YtmhhcblgeellnaaRdI
import Derived.Test.YtmhhcblgeellnaaRdH
import Derived.Test.YtmhhcblgeellnaaRdG
import Derived.Test.YtmhhcblgeellnaaRdF
import Derived.Test.YtmhhcblgeellnaaRdE
import Derived.Test.YtmhhcblgeellnaaPlB
namespace Go.Proofs.Ytmhhcblgeellnaa
open Go.RowKit
set_option linter.unusedSimpArgs false
set_option linter.unusedVariables false

structure Ac where
  d : Nat
  i : Int
  PA : Option Addr
  pn : Nat
  pc : Nat
  p : List Nat
  odd : Bool
  bit : Int
  n : Int
  mask : Nat
  KA : Option Addr
  kn : Nat
  kc : Nat
  ks : List Bool
def acell (a : Ac) : List Value := [.int .u8 (a.d : Int), .int .i64 a.i, .slice a.PA a.pn a.pc, .bool a.odd, .int .i64 a.bit, .int .i64 a.n, .int .u32 (a.mask : Int), .slice a.KA a.kn a.kc]
structure AcOk (W : World) (a : Ac) : Prop where
  d : a.d < 256
  i : -9223372036854775808 ≤ a.i ∧ a.i ≤ 9223372036854775807
  bit : -9223372036854775808 ≤ a.bit ∧ a.bit ≤ 9223372036854775807
  n : -9223372036854775808 ≤ a.n ∧ a.n ≤ 9223372036854775807
  mask : a.mask < 4294967296
  p : Bytes W W.heap.size (.slice a.PA a.pn a.pc) a.p
  ks : Flags W (.slice a.KA a.kn a.kc) a.ks
  kl : a.ks.length ≤ 9223372036854775807
structure Acts (W : World) (v : Value) (l : List Ac) : Prop where
  form : ∃ A c, v = .slice A l.length c ∧ ∀ i a, l[i]? = some a → ∃ ad, A = some ad ∧ ad.block < W.heap.size ∧ ∀ j, j < 8 → W.cell? (ad.add (i * 8 + j)) = (acell a)[j]?
  ok : ∀ a ∈ l, AcOk W a
  long : l.length ≤ maxLen
theorem addr_in (ad : Addr) (m j : Nat) (hj : j ≠ 0) : (⟨(ad.add m).block, (ad.add m).off + j, none⟩ : Addr) = ad.add (m + j) := ((if_neg hj).symm : _ = (ad.add m).add j).trans (addr_add_add ad m j)
/-- A call's cells, each as the walk spells it. -/
theorem Acts.load {W wr : World} {A : Option Addr} {n c i : Nat} {l : List Ac} {a : Ac} (h : Acts W (.slice A n c) l) (ha : l[i]? = some a) (hb : Below W.heap.size W wr) :
    ∃ ad, A = some ad ∧ wr.cell? (ad.add (i * 8)) = some (.int .u8 (a.d : Int)) ∧ wr.cell? ⟨(ad.add (i * 8)).block, (ad.add (i * 8)).off + 1, none⟩ = some (.int .i64 a.i) ∧ wr.cell? ⟨(ad.add (i * 8)).block, (ad.add (i * 8)).off + 2, none⟩ = some (.slice a.PA a.pn a.pc) ∧
      wr.cell? ⟨(ad.add (i * 8)).block, (ad.add (i * 8)).off + 3, none⟩ = some (.bool a.odd) ∧ wr.cell? ⟨(ad.add (i * 8)).block, (ad.add (i * 8)).off + 4, none⟩ = some (.int .i64 a.bit) ∧ wr.cell? ⟨(ad.add (i * 8)).block, (ad.add (i * 8)).off + 5, none⟩ = some (.int .i64 a.n) ∧
      wr.cell? ⟨(ad.add (i * 8)).block, (ad.add (i * 8)).off + 6, none⟩ = some (.int .u32 (a.mask : Int)) ∧ wr.cell? ⟨(ad.add (i * 8)).block, (ad.add (i * 8)).off + 7, none⟩ = some (.slice a.KA a.kn a.kc) := by
  obtain ⟨A', c', hv, hl⟩ := h.form
  injection hv with e _ _
  subst e
  obtain ⟨ad, hA, hbk, hall⟩ := hl i a ha
  have k : ∀ m, wr.cell? (ad.add m) = W.cell? (ad.add m) := fun m => hb.cell (by rw [addr_add_block]; exact hbk)
  refine ⟨ad, hA, ?_, ?_, ?_, ?_, ?_, ?_, ?_, ?_⟩
  · exact (k _).trans (hall 0 (by decide))
  all_goals (rw [addr_in _ _ _ (by decide)]; refine (k _).trans ?_)
  · exact hall 1 (by decide)
  · exact hall 2 (by decide)
  · exact hall 3 (by decide)
  · exact hall 4 (by decide)
  · exact hall 5 (by decide)
  · exact hall 6 (by decide)
  · exact hall 7 (by decide)
/-- What the count of writes is behind a call. -/
def nwAt (r : Nat) (err nw : Int) : Int := if r = 5 then 0 else if r < 3 ∧ err = 0 then nw + 1 else nw
def BoxOf (a : Ac) : Value := .agg (acell a).toArray
theorem rotF_sec {i bit mask len : Nat} {p : Nat × List Nat} (h : IsSec p.2) : IsSec (rotF i bit mask len p).2 ∧ (rotF i bit mask len p).1 = p.1 := by
  unfold rotF
  split
  · exact ⟨flip_sec (bit := bit) (mask := mask) h len, rfl⟩
  · exact ⟨h, rfl⟩
/-- One call, by both. -/
theorem both_do {W w : World} {gs gx : Nat} {b : DB} {sv av wv : Value} {ss ws : List Value} {dur : List (List Nat)} {pend : List (Nat × List Nat)} {nw bud : Int} {a : Ac} (hok : AcOk W a) (hB : Below W.heap.size W w) (hD : Disk w gs b dur pend nw bud) (hpv : pend = [] → b.pv = .slice none 0 0) (hR : RD w W.heap.size gx sv av wv ss ws dur pend (norm bud))
    (hbud : -9223372036854775808 ≤ bud ∧ bud ≤ 9223372036854775807) (hnw : 0 ≤ nw ∧ nw ≤ 1000) (hmany : pend.length ≤ 999) :
    ∃ dur2 pend2 bud2 err, Calls Try.prog 12 #[.pointer (some ⟨gx, 0, none⟩), BoxOf a] w (Done w W.heap.size gx sv av wv dur2 pend2 (norm bud2) err) ∧
      (∀ w1, Below W.heap.size W w1 → Disk w1 gs b dur pend nw bud → Calls Try.prog 13 #[.pointer (some ⟨gs, 0, none⟩), BoxOf a] w1 (Did w1 gs b dur2 pend2 (nwAt (a.d % 7) err nw) bud2 err)) ∧
      dur2.length = dur.length ∧ pend2.length ≤ pend.length + 1 ∧ (-9223372036854775808 ≤ bud2 ∧ bud2 ≤ 9223372036854775807) ∧ (0 ≤ err ∧ err ≤ 20) := by
  have hsz := hB.size
  have hfew := hD.few
  have hn1 := norm_bound hbud
  obtain ⟨d, i, PA, pn, pc, p, odd, bit, n, mask, KA, kn, kc, ks⟩ := a
  have hw1 : ∀ q ∈ pend, q.1 < dur.length := fun q hq => (hD.wri q hq).1
  have hl2 : -9223372036854775808 ≤ less bud ∧ less bud ≤ 9223372036854775807 := by unfold less; split <;> omega
  have happ : (applied pend dur).length = dur.length := applied_length _ _
  have hpp : ∀ w1, Below W.heap.size W w1 → Bytes w1 w1.heap.size (.slice PA pn pc) p := fun w1 h1 => (hok.p.below h1).up h1.size
  have hm1 : pend.length ≤ 1000 := by omega
  rcases (show d % 7 < 3 ∨ d % 7 = 3 ∨ d % 7 = 4 ∨ d % 7 = 5 ∨ d % 7 = 6 by omega) with hd | hd | hd | hd | hd
  · have hw : ∀ err, nwAt (d % 7) err nw = if err = 0 then nw + 1 else nw := fun err => by
      unfold nwAt
      rw [if_neg (by omega)]
      by_cases h0 : err = 0
      · rw [if_pos ⟨hd, h0⟩, if_pos h0]
      · rw [if_neg (fun e => h0 e.2), if_neg h0]
    rcases odd with _ | _
    · by_cases hin : 0 ≤ i ∧ i < (dur.length : Int)
      · obtain ⟨iN, rfl⟩ := Int.eq_ofNat_of_zero_le hin.1
        have hil : iN < dur.length := by omega
        by_cases hl : bud = 0
        · subst hl
          exact ⟨dur, pend, 0, 8, rdo_off hR hsz hfew hm1 hn1 d iN bit n PA KA pn pc kn kc false mask hd rfl hin rfl, fun w1 h1 hD1 => by
            rw [hw 8]
            exact did_off hD1 hpv d iN bit n PA KA pn pc kn kc false mask hd rfl p (hpp w1 h1) iN rfl hil, rfl, by omega, hbud, by omega, by omega⟩
        · refine ⟨dur, pend ++ [(iN, full p)], less bud, 0, ?_, fun w1 h1 hD1 => ?_, rfl, by simp, hl2, by omega, by omega⟩
          · rw [norm_less hl]
            exact rdo_write hR hsz hfew hm1 hn1 d iN bit n PA KA pn pc kn kc false mask hd rfl iN rfl hil (fun e => hl (norm_zero.1 e)) p (hok.p.below hB)
          · rw [hw 0]
            exact did_write hD1 hpv d iN bit n PA KA pn pc kn kc false mask hd rfl p (hpp w1 h1) iN rfl hil hl hbud (by omega) (by omega) hok.p.small
      · exact ⟨dur, pend, bud, 6, rdo_index hR hsz hfew hm1 hn1 d i bit n PA KA pn pc kn kc false mask hd rfl hin, fun w1 h1 hD1 => by
          rw [hw 6]
          exact did_index hD1 hpv d i bit n PA KA pn pc kn kc false mask hd rfl p (hpp w1 h1) hin, rfl, by omega, hbud, by omega, by omega⟩
    · exact ⟨dur, pend, bud, 1, rdo_odd hR hsz hfew hm1 hn1 d i bit n PA KA pn pc kn kc true mask hd rfl, fun w1 h1 hD1 => by
        rw [hw 1]
        exact did_odd hD1 hpv d i bit n PA KA pn pc kn kc true mask hd rfl, rfl, by omega, hbud, by omega, by omega⟩
  · have hw : ∀ err, nwAt (d % 7) err nw = nw := fun err => by unfold nwAt; rw [if_neg (by omega), if_neg (fun e => absurd e.1 (by omega))]
    by_cases hl : bud = 0
    · subst hl
      exact ⟨dur, pend, 0, 8, rdo_sync_off hR hsz hfew hm1 hn1 d i bit n PA KA pn pc kn kc odd mask hd rfl, fun w1 h1 hD1 => by
        rw [hw 8]
        exact did_sync_off hD1 hpv d i bit n PA KA pn pc kn kc odd mask hd, rfl, by omega, hbud, by omega, by omega⟩
    · refine ⟨applied pend dur, [], less bud, 0, ?_, fun w1 h1 hD1 => ?_, happ, by simp, hl2, by omega, by omega⟩
      · rw [norm_less hl]
        exact rdo_sync hR hsz hfew hm1 hn1 d i bit n PA KA pn pc kn kc odd mask hd (fun e => hl (norm_zero.1 e)) hw1
      · rw [hw 0]
        exact did_sync hD1 hpv d i bit n PA KA pn pc kn kc odd mask hd hl hbud
  · have hw : ∀ err, nwAt (d % 7) err nw = nw := fun err => by unfold nwAt; rw [if_neg (by omega), if_neg (fun e => absurd e.1 (by omega))]
    by_cases hbad : n < 0 ∨ 32 < n ∨ bit < 0 ∨ 4096 < bit ∨ 4096 < bit + n
    · exact ⟨dur, pend, bud, 1, rdo_rot_bad hR hsz hfew hm1 hn1 d i bit n PA KA pn pc kn kc odd mask hd hbad, fun w1 h1 hD1 => by
        rw [hw 1]
        exact did_rot_bad hD1 hpv d i bit n PA KA pn pc kn kc odd mask hd hbad, rfl, by omega, hbud, by omega, by omega⟩
    · by_cases hin : 0 ≤ i ∧ i < (dur.length : Int)
      · obtain ⟨iN, rfl⟩ := Int.eq_ofNat_of_zero_le hin.1
        obtain ⟨nN, rfl⟩ := Int.eq_ofNat_of_zero_le (show 0 ≤ n by omega)
        obtain ⟨bN, rfl⟩ := Int.eq_ofNat_of_zero_le (show 0 ≤ bit by omega)
        have hil : iN < dur.length := by omega
        obtain ⟨s, hs⟩ : ∃ s, dur[iN]? = some s := ⟨_, List.getElem?_eq_getElem hil⟩
        refine ⟨dur.set iN (flip bN mask s nN), pend.map (rotF iN bN mask nN), bud, 0, ?_, fun w1 h1 hD1 => ?_, by simp, by simp, hbud, by omega, by omega⟩
        · exact rdo_rot hR hsz hfew hm1 hn1 d iN bN nN PA KA pn pc kn kc odd mask hd iN bN nN rfl rfl rfl (by omega) (by omega) hok.mask s hs (hD.sec s (List.mem_of_getElem? hs)) (fun q hq => (hD.wri q hq).2)
        · rw [hw 0]
          exact did_rot hD1 hpv d iN bN nN PA KA pn pc kn kc odd mask hd iN bN nN rfl rfl rfl (by omega) (by omega) hok.mask s hs
      · exact ⟨dur, pend, bud, 6, rdo_rot_index hR hsz hfew hm1 hn1 d i bit n PA KA pn pc kn kc odd mask hd (by omega) (by omega) (by omega) (by omega) (by omega) hin, fun w1 h1 hD1 => by
          rw [hw 6]
          exact did_rot_index hD1 hpv d i bit n PA KA pn pc kn kc odd mask hd (by omega) (by omega) (by omega) (by omega) hin, rfl, by omega, hbud, by omega, by omega⟩
  · have hw : ∀ err, nwAt (d % 7) err nw = 0 := fun err => by unfold nwAt; rw [if_pos hd]
    refine ⟨kept ks pend dur, [], -1, 0, ?_, fun w1 h1 hD1 => ?_, kept_length _ _ _, by simp, by omega, by omega, by omega⟩
    · exact rdo_crash hR hsz hfew hm1 hn1 d i bit n PA KA pn pc kn kc odd mask hd ks (hok.ks.on hB) hok.kl hw1
    · rw [hw 0]
      exact did_crash hD1 hpv d i bit n PA KA pn pc kn kc odd mask hd ks (hok.ks.on h1)
  · have hw : ∀ err, nwAt (d % 7) err nw = nw := fun err => by unfold nwAt; rw [if_neg (by omega), if_neg (fun e => absurd e.1 (by omega))]
    refine ⟨dur, pend, n, 0, ?_, fun w1 h1 hD1 => ?_, rfl, by omega, hok.n, by omega, by omega⟩
    · exact rdo_limit hR hsz hfew hm1 hn1 d i bit n PA KA pn pc kn kc odd mask hd
    · rw [hw 0]
      exact did_limit hD1 hpv d i bit n PA KA pn pc kn kc odd mask hd
end Go.Proofs.Ytmhhcblgeellnaa
