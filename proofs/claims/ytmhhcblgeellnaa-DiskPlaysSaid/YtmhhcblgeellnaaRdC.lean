/- The reference's disk while it is written: its limit, a sector of a row, its rows. -/
import Derived.Test.YtmhhcblgeellnaaRdB
namespace Go.Proofs.Ytmhhcblgeellnaa
open Go.RowKit
set_option linter.unusedSimpArgs false
set_option linter.unusedVariables false

/-- What the reference says of a limit. -/
def norm (b : Int) : Int := if b < 0 then -1 else b
theorem norm_zero {b : Int} : norm b = 0 ↔ b = 0 := by unfold norm; split <;> omega
theorem norm_less {b : Int} (h : b ≠ 0) : norm (less b) = less (norm b) := by
  unfold norm less
  split <;> split <;> (try split) <;> (try split) <;> omega
theorem norm_bound {b : Int} (h : -9223372036854775808 ≤ b ∧ b ≤ 9223372036854775807) : -1 ≤ norm b ∧ norm b ≤ 9223372036854775807 := by unfold norm; split <;> omega
/-- The blocks that the reference writes. -/
def RP (gx : Nat) (sv av wv : Value) (k : Nat) : Prop := k = gx ∨ some k = sv.ownBlock ∨ some k = av.ownBlock ∨ some k = wv.ownBlock
section
variable {w : World} {base gx : Nat} {sv av wv : Value} {ss ws : List Value} {dur : List (List Nat)} {pend : List (Nat × List Nat)} {left : Int}
theorem own_type {t : TypeId} {n size : Nat} {v : Value} {xs : List Value} (h : w.ownsRow base t size v n xs) {g : Nat} (hg : v.ownBlock = some g) : base ≤ g ∧ ∃ cur, w.heap[g]? = some (.cells cur t (0, 0)) := by
  rcases h.2 with ⟨h3, _⟩ | ⟨g2, cap, cur, h3, h5, h4, _⟩
  · rw [h3] at hg; cases hg
  · rw [h3] at hg
    injection hg with hg
    subst hg
    exact ⟨h5, cur, h4⟩
theorem RD.sv_ne (h : RD w base gx sv av wv ss ws dur pend left) {g : Nat} (hg : sv.ownBlock = some g) : g ≠ gx := fun e => by
  obtain ⟨_, cur, h1⟩ := own_type h.safe.row hg
  exact not_same h.st (e ▸ h1) (by decide)
theorem RD.av_ne (h : RD w base gx sv av wv ss ws dur pend left) {g : Nat} (hg : av.ownBlock = some g) : g ≠ gx := fun e => by
  obtain ⟨_, cur, h1⟩ := own_type h.at_ hg
  exact not_same h.st (e ▸ h1) (by decide)
theorem RD.wv_ne (h : RD w base gx sv av wv ss ws dur pend left) {g : Nat} (hg : wv.ownBlock = some g) : g ≠ gx := fun e => by
  obtain ⟨_, cur, h1⟩ := own_type h.wait.row hg
  exact not_same h.st (e ▸ h1) (by decide)
/-- A field of the struct is written: the rows stay. -/
theorem RD.field (h : RD w base gx sv av wv ss ws dur pend left) (i : Nat) (v : Value) {sv2 av2 wv2 : Value} {left2 : Int} {ss2 ws2 : List Value} {dur2 : List (List Nat)} {pend2 : List (Nat × List Nat)}
    (he : (#[sv, av, wv, .int .i64 left] : Array Value).setIfInBounds i v = #[sv2, av2, wv2, .int .i64 left2]) (hs : Secs w base sv2 dur2 ss2) (ha : w.ownsRow base 3 1 av2 pend2.length (ints (pend2.map (·.1)))) (hw : Secs w base wv2 (pend2.map (·.2)) ws2) (hne : ∀ g, sv2.ownBlock = some g → wv2.ownBlock ≠ some g) :
    RD (w.setCell ⟨gx, i, none⟩ v) base gx sv2 av2 wv2 ss2 ws2 dur2 pend2 left2 := by
  refine ⟨?_, h.le, hs.stset h.st (by decide) (by decide), ?_, hw.stset h.st (by decide) (by decide), hne⟩
  · rw [heap_setCell_same _ gx i _ _ v h.st, he]
  · exact row_only ha (OnlyAt.setCell w gx i v) (fun g cur hg _ e => not_same h.st (e ▸ hg) (by decide))
theorem RD.lim (h : RD w base gx sv av wv ss ws dur pend left) (l : Int) : RD (w.setCell ⟨gx, 3, none⟩ (.int .i64 l)) base gx sv av wv ss ws dur pend l :=
  h.field 3 _ rfl h.safe h.at_ h.wait h.ne
/-- A sector of a row is another one. -/
theorem Secs.put {g i cap n c : Nat} {ls : List (List Nat)} {vs : List Value} {A : Option Addr} {l : List Nat} (h : Secs w base (.slice (some ⟨g, 0, none⟩) n cap) ls vs) (hm : Mine w base A 512 c l) :
    Secs (w.setCell ⟨g, i, none⟩ (.slice A 512 c)) base (.slice (some ⟨g, 0, none⟩) n cap) (ls.set i l) (vs.set i (.slice A 512 c)) := by
  obtain ⟨_, cur, hg⟩ := own_type h.row (g := g) rfl
  have hk : ∀ k cur2, w.heap[k]? = some (.cells cur2 5 (0, 0)) → ¬ k = g := fun k cur2 hk e => not_same hg (e ▸ hk) (by decide)
  have hrow := h.row
  have hn : n = ls.length := by
    rcases hrow.2 with ⟨h1, _⟩ | ⟨g2, cap2, cur2, h1, _⟩
    · cases h1
    · injection h1
  subst hn
  refine ⟨by rw [List.length_set]; exact (hrow.stored i _).1, fun j u x h1 h2 => ?_⟩
  by_cases hij : i = j
  · subst hij
    rcases Nat.lt_or_ge i ls.length with hi | hi
    · rw [List.getElem?_set_self (by rw [h.len]; exact hi)] at h1
      rw [List.getElem?_set_self hi] at h2
      injection h1 with h1
      injection h2 with h2
      subst h1 h2
      exact ⟨A, c, rfl, mine_only hm (OnlyAt.setCell w g i _) hk⟩
    · rw [List.getElem?_eq_none (by rw [List.length_set]; exact hi)] at h2; cases h2
  · rw [List.getElem?_set_ne hij] at h1 h2
    obtain ⟨A1, c1, e, hm1⟩ := h.each j u x h1 h2
    exact ⟨A1, c1, e, mine_only hm1 (OnlyAt.setCell w g i _) hk⟩
theorem Secs.away {g i : Nat} {v u : Value} {ls : List (List Nat)} {vs : List Value} {cur : Array Value} (h : Secs w base v ls vs) (hg : w.heap[g]? = some (.cells cur 30 (0, 0))) (hne : v.ownBlock ≠ some g) : Secs (w.setCell ⟨g, i, none⟩ u) base v ls vs :=
  h.only (OnlyAt.setCell w g i u) (fun k cur2 hk e => not_same hg (e ▸ hk) (by decide)) (fun k hk e => hne (e ▸ hk))
theorem RD.sset {gs n cap i c : Nat} {A : Option Addr} {l : List Nat} (h : RD w base gx (.slice (some ⟨gs, 0, none⟩) n cap) av wv ss ws dur pend left) (hm : Mine w base A 512 c l) :
    RD (w.setCell ⟨gs, i, none⟩ (.slice A 512 c)) base gx (.slice (some ⟨gs, 0, none⟩) n cap) av wv (ss.set i (.slice A 512 c)) ws (dur.set i l) pend left := by
  obtain ⟨_, cur, hg⟩ := own_type h.safe.row (g := gs) rfl
  refine ⟨?_, h.le, h.safe.put hm, ?_, h.wait.away hg (h.ne gs rfl), h.ne⟩
  · rw [heap_setCell_other _ ⟨gs, i, none⟩ gx _ (fun e => h.sv_ne (g := gs) rfl e.symm)]; exact h.st
  · exact row_only h.at_ (OnlyAt.setCell w gs i _) (fun g cur2 hk _ e => not_same hg (e ▸ hk) (by decide))
theorem RD.wset {gs n cap i c : Nat} {A : Option Addr} {l : List Nat} {q : Nat} (h : RD w base gx sv av (.slice (some ⟨gs, 0, none⟩) n cap) ss ws dur pend left) (hm : Mine w base A 512 c l) (hq : (pend[i]?).map (·.1) = some q) :
    RD (w.setCell ⟨gs, i, none⟩ (.slice A 512 c)) base gx sv av (.slice (some ⟨gs, 0, none⟩) n cap) ss (ws.set i (.slice A 512 c)) dur (pend.set i (q, l)) left := by
  obtain ⟨_, cur, hg⟩ := own_type h.wait.row (g := gs) rfl
  refine ⟨?_, h.le, h.safe.away hg (fun e => h.ne gs e rfl), ?_, ?_, h.ne⟩
  · rw [heap_setCell_other _ ⟨gs, i, none⟩ gx _ (fun e => h.wv_ne (g := gs) rfl e.symm)]; exact h.st
  · have e : (pend.set i (q, l)).map (·.1) = pend.map (·.1) := by
      rw [List.map_set]
      apply List.ext_getElem?
      intro j
      by_cases hij : i = j
      · subst hij
        have hq' : (pend.map (·.1))[i]? = some q := by rw [List.getElem?_map]; exact hq
        have hl : i < (pend.map (·.1)).length := (List.getElem?_eq_some_iff.1 hq').1
        rw [List.getElem?_set_self hl, hq']
      · rw [List.getElem?_set_ne hij]
    rw [List.length_set, e]
    exact row_only h.at_ (OnlyAt.setCell w gs i _) (fun g cur2 hk _ e => not_same hg (e ▸ hk) (by decide))
  · rw [List.map_set]
    exact h.wait.put hm
end
/-- What the reference's disk has become: at most its own blocks are written; its row of places is the old one, or new. -/
def Done (w : World) (base gx : Nat) (sv av wv : Value) (dur2 : List (List Nat)) (pend2 : List (Nat × List Nat)) (left2 : Int) (err : Int) (e : Ending) (w' : World) : Prop :=
  ∃ (gx2 : Nat) (sv2 av2 wv2 : Value) (ss2 ws2 : List Value), e = .returned (.tuple #[.pointer (some ⟨gx2, 0, none⟩), .int .i64 err]) ∧ RD w' base gx2 sv2 av2 wv2 ss2 ws2 dur2 pend2 left2 ∧
    (∀ g, av2.ownBlock = some g → av.ownBlock = some g ∨ w.heap.size ≤ g) ∧ OnlyAt w w' (RP gx sv av wv)
end Go.Proofs.Ytmhhcblgeellnaa
