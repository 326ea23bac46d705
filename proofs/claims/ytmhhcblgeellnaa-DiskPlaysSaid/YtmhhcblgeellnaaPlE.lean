/- The two disks side by side, through one call of a script. -/
import Derived.Test.YtmhhcblgeellnaaPlD
import Derived.Test.YtmhhcblgeellnaaPlC
namespace Go.Proofs.Ytmhhcblgeellnaa
open Go.RowKit
set_option linter.unusedSimpArgs false
set_option linter.unusedVariables false

structure Play (W x : World) (gs : Nat) (b : DB) (gx : Nat) (sv av wv : Value) (ss ws : List Value) (dur : List (List Nat)) (pend : List (Nat × List Nat)) (nw bud : Int) : Prop where
  D : Disk x gs b dur pend nw bud
  R : RD x W.heap.size gx sv av wv ss ws dur pend (norm bud)
  pv : pend = [] → b.pv = .slice none 0 0
  high : High W.heap.size gs b
  ne : av.ownBlock ≠ some b.gl
  bud : -9223372036854775808 ≤ bud ∧ bud ≤ 9223372036854775807
  B : Below W.heap.size W x
section
variable {W x y : World} {gs gx : Nat} {b : DB} {sv av wv : Value} {ss ws : List Value} {dur : List (List Nat)} {pend : List (Nat × List Nat)} {nw bud left : Int}
theorem Play.below (h : Play W x gs b gx sv av wv ss ws dur pend nw bud) (hb : Below x.heap.size x y) : Play W y gs b gx sv av wv ss ws dur pend nw bud :=
  ⟨h.D.below hb, h.R.below hb, h.pv, h.high, h.ne, h.bud, h.B.trans (hb.mono h.B.size)⟩
theorem RP_type {base : Nat} (h : RD x base gx sv av wv ss ws dur pend left) {k : Nat} (hk : RP gx sv av wv k) : base ≤ k ∧ ((∃ c, x.heap[k]? = some (.cells c 63 (0, 0))) ∨ (∃ c, x.heap[k]? = some (.cells c 30 (0, 0))) ∨ (some k = av.ownBlock ∧ ∃ c, x.heap[k]? = some (.cells c 3 (0, 0)))) := by
  rcases hk with e | e | e | e
  · subst e; exact ⟨h.le, .inl ⟨_, h.st⟩⟩
  · obtain ⟨h1, c, h2⟩ := own_type h.safe.row e.symm
    exact ⟨h1, .inr (.inl ⟨c, h2⟩)⟩
  · obtain ⟨h1, c, h2⟩ := own_type h.at_ e.symm
    exact ⟨h1, .inr (.inr ⟨e, c, h2⟩)⟩
  · obtain ⟨h1, c, h2⟩ := own_type h.wait.row e.symm
    exact ⟨h1, .inr (.inl ⟨c, h2⟩)⟩
theorem RW_type (h : Disk x gs b dur pend nw bud) {k : Nat} (hk : RW gs b k) : (∃ c, x.heap[k]? = some (.cells c 69 (0, 0))) ∨ (∃ c, x.heap[k]? = some (.cells c 72 (0, 0))) ∨ (k = b.gl ∧ ∃ c, x.heap[k]? = some (.cells c 3 (0, 0))) ∨ (∃ c, x.heap[k]? = some (.cells c 75 (0, 0))) := by
  rcases hk with e | e | e | e
  · subst e; exact .inl ⟨_, h.st⟩
  · subst e
    obtain ⟨_, c, h2⟩ := own_type h.du (g := b.gd) rfl
    exact .inr (.inl ⟨c, h2⟩)
  · obtain ⟨_, c, h2⟩ := own_type h.la (g := b.gl) rfl
    exact .inr (.inr (.inl ⟨e, c, e ▸ h2⟩))
  · obtain ⟨_, c, h2⟩ := own_type h.pe e.symm
    exact .inr (.inr (.inr ⟨c, h2⟩))
theorem play_apart {base : Nat} (h : Disk x gs b dur pend nw bud) {dur' : List (List Nat)} {pend' : List (Nat × List Nat)} (hr : RD x base gx sv av wv ss ws dur' pend' left) (ne : av.ownBlock ≠ some b.gl) {k : Nat} (h1 : RW gs b k) (h2 : RP gx sv av wv k) : False := by
  rcases RW_type h h1 with ⟨c, e⟩ | ⟨c, e⟩ | ⟨e1, c, e⟩ | ⟨c, e⟩ <;> rcases (RP_type hr h2).2 with ⟨c2, e2⟩ | ⟨c2, e2⟩ | ⟨e3, c2, e2⟩ <;> first
    | exact not_same e e2 (by decide)
    | exact ne (by rw [← e3, e1])
theorem RD.only {base : Nat} {p : Nat → Prop} (h : RD x base gx sv av wv ss ws dur pend left) (ho : OnlyAt x y p) (hp : ∀ k, RP gx sv av wv k → ¬ p k) (hb : ∀ g cur, x.heap[g]? = some (.cells cur 5 (0, 0)) → ¬ p g) : RD y base gx sv av wv ss ws dur pend left :=
  ⟨(ho.block gx h.lt (hp gx (.inl rfl))).trans h.st, h.le, h.safe.only ho hb (fun g hg => hp g (.inr (.inl hg.symm))), row_only h.at_ ho (fun g cur _ hg => hp g (.inr (.inr (.inl hg.symm)))), h.wait.only ho hb (fun g hg => hp g (.inr (.inr (.inr hg.symm)))), h.ne⟩
theorem act_stays {base g0 : Nat} {p : Nat → Prop} {c : Array Value} (h : OnlyAt x y p) (hg : x.heap[g0]? = some (.cells c 34 (0, 0))) (hp : ¬ p g0) : y.heap[g0]? = some (.cells c 34 (0, 0)) :=
  (h.block g0 (Array.getElem?_eq_some_iff.1 hg).1 hp).trans hg
end
/-- One call of a script, by both disks. -/
theorem play_do {W w : World} {gs gx g0 : Nat} {b : DB} {sv av wv : Value} {ss ws : List Value} {dur : List (List Nat)} {pend : List (Nat × List Nat)} {nw bud : Int} {a : Ac} (hok : AcOk W a) (h : Play W w gs b gx sv av wv ss ws dur pend nw bud) (hnw : 0 ≤ nw ∧ nw ≤ 1000) (hmany : pend.length ≤ 999)
    (hg0 : w.heap[g0]? = some (.cells (acell a).toArray 34 (0, 0))) :
    ∃ dur2 pend2 bud2 err, (0 ≤ err ∧ err ≤ 20) ∧ pend2.length ≤ pend.length + 1 ∧
      Calls Try.prog 12 #[.pointer (some ⟨gx, 0, none⟩), BoxOf a] w fun e w1 => ∃ gx2 sv2 av2 wv2 ss2 ws2, e = .returned (.tuple #[.pointer (some ⟨gx2, 0, none⟩), .int .i64 err]) ∧ w1.heap[g0]? = some (.cells (acell a).toArray 34 (0, 0)) ∧
        Calls Try.prog 13 #[.pointer (some ⟨gs, 0, none⟩), BoxOf a] w1 fun e w2 => ∃ gs2 b2, e = .returned (.tuple #[.pointer (some ⟨gs2, 0, none⟩), .int .i64 err]) ∧ w2.heap[g0]? = some (.cells (acell a).toArray 34 (0, 0)) ∧
          Play W w2 gs2 b2 gx2 sv2 av2 wv2 ss2 ws2 dur2 pend2 (nwAt (a.d % 7) err nw) bud2 := by
  obtain ⟨dur2, pend2, bud2, err, hdo, hdd, _, hp2, hb2, herr⟩ := both_do hok h.B h.D h.pv h.R h.bud hnw hmany
  refine ⟨dur2, pend2, bud2, err, herr, hp2, hdo.mono fun e w1 hd => ?_⟩
  obtain ⟨gx2, sv2, av2, wv2, ss2, ws2, he, hR1, hav, ho1⟩ := hd
  have hnR : ¬ RP gx sv av wv g0 := fun e => by
    rcases (RP_type h.R e).2 with ⟨c2, e2⟩ | ⟨c2, e2⟩ | ⟨e3, c2, e2⟩ <;> exact not_same hg0 e2 (by decide)
  have hg1 := act_stays (base := 0) ho1 hg0 hnR
  have hD1 : Disk w1 gs b dur pend nw bud := h.D.only ho1 (fun e => play_apart h.D h.R h.ne (.inl rfl) e) (fun e => play_apart h.D h.R h.ne (.inr (.inl rfl)) e) (fun e => play_apart h.D h.R h.ne (.inr (.inr (.inl rfl))) e) (fun g hg e => play_apart h.D h.R h.ne (.inr (.inr (.inr hg.symm))) e)
  have hB1 : Below W.heap.size W w1 := h.B.trans (ho1.below (fun k hk => (RP_type h.R hk).1) h.B.size)
  have hgl : b.gl < w.heap.size := (World.ownsRow.lt h.D.la b.gl rfl).2
  have hne1 : av2.ownBlock ≠ some b.gl := fun e => by
    rcases hav _ e with e2 | e2
    · exact h.ne e2
    · omega
  refine ⟨gx2, sv2, av2, wv2, ss2, ws2, he, hg1, (hdd w1 hB1 hD1).mono fun e w2 hd => ?_⟩
  obtain ⟨gs2, b2, he2, hD2, hpv2, hhigh, hgl2, ho2⟩ := hd
  have hnW : ¬ RW gs b g0 := fun e => by
    rcases RW_type hD1 e with ⟨c2, e2⟩ | ⟨c2, e2⟩ | ⟨_, c2, e2⟩ | ⟨c2, e2⟩ <;> exact not_same hg1 e2 (by decide)
  have hR2 : RD w2 W.heap.size gx2 sv2 av2 wv2 ss2 ws2 dur2 pend2 (norm bud2) := hR1.only ho2 (fun k hk e => play_apart hD1 hR1 hne1 e hk) (fun g cur hg e => by
    obtain ⟨n1, n2, n3, n4⟩ := hD1.not_bytes hg
    rcases e with e | e | e | e
    · exact n1 e
    · exact n2 e
    · exact n3 e
    · exact n4 e)
  have hhw : ∀ k, RW gs b k → W.heap.size ≤ k := fun k hk => by
    rcases hk with e | e | e | e
    · rw [e]; exact h.high.1
    · rw [e]; exact h.high.2.1
    · rw [e]; exact h.high.2.2.1
    · exact h.high.2.2.2 k e.symm
  refine ⟨gs2, b2, he2, act_stays (base := 0) ho2 hg1 hnW, ⟨hD2, hR2, hpv2, hhigh _ hB1.size h.high, fun e => ?_, hb2, hB1.trans (ho2.below hhw hB1.size)⟩⟩
  rcases hgl2 with e2 | e2
  · rw [e2] at e; exact hne1 e
  · obtain ⟨_, c, h4⟩ := own_type hR1.at_ e
    have := (Array.getElem?_eq_some_iff.1 h4).1
    omega
end Go.Proofs.Ytmhhcblgeellnaa
