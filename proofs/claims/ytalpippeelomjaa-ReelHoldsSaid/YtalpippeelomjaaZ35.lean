/- LAppend, LClean: joined by program (tools/merge.py). -/
import Derived.Test.YtalpippeelomjaaZ33
import Derived.Test.YtalpippeelomjaaZ34
namespace Go.Proofs.Ytalpippeelomjaa
open Go.RowKit Go.Shelf
set_option linter.unusedSimpArgs false
set_option linter.unusedVariables false
/-- What a write keeps by its type. -/
theorem write_keeps {w w' : World} {gr gs gen ser first secs size count k : Nat} {pv rv : Value} {ps : List PV} (h : ReelW w gr gs gen ser first secs pv ps size count rv k) {b : DB} {dur : List (List Nat)} {pend : List (Nat × List Nat)} {nw bud : Int} (hD : Disk w gs b dur pend nw bud)
    (hO : OnlyAt w w' (fun j => j = gs ∨ j = gr ∨ j = b.gl ∨ some j = b.pv.ownBlock ∨ some j = rv.ownBlock)) : ∀ (j : Nat) (cs : Array Value) (t : TypeId), w.heap[j]? = some (.cells cs t (0, 0)) → (t = 85 ∨ t = 5) → w'.heap[j]? = some (.cells cs t (0, 0)) := fun j cs t hj ht => by
  refine (hO.block j (lt_of_heap hj) ?_).trans hj
  have hne : ∀ (t' : TypeId) (cs' : Array Value), w.heap[j]? = some (.cells cs' t' (0, 0)) → t = t' := fun t' cs' h' => by
    rw [hj] at h'
    injection h' with h'
    injection h' with _ h' _
  rintro (e | e | e | e | e)
  · have := hne _ _ (e ▸ hD.st)
    rcases ht with rfl | rfl <;> revert this <;> decide
  · have := hne _ _ (e ▸ h.st)
    rcases ht with rfl | rfl <;> revert this <;> decide
  · obtain ⟨cs', h'⟩ := row_heap hD.la (k := j) (by rw [e]; rfl)
    have := hne _ _ h'
    rcases ht with rfl | rfl <;> revert this <;> decide
  · obtain ⟨cs', h'⟩ := row_heap hD.pe e.symm
    have := hne _ _ h'
    rcases ht with rfl | rfl <;> revert this <;> decide
  · obtain ⟨xs, hx⟩ := h.rep
    obtain ⟨cs', h'⟩ := row_heap hx e.symm
    have := hne _ _ h'
    rcases ht with rfl | rfl <;> revert this <;> decide
/-- Between two rounds of Append's loop. -/
def AppS (w : World) (gr gs gen ser first secs size count : Nat) (pv : Value) (ps : List PV) (b0 : DB) (dur : List (List Nat)) (pend : List (Nat × List Nat)) (nw : Int) (v5 : Value) (ps5 : List PV) (i : Value) (wr : World) : Prop :=
  ∃ k : Nat, k ≤ ps5.length ∧ i = .int .i64 (k : Int) ∧ ∃ (b : DB) (rv : Value), Disk wr gs b dur (pend ++ wrsF first (pgs ps) ((pgs ps5).take k)) (nw + ((wrsF first (pgs ps) ((pgs ps5).take k)).length : Nat)) (-1) ∧
    ReelW wr gr gs gen ser first secs pv ps size count rv (wrsF first (pgs ps) ((pgs ps5).take k)).length ∧ Pages wr 0 v5 ps5 ∧ OnlyAt w wr (fun j => j = gs ∨ j = gr ∨ j = b0.gl ∨ some j = b0.pv.ownBlock) ∧
    b.gd = b0.gd ∧ b.cd = b0.cd ∧ b.gl = b0.gl ∧ (b.pv.ownBlock = b0.pv.ownBlock ∨ ∃ g, b.pv.ownBlock = some g ∧ w.heap.size ≤ g) ∧ (∀ g, rv.ownBlock = some g → w.heap.size ≤ g)
theorem pgs_next {ps : List PV} {k : Nat} {p : PV} (h : ps[k]? = some p) : (pgs ps).take (k + 1) = (pgs ps).take k ++ [p.pg] := by
  rw [List.take_add_one]
  unfold pgs
  rw [List.getElem?_map, h]
  rfl
theorem only_below {w wr wx : World} {P : Nat → Prop} (h : OnlyAt w wr P) (hb : Below wr.heap.size wr wx) : OnlyAt w wx P := ⟨hb.os.trans h.os, hb.tape.trans h.tape, hb.output.trans h.output, Nat.le_trans h.size hb.size, fun j hj hp => (hb.block j (Nat.lt_of_lt_of_le hj h.size)).trans (h.block j hj hp)⟩
section
variable {w wr : World} {gr gs gen ser first secs size count k : Nat} {pv : Value} {ps : List PV} {b0 b : DB} {dur : List (List Nat)} {pend : List (Nat × List Nat)} {nw : Int} {v5 rv : Value} {ps5 : List PV} {p : PV}
/-- A page that lies there as it is. -/
theorem appS_old {wx : World} (hk : ps5[k]? = some p) (hold : (pgs ps)[p.num]? = some p.pg)
    (hD : Disk wr gs b dur (pend ++ wrsF first (pgs ps) ((pgs ps5).take k)) (nw + ((wrsF first (pgs ps) ((pgs ps5).take k)).length : Nat)) (-1)) (hR : ReelW wr gr gs gen ser first secs pv ps size count rv (wrsF first (pgs ps) ((pgs ps5).take k)).length) (hP : Pages wr 0 v5 ps5)
    (hO : OnlyAt w wr (fun j => j = gs ∨ j = gr ∨ j = b0.gl ∨ some j = b0.pv.ownBlock)) (h1 : b.gd = b0.gd) (h2 : b.cd = b0.cd) (h3 : b.gl = b0.gl) (h4 : b.pv.ownBlock = b0.pv.ownBlock ∨ ∃ g, b.pv.ownBlock = some g ∧ w.heap.size ≤ g) (h5 : ∀ g, rv.ownBlock = some g → w.heap.size ≤ g)
    (hb : Below wr.heap.size wr wx) : AppS w gr gs gen ser first secs size count pv ps b0 dur pend nw v5 ps5 (.int .i64 ((k + 1 : Nat) : Int)) wx := by
  have hlt := (List.getElem?_eq_some_iff.1 hk).1
  refine ⟨k + 1, hlt, rfl, b, rv, ?_⟩
  rw [pgs_next hk, wrsF_snoc_old (q := p.pg) hold]
  exact ⟨hD.below hb, hR.below hb, hP.below hb, only_below hO hb, h1, h2, h3, h4, h5⟩
/-- A page that is written. -/
theorem appS_new {wx wy : World} {b2 : DB} {rv2 : Value} (hk : ps5[k]? = some p) (hnew : ¬ (pgs ps)[p.num]? = some p.pg)
    (hD : Disk wr gs b dur (pend ++ wrsF first (pgs ps) ((pgs ps5).take k)) (nw + ((wrsF first (pgs ps) ((pgs ps5).take k)).length : Nat)) (-1)) (hR : ReelW wr gr gs gen ser first secs pv ps size count rv (wrsF first (pgs ps) ((pgs ps5).take k)).length) (hP : Pages wr 0 v5 ps5)
    (hO : OnlyAt w wr (fun j => j = gs ∨ j = gr ∨ j = b0.gl ∨ some j = b0.pv.ownBlock)) (h1 : b.gd = b0.gd) (h2 : b.cd = b0.cd) (h3 : b.gl = b0.gl) (h4 : b.pv.ownBlock = b0.pv.ownBlock ∨ ∃ g, b.pv.ownBlock = some g ∧ w.heap.size ≤ g) (h5 : ∀ g, rv.ownBlock = some g → w.heap.size ≤ g)
    (hb : Below wr.heap.size wr wx)
    (hD2 : Disk wy gs b2 dur ((pend ++ wrsF first (pgs ps) ((pgs ps5).take k)) ++ [(first + p.num, Go.Proofs.Ytalpippeelomjaa.page p.gen p.ser p.num p.kind p.data)]) (nw + ((wrsF first (pgs ps) ((pgs ps5).take k)).length : Nat) + 1) (-1))
    (hR2 : ReelW wy gr gs gen ser first secs pv ps size count rv2 ((wrsF first (pgs ps) ((pgs ps5).take k)).length + 1)) (hO2 : OnlyAt wx wy (fun j => j = gs ∨ j = gr ∨ j = b.gl ∨ some j = b.pv.ownBlock ∨ some j = rv.ownBlock))
    (g1 : b2.gd = b.gd) (g2 : b2.cd = b.cd) (g3 : b2.gl = b.gl) (g4 : b2.pv.ownBlock = b.pv.ownBlock ∨ ∃ g, b2.pv.ownBlock = some g ∧ wx.heap.size ≤ g) (g5 : rv2.ownBlock = rv.ownBlock ∨ ∃ g, rv2.ownBlock = some g ∧ wx.heap.size ≤ g) : AppS w gr gs gen ser first secs size count pv ps b0 dur pend nw v5 ps5 (.int .i64 ((k + 1 : Nat) : Int)) wy := by
  have hlt := (List.getElem?_eq_some_iff.1 hk).1
  have hOx := only_below hO hb
  refine ⟨k + 1, hlt, rfl, b2, rv2, ?_⟩
  rw [pgs_next hk, wrsF_snoc_new (q := p.pg) hnew, List.length_append, List.length_singleton, ← List.append_assoc, show nw + (((wrsF first (pgs ps) ((pgs ps5).take k)).length + 1 : Nat) : Int) = nw + ((wrsF first (pgs ps) ((pgs ps5).take k)).length : Nat) + 1 by omega]
  refine ⟨hD2, hR2, (hP.below hb).kty (write_keeps (hR.below hb) (hD.below hb) hO2), ⟨hO2.os.trans hOx.os, hO2.tape.trans hOx.tape, hO2.output.trans hOx.output, Nat.le_trans hOx.size hO2.size, fun j hj hp => (hO2.block j (Nat.lt_of_lt_of_le hj hOx.size) (fun h => ?_)).trans (hOx.block j hj hp)⟩, g1.trans h1, g2.trans h2, g3.trans h3, ?_, ?_⟩
  · rcases h with h | h | h | h | h
    · exact hp (.inl h)
    · exact hp (.inr (.inl h))
    · exact hp (.inr (.inr (.inl (h.trans h3))))
    · rcases h4 with h4 | ⟨g, e1, e2⟩
      · exact hp (.inr (.inr (.inr (h.trans h4))))
      · rw [e1] at h; injection h with h; omega
    · have := h5 j h.symm; omega
  · rcases g4 with g4 | ⟨g, e1, e2⟩
    · rw [g4]; exact h4
    · exact .inr ⟨g, e1, Nat.le_trans hOx.size e2⟩
  · intro g hg
    rcases g5 with g5 | ⟨g', e1, e2⟩
    · rw [g5] at hg; exact h5 g hg
    · rw [e1] at hg; injection hg with hg; have := hOx.size; omega
end
theorem parts1 {y : World} {v : Value} {l : List Nat} {gx : Nat} (hy : y.heap[gx]? = some (.cells #[v] 43 (0, 0))) (h : Bytes y y.heap.size v l) : Parts y y.heap.size (.slice (some ⟨gx, 0, none⟩) 1 1) [l] := by
  refine parts_block hy (Array.getElem?_eq_some_iff.1 hy).1 rfl rfl ?_ (by unfold maxLen; simp)
  intro j u l' h1 h3
  match j, h1, h3 with
  | 0, h1, h3 =>
    simp at h1 h3
    subst h1 h3
    exact h
  | j + 1, h1, h3 => simp at h1
/-- What an Append leaves. -/
def AppR (w : World) (gr gs gen ser first secs size count : Nat) (pv : Value) (ps : List PV) (b0 : DB) (dur : List (List Nat)) (pend : List (Nat × List Nat)) (nw : Int) (p : List Nat) (e : Ending) (w' : World) : Prop :=
  e = .returned (.int .i64 0) ∧ ∃ (b2 : DB) (pv2 : Value) (ps2 : List PV), pgs ps2 = (pgs ps).take (size / 487) ++ newsA gen ser (pgs ps) size p ∧
    Disk w' gs b2 dur (pend ++ wrsF first (pgs ps) (newsA gen ser (pgs ps) size p)) (nw + ((wrsF first (pgs ps) (newsA gen ser (pgs ps) size p)).length : Nat)) (-1) ∧
    Reel w' gr gs gen ser first secs pv2 ps2 (size + (rec1 p).length) (count + 1) ∧ OnlyAt w w' (fun j => j = gs ∨ j = gr ∨ j = b0.gl ∨ some j = b0.pv.ownBlock ∨ some j = pv.ownBlock) ∧
    b2.gd = b0.gd ∧ b2.cd = b0.cd ∧ b2.gl = b0.gl ∧ (b2.pv.ownBlock = b0.pv.ownBlock ∨ ∃ g, b2.pv.ownBlock = some g ∧ w.heap.size ≤ g) ∧ (pv2.ownBlock = pv.ownBlock ∨ ∃ g, pv2.ownBlock = some g ∧ w.heap.size ≤ g)
theorem end_rows {wr : World} {gr gs gen ser first secs size count k f cp g5 c5 : Nat} {Ap : Option Addr} {rv : Value} {ps ps5 : List PV} (hR : ReelW wr gr gs gen ser first secs (.slice Ap ps.length cp) ps size count rv k) (hP : Pages wr 0 (.slice (some ⟨g5, 0, none⟩) ps5.length c5) ps5) (hf : f ≤ ps.length) :
    (wr.setCell ⟨gr, 8, none⟩ (.slice none 0 0)).ownsRow 0 85 5 (.slice Ap f cp) f (pcells (ps.take f)) ∧ (∀ (j : Nat) (u : Value), (pcells ps5)[j]? = some u → (wr.setCell ⟨gr, 8, none⟩ (.slice none 0 0)).cell? ((⟨g5, 0, none⟩ : Addr).add j) = some u) ∧
    (wr.setCell ⟨gr, 8, none⟩ (.slice none 0 0)).heap[gr]? = some (.cells (rcells gs gen ser first secs (.slice Ap ps.length cp) size count (.slice none 0 0)) 84 (0, 0)) := by
  have hk : ∀ (j : Nat) (cs : Array Value), wr.heap[j]? = some (.cells cs 85 (0, 0)) → (wr.setCell ⟨gr, 8, none⟩ (.slice none 0 0)).heap[j]? = some (.cells cs 85 (0, 0)) := fun j cs hj => by
    rw [heap_setCell_other _ ⟨gr, 8, none⟩ j _ (fun e => ?_)]
    · exact hj
    · have e' : j = gr := e
      rw [e', hR.st] at hj
      injection hj with hj
      injection hj with _ hj _
      revert hj
      decide
  refine ⟨?_, ?_, ?_⟩
  · have h := (hR.pages.cut rfl hf).own
    rw [show (ps.take f).length = f by rw [List.length_take]; omega] at h
    exact own_kty h hk
  · exact (own_kty hP.own hk).cells rfl
  · rw [heap_setCell_same wr gr 8 _ _ _ hR.st]; rfl
theorem pcells_one (ps : List PV) : ∀ u ∈ pcells ps, u.oneCell' = true := fun u hu => by
  unfold pcells at hu
  obtain ⟨l, hl, hu⟩ := List.mem_flatten.1 hu
  obtain ⟨p, _, rfl⟩ := List.mem_map.1 hl
  unfold pcell at hu
  simp at hu
  rcases hu with rfl | rfl | rfl | rfl | rfl <;> rfl
set_option maxRecDepth 100000 in
set_option maxHeartbeats 8000000 in
theorem append_any {w : World} {gr gs gen ser first secs size count : Nat} {pv : Value} {ps : List PV} (hR : Reel w gr gs gen ser first secs pv ps size count) (hs4 : secs ≤ 2048) (hroom : size ≤ secs * 487) (A : Option Addr) (n c : Nat) (p : List Nat) (hp : Bytes w w.heap.size (.slice A n c) p) (hn : n ≤ 65536) (hfit : (rec1 p).length + size ≤ secs * 487)
    (hfr : size / 487 ≤ ps.length) (hl : ps.length ≤ 2048) (hg : gen < 4294967296) (hs : ser < 4294967296) (hin : size % 487 ≠ 0 → ∃ p, ps[size / 487]? = some p ∧ 4 + size % 487 ≤ p.data.length) (hlen : (rec1 p).length ≤ 65541) (hne : rec1 p ≠ []) (hnum : Nums (pgs ps))
    {b0 : DB} {dur : List (List Nat)} {pend : List (Nat × List Nat)} {nw : Int} (hD : Disk w gs b0 dur pend nw (-1)) (hnw : 0 ≤ nw ∧ nw ≤ 1000000) (hpend : pend.length ≤ 1000000) (hsec : first + secs ≤ dur.length) (hcnt : count ≤ 1000000) :
    Calls Try.prog 20 #[.pointer (some ⟨gr, 0, none⟩), .slice A n c] w (AppR w gr gs gen ser first secs size count pv ps b0 dur pend nw p) := by
  have c6 : w.cell? ⟨gr, 6, none⟩ = some (.int .i64 (size : Int)) := by unfold World.cell?; rw [hR.st]; rfl
  have hgl := lt_of_heap hR.st
  have HB := Lib.hid hp
  have HDD := Lib.hid hD
  have HNUM := Lib.hid hnum
  clear hD hnum
  have HR := Lib.hid hR
  have hn1 : ¬ (n : Int) > 65536 := by omega
  have hn2 : ¬ (65536 : Int) < (n : Int) := by omega
  obtain ⟨f, hf⟩ : ∃ f, f = size / 487 := ⟨_, rfl⟩
  have hdiv : (size : Int).tdiv 487 = (f : Int) := by rw [Int.tdiv_eq_ediv_of_nonneg (by omega)]; omega
  have hdiv2 : (size : Int) / 487 = (f : Int) := by omega
  obtain ⟨room, hrm⟩ : ∃ r, r = secs * 487 - size := ⟨_, rfl⟩
  obtain ⟨L, hL⟩ : ∃ L, L = (rec1 p).length := ⟨_, rfl⟩
  have hLr : ¬ (L : Int) > (room : Int) := by omega
  have hLr2 : ¬ (room : Int) < (L : Int) := by omega
  have HIN := Lib.hid hin
  have HNE := Lib.hid hne
  have HF := Lib.hid hf
  have HRM := Lib.hid hrm
  have HL := Lib.hid hL
  have HFIT := Lib.hid hfit
  have hlay1 : layR [p] = rec1 p := by rw [layR_cons, layR_nil, List.append_nil]
  have HLAY : Hid (∀ y g, Below w.heap.size w y → y.heap[g]? = some (.cells #[.slice A n c] 43 (0, 0)) → Calls Try.prog 40 #[.slice (some ⟨g, 0, none⟩) 1 1] y fun e w' => ∃ A n c, e = .returned (.slice A n c) ∧ Mine w' y.heap.size A n c (rec1 p) ∧ Below y.heap.size y w') := Lib.hid fun y g hy hg => by
    have h := lay_any y _ _ (parts1 hg (HB.out.along hy)) (by rw [hlay1]; omega)
    rw [hlay1] at h
    exact h
  clear hp hR hin hne hf hrm hL hlay1 hfit
  go_enter Try.func20, Try.ntmps20
  go_wp2_with (first
    | (go_at_call 40; (with_reducible refine (HLAY.out _ _ ((Below.refl _ _).alloc (Nat.le_refl _) _) (Go.heap_alloc_new _ _)).mono ?_); rintro e w2 ⟨A2, n2, c2, rfl, hM2, hb2⟩; go_loud (
       obtain rfl : n2 = L := hM2.len.trans HL.out.symm;
       have hbw2 := ((Below.refl w.heap.size w).alloc (Nat.le_refl _) (.cells #[.slice A n c] 43)).trans (hb2.mono (by simp));
       have hR2 := HR.out.below hbw2;
       have HRO := hide (room_any hR2.w (by omega) hroom);
       rw [← HRM.out] at HRO;
       have HB2 := Lib.hid hM2.bytes;
       have HBW2 := Lib.hid hbw2;
       have HR2 := Lib.hid hR2))
    | (go_at_call 18; (with_reducible refine (unhide HRO).mono ?_); rintro e w3 ⟨rfl, hb3⟩; go_loud (
       have hR3 := HR2.out.below hb3;
       have hB3 := HB2.out.along hb3;
       have HME := hide (mend_any hR3.w)))
    | (go_at_call 50; (with_reducible refine (unhide HME).mono ?_); rintro e w4 ⟨rfl, rfl⟩; go_loud (
       have c63 : w3.cell? ⟨gr, 6, none⟩ = some (.int .i64 (size : Int)) := by unfold World.cell?; rw [hR3.st]; rfl;
       have HEX := hide (extended_any hR3 hfr hl hg hs A2 n2 c2 (rec1 p) hB3 HIN.out (by omega) HNE.out (by omega));
       rw [← HF.out] at HEX))
    | (go_at_call 51; (with_reducible refine (unhide HEX).mono ?_); rintro e w5 ⟨v5, ps5, rfl, h51, h52, h53, h54⟩; obtain ⟨A5, c5, rfl⟩ := row_slice2 h51; obtain ⟨n5, hn5⟩ : ∃ k, k = ps5.length := ⟨_, rfl⟩; rw [← hn5] at h51 ⊢; have H51 := Lib.hid h51; have H52 := Lib.hid h52; have H53 := Lib.hid h53; have H54 := Lib.hid h54; have HN5 := Lib.hid hn5; have HR3 := Lib.hid hR3; have HBW3 := Lib.hid (HBW2.out.trans (hb3.mono HBW2.out.size)); clear h51 h52 h53 h54 hn5))
  have hb5 : Below w.heap.size w w5 := HBW3.out.trans (H54.out.mono HBW3.out.size)
  have hI0 : AppS w gr gs gen ser first secs size count pv ps b0 dur pend nw (.slice A5 n5 c5) ps5 (.int .i64 0) w5 := by
    have h51 := H51.out
    rw [HN5.out] at h51
    refine ⟨0, Nat.zero_le _, rfl, b0, .slice none 0 0, ?_⟩
    have e0 : wrsF first (pgs ps) ((pgs ps5).take 0) = [] := rfl
    rw [e0, List.append_nil]
    exact ⟨by simpa using HDD.out.below hb5, (HR.out.w).below hb5, ⟨by rw [HN5.out]; exact own_up h51 (fun _ _ => Nat.zero_le _), H52.out⟩, ⟨hb5.os, hb5.tape, hb5.output, hb5.size, fun j hj _ => hb5.block j hj⟩, rfl, rfl, rfl, .inl rfl, fun g e => by cases e⟩
  have HI0 := Lib.hid hI0
  clear hI0
  go_loopw [41] (fun i wr => AppS w gr gs gen ser first secs size count pv ps b0 dur pend nw (.slice A5 n5 c5) ps5 i wr) (fun i _ => n5 - (intOf i).toNat)
  case atStart => exact HI0.out
  case round =>
    obtain ⟨k, hk, rfl, b, rv, hD, hR, hP, hO, g1, g2, g3, g4, g5⟩ := hrel
    rw [← HN5.out] at hk
    by_cases hlt : k < n5
    · obtain ⟨q, hq⟩ : ∃ q, ps5[k]? = some q := ⟨_, List.getElem?_eq_getElem (by rw [← HN5.out]; exact hlt)⟩
      obtain ⟨gq, cq, hv, d0, d1, d2, d3, d4⟩ := hP.at_ hq
      rw [← HN5.out] at hv
      injection hv with hv1 _ hv3
      subst hv1
      subst hv3
      have hqg : (extF gen ser (pgs ps) f (serP (pgs ps) f) (partsL (newRow (pgs ps) size (rec1 p))))[k]? = some q.pg := by
        rw [← H53.out]
        unfold pgs
        rw [List.getElem?_map, hq]
        rfl
      have hnq : q.num = f + k := extF_num HNUM.out _ _ _ _ _ hqg
      have hkq := extF_kind _ _ _ _ _ hqg
      have hfit := HFIT.out
      have hn5s : f + n5 ≤ secs := by
        have h1 := congrArg List.length H53.out
        rw [pgs_length, extF_length, parts_length, ← HN5.out] at h1
        have h2 : (newRow (pgs ps) size (rec1 p)).length ≤ size % 487 + (rec1 p).length := by
          unfold newRow
          split
          · omega
          · rw [List.length_append, List.length_take]; omega
        unfold chunkM at h1
        have h3 := HF.out
        omega
      have hnl : ((wrsF first (pgs ps) ((pgs ps5).take k)).length) ≤ 2048 := by
        unfold wrsF
        rw [List.length_map]
        refine Nat.le_trans (List.length_filter_le _ _) ?_
        rw [List.length_take]
        omega
      have HNQ := Lib.hid hnq
      have HKQ := Lib.hid hkq
      clear hqg hnq hkq
      have hok := hP.ok q (List.mem_of_getElem? hq)
      have HHA : Hid (∀ y, Below wr.heap.size wr y → Calls Try.prog 52 #[.pointer (some ⟨gr, 0, none⟩), .agg #[.int .u32 (q.gen : Int), .int .u32 (q.ser : Int), .int .u32 (q.num : Int), .int .u8 (q.kind : Int), .slice q.A q.m q.c]] y fun e w' =>
        ∃ b : Bool, e = .returned (.bool b) ∧ (b = true ↔ (pgs ps)[q.num]? = some q.pg) ∧ Below y.heap.size y w') := Lib.hid fun y hy =>
        has_any (hR.below hy).st (hR.below hy).pages (by omega) q.gen q.ser q.num q.kind hok.num q.A q.m q.c q.data (hok.mine.bytes.along hy)
      have HQ := Lib.hid hq
      have HOK := Lib.hid hok
      have HDk := Lib.hid hD
      have HRk := Lib.hid hR
      have HPk := Lib.hid hP
      have HOk := Lib.hid hO
      have HG := Lib.hid (And.intro g1 (And.intro g2 (And.intro g3 (And.intro g4 g5))))
      clear hq hok hD hR hP hO g1 g2 g3 g4 g5
      go_wp2_with (go_at_call 52; (with_reducible refine (HHA.out _ ((Below.refl _ _).alloc (Nat.le_refl _) _)).mono ?_); rintro e w6 ⟨bb, rfl, hbb, hb6⟩; go_loud (
         have hz6 : w6.heap[wr.heap.size]? = some (.cells #[.int .u32 (q.gen : Int), .int .u32 (q.ser : Int), .int .u32 (q.num : Int), .int .u8 (q.kind : Int), .slice q.A q.m q.c] 85 (0, 0)) := (hb6.block wr.heap.size (by simp)).trans (Go.heap_alloc_new wr _);
         obtain ⟨y0, y1, y2, y3, y4, _⟩ := fives hz6;
         have hbk : Below wr.heap.size wr w6 := ((Below.refl wr.heap.size wr).alloc (Nat.le_refl _) _).trans (hb6.mono (by simp));
         have HBK := Lib.hid hbk;
         have HBB := Lib.hid hbb;
         clear hbb hbk hz6))
      · refine ⟨?_, by simp [intOf]; omega⟩
        exact appS_old HQ.out (HBB.out.1 (by first | assumption | rfl)) HDk.out HRk.out HPk.out HOk.out HG.out.1 HG.out.2.1 HG.out.2.2.1 HG.out.2.2.2.1 HG.out.2.2.2.2 HBK.out
      · have hnew : ¬ (pgs ps)[q.num]? = some q.pg := fun e => by
          have h2 := HBB.out.2 e
          cases h2 <;> contradiction
        have hkd : q.kind = 1 := by
          rcases HKQ.out with h | h
          · exact absurd (by rw [HNQ.out]; exact h) hnew
          · exact h.2.2.2
        have hkd2 : 0 < q.kind ∧ q.kind < 256 := by omega
        have hnum2 : first + q.num < dur.length := by have := HNQ.out; omega
        have hm491 : q.m ≤ 491 := by have h1 := HOK.out.mine.len; have h2 := HOK.out.few; omega
        have HWRT := Lib.hid (write_any (HRk.out.below HBK.out) (by omega) (HDk.out.below HBK.out) (by decide) (by decide) (by omega) (by rw [List.length_append]; omega) q.gen q.ser q.num q.kind HOK.out.gen HOK.out.ser HOK.out.num hkd2 q.A q.m q.c q.data (HOK.out.mine.bytes.along HBK.out) hm491 hnum2)
        have HNEW := Lib.hid hnew
        clear hnew hkd hkd2 hnum2 hm491
        go_wp2_with (go_at_call 53; (with_reducible refine (HWRT.out).mono ?_); rintro e w7 ⟨rfl, b7, rv7, hD7, hR7, hO7, j1, j2, j3, j4, j5⟩; have HD7 := Lib.hid hD7; have HR7 := Lib.hid hR7; have HO7 := Lib.hid hO7; have HJ7 := Lib.hid (And.intro j1 (And.intro j2 (And.intro j3 (And.intro j4 j5)))); clear hD7 hR7 hO7 j1 j2 j3 j4 j5)
        refine ⟨?_, by simp [intOf]; omega⟩
        exact appS_new HQ.out HNEW.out HDk.out HRk.out HPk.out HOk.out HG.out.1 HG.out.2.1 HG.out.2.2.1 HG.out.2.2.2.1 HG.out.2.2.2.2 HBK.out HD7.out HR7.out HO7.out HJ7.out.1 HJ7.out.2.1 HJ7.out.2.2.1 HJ7.out.2.2.2.1 HJ7.out.2.2.2.2
    · obtain rfl : k = n5 := by omega
      have hLb : n2 ≤ 65541 := by rw [HL.out]; exact hlen
      have hsb : size ≤ 1000000 := by omega
      have hf487 : f ≤ ps.length := by have := HF.out; omega
      have hpos : 0 < k := by
        have h1 := congrArg List.length H53.out
        rw [pgs_length, extF_length, parts_length, ← HN5.out] at h1
        have h2 : 1 ≤ (newRow (pgs ps) size (rec1 p)).length := by
          have h3 := rec1_pos p
          unfold newRow
          split
          · exact h3
          · rw [List.length_append]; omega
        unfold chunkM at h1
        omega
      have hk5 : k ≤ 4096 := by
        have h1 := congrArg List.length H53.out
        rw [pgs_length, extF_length, parts_length, ← HN5.out] at h1
        have h2 : (newRow (pgs ps) size (rec1 p)).length ≤ size % 487 + (rec1 p).length := by
          unfold newRow
          split
          · omega
          · rw [List.length_append, List.length_take]; omega
        unfold chunkM at h1
        omega
      obtain ⟨g5a, cap5, hv5, _, _⟩ := hP.own.form (by rw [← HN5.out]; exact hpos)
      injection hv5 with hA5 hn5' hc5
      subst hA5
      subst hc5
      obtain ⟨Ap, cp, rfl⟩ := hR.pages.form
      obtain ⟨g, rc, hrv⟩ := hR.rep.elim fun xs hx => row_slice2 hx
      subst hrv
      rw [HN5.out] at hP
      obtain ⟨r1, r2, r3⟩ := end_rows hR hP hf487
      have hrk := hR.st
      have z0 : wr.cell? ⟨gr, 8, none⟩ = some (.slice g (wrsF first (pgs ps) ((pgs ps5).take k)).length rc) := by unfold World.cell?; rw [hrk]; rfl
      have z1 : wr.frozen? ⟨gr, 8, none⟩ = false := frozen_of_row wr gr _ _ _ hrk
      have z5 : wr.cell? ⟨gr, 5, none⟩ = some (.slice Ap ps.length cp) := by unfold World.cell?; rw [hrk]; rfl
      obtain ⟨i0, hi0, hz0, hz1, hz2⟩ := info_parts infoPage
      obtain ⟨npl, hnpl⟩ : ∃ m, m = ps.length := ⟨_, rfl⟩
      have hcap : npl ≤ cp := by
        rw [hnpl]
        rcases hR.pages.own.2 with ⟨hv, hn⟩ | ⟨gg, cap, cur, hv, _, _, hc, _⟩
        · injection hv with _ h1 h2; omega
        · injection hv with _ h1 h2; omega
      have HI0 := Lib.hid hi0
      have HZ0 := Lib.hid hz0
      have HZ1 := Lib.hid hz1
      have HZ2 := Lib.hid hz2
      have HR1 := Lib.hid r1
      have HR2 := Lib.hid r2
      have HR3 := Lib.hid r3
      have HDk := Lib.hid hD
      have HRk := Lib.hid hR
      have HPk := Lib.hid hP
      have HOk := Lib.hid hO
      have HG := Lib.hid (And.intro g1 (And.intro g2 (And.intro g3 (And.intro g4 g5))))
      have hfn : f ≤ npl := by omega
      have hfc : f ≤ cp := by omega
      clear hD hR hP hO g1 g2 g3 g4 g5 r1 r2 r3 hi0 hz0 hz1 hz2 hrk hn5'
      rw [← hnpl] at z5
      have HNPL := Lib.hid hnpl
      clear hnpl
      go_wp2_with (first
        | (at_builtin; refine wpList_append_lies _ (by rfl) _ _ _ (by rfl) 0 85 i0 _ 5 40 Try.underlying81 HI0.out HZ0.out HZ1.out HZ2.out (by rfl) (by omega) (.slice Ap f cp) f _ (by rfl) HR1.out _ k c5 (pcells ps5) (by rfl) (by rw [pcells_length, HN5.out]) HR2.out (pcells_one ps5) hpos (by unfold maxLen; omega) (by omega) (Nat.zero_le _) _ rfl ?_; intro g6 k6 w6 hown6 hg6 hat6 hlt6; go_loud (have HOWN6 := Lib.hid hown6; have HG6 := Lib.hid hg6; have HAT6 := Lib.hid hat6; have st6 := keep_ty hg6 HR1.out HR3.out (by decide); rw [← HNPL.out] at st6; have u5 : w6.cell? ⟨gr, 5, none⟩ = some (.slice Ap npl cp) := (by unfold World.cell?; rw [st6]; rfl); have u6 : w6.cell? ⟨gr, 6, none⟩ = some (.int .i64 (size : Int)) := (by unfold World.cell?; rw [st6]; rfl); have u7 : w6.cell? ⟨gr, 7, none⟩ = some (.int .i64 (count : Int)) := (by unfold World.cell?; rw [st6]; rfl); have f5 : w6.frozen? ⟨gr, 5, none⟩ = false := frozen_of_row w6 gr _ _ _ st6; have f6 : w6.frozen? ⟨gr, 6, none⟩ = false := frozen_of_row w6 gr _ _ _ st6; have f7 : w6.frozen? ⟨gr, 7, none⟩ = false := frozen_of_row w6 gr _ _ _ st6; clear hown6 hg6 hat6 st6)))
      go_ret
      have hX : AppR w gr gs gen ser first secs size count (.slice Ap ps.length cp) ps b0 dur pend nw p (.returned (.int .i64 0)) (((w6.setCell ⟨gr, 5, none⟩ (.slice (some ⟨g6, 0, none⟩) (f + k) k6)).setCell ⟨gr, 6, none⟩ (.int .i64 ((size : Int) + (n2 : Int)))).setCell ⟨gr, 7, none⟩ (.int .i64 ((count : Int) + 1))) := by
        have enews : pgs ps5 = newsA gen ser (pgs ps) size p := by rw [H53.out, HF.out]; rfl
        have etake : (pgs ps5).take k = newsA gen ser (pgs ps) size p := by rw [List.take_of_length_le (by rw [pgs_length, HN5.out]; exact Nat.le_refl _), enews]
        have hlong : ∀ q ∈ ps5, 4 ≤ q.data.length := fun q hq => by
          have h1 : q.pg ∈ newsA gen ser (pgs ps) size p := by rw [← enews]; exact List.mem_map_of_mem hq
          refine extF_long (gen := gen) (ser := ser) (qs := pgs ps) (fun x hx => ?_) _ _ _ q.pg h1
          obtain ⟨y, hy, rfl⟩ := List.mem_map.1 hx
          exact HRk.out.long y hy
        have hD := HDk.out
        have hR := HRk.out
        rw [etake] at hD hR
        obtain ⟨e1, e2, e3⟩ := append_end (size' := size + n2) (count' := count + 1) hR hD HPk.out hf487 hlong HN5.out HR1.out HG6.out HOWN6.out _ _ _ rfl (by rw [Int.natCast_add]) (by first | rfl | rw [Int.natCast_add])
        have hO := HOk.out
        obtain ⟨g1, g2, g3, g4, g5⟩ := HG.out
        refine ⟨rfl, b, .slice (some ⟨g6, 0, none⟩) (f + k) k6, ps.take f ++ ps5, ?_, e1, ?_, ⟨e3.os.trans hO.os, e3.tape.trans hO.tape, e3.output.trans hO.output, Nat.le_trans hO.size e3.size, fun j hj hp => (e3.block j (Nat.lt_of_lt_of_le hj hO.size) (fun h => hp ?_)).trans (hO.block j hj (fun h => hp ?_))⟩, g1, g2, g3, g4, ?_⟩
        · rw [pgs_append, enews, ← HF.out]
          congr 1
          exact List.map_take
        · rw [← HL.out]
          exact e2
        · rcases h with h | h
          · exact .inr (.inl h)
          · exact .inr (.inr (.inr (.inr h)))
        · rcases h with h | h | h | h
          · exact .inl h
          · exact .inr (.inl h)
          · exact .inr (.inr (.inl h))
          · exact .inr (.inr (.inr (.inl h)))
        · rcases HAT6.out with h | h
          · refine .inl (Eq.trans h.symm ?_)
            cases Ap <;> rfl
          · refine .inr ⟨g6, rfl, ?_⟩
            have := hO.size
            rw [h]
            simp [World.setCell]
            omega
      refine Eq.mp ?_ hX
      kernel_rfl
end Go.Proofs.Ytalpippeelomjaa
namespace Go.Proofs.Ytalpippeelomjaa
open Go.RowKit
set_option linter.unusedSimpArgs false
set_option linter.unusedVariables false
def pageOf (q : Pg) : List Nat := Go.Proofs.Ytalpippeelomjaa.page q.gen q.ser q.num q.kind q.data
theorem snoc_rec {α : Type} {P : List α → Prop} (h0 : P []) (h1 : ∀ (l : List α) (a : α), P l → P (l ++ [a])) (l : List α) : P l := by
  have h : ∀ r : List α, P r.reverse := fun r => by
    induction r with
    | nil => exact h0
    | cons a r ih => rw [List.reverse_cons]; exact h1 _ _ ih
  have := h l.reverse
  rwa [List.reverse_reverse] at this
structure GoodPg (q : Pg) : Prop where
  gen : q.gen < 4294967296
  ser : q.ser < 4294967296
  num : q.num < 4294967296
  kind : 0 < q.kind
  few : q.data.length ≤ 491
theorem page_not_zero (g s n k : Nat) (d : List Nat) : ¬ ∀ b ∈ Go.Proofs.Ytalpippeelomjaa.page g s n k d, b = 0 := fun h => by
  have h1 := h 104 (by unfold Go.Proofs.Ytalpippeelomjaa.page; rw [pg_head]; exact List.mem_append_left _ (by simp))
  omega
theorem err_page {q : Pg} (h : GoodPg q) : errOf (pageOf q) = 0 := by
  refine err_none (page_length h.few) (page_not_zero _ _ _ _ _) (page_sealed h.few) ?_
  unfold pageOf
  rw [page_take h.few]
  exact pg_formed h.few h.kind
theorem pgOf_page {q : Pg} (h : GoodPg q) : pgOf (pageOf q) = q := by
  obtain ⟨h1, h2, h3, h4, h5, h6, _⟩ := pg_parts (kind := q.kind) h.few h.gen h.ser h.num
  have e : (pageOf q).take 508 = pg q.gen q.ser q.num q.kind q.data := page_take h.few
  unfold pgOf genOf serOf numbOf kinOf dataOf
  simp only [if_pos (err_page h), e, h1, h2, h3, h4, h5, h6]
theorem serP_take {qs : List Pg} {i k : Nat} (h : i ≤ k) : serP (qs.take k) i = serP qs i := by
  cases i with
  | zero => rfl
  | succ i =>
    show ((qs.take k)[i]?.map Pg.ser).getD 0 = (qs[i]?.map Pg.ser).getD 0
    rw [List.getElem?_take, if_pos (by omega)]
theorem serP_left {qs r : List Pg} {i : Nat} (h : i ≤ qs.length) : serP (qs ++ r) i = serP qs i := by
  cases i with
  | zero => rfl
  | succ i =>
    show ((qs ++ r)[i]?.map Pg.ser).getD 0 = (qs[i]?.map Pg.ser).getD 0
    rw [List.getElem?_append_left (by omega)]
theorem parts_take (row : List Nat) : ∀ n, ((List.range n).map (partK row)).flatten = row.take (487 * n)
  | 0 => by simp
  | n + 1 => by
    rw [List.range_succ, List.map_append, List.flatten_append, parts_take row n, Nat.mul_succ, List.take_add]
    simp [partK]
theorem parts_flatten (row : List Nat) : (partsL row).flatten = row := by
  unfold partsL
  rw [parts_take, List.take_of_length_le (by unfold chunkM; omega)]
structure Clean (gen ser : Nat) (X : List (List Nat)) (qs : List Pg) (recs : List (List Nat)) : Prop where
  few : qs.length = chunkM (layR recs).length
  room : qs.length ≤ X.length
  at_ : ∀ (i : Nat) (q : Pg), qs[i]? = some q → X[i]? = some (pageOf q) ∧ q.gen = gen ∧ q.kind = 1 ∧ q.num = i ∧ q.data = be4 (serP qs i) ++ partK (layR recs) i ∧ q.ser ≤ ser
  rest : ∀ (i : Nat) (s : List Nat), qs.length ≤ i → X[i]? = some s → s = noughts
  fit : Fit recs
  small : ∀ r ∈ recs, ∀ b ∈ r, b < 256
theorem partK_le (row : List Nat) (k : Nat) : (partK row k).length ≤ 487 := by unfold partK; rw [List.length_take]; omega
section
variable {gen ser : Nat} {X : List (List Nat)} {qs : List Pg} {recs : List (List Nat)}
theorem Clean.row (h : Clean gen ser X qs recs) : rowP qs = layR recs := by
  have e : (qs.map fun q => q.data.drop 4) = (List.range qs.length).map (partK (layR recs)) := by
    refine List.ext_getElem? fun i => ?_
    rw [List.getElem?_map, List.getElem?_map]
    by_cases hi : i < qs.length
    · rw [List.getElem?_range hi, List.getElem?_eq_getElem hi]
      have h1 := (h.at_ i qs[i] (List.getElem?_eq_getElem hi)).2.2.2.2.1
      simp only [Option.map_some]
      rw [h1, show (4 : Nat) = (be4 (serP qs i)).length from rfl, List.drop_left]
    · rw [List.getElem?_eq_none (by omega), List.getElem?_eq_none (by rw [List.length_range]; omega)]
      rfl
  unfold rowP
  rw [e, h.few]
  exact parts_flatten _
theorem Clean.good (h : Clean gen ser X qs recs) (hg : gen < 4294967296) (hs : ser < 4294967296) (hX : X.length ≤ 4096) {i : Nat} {q : Pg} (hq : qs[i]? = some q) : GoodPg q := by
  obtain ⟨_, h1, h2, h3, h4, h5⟩ := h.at_ i q hq
  have hi := (List.getElem?_eq_some_iff.1 hq).1
  have hr := h.room
  refine ⟨by omega, by omega, by omega, by omega, ?_⟩
  rw [h4, List.length_append, be4_length]
  have := partK_le (layR recs) i
  omega
theorem err_noughts : errOf noughts = 3 := err_blank noughts_length (fun b hb => List.eq_of_mem_replicate hb)
theorem openF_rest (gen : Nat) : ∀ (l : List (List Nat)) (o : OS) (k : Nat), (∀ s ∈ l, s = noughts) → ∃ lk, openF gen o l k = .inl ⟨o.ser, o.qs, lk⟩
  | [], o, k, _ => ⟨o.look, rfl⟩
  | s :: l, o, k, h => by
    have hs : s = noughts := h s (by simp)
    have e3 := err_noughts
    rw [openF_step (by unfold OS.bad; rw [hs, e3]; simp), step_err (by rw [hs, e3]; omega)]
    exact openF_rest gen l _ _ (fun x hx => h x (by simp [hx]))
theorem nextP_clean (h : Clean gen ser X qs recs) {k : Nat} {q : Pg} (hq : qs[k]? = some q) : nextP gen (qs.take k) q = true := by
  obtain ⟨_, h1, h2, h3, h4, _⟩ := h.at_ k q hq
  have hk := (List.getElem?_eq_some_iff.1 hq).1
  have hl : (qs.take k).length = k := by rw [List.length_take]; omega
  unfold nextP
  rw [hl, decide_eq_true h1, decide_eq_true h2, decide_eq_true h3, serP_take (Nat.le_refl _), h4]
  rw [show (be4 (serP qs k) ++ partK (layR recs) k).take 4 = be4 (serP qs k) from List.take_left' rfl]
  simp
def topS (s : Nat) (qs : List Pg) : Nat := qs.foldl (fun m q => max m q.ser) s
theorem topS_snoc (s : Nat) (qs : List Pg) (q : Pg) : topS s (qs ++ [q]) = max (topS s qs) q.ser := by unfold topS; rw [List.foldl_append]; rfl
set_option maxHeartbeats 1000000 in
theorem openF_clean (h : Clean gen ser X qs recs) (hg : gen < 4294967296) (hs : ser < 4294967296) (hX : X.length ≤ 4096) (s0 : Nat) : ∀ (d k : Nat) (lk : Bool), k + d = qs.length → (k < qs.length → lk = true) → ∃ lk', openF gen ⟨topS s0 (qs.take k), qs.take k, lk⟩ (X.drop k) k = .inl ⟨topS s0 qs, qs, lk'⟩
  | 0, k, lk, hk, _ => by
    obtain rfl : k = qs.length := by omega
    rw [List.take_of_length_le (Nat.le_refl _)]
    refine openF_rest gen _ _ _ fun s hs => ?_
    obtain ⟨i, hi⟩ := List.mem_iff_getElem?.1 hs
    rw [List.getElem?_drop] at hi
    exact h.rest _ s (Nat.le_add_right _ _) hi
  | d + 1, k, lk, hk, hl => by
    have hlt : k < qs.length := by omega
    obtain rfl := hl hlt
    have hq : qs[k]? = some qs[k] := List.getElem?_eq_getElem hlt
    obtain ⟨h0, h1, h2, h3, h4, h5⟩ := h.at_ k _ hq
    have hgd := h.good hg hs hX hq
    obtain ⟨hkX, hx⟩ := List.getElem?_eq_some_iff.1 h0
    have e0 := err_page hgd
    have ep := pgOf_page hgd
    rw [List.drop_eq_getElem_cons hkX, hx, openF_step (by unfold OS.bad; rw [e0]; simp)]
    have eg : genOf (pageOf qs[k]) = gen := by have := congrArg Pg.gen ep; exact this.trans h1
    have es : serOf (pageOf qs[k]) = (qs[k]).ser := congrArg Pg.ser ep
    have ed : dataOf (pageOf qs[k]) = (qs[k]).data := congrArg Pg.data ep
    rw [step_yes e0 eg rfl (by rw [ep]; exact nextP_clean h hq), es, ed, ep]
    have et : qs.take k ++ [qs[k]] = qs.take (k + 1) := (List.take_succ_eq_append_getElem hlt).symm
    rw [show max (OS.mk (topS s0 (qs.take k)) (qs.take k) true).ser (qs[k]).ser = topS s0 (qs.take (k + 1)) by rw [← et, topS_snoc]]
    rw [show (OS.mk (topS s0 (qs.take k)) (qs.take k) true).qs = qs.take k from rfl, et]
    refine openF_clean h hg hs hX s0 d (k + 1) _ (by omega) fun hlt2 => ?_
    rw [decide_eq_true_iff, h4, List.length_append, be4_length]
    have hf := h.few
    have : (partK (layR recs) k).length = 487 := by
      unfold partK
      rw [List.length_take, List.length_drop]
      unfold chunkM at hf
      omega
    omega
theorem open_clean (h : Clean gen ser X qs recs) (hg : gen < 4294967296) (hs : ser < 4294967296) (hX : X.length ≤ 4096) (s0 : Nat) : ∃ lk, openX gen s0 X = .inl ⟨topS s0 qs, qs, lk⟩ := by
  have h1 := openF_clean h hg hs hX s0 qs.length 0 true (by omega) (fun _ => rfl)
  rw [List.drop_zero] at h1
  exact h1
theorem topS_le {s m : Nat} : ∀ {qs : List Pg}, s ≤ m → (∀ q ∈ qs, q.ser ≤ m) → topS s qs ≤ m := by
  intro qs
  refine snoc_rec (P := fun qs => s ≤ m → (∀ q ∈ qs, q.ser ≤ m) → topS s qs ≤ m) ?_ ?_ qs
  · intro h _; exact h
  · intro qs q ih h hq
    rw [topS_snoc]
    exact Nat.max_le.2 ⟨ih h (fun x hx => hq x (by simp [hx])), hq q (by simp)⟩
theorem le_topS {s : Nat} : ∀ {qs : List Pg}, s ≤ topS s qs ∧ ∀ q ∈ qs, q.ser ≤ topS s qs := by
  intro qs
  refine snoc_rec (P := fun qs => s ≤ topS s qs ∧ ∀ q ∈ qs, q.ser ≤ topS s qs) ?_ ?_ qs
  · exact ⟨Nat.le_refl _, fun q hq => by cases hq⟩
  · intro qs q ih
    rw [topS_snoc]
    refine ⟨Nat.le_trans ih.1 (Nat.le_max_left _ _), fun x hx => ?_⟩
    rcases List.mem_append.1 hx with hx | hx
    · exact Nat.le_trans (ih.2 x hx) (Nat.le_max_left _ _)
    · rw [List.mem_singleton] at hx
      rw [hx]
      exact Nat.le_max_right _ _
/-- Blank sectors are an empty log. -/
theorem clean_blank (gen ser n : Nat) : Clean gen ser (List.replicate n noughts) [] [] :=
  ⟨rfl, Nat.zero_le _, fun i q h => by simp at h, fun i s _ h => List.eq_of_mem_replicate (List.mem_of_getElem? h), (fun s h => by cases h), (fun s h => by cases h)⟩
theorem Clean.up (h : Clean gen ser X qs recs) {ser' : Nat} (hs : ser ≤ ser') : Clean gen ser' X qs recs :=
  ⟨h.few, h.room, fun i q hq => by obtain ⟨a, b, c, d, e, f⟩ := h.at_ i q hq; exact ⟨a, b, c, d, e, by omega⟩, h.rest, h.fit, h.small⟩
theorem Clean.nums (h : Clean gen ser X qs recs) : Nums qs := fun i q hq => (h.at_ i q hq).2.2.2.1
/-- The row behind the whole pages. -/
theorem Clean.newRow (h : Clean gen ser X qs recs) (rc : List Nat) : Go.Proofs.Ytalpippeelomjaa.newRow qs (layR recs).length rc = (layR recs ++ rc).drop (487 * ((layR recs).length / 487)) := by
  obtain ⟨n, hn⟩ : ∃ n, n = (layR recs).length := ⟨_, rfl⟩
  have hd : (layR recs ++ rc).drop (487 * (n / 487)) = (layR recs).drop (487 * (n / 487)) ++ rc := List.drop_append_of_le_length (by omega)
  rw [← hn, hd]
  unfold Go.Proofs.Ytalpippeelomjaa.newRow
  by_cases h0 : n % 487 = 0
  · rw [if_pos h0, List.drop_of_length_le (by omega), List.nil_append]
  · rw [if_neg h0]
    have hf := h.few
    have hlt : n / 487 < qs.length := by rw [hf, ← hn]; unfold chunkM; omega
    have hq : qs[n / 487]? = some qs[n / 487] := List.getElem?_eq_getElem hlt
    have h4 := (h.at_ _ _ hq).2.2.2.2.1
    rw [hq, Option.map_some, Option.getD_some, h4, show (4 : Nat) = (be4 (serP qs (n / 487))).length from rfl, List.drop_left]
    unfold partK
    rw [List.take_take, List.take_of_length_le (by rw [List.length_drop]; omega)]
end
theorem mkP_data {gen ser i bf : Nat} {qs : List Pg} {part : List Nat} : (mkP gen ser qs i bf part).data = be4 bf ++ part := by
  unfold mkP
  split
  · split
    · assumption
    · rfl
  · rfl
theorem extF_at {gen ser : Nat} {qs : List Pg} : ∀ (parts : List (List Nat)) (i bf j : Nat) (q : Pg), (extF gen ser qs i bf parts)[j]? = some q →
    ∃ part, parts[j]? = some part ∧ q = mkP gen ser qs (i + j) (match j with | 0 => bf | j' + 1 => ((extF gen ser qs i bf parts)[j']?.map Pg.ser).getD 0) part
  | [], _, _, j, q, e => by simp [extF] at e
  | p :: r, i, bf, 0, q, e => by
    simp [extF] at e
    exact ⟨p, rfl, e.symm⟩
  | p :: r, i, bf, j + 1, q, e => by
    have e' : (extF gen ser qs (i + 1) (mkP gen ser qs i bf p).ser r)[j]? = some q := by simpa [extF] using e
    obtain ⟨part, h1, h2⟩ := extF_at r (i + 1) _ j q e'
    refine ⟨part, by simpa using h1, ?_⟩
    rw [h2, show i + 1 + j = i + (j + 1) by omega]
    congr 1
    cases j with
    | zero => simp [extF]
    | succ j => simp [extF]
/-- The writes of pages one behind the other. -/
theorem applied_news {first f : Nat} {qs : List Pg} : ∀ (news : List Pg) (D : List (List Nat)), (∀ (j : Nat) (q : Pg), news[j]? = some q → q.num = f + j) → first + f + news.length ≤ D.length →
    (applied (wrsF first qs news) D).length = D.length ∧
    (∀ (j : Nat) (q : Pg), news[j]? = some q → (applied (wrsF first qs news) D)[first + f + j]? = if qs[q.num]? = some q then D[first + f + j]? else some (pageOf q)) ∧
    (∀ i, (i < first + f ∨ first + f + news.length ≤ i) → (applied (wrsF first qs news) D)[i]? = D[i]?) := by
  intro news
  refine snoc_rec (P := fun news => ∀ (D : List (List Nat)), (∀ (j : Nat) (q : Pg), news[j]? = some q → q.num = f + j) → first + f + news.length ≤ D.length →
    (applied (wrsF first qs news) D).length = D.length ∧
    (∀ (j : Nat) (q : Pg), news[j]? = some q → (applied (wrsF first qs news) D)[first + f + j]? = if qs[q.num]? = some q then D[first + f + j]? else some (pageOf q)) ∧
    (∀ i, (i < first + f ∨ first + f + news.length ≤ i) → (applied (wrsF first qs news) D)[i]? = D[i]?)) ?_ ?_ news
  · intro D _ _; exact ⟨rfl, fun j q h => by simp at h, fun i _ => rfl⟩
  · intro news q ih D hn hl
    rw [List.length_append, List.length_singleton] at hl
    have hn' : ∀ (j : Nat) (x : Pg), news[j]? = some x → x.num = f + j := fun j x h => hn j x (by rw [List.getElem?_append_left (List.getElem?_eq_some_iff.1 h).1]; exact h)
    obtain ⟨h1, h2, h3⟩ := ih D hn' (by omega)
    have hq : q.num = f + news.length := hn news.length q (by rw [List.getElem?_append_right (Nat.le_refl _)]; simp)
    by_cases hc : qs[q.num]? = some q
    · rw [wrsF_snoc_old hc]
      refine ⟨h1, fun j x hx => ?_, fun i hi => h3 i (by rw [List.length_append, List.length_singleton] at hi; omega)⟩
      by_cases hj : j < news.length
      · exact h2 j x (by rw [List.getElem?_append_left hj] at hx; exact hx)
      · have hj2 : j = news.length := by
          have := (List.getElem?_eq_some_iff.1 hx).1
          rw [List.length_append, List.length_singleton] at this
          omega
        subst hj2
        have ex : x = q := by rw [List.getElem?_append_right (Nat.le_refl _)] at hx; simpa using hx.symm
        subst ex
        rw [if_pos hc]
        exact h3 _ (by omega)
    · rw [wrsF_snoc_new hc, applied_snoc]
      have hqn : first + q.num = first + f + news.length := by omega
      refine ⟨by rw [List.length_set]; exact h1, fun j x hx => ?_, fun i hi => ?_⟩
      · by_cases hj : j < news.length
        · rw [List.getElem?_set_ne (by dsimp only; omega)]
          exact h2 j x (by rw [List.getElem?_append_left hj] at hx; exact hx)
        · have hj2 : j = news.length := by
            have := (List.getElem?_eq_some_iff.1 hx).1
            rw [List.length_append, List.length_singleton] at this
            omega
          subst hj2
          have ex : x = q := by rw [List.getElem?_append_right (Nat.le_refl _)] at hx; simpa using hx.symm
          subst ex
          rw [if_neg hc]
          dsimp only
          rw [hqn, List.getElem?_set_self (by rw [h1]; omega)]
          rfl
      · rw [List.length_append, List.length_singleton] at hi
        rw [List.getElem?_set_ne (by dsimp only; omega)]
        exact h3 i (by omega)
theorem getElem?_view {D : List (List Nat)} {first secs i : Nat} (h : i < secs) : ((D.drop first).take secs)[i]? = D[first + i]? := by rw [List.getElem?_take, if_pos h, List.getElem?_drop]
/-- An Append to a log that lies whole. -/
theorem clean_append {gen ser first secs : Nat} {D : List (List Nat)} {qs : List Pg} {recs : List (List Nat)} (h : Clean gen ser ((D.drop first).take secs) qs recs) (hD : first + secs ≤ D.length) (p : List Nat) (hp : p.length ≤ 65536) (hps : ∀ b ∈ p, b < 256) (hfit : (rec1 p).length + (layR recs).length ≤ secs * 487) :
    Clean gen ser (((applied (wrsF first qs (newsA gen ser qs (layR recs).length p)) D).drop first).take secs) (qs.take ((layR recs).length / 487) ++ newsA gen ser qs (layR recs).length p) (recs ++ [p]) ∧
    (applied (wrsF first qs (newsA gen ser qs (layR recs).length p)) D).length = D.length ∧
    (newsA gen ser qs (layR recs).length p).length ≤ secs ∧ (∃ q ∈ newsA gen ser qs (layR recs).length p, q.ser = ser) := by
  obtain ⟨n, hn⟩ : ∃ n, n = (layR recs).length := ⟨_, rfl⟩
  obtain ⟨f, hf⟩ : ∃ f, f = n / 487 := ⟨_, rfl⟩
  obtain ⟨news, hnw⟩ : ∃ l, l = newsA gen ser qs n p := ⟨_, rfl⟩
  have hrow : newRow qs n (rec1 p) = (layR (recs ++ [p])).drop (487 * f) := by rw [hn, h.newRow, layR_snoc, hf, hn]
  have hlay : (layR (recs ++ [p])).length = n + (rec1 p).length := by rw [layR_snoc, List.length_append, hn]
  have hr1 := rec1_pos p
  have hXl : ((D.drop first).take secs).length = secs := by rw [List.length_take, List.length_drop]; omega
  have hqs : qs.length = chunkM n := by rw [hn]; exact h.few
  have hfq : f ≤ qs.length := by rw [hqs, hf]; unfold chunkM; omega
  have hnl : news.length = chunkM (n + (rec1 p).length) - f := by
    rw [hnw]
    unfold newsA
    rw [extF_length, parts_length, hrow, List.length_drop, hlay]
    unfold chunkM
    omega
  have hnl2 : f + news.length = chunkM (n + (rec1 p).length) := by rw [hnl, hf]; unfold chunkM; omega
  have hcm : chunkM (n + (rec1 p).length) ≤ secs := by unfold chunkM; omega
  have hnum : ∀ (j : Nat) (q : Pg), news[j]? = some q → q.num = f + j := fun j q hq => by
    rw [hnw] at hq
    unfold newsA at hq
    rw [← hf] at hq
    exact extF_num h.nums _ _ _ _ _ hq
  obtain ⟨a1, a2, a3⟩ := applied_news (first := first) (f := f) (qs := qs) news D hnum (by omega)
  have hview : ∀ (j : Nat) (q : Pg), news[j]? = some q → (((applied (wrsF first qs news) D).drop first).take secs)[f + j]? = some (pageOf q) := fun j q hq => by
    have hj := (List.getElem?_eq_some_iff.1 hq).1
    rw [getElem?_view (by omega), show first + (f + j) = first + f + j by omega, a2 j q hq]
    by_cases hc : qs[q.num]? = some q
    · rw [if_pos hc, ← (h.at_ _ _ hc).1, hnum j q hq, getElem?_view (by omega), show first + (f + j) = first + f + j by omega]
    · rw [if_neg hc]
  have hview2 : ∀ i, i < f ∨ f + news.length ≤ i → (((applied (wrsF first qs news) D).drop first).take secs)[i]? = ((D.drop first).take secs)[i]? := fun i hi => by
    by_cases his : i < secs
    · rw [getElem?_view his, getElem?_view his, a3 _ (by omega)]
    · rw [List.getElem?_eq_none (by rw [List.length_take]; omega), List.getElem?_eq_none (by rw [List.length_take]; omega)]
  have htl : (qs.take f).length = f := by rw [List.length_take]; omega
  -- what each new page is
  have hnew : ∀ (j : Nat) (q : Pg), news[j]? = some q → q = mkP gen ser qs (f + j) (serP (qs.take f ++ news) (f + j)) (partK (layR (recs ++ [p])) (f + j)) := fun j q hq => by
    have hq' := hq
    rw [hnw] at hq'
    unfold newsA at hq'
    rw [← hf] at hq'
    obtain ⟨part, h1, h2⟩ := extF_at _ _ _ _ _ hq'
    have h3 : part = partK (layR (recs ++ [p])) (f + j) := by
      unfold partsL at h1
      rw [List.getElem?_map] at h1
      have hjl : j < chunkM (newRow qs n (rec1 p)).length := by
        have := (List.getElem?_eq_some_iff.1 hq').1
        rwa [extF_length, parts_length] at this
      rw [List.getElem?_range hjl, Option.map_some] at h1
      injection h1 with h1
      rw [← h1, hrow]
      unfold partK
      rw [List.drop_drop, show 487 * f + 487 * j = 487 * (f + j) by omega]
    rw [h2, h3]
    congr 1
    cases j with
    | zero => rw [Nat.add_zero, serP_left (by omega), serP_take (Nat.le_refl _)]
    | succ j =>
      show _ = (((qs.take f ++ news)[f + j]?).map Pg.ser).getD 0
      rw [List.getElem?_append_right (by omega), htl, show f + j - f = j by omega, hnw]
      unfold newsA
      rw [← hf]
  have hser : ∀ (j : Nat) (q : Pg), news[j]? = some q → q.gen = gen ∧ q.kind = 1 ∧ q.ser ≤ ser := fun j q hq => by
    have e := hnew j q hq
    rcases mkP_kind (gen := gen) (ser := ser) (i := f + j) (bf := serP (qs.take f ++ news) (f + j)) (qs := qs) (part := partK (layR (recs ++ [p])) (f + j)) with h1 | h1
    · rw [← e] at h1
      obtain ⟨_, b, c, _, _, g⟩ := h.at_ _ _ h1
      exact ⟨b, c, g⟩
    · rw [e, h1]; exact ⟨rfl, rfl, Nat.le_refl _⟩
  have hnp : 0 < news.length := by rw [hnl]; unfold chunkM; omega
  rw [← hn, ← hf, ← hnw]
  refine ⟨⟨?_, ?_, ?_, ?_, ?_, ?_⟩, a1, by omega, ?_⟩
  · rw [List.length_append, htl, hlay, hnl2]
  · rw [List.length_append, htl, hnl2, List.length_take, List.length_drop, a1]; omega
  · intro i q hq
    by_cases hi : i < f
    · have hq' : qs[i]? = some q := by
        rw [List.getElem?_append_left (by omega), List.getElem?_take, if_pos hi] at hq
        exact hq
      obtain ⟨b0, b1, b2, b3, b4, b5⟩ := h.at_ i q hq'
      refine ⟨(hview2 i (.inl hi)).trans b0, b1, b2, b3, ?_, b5⟩
      rw [b4, serP_left (by omega), serP_take (by omega)]
      congr 1
      unfold partK
      rw [layR_snoc, List.drop_append_of_le_length (by omega), List.take_append_of_le_length (by rw [List.length_drop]; omega)]
    · obtain ⟨j, rfl⟩ : ∃ j, i = f + j := ⟨i - f, by omega⟩
      have hq' : news[j]? = some q := by
        rw [List.getElem?_append_right (by omega), htl, show f + j - f = j by omega] at hq
        exact hq
      obtain ⟨s1, s2, s3⟩ := hser j q hq'
      exact ⟨hview j q hq', s1, s2, hnum j q hq', by rw [hnew j q hq', mkP_data], s3⟩
  · intro i s hi hs
    rw [List.length_append, htl] at hi
    rw [hview2 i (.inr hi)] at hs
    refine h.rest i s ?_ hs
    rw [hqs]
    have : chunkM n ≤ chunkM (n + (rec1 p).length) := by unfold chunkM; omega
    omega
  · intro s hs
    rcases List.mem_append.1 hs with hs | hs
    · exact h.fit s hs
    · rw [List.mem_singleton] at hs; rw [hs]; exact hp
  · intro s hs
    rcases List.mem_append.1 hs with hs | hs
    · exact h.small s hs
    · rw [List.mem_singleton] at hs; rw [hs]; exact hps
  · -- the first one changes
    have hq0 : news[0]? = some news[0] := List.getElem?_eq_getElem hnp
    refine ⟨news[0], List.getElem_mem hnp, ?_⟩
    have e := hnew 0 _ hq0
    rcases mkP_kind (gen := gen) (ser := ser) (i := f + 0) (bf := serP (qs.take f ++ news) (f + 0)) (qs := qs) (part := partK (layR (recs ++ [p])) (f + 0)) with h1 | h1
    · exfalso
      rw [← e] at h1
      obtain ⟨_, _, _, _, b4, _⟩ := h.at_ _ _ h1
      have e2 := congrArg Pg.data e
      rw [mkP_data] at e2
      have hl1 := congrArg List.length b4
      have hl2 := congrArg List.length e2
      have hlt := (List.getElem?_eq_some_iff.1 h1).1
      rw [List.length_append, be4_length] at hl1 hl2
      unfold partK at hl1 hl2
      rw [List.length_take, List.length_drop] at hl1 hl2
      rw [← hn] at hl1
      rw [hlay] at hl2
      rw [hqs] at hlt
      unfold chunkM at hlt
      omega
    · rw [e, h1]
end Go.Proofs.Ytalpippeelomjaa
