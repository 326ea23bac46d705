/- LRefOpen, LRefSer, LReadsB: joined by program (tools/merge.py). -/
import Derived.Test.YtalpippeelomjaaZ45
import Derived.Test.YtalpippeelomjaaRParseC
import Derived.Test.YtalpippeelomjaaZ28
import Derived.Deep.RegionLaw
namespace Go.Proofs.Ytalpippeelomjaa
open Go.RowKit Go.Shelf
set_option linter.unusedSimpArgs false
set_option linter.unusedVariables false
theorem step_append_some {P : Program} {w : World} {ops : Array Oper} {o : Oper} {a : Act} {K : Act → World → Prop} {Q : Exit → Act → World → Prop} {E : Prop} (hgd : o.guard = none) (s x : Operand) (t : TypeId)
    (ho : o.op = .call { callee := .builtin .append, args := #[s, x], argTypes := #[t, t] })
    (base : Nat) (e : TypeId) (i : TypeInfo) (z : Value) (size bytes : Nat) (ht : P.underlying t = some (.slice e)) (hi : P.info? e = some i) (hz : i.zero = some z)
    (hsize : i.size = size) (hby : i.bytes = bytes) (hzs : z.cells.size = size) (hsz : 0 < size)
    (v : Value) (n : Nat) (xs : List Value) (hs : a.eval s = v) (hown : w.ownsRow base e size v n xs)
    (ad : Addr) (m c : Nat) (news : List Value) (hx : a.eval x = .slice (some ad) m c) (hl : news.length = m * size) (hnews : ∀ j u, news[j]? = some u → w.cell? (ad.add j) = some u) (h1 : ∀ u ∈ news, u.oneCell' = true)
    (h63 : n + m ≤ maxLen) (hbytes : (n + m) * bytes ≤ 140737488355328) (hbase : base ≤ w.heap.size)
    (h : ∀ v' w', w'.ownsRow base e size v' (n + m) (xs ++ news) → w.grownBy w' v.ownBlock → (v' = .slice none 0 0 ↔ v = .slice none 0 0 ∧ m = 0) → K (a.put o.dst v') w') :
    if Region.wanted o (yielded ops a.tmps) = true then Oper.wp P o a w K Q else E := by
  have hw : Region.wanted o (yielded ops a.tmps) = true := by simp [Region.wanted, hgd]
  rw [if_pos hw]
  exact wp_append_own w s x t ho base e i z size bytes ht hi hz hsize hby hzs hsz v n xs hs hown ad m c news hx hl hnews h1 h63 hbytes hbase h
theorem openF_off (gen : Nat) : ∀ (l : List (List Nat)) (o : OS) (k : Nat), o.look = false → ∃ o', openF gen o l k = .inl o' ∧ o'.qs = o.qs
  | [], o, k, _ => ⟨o, rfl, rfl⟩
  | s :: l, o, k, h => by
    have hb : o.bad s = false := by unfold OS.bad; rw [h]; rfl
    have hn : o.next gen s = false := by unfold OS.next; rw [h]; rfl
    have hs : o.step gen s = ⟨o.top gen s, o.qs, false⟩ := by unfold OS.step; rw [hn]; rfl
    rw [openF_step hb, hs]
    exact openF_off gen l ⟨o.top gen s, o.qs, false⟩ (k + 1) rfl
/-- What the reference answers, by what Open comes to. -/
def ROpen (r : Sum OS Nat) (w : World) (e : Ending) (w' : World) : Prop :=
  Below w.heap.size w w' ∧ match r with
  | .inr k => e = .returned (.tuple #[.slice none 0 0, .int .i64 (k : Int)])
  | .inl o => ∃ u, e = .returned (.tuple #[u, .int .i64 (-1)]) ∧ Rows2 w' w.heap.size w'.heap.size u (cutL (rowP o.qs))
def ROI (w : World) (n gen : Nat) (X : List (List Nat)) (row ahead i : Value) (wr : World) : Prop :=
  ∃ (k : Nat) (o : OS), k ≤ n ∧ i = .int .i64 (k : Int) ∧ openF gen o (X.drop k) k = openX gen 0 X ∧ o.look = true ∧ o.qs.length = k ∧ ahead = .int .u32 ((serP o.qs k : Nat) : Int) ∧ serP o.qs k < 4294967296 ∧ (rowP o.qs).length ≤ k * 487 ∧ (∀ b ∈ rowP o.qs, b < 256) ∧ Own wr w.heap.size row (rowP o.qs) ∧ Below w.heap.size w wr
theorem drop_at {s : List Nat} {X : List (List Nat)} {k : Nat} (h : X[k]? = some s) : X.drop k = s :: X.drop (k + 1) := by
  obtain ⟨hk, rfl⟩ := List.getElem?_eq_some_iff.1 h
  exact List.drop_eq_getElem_cons hk
theorem ro_break {gen k : Nat} {o : OS} {s : List Nat} {X : List (List Nat)} (hd : X.drop k = s :: X.drop (k + 1)) (ho : openF gen o (X.drop k) k = openX gen 0 X) (hnb : o.bad s = false) (hnx : o.next gen s = false) : ∃ o', openX gen 0 X = .inl o' ∧ o'.qs = o.qs := by
  have hs : o.step gen s = ⟨o.top gen s, o.qs, false⟩ := by unfold OS.step; rw [hnx]; rfl
  rw [hd, openF_step hnb, hs] at ho
  rw [← ho]
  exact openF_off gen _ ⟨o.top gen s, o.qs, false⟩ _ rfl
theorem ro_next {gen k : Nat} {o : OS} {s : List Nat} {X : List (List Nat)} (hd : X.drop k = s :: X.drop (k + 1)) (ho : openF gen o (X.drop k) k = openX gen 0 X) (hnb : o.bad s = false) (hnx : o.next gen s = true) : openF gen ⟨o.top gen s, o.qs ++ [pgOf s], decide ((dataOf s).length = 491)⟩ (X.drop (k + 1)) (k + 1) = openX gen 0 X := by
  have hs : o.step gen s = ⟨o.top gen s, o.qs ++ [pgOf s], decide ((dataOf s).length = 491)⟩ := by unfold OS.step; rw [hnx]; rfl
  rw [hd, openF_step hnb, hs] at ho
  exact ho
theorem ro_last {gen k : Nat} {o : OS} {s : List Nat} {X : List (List Nat)} (hd : X.drop k = s :: X.drop (k + 1)) (ho : openF gen o (X.drop k) k = openX gen 0 X) (hnb : o.bad s = false) (hnx : o.next gen s = true) (hl : (dataOf s).length ≠ 491) : ∃ o', openX gen 0 X = .inl o' ∧ o'.qs = o.qs ++ [pgOf s] := by
  have h := ro_next hd ho hnb hnx
  rw [decide_eq_false hl] at h
  rw [← h]
  exact openF_off gen _ ⟨o.top gen s, o.qs ++ [pgOf s], false⟩ _ rfl
theorem ro_end {gen k : Nat} {o : OS} {X : List (List Nat)} (hk : X.length ≤ k) (ho : openF gen o (X.drop k) k = openX gen 0 X) : ∃ o', openX gen 0 X = .inl o' ∧ o'.qs = o.qs := by
  rw [List.drop_of_length_le hk] at ho
  exact ⟨o, ho.symm, rfl⟩
theorem ro_bad {gen k : Nat} {o : OS} {s : List Nat} {X : List (List Nat)} (hd : X.drop k = s :: X.drop (k + 1)) (ho : openF gen o (X.drop k) k = openX gen 0 X) (hb : o.bad s = true) : openX gen 0 X = .inr k := by
  rw [hd, openF_bad hb] at ho
  exact ho.symm
theorem ropen_fin {w y w' : World} {gen : Nat} {X : List (List Nat)} {Q : List Pg} {R : List Nat} {u : Value} (h : ∃ o', openX gen 0 X = .inl o' ∧ o'.qs = Q) (hR : R = rowP Q) (hb : Below w.heap.size w y) (hr : Rows2 w' y.heap.size w'.heap.size u (cutL R)) (hb2 : Below y.heap.size y w') {e : Ending} (he : e = .returned (.tuple #[u, .int .i64 (-1)])) : ROpen (openX gen 0 X) w e w' := by
  obtain ⟨o', h1, h2⟩ := h
  refine ⟨hb.trans (hb2.mono hb.size), ?_⟩
  rw [h1]
  refine ⟨u, he, ?_⟩
  rw [h2, ← hR]
  obtain ⟨vs, r1, r2, r3⟩ := hr
  exact ⟨vs, r1, own_up r2 fun k hk => Nat.le_trans hb.size (own_block_lt r2 hk).1, r3⟩
set_option maxRecDepth 100000 in
set_option maxHeartbeats 16000000 in
theorem refOpen_any (w : World) (v : Value) (X : List (List Nat)) (gen : Nat) (hg : gen < 4294967296) (hp : Parts w w.heap.size v X) (hX : X.length ≤ 2048) :
    Calls Try.prog 26 #[v, .int .u32 (gen : Int)] w (ROpen (openX gen 0 X) w) := by
  obtain ⟨⟨A, c, vs, rfl, hvl, hlies, hbytes⟩, hlong⟩ := hp
  obtain ⟨i0, hi0, hz0, hz1, hz2⟩ := info_parts infoByte
  have HV := Lib.hid hvl
  have HL := Lib.hid hlies
  have HB := Lib.hid hbytes
  obtain ⟨n, hn⟩ : ∃ n, n = X.length := ⟨_, rfl⟩
  rw [← hn] at hX ⊢
  have HN := Lib.hid hn
  have HI := Lib.hid hi0
  have H0 := Lib.hid hz0
  have H1 := Lib.hid hz1
  have H2 := Lib.hid hz2
  clear hvl hlies hbytes hlong hn hi0 hz0 hz1 hz2
  go_enter Try.func26, Try.ntmps26
  go_wp2
  go_loopw [6, 7, 16] (fun row ahead i wr => ROI w n gen X row ahead i wr) (fun _ _ i _ => n - (intOf i).toNat)
  case atStart => exact ⟨0, ⟨0, [], true⟩, Nat.zero_le _, rfl, rfl, rfl, rfl, rfl, by show 0 < 4294967296; omega, Nat.le_refl _, (fun b hb => by cases hb), own_nil _ _, Below.refl _ _⟩
  case round =>
    obtain ⟨k, o, hk, rfl, ho, hlook, hql, rfl, hsb, hrl, hrs, hown, hb⟩ := hrel
    obtain ⟨Ap, cp, rfl, _, _, _, hown⟩ := hown.form
    obtain ⟨R, hR⟩ : ∃ R, R = rowP o.qs := ⟨_, rfl⟩
    obtain ⟨S, hS⟩ : ∃ S, S = R.length := ⟨_, rfl⟩
    obtain ⟨ah, hah⟩ : ∃ a, a = serP o.qs k := ⟨_, rfl⟩
    rw [← hR] at hown hrl hrs ⊢
    rw [← hS] at hown hrl ⊢
    rw [← hah] at hsb ⊢
    have hS1 : S ≤ 1048576 := by
      have : k * 487 ≤ 2048 * 487 := Nat.mul_le_mul_right _ (by omega)
      omega
    have HCUT : Hid (∀ y, Below wr.heap.size wr y → Calls Try.prog 42 #[.slice Ap S cp] y fun e w' => ∃ u, e = .returned (.tuple #[u, .int .i64 ((layR (cutL R)).length : Int)]) ∧ Rows2 w' y.heap.size w'.heap.size u (cutL R) ∧ Below y.heap.size y w') := Lib.hid fun y hy => refCut_any y _ R (by
      rw [hS] at hown ⊢
      exact (((own_of_row hown).bytes hrs).along hy)) (by omega)
    have HO := Lib.hid ho
    have HLK := Lib.hid hlook
    have HQL := Lib.hid hql
    have HR := Lib.hid hR
    have HS := Lib.hid hS
    have HAH := Lib.hid hah
    have HRS := Lib.hid hrs
    have HOW := Lib.hid hown
    by_cases hlt : k < n
    · obtain ⟨s, hs⟩ : ∃ s, X[k]? = some s := ⟨_, List.getElem?_eq_getElem (by rw [← HN.out]; exact hlt)⟩
      obtain ⟨u, hu⟩ : ∃ u, vs[k]? = some u := ⟨_, List.getElem?_eq_getElem (by rw [HV.out, ← HN.out]; exact hlt)⟩
      have hB0 := (HB.out k u s hu hs).along hb
      obtain ⟨ad, hA, hbb, hc0⟩ := HL.out k _ hu
      subst hA
      have hc := (hb.cell (p := ad.add k) (by rw [addr_add_block]; exact hbb)).trans hc0
      obtain ⟨Ab, cb, rfl⟩ : ∃ A c, u = .slice A s.length c := by obtain ⟨A, c, h, _⟩ := hB0.form; exact ⟨A, c, h⟩
      have hsm := hB0.small
      have HSM := Lib.hid hsm
      have HPA : Hid (Calls Try.prog 55 #[.slice Ab s.length cb] wr (Parsed s wr)) := Lib.hid (refParse_all wr Ab _ cb s hB0)
      obtain ⟨sl, hsl⟩ : ∃ x, x = s.length := ⟨_, rfl⟩
      rw [← hsl] at HPA hc
      have hd : X.drop k = s :: X.drop (k + 1) := (drop_at hs)
      have HDR := Lib.hid hd
      unfold Parsed at HPA
      obtain ⟨el, hel⟩ : ∃ x, x = errOf s := ⟨_, rfl⟩
      rw [← hel] at HPA
      have HEL := Lib.hid hel
      clear hsl hs hu hc0 hB0 hd hsm ho hlook hql hR hS hah hrs hown hel
      have HB' := Lib.hid hb
      by_cases h3 : el = 3
      · subst h3
        have hfin := ro_break HDR.out HO.out (by unfold OS.bad; rw [← HEL.out]; simp) (by unfold OS.next; rw [← HEL.out]; simp)
        go_wp2_with (first
          | (go_at_call 55; (with_reducible refine (HPA.out).mono ?_); rintro e w3 ⟨A3, n3, c3, rfl, hM3, hb3⟩; go_loud (have HB3 := Lib.hid hb3; clear hM3 hb3))
          | (go_at_call 42; (with_reducible refine (HCUT.out _ (HB3.out.alloc HB3.out.size _)).mono ?_); rintro e w4 ⟨rv, rfl, hr4, hb4⟩))
        go_ret2
        exact ropen_fin hfin HR.out (HB'.out.trans ((HB3.out.alloc HB3.out.size _).mono HB'.out.size)) hr4 hb4 rfl
      · by_cases h0 : el = 0
        · subst h0
          obtain ⟨gn, hgn⟩ : ∃ x, x = genOf s := ⟨_, rfl⟩
          obtain ⟨sr, hsr⟩ : ∃ x, x = serOf s := ⟨_, rfl⟩
          obtain ⟨nb, hnb⟩ : ∃ x, x = numbOf s := ⟨_, rfl⟩
          obtain ⟨kd, hkd⟩ : ∃ x, x = kinOf s := ⟨_, rfl⟩
          obtain ⟨D, hD⟩ : ∃ x, x = dataOf s := ⟨_, rfl⟩
          obtain ⟨_, _, q3, q4, q5, q6, q7, q8⟩ := parts_page HSM.out HEL.out.symm
          rw [← hgn] at HPA q4
          rw [← hsr] at HPA q5
          rw [← hnb] at HPA q6
          rw [← hkd] at HPA q7
          rw [← hD] at HPA q3 q8
          have HQ := Lib.hid q8
          have HGN := Lib.hid hgn
          have HSR := Lib.hid hsr
          have HNB := Lib.hid hnb
          have HKD := Lib.hid hkd
          have HDD := Lib.hid hD
          have HNO := Lib.hid (show o.bad s = false from by unfold OS.bad; rw [← HEL.out]; simp)
          have HNX : Hid (o.next gen s = nextP gen o.qs (pgOf s)) := Lib.hid (by unfold OS.next; rw [← HEL.out, HLK.out]; rfl)
          have HNP : Hid (nextP gen o.qs (pgOf s) = (decide (gn = gen) && decide (kd = 1) && decide (nb = k) && decide (D.take 4 = be4 ah))) := Lib.hid (by unfold nextP pgOf; rw [← HGN.out, ← HKD.out, ← HNB.out, ← HDD.out, HQL.out, ← HAH.out])
          clear hgn hsr hnb hkd hD q8
          by_cases hg : gn = gen
          · have e1 : ((gn : Int) != (gen : Int)) = false := by simp; omega
            by_cases hk1 : kd = 1
            · by_cases hn1 : nb = k
              · by_cases h4 : 4 ≤ D.length
                · obtain ⟨bv, hbv⟩ : ∃ x, x = be (D.take 4) := ⟨_, rfl⟩
                  by_cases hv : bv = ah
                  · have hD4 : D.take 4 = be4 ah := by rw [← hv, hbv, be4_be (by rw [List.length_take]; omega) (fun b hb => HQ.out b (List.mem_of_mem_take hb))]
                    have hnx : o.next gen s = true := by rw [HNX.out, HNP.out, hD4]; simp [hg, hk1, hn1]
                    have hR' : R ++ D.drop 4 = rowP (o.qs ++ [pgOf s]) := by
                      rw [rowP_append, ← HR.out]
                      unfold rowP pgOf
                      rw [← HDD.out]
                      simp
                    have hser : sr = serP (o.qs ++ [pgOf s]) (k + 1) := by
                      show sr = (((o.qs ++ [pgOf s])[k]?).map Pg.ser).getD 0
                      rw [← HQL.out, List.getElem?_concat_length, HSR.out]
                      rfl
                    have e5 : ((bv : Int) != (ah : Int)) = false := by simp; omega
                    have HNXT := Lib.hid hnx
                    have HR2 := Lib.hid hR'
                    have HSER := Lib.hid hser
                    have HBV := Lib.hid hbv
                    obtain ⟨dl, hdl⟩ : ∃ x, x = D.length := ⟨_, rfl⟩
                    rw [← hdl] at h4 q3
                    have HDL := Lib.hid hdl
                    clear hbv hv hD4 hnx hR' hser hdl
                    go_wp2_with (first
                      | (go_at_call 55; (with_reducible refine (HPA.out).mono ?_); rintro e w3 ⟨A3, n3, c3, rfl, hM3, hb3⟩; go_loud (have HB3 := Lib.hid hb3; have hn3 := hM3.len; rw [← HDL.out] at hn3; have HM3 := Lib.hid hM3; have h43 : (4 : Nat) ≤ n3 := (by omega); have hc3 := hM3.bytes.cap; have HVAL : Hid (∀ x, Below w3.heap.size w3 x → Calls Try.prog 56 #[.slice A3 4 c3] x fun e w' => e = .returned (.int .u64 ((be (D.take 4) : Nat) : Int)) ∧ x = w') := (Lib.hid fun x hx => value_any x _ _ ((hM3.bytes.first h43).along hx) (by rw [List.length_take]; omega)); rw [← HBV.out] at HVAL; clear hM3 hb3))
                      | (go_at_call 56; (with_reducible refine (HVAL.out _ (by repeat (with_reducible (first | exact Below.refl _ _ | assumption | refine ride_alloc ?_ _ | refine ride_drew ?_ | refine below_drewN ?_ _ | refine ride_call (by assumption) ?_)))).mono ?_); rintro e w5 ⟨rfl, rfl⟩))
                    subst hn3
                    obtain ⟨g3, _, rfl, hg3, _, _, _, _⟩ := HM3.out.at_ (k := 0) (by omega)
                    generalize hYE : (w3.alloc (.cells #[.int .u32 (gen : Int), .int .u32 (sr : Int), .int .u32 (k : Int), .int .u8 1, .slice (some ⟨g3, 0, none⟩) n3 c3] 56)) = Y
                    have hYb : Below wr.heap.size wr Y := hYE ▸ HB3.out.alloc HB3.out.size _
                    have hYx : Y.heap[w3.heap.size]? = some (.cells #[.int .u32 (gen : Int), .int .u32 (sr : Int), .int .u32 (k : Int), .int .u8 1, .slice (some ⟨g3, 0, none⟩) n3 c3] 56 (0, 0)) := hYE ▸ Go.heap_alloc_new w3 _
                    have hY3 : Below w3.heap.size w3 Y := hYE ▸ (Below.refl _ _).alloc (Nat.le_refl _) _
                    have hBY := (HM3.out.bytes.rest h43).along hY3
                    have hq : w3.heap.size < Y.heap.size := lt_of_heap hYx
                    obtain ⟨x0, x1, x2, x3, x4⟩ := cell5 hYx
                    have hne : ∀ g, (Value.slice Ap S cp).ownBlock = some g → g < w3.heap.size := fun g e => Nat.lt_of_lt_of_le (World.ownsRow.lt HOW.out g e).2 HB3.out.size
                    have HNE : Hid (some w3.heap.size ≠ (Value.slice Ap S cp).ownBlock) := Lib.hid fun e => by have := hne _ e.symm; omega
                    have HYB := Lib.hid hYb
                    have HXX := Lib.hid hYx
                    have HX1 := Lib.hid x1
                    have HX4 := Lib.hid x4
                    have HDR4 : Hid ((D.drop 4).length = n3 - 4) := Lib.hid (by rw [List.length_drop, ← HDL.out])
                    have hx40 : n3 - 4 ≤ 487 := by omega
                    have HOY : Hid (∀ x, Below Y.heap.size Y x → x.ownsRow w.heap.size 5 1 (.slice Ap S cp) S (byt R)) := Lib.hid fun x hx => ownsRow_below HOW.out (hYb.trans (hx.mono hYb.size))
                    have HSZ := Lib.hid (Nat.le_trans hb.size hYb.size)
                    rcases Classical.em (c3 = 4) with hc4 | hc4
                    · have HNW : Hid (∀ x, Below Y.heap.size Y x → ∀ (j : Nat) (u : Value), (byt (D.drop 4))[j]? = some u → x.cell? (Addr.add ⟨g3, 0, none⟩ j) = some u) := Lib.hid fun x hx => by
                        obtain ⟨⟨A1, c1, hv1, hl1, _, _⟩, _, _⟩ := hBY.along hx
                        rw [if_pos hc4] at hv1
                        injection hv1 with e1 _ _
                        subst e1
                        exact hl1.cells
                      clear hYE hYx hY3 hBY hYb x0 x2 x3 hne
                      go_region_law ((refine step_append_some (by rfl) (.tmp 62) (.tmp 65) 43 (by rfl) w.heap.size 5 i0 (.int .u8 0) 1 1 Try.underlying43 HI.out H0.out H1.out H2.out (by rfl) (by omega) (.slice Ap S cp) S _ (by rfl) (HOY.out _ (by repeat (with_reducible (first | exact Below.refl _ _ | assumption | refine ride_alloc ?_ _ | refine ride_drew ?_ | refine below_drewN ?_ _)))) ⟨g3, 0, none⟩ (n3 - 4) _ (byt (D.drop 4)) (by rfl) (by rw [byt_length, HDR4.out, Nat.mul_one]) (HNW.out _ (by repeat (with_reducible (first | exact Below.refl _ _ | assumption | refine ride_alloc ?_ _ | refine ride_drew ?_ | refine below_drewN ?_ _)))) (one_byt _) (by unfold maxLen; omega) (by omega) (Nat.le_trans HSZ.out (Below.size (by repeat (with_reducible (first | exact Below.refl _ _ | assumption | refine ride_alloc ?_ _ | refine ride_drew ?_ | refine below_drewN ?_ _))))) ?_; intro v6 w6 hown6 hg6 _; have hx61 := (hg6.cell_far ⟨w3.heap.size, 1, none⟩ (Nat.lt_of_lt_of_le (lt_of_heap HXX.out) (Below.size (show Below Y.heap.size Y _ from (by repeat (with_reducible (first | exact Below.refl _ _ | refine ride_alloc ?_ _ | refine ride_drew ?_ | refine below_drewN ?_ _)))))) HNE.out).trans ((Below.cell (show Below Y.heap.size Y _ from (by repeat (with_reducible (first | exact Below.refl _ _ | refine ride_alloc ?_ _ | refine ride_drew ?_ | refine below_drewN ?_ _)))) (p := ⟨w3.heap.size, 1, none⟩) (lt_of_heap HXX.out)).trans HX1.out)))
                      all_goals
                        obtain ⟨x, hgx, hxb⟩ : ∃ x, World.grownBy x w6 (Value.slice Ap S cp).ownBlock ∧ Below Y.heap.size Y x := ⟨_, hg6, (by repeat (with_reducible (first | exact Below.refl _ _ | refine ride_alloc ?_ _ | refine ride_drew ?_ | refine below_drewN ?_ _)))⟩
                        have hx64 := (hgx.cell_far ⟨w3.heap.size, 4, none⟩ (Nat.lt_of_lt_of_le (lt_of_heap HXX.out) hxb.size) HNE.out).trans ((hxb.cell (p := ⟨w3.heap.size, 4, none⟩) (lt_of_heap HXX.out)).trans HX4.out)
                        have hbx := HB'.out.trans (HYB.out.mono HB'.out.size)
                        have hbx2 := hbx.trans (hxb.mono hbx.size)
                        have hb6 : Below w.heap.size w w6 := hbx2.grown hgx hbx2.size (fun g hg => (World.ownsRow.lt (HOY.out _ hxb) g hg).1)
                        rw [← byt_append, HR2.out] at hown6
                        have HO6 := Lib.hid (own_of_row hown6)
                        have HB6 := Lib.hid hb6
                        have hsm6 : ∀ b ∈ rowP (o.qs ++ [pgOf s]), b < 256 := fun b hb => by
                          rw [← HR2.out] at hb
                          rcases List.mem_append.1 hb with h | h
                          · exact HRS.out b h
                          · exact HQ.out b (List.mem_of_mem_drop h)
                        have hln6 : (rowP (o.qs ++ [pgOf s])).length ≤ (k + 1) * 487 := by
                          rw [← HR2.out, List.length_append, HDR4.out, ← HS.out, Nat.succ_mul]
                          omega
                        have HSM6 := Lib.hid hsm6
                        have HLN6 := Lib.hid hln6
                        clear hx61 hg6 hgx hxb hbx hbx2 hb6 hown6 hsm6 hln6
                        by_cases hf : n3 = 491
                        · subst hf
                          go_wp2
                          go_roundw
                          case rel => exact ⟨k + 1, ⟨o.top gen s, o.qs ++ [pgOf s], decide ((dataOf s).length = 491)⟩, by omega, by go_num, ro_next HDR.out HO.out HNO.out HNXT.out, by rw [← HDD.out, ← HDL.out]; rfl, by rw [List.length_append, HQL.out]; rfl, by rw [← HSER.out], by rw [← HSER.out]; exact q5, HLN6.out, HSM6.out, HO6.out, HB6.out⟩
                          case measure => simp [intOf]; omega
                        · have hfin := ro_last HDR.out HO.out HNO.out HNXT.out (by rw [← HDD.out, ← HDL.out]; exact hf)
                          have e6 : (n3 : Int) < 491 := by omega
                          have HC6 := Lib.hid (refCut_any w6 v6 _ (HO6.out.bytes HSM6.out) (Nat.le_trans HLN6.out (Nat.le_trans (Nat.mul_le_mul_right 487 (show k + 1 ≤ 2048 by omega)) (by omega))))
                          go_wp2_with (go_at_call 42; (with_reducible refine (HC6.out).mono ?_); rintro e w8 ⟨rv, rfl, hr8, hb8⟩)
                          go_ret2
                          exact ropen_fin hfin rfl HB6.out hr8 hb8 rfl
                    · have HNW : Hid (∀ x, Below Y.heap.size Y x → ∀ (j : Nat) (u : Value), (byt (D.drop 4))[j]? = some u → x.cell? (Addr.add ⟨g3, 4, none⟩ j) = some u) := Lib.hid fun x hx => by
                        obtain ⟨⟨A1, c1, hv1, hl1, _, _⟩, _, _⟩ := hBY.along hx
                        rw [if_neg hc4] at hv1
                        injection hv1 with e1 _ _
                        subst e1
                        exact hl1.cells
                      clear hYE hYx hY3 hBY hYb x0 x2 x3 hne
                      go_region_law ((refine step_append_some (by rfl) (.tmp 62) (.tmp 65) 43 (by rfl) w.heap.size 5 i0 (.int .u8 0) 1 1 Try.underlying43 HI.out H0.out H1.out H2.out (by rfl) (by omega) (.slice Ap S cp) S _ (by rfl) (HOY.out _ (by repeat (with_reducible (first | exact Below.refl _ _ | assumption | refine ride_alloc ?_ _ | refine ride_drew ?_ | refine below_drewN ?_ _)))) ⟨g3, 4, none⟩ (n3 - 4) _ (byt (D.drop 4)) (by rfl) (by rw [byt_length, HDR4.out, Nat.mul_one]) (HNW.out _ (by repeat (with_reducible (first | exact Below.refl _ _ | assumption | refine ride_alloc ?_ _ | refine ride_drew ?_ | refine below_drewN ?_ _)))) (one_byt _) (by unfold maxLen; omega) (by omega) (Nat.le_trans HSZ.out (Below.size (by repeat (with_reducible (first | exact Below.refl _ _ | assumption | refine ride_alloc ?_ _ | refine ride_drew ?_ | refine below_drewN ?_ _))))) ?_; intro v6 w6 hown6 hg6 _; have hx61 := (hg6.cell_far ⟨w3.heap.size, 1, none⟩ (Nat.lt_of_lt_of_le (lt_of_heap HXX.out) (Below.size (show Below Y.heap.size Y _ from (by repeat (with_reducible (first | exact Below.refl _ _ | refine ride_alloc ?_ _ | refine ride_drew ?_ | refine below_drewN ?_ _)))))) HNE.out).trans ((Below.cell (show Below Y.heap.size Y _ from (by repeat (with_reducible (first | exact Below.refl _ _ | refine ride_alloc ?_ _ | refine ride_drew ?_ | refine below_drewN ?_ _)))) (p := ⟨w3.heap.size, 1, none⟩) (lt_of_heap HXX.out)).trans HX1.out)))
                      all_goals
                        obtain ⟨x, hgx, hxb⟩ : ∃ x, World.grownBy x w6 (Value.slice Ap S cp).ownBlock ∧ Below Y.heap.size Y x := ⟨_, hg6, (by repeat (with_reducible (first | exact Below.refl _ _ | refine ride_alloc ?_ _ | refine ride_drew ?_ | refine below_drewN ?_ _)))⟩
                        have hx64 := (hgx.cell_far ⟨w3.heap.size, 4, none⟩ (Nat.lt_of_lt_of_le (lt_of_heap HXX.out) hxb.size) HNE.out).trans ((hxb.cell (p := ⟨w3.heap.size, 4, none⟩) (lt_of_heap HXX.out)).trans HX4.out)
                        have hbx := HB'.out.trans (HYB.out.mono HB'.out.size)
                        have hbx2 := hbx.trans (hxb.mono hbx.size)
                        have hb6 : Below w.heap.size w w6 := hbx2.grown hgx hbx2.size (fun g hg => (World.ownsRow.lt (HOY.out _ hxb) g hg).1)
                        rw [← byt_append, HR2.out] at hown6
                        have HO6 := Lib.hid (own_of_row hown6)
                        have HB6 := Lib.hid hb6
                        have hsm6 : ∀ b ∈ rowP (o.qs ++ [pgOf s]), b < 256 := fun b hb => by
                          rw [← HR2.out] at hb
                          rcases List.mem_append.1 hb with h | h
                          · exact HRS.out b h
                          · exact HQ.out b (List.mem_of_mem_drop h)
                        have hln6 : (rowP (o.qs ++ [pgOf s])).length ≤ (k + 1) * 487 := by
                          rw [← HR2.out, List.length_append, HDR4.out, ← HS.out, Nat.succ_mul]
                          omega
                        have HSM6 := Lib.hid hsm6
                        have HLN6 := Lib.hid hln6
                        clear hx61 hg6 hgx hxb hbx hbx2 hb6 hown6 hsm6 hln6
                        by_cases hf : n3 = 491
                        · subst hf
                          go_wp2
                          go_roundw
                          case rel => exact ⟨k + 1, ⟨o.top gen s, o.qs ++ [pgOf s], decide ((dataOf s).length = 491)⟩, by omega, by go_num, ro_next HDR.out HO.out HNO.out HNXT.out, by rw [← HDD.out, ← HDL.out]; rfl, by rw [List.length_append, HQL.out]; rfl, by rw [← HSER.out], by rw [← HSER.out]; exact q5, HLN6.out, HSM6.out, HO6.out, HB6.out⟩
                          case measure => simp [intOf]; omega
                        · have hfin := ro_last HDR.out HO.out HNO.out HNXT.out (by rw [← HDD.out, ← HDL.out]; exact hf)
                          have e6 : (n3 : Int) < 491 := by omega
                          have HC6 := Lib.hid (refCut_any w6 v6 _ (HO6.out.bytes HSM6.out) (Nat.le_trans HLN6.out (Nat.le_trans (Nat.mul_le_mul_right 487 (show k + 1 ≤ 2048 by omega)) (by omega))))
                          go_wp2_with (go_at_call 42; (with_reducible refine (HC6.out).mono ?_); rintro e w8 ⟨rv, rfl, hr8, hb8⟩)
                          go_ret2
                          exact ropen_fin hfin rfl HB6.out hr8 hb8 rfl
                  · have hfin := ro_break HDR.out HO.out HNO.out (by rw [HNX.out, HNP.out, show decide (D.take 4 = be4 ah) = false from decide_eq_false (fun e => hv (by rw [hbv, e, be_be4 _ hsb]))]; simp)
                    have e5 : ((bv : Int) != (ah : Int)) = true := by simp; omega
                    have HBV := Lib.hid hbv
                    clear hbv
                    go_wp2_with (first
                      | (go_at_call 55; (with_reducible refine (HPA.out).mono ?_); rintro e w3 ⟨A3, n3, c3, rfl, hM3, hb3⟩; go_loud (have HB3 := Lib.hid hb3; have hn3 := hM3.len; have HM3 := Lib.hid hM3; have h43 : (4 : Nat) ≤ n3 := (by omega); have hc3 := hM3.bytes.cap; have HVAL : Hid (∀ x, Below w3.heap.size w3 x → Calls Try.prog 56 #[.slice A3 4 c3] x fun e w' => e = .returned (.int .u64 ((be (D.take 4) : Nat) : Int)) ∧ x = w') := (Lib.hid fun x hx => value_any x _ _ ((hM3.bytes.first h43).along hx) (by rw [List.length_take]; omega)); rw [← HBV.out] at HVAL; clear hM3 hb3))
                      | (go_at_call 56; (with_reducible refine (HVAL.out _ (by repeat (with_reducible (first | exact Below.refl _ _ | assumption | refine ride_alloc ?_ _ | refine ride_drew ?_ | refine below_drewN ?_ _ | refine ride_call (by assumption) ?_)))).mono ?_); rintro e w5 ⟨rfl, rfl⟩)
                      | (go_at_call 42; (with_reducible refine (HCUT.out _ (by repeat (with_reducible (first | exact Below.refl _ _ | exact HB3.out | assumption | refine ride_alloc ?_ _ | refine ride_drew ?_ | refine below_drewN ?_ _ | refine ride_call (by assumption) ?_)))).mono ?_); rintro e w4 ⟨rv, rfl, hr4, hb4⟩))
                    go_ret2
                    exact ropen_fin hfin HR.out (HB'.out.trans ((HB3.out.alloc HB3.out.size _).mono HB'.out.size)) hr4 hb4 rfl
                · have hfin := ro_break HDR.out HO.out HNO.out (by rw [HNX.out, HNP.out, show decide (D.take 4 = be4 ah) = false from decide_eq_false (fun e => h4 (by have := congrArg List.length e; rw [be4_length, List.length_take] at this; omega))]; simp)
                  go_wp2_with (first
                    | (go_at_call 55; (with_reducible refine (HPA.out).mono ?_); rintro e w3 ⟨A3, n3, c3, rfl, hM3, hb3⟩; go_loud (have HB3 := Lib.hid hb3; have hn3 := hM3.len; have HM3 := Lib.hid hM3; have h43 : n3 < 4 := (by omega); clear hM3 hb3))
                    | (go_at_call 42; (with_reducible refine (HCUT.out _ (HB3.out.alloc HB3.out.size _)).mono ?_); rintro e w4 ⟨rv, rfl, hr4, hb4⟩))
                  go_ret2
                  exact ropen_fin hfin HR.out (HB'.out.trans ((HB3.out.alloc HB3.out.size _).mono HB'.out.size)) hr4 hb4 rfl
              · have hfin := ro_break HDR.out HO.out HNO.out (by rw [HNX.out, HNP.out, decide_eq_false hn1]; simp)
                have e3 : ((nb : Int) != (k : Int)) = true := by simp; omega
                go_wp2_with (first
                  | (go_at_call 55; (with_reducible refine (HPA.out).mono ?_); rintro e w3 ⟨A3, n3, c3, rfl, hM3, hb3⟩; go_loud (have HB3 := Lib.hid hb3; have hn3 := hM3.len; have HM3 := Lib.hid hM3;  clear hM3 hb3))
                  | (go_at_call 42; (with_reducible refine (HCUT.out _ (HB3.out.alloc HB3.out.size _)).mono ?_); rintro e w4 ⟨rv, rfl, hr4, hb4⟩))
                go_ret2
                exact ropen_fin hfin HR.out (HB'.out.trans ((HB3.out.alloc HB3.out.size _).mono HB'.out.size)) hr4 hb4 rfl
            · have hfin := ro_break HDR.out HO.out HNO.out (by rw [HNX.out, HNP.out, decide_eq_false hk1]; simp)
              have e2 : ((kd : Int) != 1) = true := by simp; omega
              go_wp2_with (first
                | (go_at_call 55; (with_reducible refine (HPA.out).mono ?_); rintro e w3 ⟨A3, n3, c3, rfl, hM3, hb3⟩; go_loud (have HB3 := Lib.hid hb3; have hn3 := hM3.len; have HM3 := Lib.hid hM3;  clear hM3 hb3))
                | (go_at_call 42; (with_reducible refine (HCUT.out _ (HB3.out.alloc HB3.out.size _)).mono ?_); rintro e w4 ⟨rv, rfl, hr4, hb4⟩))
              go_ret2
              exact ropen_fin hfin HR.out (HB'.out.trans ((HB3.out.alloc HB3.out.size _).mono HB'.out.size)) hr4 hb4 rfl
          · have hfin := ro_break HDR.out HO.out HNO.out (by rw [HNX.out, HNP.out, decide_eq_false hg]; rfl)
            have e1 : ((gn : Int) != (gen : Int)) = true := by simp; omega
            go_wp2_with (first
              | (go_at_call 55; (with_reducible refine (HPA.out).mono ?_); rintro e w3 ⟨A3, n3, c3, rfl, hM3, hb3⟩; go_loud (have HB3 := Lib.hid hb3; clear hM3 hb3))
              | (go_at_call 42; (with_reducible refine (HCUT.out _ (HB3.out.alloc HB3.out.size _)).mono ?_); rintro e w4 ⟨rv, rfl, hr4, hb4⟩))
            go_ret2
            exact ropen_fin hfin HR.out (HB'.out.trans ((HB3.out.alloc HB3.out.size _).mono HB'.out.size)) hr4 hb4 rfl
        · have hfin := ro_bad HDR.out HO.out (by unfold OS.bad; rw [← HEL.out, HLK.out, decide_eq_true h0, decide_eq_true h3]; rfl)
          have e1 : ((el : Int) == 3) = false := by rw [beq_eq_false_iff_ne]; omega
          have e2 : ((el : Int) != 0) = true := by simp; omega
          go_wp2_with (go_at_call 55; (with_reducible refine (HPA.out).mono ?_); rintro e w3 ⟨A3, n3, c3, rfl, hM3, hb3⟩; go_loud (have HB3 := Lib.hid hb3; clear hM3 hb3))
          go_ret2
          refine ⟨HB'.out.trans ((HB3.out.alloc HB3.out.size _).mono HB'.out.size), ?_⟩
          rw [hfin]
          rfl
    · obtain rfl : k = n := by omega
      have hfin := ro_end (Nat.le_of_eq HN.out.symm) HO.out
      have HB' := Lib.hid hb
      clear hb ho hlook hql hR hS hah hrs hown
      go_wp2_with (go_at_call 42; (with_reducible refine (HCUT.out _ (Below.refl _ _)).mono ?_); rintro e w4 ⟨rv, rfl, hr4, hb4⟩)
      go_ret2
      exact ropen_fin hfin HR.out HB'.out hr4 hb4 rfl
end Go.Proofs.Ytalpippeelomjaa
namespace Go.Proofs.Ytalpippeelomjaa
open Go.RowKit Go.Shelf
set_option linter.unusedSimpArgs false
set_option linter.unusedVariables false
/-- The greatest serial of a generation's pages. -/
def topX (gen : Nat) : Nat → List (List Nat) → Nat
  | m, [] => m
  | m, s :: r => topX gen (if errOf s = 0 ∧ genOf s = gen then max m (serOf s) else m) r
theorem openF_two (gen : Nat) : ∀ (l : List (List Nat)) (a b : Nat) (qs : List Pg) (lk : Bool) (k : Nat), (∃ j, openF gen ⟨a, qs, lk⟩ l k = .inr j ∧ openF gen ⟨b, qs, lk⟩ l k = .inr j) ∨ ∃ q' lk', openF gen ⟨a, qs, lk⟩ l k = .inl ⟨topX gen a l, q', lk'⟩ ∧ openF gen ⟨b, qs, lk⟩ l k = .inl ⟨topX gen b l, q', lk'⟩
  | [], a, b, qs, lk, k => .inr ⟨qs, lk, rfl, rfl⟩
  | s :: l, a, b, qs, lk, k => by
    have ea : (OS.mk a qs lk).bad s = (OS.mk b qs lk).bad s := rfl
    cases hb : (OS.mk b qs lk).bad s
    · rw [openF_step (ea.trans hb), openF_step hb]
      have hn : (OS.mk a qs lk).next gen s = (OS.mk b qs lk).next gen s := rfl
      unfold OS.step
      rw [hn]
      cases (OS.mk b qs lk).next gen s
      · exact openF_two gen l _ _ _ _ _
      · exact openF_two gen l _ _ _ _ _
    · exact .inl ⟨k, openF_bad (ea.trans hb), openF_bad hb⟩
def RSI (w : World) (n gen first : Nat) (X : List (List Nat)) (top i : Value) (wr : World) : Prop :=
  ∃ k t : Nat, k ≤ n ∧ i = .int .i64 (k : Int) ∧ top = .int .u32 (t : Int) ∧ t < 4294967296 ∧ topX gen t (X.drop k) = topX gen first X ∧ Below w.heap.size w wr
theorem topX_on {gen t k : Nat} {X : List (List Nat)} {s : List Nat} {m : Nat} (hd : X.drop k = s :: X.drop (k + 1)) (h : topX gen t (X.drop k) = m) : topX gen (if errOf s = 0 ∧ genOf s = gen then max t (serOf s) else t) (X.drop (k + 1)) = m := by
  rw [hd] at h
  exact h
set_option maxRecDepth 100000 in
set_option maxHeartbeats 16000000 in
theorem refSerial_any (w : World) (v : Value) (X : List (List Nat)) (gen first : Nat) (hg : gen < 4294967296) (hf : first < 4294967296) (hp : Parts w w.heap.size v X) :
    Calls Try.prog 35 #[v, .int .u32 (gen : Int), .int .u32 (first : Int)] w (fun e w' => e = .returned (.int .u32 (((topX gen first X + 1) % 4294967296 : Nat) : Int)) ∧ Below w.heap.size w w') := by
  obtain ⟨⟨A, c, vs, rfl, hvl, hlies, hbytes⟩, hlong⟩ := hp
  have HV := Lib.hid hvl
  have HL := Lib.hid hlies
  have HB := Lib.hid hbytes
  obtain ⟨n, hn⟩ : ∃ n, n = X.length := ⟨_, rfl⟩
  rw [← hn] at hlong ⊢
  unfold maxLen at hlong
  have HN := Lib.hid hn
  clear hvl hlies hbytes hn
  go_enter Try.func35, Try.ntmps35
  go_wp2
  go_loopw [7, 15] (fun top i wr => RSI w n gen first X top i wr) (fun _ i _ => n - (intOf i).toNat)
  case atStart => exact ⟨0, first, Nat.zero_le _, rfl, rfl, hf, rfl, Below.refl _ _⟩
  case round =>
    obtain ⟨k, t, hk, rfl, rfl, ht, hx, hb⟩ := hrel
    have HX := Lib.hid hx
    have HB' := Lib.hid hb
    by_cases hlt : k < n
    · obtain ⟨s, hs⟩ : ∃ s, X[k]? = some s := ⟨_, List.getElem?_eq_getElem (by rw [← HN.out]; exact hlt)⟩
      obtain ⟨u, hu⟩ : ∃ u, vs[k]? = some u := ⟨_, List.getElem?_eq_getElem (by rw [HV.out, ← HN.out]; exact hlt)⟩
      have hB0 := (HB.out k u s hu hs).along hb
      obtain ⟨ad, hA, hbb, hc0⟩ := HL.out k _ hu
      subst hA
      have hc := (hb.cell (p := ad.add k) (by rw [addr_add_block]; exact hbb)).trans hc0
      obtain ⟨Ab, cb, rfl⟩ : ∃ A c, u = .slice A s.length c := by obtain ⟨A, c, h, _⟩ := hB0.form; exact ⟨A, c, h⟩
      have hsm := hB0.small
      have HPA : Hid (Calls Try.prog 55 #[.slice Ab s.length cb] wr (Parsed s wr)) := Lib.hid (refParse_all wr Ab _ cb s hB0)
      obtain ⟨sl, hsl⟩ : ∃ x, x = s.length := ⟨_, rfl⟩
      rw [← hsl] at HPA hc
      have HON := Lib.hid (topX_on (drop_at hs) hx)
      unfold Parsed at HPA
      obtain ⟨el, hel⟩ : ∃ x, x = errOf s := ⟨_, rfl⟩
      obtain ⟨gn, hgn⟩ : ∃ x, x = genOf s := ⟨_, rfl⟩
      obtain ⟨sr, hsr⟩ : ∃ x, x = serOf s := ⟨_, rfl⟩
      have hs0 : sr < 4294967296 := by
        rw [hsr]
        by_cases h0 : errOf s = 0
        · exact (parts_page hsm h0).2.2.2.2.1
        · unfold serOf
          rw [if_neg h0]
          omega
      have hg0 : gn < 4294967296 := by
        rw [hgn]
        by_cases h0 : errOf s = 0
        · exact (parts_page hsm h0).2.2.2.1
        · unfold genOf
          rw [if_neg h0]
          omega
      rw [← hel, ← hgn, ← hsr] at HPA HON
      clear hel hgn hsr hsl hs hu hc0 hB0 hsm hx hb
      by_cases h0 : el = 0
      · subst h0
        by_cases hge : gn = gen
        · subst hge
          by_cases hgt : t < sr
          · have HON2 : Hid (topX gn sr (X.drop (k + 1)) = topX gn first X) := Lib.hid (by
              have h := HON.out
              rw [if_pos ⟨rfl, rfl⟩, Nat.max_eq_right (by omega)] at h
              exact h)
            go_wp2_with (first
              | (go_at_call 55; (with_reducible refine (HPA.out).mono ?_); rintro e w3 ⟨A3, n3, c3, rfl, hM3, hb3⟩; go_loud (have HB3 := Lib.hid hb3; clear hM3 hb3)))
            go_roundw
            case rel => exact ⟨k + 1, sr, by omega, by go_num, rfl, hs0, HON2.out, HB'.out.trans ((HB3.out.alloc HB3.out.size _).mono HB'.out.size)⟩
            case measure => simp [intOf]; omega
          · have HON2 : Hid (topX gn t (X.drop (k + 1)) = topX gn first X) := Lib.hid (by
              have h := HON.out
              rw [if_pos ⟨rfl, rfl⟩, Nat.max_eq_left (by omega)] at h
              exact h)
            go_wp2_with (first
              | (go_at_call 55; (with_reducible refine (HPA.out).mono ?_); rintro e w3 ⟨A3, n3, c3, rfl, hM3, hb3⟩; go_loud (have HB3 := Lib.hid hb3; clear hM3 hb3)))
            go_roundw
            case rel => exact ⟨k + 1, t, by omega, by go_num, rfl, ht, HON2.out, HB'.out.trans ((HB3.out.alloc HB3.out.size _).mono HB'.out.size)⟩
            case measure => simp [intOf]; omega
        · have HON2 : Hid (topX gen t (X.drop (k + 1)) = topX gen first X) := Lib.hid (by
            have h := HON.out
            rw [if_neg (fun h => hge h.2)] at h
            exact h)
          have e1 : ((gn : Int) == (gen : Int)) = false := by rw [beq_eq_false_iff_ne]; omega
          go_wp2_with (first
            | (go_at_call 55; (with_reducible refine (HPA.out).mono ?_); rintro e w3 ⟨A3, n3, c3, rfl, hM3, hb3⟩; go_loud (have HB3 := Lib.hid hb3; clear hM3 hb3)))
          go_roundw
          case rel => exact ⟨k + 1, t, by omega, by go_num, rfl, ht, HON2.out, HB'.out.trans ((HB3.out.alloc HB3.out.size _).mono HB'.out.size)⟩
          case measure => simp [intOf]; omega
      · have HON2 : Hid (topX gen t (X.drop (k + 1)) = topX gen first X) := Lib.hid (by
          have h := HON.out
          rw [if_neg (fun h => h0 h.1)] at h
          exact h)
        have e1 : ((el : Int) == 0) = false := by rw [beq_eq_false_iff_ne]; omega
        go_wp2_with (first
          | (go_at_call 55; (with_reducible refine (HPA.out).mono ?_); rintro e w3 ⟨A3, n3, c3, rfl, hM3, hb3⟩; go_loud (have HB3 := Lib.hid hb3; clear hM3 hb3)))
        go_roundw
        case rel => exact ⟨k + 1, t, by omega, by go_num, rfl, ht, HON2.out, HB'.out.trans ((HB3.out.alloc HB3.out.size _).mono HB'.out.size)⟩
        case measure => simp [intOf]; omega
    · obtain rfl : k = n := by omega
      have ht2 : topX gen first X = t := by
        rw [← HX.out, List.drop_of_length_le (Nat.le_of_eq HN.out.symm)]
        rfl
      clear hx hb
      go_wp2
      go_ret
      refine ⟨?_, HB'.out⟩
      rw [ht2]
      exact congrArg (fun x : Int => Ending.returned (.int .u32 x)) (by omega)
end Go.Proofs.Ytalpippeelomjaa
namespace Go.Proofs.Ytalpippeelomjaa
open Go.RowKit Go.Shelf
set_option linter.unusedSimpArgs false
set_option linter.unusedVariables false
theorem data_small {s : List Nat} (hs : ∀ b ∈ s, b < 256) : ∀ b ∈ dataOf s, b < 256 := by
  by_cases h0 : errOf s = 0
  · exact (parts_page hs h0).2.2.2.2.2.2.2
  · unfold dataOf
    rw [if_neg h0]
    intro b hb
    cases hb
theorem openF_small {gen : Nat} : ∀ {l : List (List Nat)} {o o' : OS} {k : Nat}, openF gen o l k = .inl o' → (∀ s ∈ l, ∀ b ∈ s, b < 256) → (∀ b ∈ rowP o.qs, b < 256) → ∀ b ∈ rowP o'.qs, b < 256
  | [], o, o', k, h, _, ho => by
    rw [openF_nil] at h
    injection h with h
    subst h
    exact ho
  | s :: l, o, o', k, h, hl, ho => by
    cases hb : o.bad s
    · rw [openF_step hb] at h
      refine openF_small h (fun x hx => hl x (List.mem_cons_of_mem _ hx)) ?_
      unfold OS.step
      cases o.next gen s
      · exact ho
      · intro b hb2
        rw [if_pos rfl] at hb2
        have hb3 : b ∈ rowP (o.qs ++ [pgOf s]) := hb2
        rw [rowP_append] at hb3
        rcases List.mem_append.1 hb3 with h1 | h1
        · exact ho b h1
        · unfold rowP pgOf at h1
          simp at h1
          exact data_small (hl s (by simp)) b (List.mem_of_mem_drop h1)
    · rw [openF_bad hb] at h
      cases h
theorem openF_few {gen : Nat} : ∀ {l : List (List Nat)} {o o' : OS} {k : Nat}, openF gen o l k = .inl o' → o'.qs.length ≤ o.qs.length + l.length
  | [], o, o', k, h => by
    rw [openF_nil] at h
    injection h with h
    subst h
    exact Nat.le_refl _
  | s :: l, o, o', k, h => by
    cases hb : o.bad s
    · rw [openF_step hb] at h
      have h1 := openF_few h
      have h2 : (o.step gen s).qs.length ≤ o.qs.length + 1 := by
        unfold OS.step
        cases o.next gen s
        · exact Nat.le_succ _
        · show (o.qs ++ [pgOf s]).length ≤ _
          rw [List.length_append]
          exact Nat.le_refl _
      rw [List.length_cons]
      omega
    · rw [openF_bad hb] at h
      cases h
theorem data_few (s : List Nat) (hs : ∀ b ∈ s, b < 256) : (dataOf s).length ≤ 491 := by
  by_cases h0 : errOf s = 0
  · exact (parts_page hs h0).2.2.1
  · unfold dataOf
    rw [if_neg h0]
    exact Nat.zero_le _
theorem openF_short {gen : Nat} : ∀ {l : List (List Nat)} {o o' : OS} {k : Nat}, openF gen o l k = .inl o' → (∀ s ∈ l, ∀ b ∈ s, b < 256) → (rowP o'.qs).length ≤ (rowP o.qs).length + l.length * 491
  | [], o, o', k, h, _ => by
    rw [openF_nil] at h
    injection h with h
    subst h
    exact Nat.le_add_right _ _
  | s :: l, o, o', k, h, hl => by
    cases hb : o.bad s
    · rw [openF_step hb] at h
      have h1 := openF_short h (fun x hx => hl x (List.mem_cons_of_mem _ hx))
      have h2 : (rowP (o.step gen s).qs).length ≤ (rowP o.qs).length + 491 := by
        unfold OS.step
        cases o.next gen s
        · exact Nat.le_add_right _ _
        · show (rowP (o.qs ++ [pgOf s])).length ≤ _
          rw [rowP_append, List.length_append]
          have h3 := data_few s (hl s (by simp))
          have h4 : (rowP [pgOf s]).length ≤ 491 := by
            unfold rowP pgOf
            simp
            omega
          omega
      rw [List.length_cons, Nat.succ_mul]
      omega
    · rw [openF_bad hb] at h
      cases h
theorem cut_short {R : List Nat} (hs : ∀ b ∈ R, b < 256) : (cutL R).length ≤ R.length := by
  obtain ⟨rest, e, _, _⟩ := cutL_parts hs
  have h1 := congrArg List.length e
  rw [List.length_append] at h1
  have h2 := layR_count (cutL R)
  omega
theorem records_open {w : World} {gr gs gen ser first secs : Nat} {pv : Value} {ps : List PV} {R : List Nat} (h : Reel w gr gs gen ser first secs pv ps (layR (cutL R)).length (cutL R).length) (hps : rowOf ps = R) (hs : ∀ b ∈ R, b < 256) (hl : ps.length ≤ 2048) :
    ∀ y, Below w.heap.size w y → Calls Try.prog 15 #[.pointer (some ⟨gr, 0, none⟩)] y (RecsR y (cutL R)) := fun y hy => by
  obtain ⟨rest, e, hf, hn⟩ := cutL_parts hs
  have hle : (layR (cutL R)).length ≤ R.length := by
    have := congrArg List.length e
    rw [List.length_append] at this
    omega
  have h2 := records_any (h.below hy).w hl (by rw [hps]; exact hle)
  have ht : R.take (layR (cutL R)).length = layR (cutL R) := by
    have := congrArg (List.take (layR (cutL R)).length) e
    rw [List.take_left] at this
    exact this
  rw [hps, ht, cutL_lay hf] at h2
  exact h2
end Go.Proofs.Ytalpippeelomjaa
