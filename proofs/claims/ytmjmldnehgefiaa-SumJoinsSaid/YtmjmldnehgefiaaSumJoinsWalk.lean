/- The walk of the law SumJoins: it answers true for every list of texts, place and turn, and writes nothing that was there. -/
import Derived.Test.YtmjmldnehgefiaaRefSeal
import Derived.Test.YtmjmldnehgefiaaBurst
import Derived.Deep.DeepCutAuto
namespace Go.Proofs.Ytmjmldnehgefiaa
open Go.RowKit

theorem infoBytes : (Try.prog.info? 22).map (fun i => (i.zero, i.size, i.bytes)) = some (some (.slice none 0 0), 1, 24) := by kernel_rfl

/-- The first six parts so far, each cut. -/
def cuts (ls : List (List Nat)) (k : Nat) : List (List Nat) := (ls.take (min k 6)).map (·.take 60)
structure JoinsI (w wr : World) (v : Value) (vs : List Value) (ms : List (List Nat)) : Prop where
  own : wr.ownsRow w.heap.size 22 1 v vs.length vs
  len : vs.length = ms.length
  all : ∀ (j : Nat) (u : Value) (l : List Nat), vs[j]? = some u → ms[j]? = some l → ∃ A m c, u = .slice A m c ∧ Mine wr w.heap.size A m c l
  below : Below w.heap.size w wr
theorem own_apart {w : World} {b b' n n' s s' : Nat} {e e' : TypeId} {v v' : Value} {xs xs' : List Value} (h : w.ownsRow b e s v n xs) (h' : w.ownsRow b' e' s' v' n' xs') (hne : e ≠ e') : v.ownBlock = none ∨ v.ownBlock ≠ v'.ownBlock := by
  rcases h.2 with ⟨rfl, _⟩ | ⟨g, cap, cur, rfl, _, h1, _⟩
  · exact .inl rfl
  · rcases h'.2 with ⟨rfl, _⟩ | ⟨g', cap', cur', rfl, _, h2, _⟩
    · exact .inr (by simp [Value.ownBlock])
    · refine .inr (fun he => ?_)
      have hg : g = g' := by simpa [Value.ownBlock] using he
      subst hg
      rw [h1] at h2
      injection h2 with h2
      injection h2 with _ h3
      exact hne h3
theorem Mine.kept {w w' : World} {base b n m c N : Nat} {A : Option Addr} {l : List Nat} {v : Value} {vs : List Value} (h : Mine w base A m c l) (hv : w.ownsRow b 22 1 v N vs) (hg : w.grownBy w' v.ownBlock) (_ : n = n) : Mine w' base A m c l :=
  ⟨World.ownsRow.kept h.own hg (own_apart h.own hv (by decide)), h.len, h.small⟩
theorem Mine.alloc {w : World} {base m c : Nat} {A : Option Addr} {l : List Nat} (h : Mine w base A m c l) (o : Obj) : Mine (w.alloc o) base A m c l := ⟨World.ownsRow.alloc h.own o, h.len, h.small⟩
/-- A part more. -/
theorem joins_next {w wr w5 w6 : World} {v v' : Value} {vs : List Value} {ms : List (List Nat)} {A : Option Addr} {m c N : Nat} {l : List Nat} {o : Obj} (hI : JoinsI w wr v vs ms) (hb5 : Below wr.heap.size wr w5) (hM : Mine w5 wr.heap.size A m c l)
    (h6 : w6.ownsRow w.heap.size 22 1 v' N (vs ++ [Value.slice A m c])) (hg : (w5.alloc o).grownBy w6 v.ownBlock) : JoinsI w w6 v' (vs ++ [Value.slice A m c]) (ms ++ [l]) := by
  have hown := World.ownsRow.alloc (ownsRow_below hI.own hb5) o
  have hN : N = (vs ++ [Value.slice A m c]).length := by have := h6.1; omega
  subst hN
  refine ⟨h6, by simp [hI.len], ?_, ?_⟩
  · intro j u l' h1 h2
    rcases Nat.lt_or_ge j vs.length with hj | hj
    · rw [List.getElem?_append_left hj] at h1
      rw [List.getElem?_append_left (by rw [← hI.len]; exact hj)] at h2
      obtain ⟨A2, m2, c2, rfl, hM2⟩ := hI.all j u l' h1 h2
      exact ⟨A2, m2, c2, rfl, ((hM2.below hb5).alloc o).kept (n := 0) hown hg rfl⟩
    · rw [List.getElem?_append_right hj] at h1
      rw [List.getElem?_append_right (by rw [← hI.len]; exact hj), ← hI.len] at h2
      have hj0 : j - vs.length = 0 := by
        rcases Nat.eq_zero_or_pos (j - vs.length) with h | h
        · exact h
        · rw [List.getElem?_eq_none (by simp; omega)] at h1; cases h1
      rw [hj0] at h1 h2
      simp at h1 h2
      subst h1 h2
      exact ⟨A, m, c, rfl, ((hM.alloc o).kept (n := 0) hown hg rfl).lower hI.below.size⟩
  · exact ((hI.below.trans (hb5.mono hI.below.size)).alloc (Nat.le_trans hI.below.size hb5.size) o).grown hg (by have h1 := hI.below.size; have h2 := hb5.size; simp; omega) (fun g hg => (World.ownsRow.lt hI.own g hg).1)
/-- The parts, read. -/
theorem joins_parts {w wr : World} {v : Value} {vs : List Value} {ms : List (List Nat)} (hI : JoinsI w wr v vs ms) (hl : ms.length ≤ maxLen) : Parts wr wr.heap.size v ms := by
  have hall : ∀ (j : Nat) (u : Value) (l : List Nat), vs[j]? = some u → ms[j]? = some l → Bytes wr wr.heap.size u l := fun j u l h1 h2 => by
    obtain ⟨A, m, c, rfl, hM⟩ := hI.all j u l h1 h2
    exact hM.bytes
  rcases hI.own.2 with ⟨rfl, h0⟩ | ⟨g, cap, cur, rfl, h1, h2, h3, h4, h5, h6⟩
  · have e : ms = [] := List.eq_nil_of_length_eq_zero (by rw [← hI.len]; exact h0)
    subst e
    exact Parts.none_ _ _
  · have hL := Lies.of_own hI.own
    exact ⟨⟨_, cap, vs, by rw [hI.len], hI.len, hL, hall⟩, hl⟩

def JoinsR (w : World) (n : Nat) (ls : List (List Nat)) (v i : Value) (wr : World) : Prop :=
  ∃ (k : Nat) (vs : List Value), k ≤ n ∧ i = .int .i64 (k : Int) ∧ JoinsI w wr v vs (cuts ls k)

theorem cuts_next {ls : List (List Nat)} {k : Nat} {l : List Nat} (hk : k < 6) (hl : ls[k]? = some l) : cuts ls (k + 1) = cuts ls k ++ [l.take 60] := by
  unfold cuts
  rw [Nat.min_eq_left (by omega), Nat.min_eq_left (by omega), List.take_add_one, hl, List.map_append]
  rfl
theorem cuts_same {ls : List (List Nat)} {k : Nat} (hk : ¬ k < 6) : cuts ls (k + 1) = cuts ls k := by
  unfold cuts
  rw [Nat.min_eq_right (by omega), Nat.min_eq_right (by omega)]

theorem flat_le (ms : List (List Nat)) (h : ∀ l ∈ ms, l.length ≤ 60) : ms.flatten.length ≤ 60 * ms.length := by
  induction ms with
  | nil => simp
  | cons l r ih =>
    have h1 := h l (by simp)
    have h2 := ih (fun x hx => h x (by simp [hx]))
    rw [List.flatten_cons, List.length_append, List.length_cons]
    omega
theorem cuts_total (ls : List (List Nat)) (k : Nat) : (cuts ls k).flatten.length ≤ 360 := by
  have h := flat_le (cuts ls k) (fun l hl => by
    unfold cuts at hl
    obtain ⟨x, _, rfl⟩ := List.mem_map.1 hl
    rw [List.length_take]
    omega)
  have h2 : (cuts ls k).length ≤ 6 := by simp [cuts]; omega
  omega
theorem parts_small {w : World} {B : Nat} {v : Value} {ms : List (List Nat)} (h : Parts w B v ms) : ∀ b ∈ ms.flatten, b < 256 := by
  intro b hb
  obtain ⟨l, hl, hbl⟩ := List.mem_flatten.1 hb
  obtain ⟨j, hj, rfl⟩ := List.getElem_of_mem hl
  obtain ⟨⟨A, c, vs, _, hvl, _, hbytes⟩, _⟩ := h
  exact (hbytes j vs[j] ms[j] (List.getElem?_eq_getElem (by omega)) (List.getElem?_eq_getElem hj)).small b hbl

theorem sum_own {C : List Value} (hC : Table C) {y : World} {v : Value} {ms : List (List Nat)} {P : List Nat} {B : Nat} (hp : Parts y B v ms) (hB : B ≤ y.heap.size) (hP : P = ms.flatten) :
    Calls Try.prog 12 #[.agg C.toArray, v] y fun e w' => e = .returned (.int .u32 (crc P : Int)) ∧ w' = y.alloc (.cells C.toArray 28) := by
  rw [hP]
  exact sum_list C hC y v ms (hp.up hB)
theorem new_past {w : World} {g : Nat} {x : Obj} (o : Obj) (h : w.heap[g]? = some x) : (w.alloc o).heap[g]? = some x := by
  have hlt : g < w.heap.size := by
    rcases Nat.lt_or_ge g w.heap.size with h1 | h1
    · exact h1
    · rw [Array.getElem?_eq_none h1] at h; cases h
  exact (Below.heap_alloc w o g hlt).trans h
theorem parts_one {y : World} {v : Value} {l : List Nat} {B gx : Nat} (hy : y.heap[gx]? = some (.cells #[v] 22 (0, 0))) (h : Bytes y B v l) (hB : B ≤ y.heap.size) : Parts y y.heap.size (.slice (some ⟨gx, 0, none⟩) 1 1) [l] := by
  refine parts_block hy ?_ rfl rfl ?_ (by unfold maxLen; simp)
  · rcases Nat.lt_or_ge gx y.heap.size with h1 | h1
    · exact h1
    · rw [Array.getElem?_eq_none h1] at hy; cases hy
  intro j u l h1 h2
  match j, h1, h2 with
  | 0, h1, h2 =>
    simp at h1 h2
    subst h1 h2
    exact h.up hB
  | j + 1, h1, h2 => simp at h1
theorem own_lower2 {w : World} {base base' N : Nat} {v : Value} {xs : List Value} (h : w.ownsRow base 5 1 v N xs) (hb : base' ≤ base) : w.ownsRow base' 5 1 v N xs := by
  obtain ⟨hl, hv⟩ := id h
  refine ⟨hl, ?_⟩
  rcases hv with hv | ⟨g, cap, cur, rfl, h1, h2⟩
  · exact .inl hv
  · exact .inr ⟨g, cap, cur, rfl, Nat.le_trans hb h1, h2⟩
/-- The world at a meeting may be spelled otherwise. -/
theorem gen_keep {B : Nat} {a x y : World} (h : Below B a x) (e : y.heap = x.heap ∧ y.os = x.os ∧ y.tape = x.tape ∧ y.output = x.output) : Below B a y :=
  ⟨by rw [e.2.1]; exact h.os, by rw [e.2.2.1]; exact h.tape, by rw [e.2.2.2]; exact h.output, by rw [e.1]; exact h.size, by rw [e.1]; exact h.block⟩

set_option maxRecDepth 100000 in
set_option maxHeartbeats 4000000 in
theorem sumJoins_walk (A0 : Option Addr) (len0 cap0 : Nat) (ls : List (List Nat)) (att trn : Nat) (w : World) (hp : Parts w w.heap.size (.slice A0 len0 cap0) ls) (hat : att < 65536) (htr : trn < 256) :
    Calls Try.prog 6 #[.slice A0 len0 cap0, .int .u16 (att : Int), .int .u8 (trn : Int)] w fun e w' => e = .returned (.bool true) ∧ Below w.heap.size w w' := by
  obtain ⟨i0, hi0, hz0, hz1, hz2⟩ := info_parts infoBytes
  have HI := Lib.hid hi0
  have H0 := Lib.hid hz0
  have H1 := Lib.hid hz1
  have H2 := Lib.hid hz2
  have hlen : len0 = ls.length ∧ len0 ≤ maxLen := by
    obtain ⟨⟨A1, c1, vs, hv, _⟩, hl⟩ := hp
    injection hv with h1 h2 h3
    exact ⟨h2, by omega⟩
  have hlong : len0 ≤ 9223372036854775807 := hlen.2
  have HLEN := Lib.hid hlen.1
  have HP := Lib.hid hp
  clear hlen hp hi0 hz0 hz1 hz2
  have zv := zero_tab
  go_enter Try.func6, Try.ntmps6
  go_wp2_with (first
    | (go_at_call 7; (with_reducible refine (awake_any _).mono ?_); rintro e w1 ⟨rfl, hb1⟩))
  go_loopw [7, 17] (fun v i wr => JoinsR w1 len0 ls v i wr) (fun _ i _ => len0 - (intOf i).toNat)
  case atStart => exact ⟨0, [], by omega, rfl, World.ownsRow_nil _ _ _ _, by simp [cuts], fun j u l h => by simp at h, Below.refl _ _⟩
  case round =>
    obtain ⟨k, vs, hk, rfl, hI⟩ := hrel
    by_cases hlt : k < len0
    · have hPr := (HP.out.below hb1).below (hI.below.mono hb1.size)
      obtain ⟨l, hl⟩ : ∃ l, ls[k]? = some l := ⟨_, List.getElem?_eq_getElem (by rw [← HLEN.out]; exact hlt)⟩
      obtain ⟨Ak, mk, ck, ad, hA0, hcell, hB⟩ : ∃ Ak mk ck ad, A0 = some ad ∧ wr.cell? (ad.add k) = some (.slice Ak mk ck) ∧ Bytes wr w.heap.size (.slice Ak mk ck) l := by
        obtain ⟨⟨A1, c1, us, hv, hul, hlies, hbytes⟩, _⟩ := hPr
        injection hv with h1 h2 h3
        subst h1
        have hku : k < us.length := by rw [hul, ← HLEN.out]; exact hlt
        have hu := List.getElem?_eq_getElem hku
        obtain ⟨ad, hA, _, hc⟩ := hlies k _ hu
        have hb := hbytes k _ l hu hl
        obtain ⟨⟨A2, c2, hv2, _⟩, _, _⟩ := id hb
        exact ⟨A2, _, c2, ad, hA, by rw [hc, hv2], by rw [← hv2]; exact hb⟩
      subst hA0
      have hWr : w.heap.size ≤ wr.heap.size := Nat.le_trans hb1.size hI.below.size
      have hvl : vs.length ≤ 6 := by rw [hI.len]; simp [cuts]; omega
      have HIk := Lib.hid hI
      have Hl := Lib.hid hl
      have HB := Lib.hid hB
      clear hPr hl hB hI
      by_cases h6 : k < 6
      · have h6i : (k : Int) < 6 := by omega
        go_wp2_with (first
          | (go_at_call 8; (with_reducible refine (cut_mine wr _ l 60 60 rfl (HB.out.up hWr) (by omega)).mono ?_); rintro e w5 ⟨A5, m5, c5, rfl, hM5, hb5⟩)
          | (at_builtin; refine wpList_append_own _ rfl _ _ 41 rfl w1.heap.size 22 i0 (.slice none 0 0) 1 24 Try.underlying41 HI.out H0.out H1.out H2.out rfl (by decide) _ vs.length vs rfl (World.ownsRow.alloc (ownsRow_below HIk.out.own hb5) _) ⟨_, 0, none⟩ 1 1 [.slice A5 m5 c5] rfl rfl ?c1 ?c2 ?c3 ?c4 ?c5 ?_))
        case c1 => exact cell_one_new _ _
        case c2 => simp [Value.oneCell']
        case c3 => unfold maxLen; omega
        case c4 => omega
        case c5 => have h1 := HIk.out.below.size; have h2 := hb5.size; simp; omega
        intro v' w6 hown6 hg6 _
        have hnext := joins_next HIk.out hb5 hM5 hown6 hg6
        rw [← cuts_next h6 Hl.out] at hnext
        have HN := Lib.hid hnext
        clear hnext hown6 hg6 hM5 hb5
        go_wp2
        go_roundw
        case rel => exact ⟨k + 1, _, by omega, by go_num, HN.out⟩
        case measure => simp [intOf]; omega
      · have h6i : decide ((k : Int) < 6) = false := by simp; omega
        go_wp2
        go_roundw
        case rel => exact ⟨k + 1, vs, by omega, by go_num, by rw [cuts_same h6]; exact HIk.out⟩
        case measure => simp [intOf]; omega
    · obtain ⟨ms, hms⟩ : ∃ ms, ms = cuts ls k := ⟨_, rfl⟩
      have hml : ms.length ≤ 6 := by rw [hms]; simp [cuts]; omega
      have htot : ms.flatten.length ≤ 360 := by rw [hms]; exact cuts_total ls k
      rw [← hms] at hI
      have hPm := joins_parts hI (by unfold maxLen; omega)
      have hbr := below_on hb1 hI.below
      have HPm := Lib.hid hPm
      have hsm := parts_small hPm
      have Hsm := Lib.hid hsm
      clear hms hI hPm hb1 HLEN HP hsm
      obtain ⟨P, hP⟩ : ∃ P, P = ms.flatten := ⟨_, rfl⟩
      rw [← hP] at htot
      have HPP := Lib.hid hP
      have htot9 : ms.flatten.length ≤ 1048576 := by rw [← hP]; omega
      clear hP
      go_wp2_with (first
        | (go_at_call 18; (with_reducible refine (join_mine wr _ ms HPm.out Hsm.out htot9).mono ?_); rintro e w5 ⟨A, m, c, rfl, hM, hb5⟩)
        | (go_at_call 9; (with_reducible refine (make_list _).mono ?_); rintro e w6 ⟨C, hC, rfl, hb6⟩)
        | (refine wpList_store_new rfl 28 _ _ rfl (tabTo 0) C rfl rfl 28 hC.info (by rw [tabTo_size, hC.length]) hC.one ?_))
      clear zv
      have hb7 : Below w6.heap.size w6 (w6.alloc (.cells C.toArray 28)) := (Below.refl _ _).alloc (Nat.le_refl _) _
      have hbW := below_on (below_on (below_on hbr hb5) hb6) hb7
      have hPb := (hM.bytes.along hb6).along hb7
      have hPW := (((HPm.out.below hb5).up hb5.size).below hb6 |>.up hb6.size).below hb7 |>.up hb7.size
      have hR := range_new w6 C 28
      have hgl : w6.heap.size < (w6.alloc (.cells C.toArray 28)).heap.size := by simp
      have hm2 : m = P.length := by rw [HPP.out]; exact hM.len
      rw [← HPP.out] at hPb
      clear hM hb5 hb6 hb7 hbr HPm htot9
      obtain ⟨g, hg⟩ : ∃ g, g = w6.heap.size := ⟨_, rfl⟩
      rw [← hg] at hR hgl ⊢
      clear hg
      obtain ⟨W, hW⟩ : ∃ W, W = w6.alloc (.cells C.toArray 28) := ⟨_, rfl⟩
      rw [← hW] at hbW hPb hPW hR hgl ⊢
      clear hW
      have HbW := Lib.hid hbW
      have HPb := Lib.hid hPb
      have HPW := Lib.hid hPW
      have HR := Lib.hid hR
      have hm3 : m ≤ 360 := by omega
      have Hm2 := Lib.hid hm2
      clear hbW hPb hPW hR hm2 hlong
      have hinfo := hC.info
      have hund := tabL_under
      simp only [Act.put]
      go_cut [45] (fun s45 wx => s45 = .bool ((m : Int) == 0) ∧ Below W.heap.size W wx)
      case first =>
--R12
        refine wp_region_noPanic ?_
        refine wp_region_held_drew (S := (fun w' => w'.rangeAt g 0 C ∧ Below W.heap.size W w')) (by kernel_rfl) ⟨HR.out, (Below.refl _ _).drew⟩ (fun hHeld => ?_)
        refine take_at (i := 0) (some 33) rfl rfl (by kernel_rfl) (by kernel_rfl) (by kernel_rfl) (fun _ _ _ h => h) (yieldsIf_load_mid (by rfl) _ _ rfl _ _ rfl _ _ (fun _ hw => hw.1) hund rfl hinfo) (by assumption) ?_
        try simp only [Act.put, List.setIfInBounds_toArray, List.set_cons_zero, List.set_cons_succ]
        refine take_at (i := 1) (v := ?_) (some 34) rfl rfl (by kernel_rfl) (by kernel_rfl) (by kernel_rfl) (fun _ _ _ h => h) (Or.inl ⟨by rfl, ?_⟩) (by assumption) ?_
        rotate_left
        · intro w hSw
          first | (go_simp; done) | (go_simp; with_reducible rfl)
        try simp only [Act.put, List.setIfInBounds_toArray, List.set_cons_zero, List.set_cons_succ]
        refine take_at (i := 3) (some 36) rfl rfl (by kernel_rfl) (by kernel_rfl) (by kernel_rfl) (fun _ _ _ h => h) (yieldsIf_load_mid (by rfl) _ _ rfl _ _ rfl _ _ (fun _ hw => hw.1) hund rfl hinfo) (by assumption) ?_
        try simp only [Act.put, List.setIfInBounds_toArray, List.set_cons_zero, List.set_cons_succ]
        refine take_at (i := 4) (v := ?_) (some 37) rfl rfl (by kernel_rfl) (by kernel_rfl) (by kernel_rfl) (fun _ _ _ h => h) (Or.inl ⟨by rfl, ?_⟩) (by assumption) ?_
        rotate_left
        · intro w hSw
          first | (go_simp; done) | (go_simp; with_reducible rfl)
        try simp only [Act.put, List.setIfInBounds_toArray, List.set_cons_zero, List.set_cons_succ]
        refine wpAnyH_ready (rs := [2, 5]) (by kernel_rfl) (by simp) ?_
        refine (AllReadyH.cons rfl (fun K hK => ?_) (AllReadyH.cons rfl (fun K hK => ?_) AllReadyH.nil))
        · go_simp
          refine (sum_own hC (HPW.out.below hHeld.2) hHeld.2.size HPP.out).mono ?_
          rintro e w' ⟨rfl, rfl⟩
          refine hK.out _ _ ?_ (fun hHeld2 => ?_)
          · exact held_alloc hHeld hgl _
          clear hK K hHeld
          have hHeld := hHeld2
          clear hHeld2
          try simp only [Act.put, List.setIfInBounds_toArray, List.set_cons_zero, List.set_cons_succ]
          refine wpAnyH_ready (rs := [5]) (by kernel_rfl) (by simp) ?_
          refine AllReadyH.cons rfl (fun K hK => ?_) AllReadyH.nil
          go_simp
          refine hK.out _ _ ?_ (fun hHeld2 => ?_)
          · exact held_alloc hHeld hgl _
          clear hK K hHeld
          have hHeld := hHeld2
          clear hHeld2
          try simp only [Act.put, List.setIfInBounds_toArray, List.set_cons_zero, List.set_cons_succ]
          refine wpAnyH_ready (rs := [6]) (by kernel_rfl) (by simp) ?_
          refine AllReadyH.cons rfl (fun K hK => ?_) AllReadyH.nil
          go_simp
          refine (sum_one (v := .slice A m c) (q := P) (B := W.heap.size) hC (new_drew _ _ _ (by simp)) (HPb.out.below hHeld.2) hHeld.2.size).mono ?_
          rintro e w' ⟨rfl, rfl⟩
          refine hK.out _ _ ?_ (fun hHeld2 => ?_)
          · exact held_alloc hHeld hgl _
          clear hK K hHeld
          have hHeld := hHeld2
          clear hHeld2
          try simp only [Act.put, List.setIfInBounds_toArray, List.set_cons_zero, List.set_cons_succ]
          refine take_at (i := 7) (v := ?_) (some 40) rfl rfl (by kernel_rfl) (by kernel_rfl) (by kernel_rfl) (fun _ _ _ h => h) (Or.inl ⟨by rfl, ?_⟩) (by assumption) ?_
          rotate_left
          · intro w hSw
            first | (go_simp; done) | (go_simp; with_reducible rfl)
          try simp only [Act.put, List.setIfInBounds_toArray, List.set_cons_zero, List.set_cons_succ]
          refine take_at (i := 8) (v := ?_) (some 41) rfl rfl (by kernel_rfl) (by kernel_rfl) (by kernel_rfl) (fun _ _ _ h => h) (Or.inl ⟨by rfl, ?_⟩) (by assumption) ?_
          rotate_left
          · intro w hSw
            first | (go_simp; done) | (go_simp; with_reducible rfl)
          try simp only [Act.put, List.setIfInBounds_toArray, List.set_cons_zero, List.set_cons_succ]
          refine take_at (i := 9) (v := ?_) (some 42) rfl rfl (by kernel_rfl) (by kernel_rfl) (by kernel_rfl) (fun _ _ _ h => h) (Or.inl ⟨by rfl, ?_⟩) (by assumption) ?_
          rotate_left
          · intro w hSw
            first | (go_simp; done) | (go_simp; with_reducible rfl)
          try simp only [Act.put, List.setIfInBounds_toArray, List.set_cons_zero, List.set_cons_succ]
          refine take_at (i := 10) (v := ?_) (some 43) rfl rfl (by kernel_rfl) (by kernel_rfl) (by kernel_rfl) (fun _ _ _ h => h) (Or.inl ⟨by rfl, ?_⟩) (by assumption) ?_
          rotate_left
          · intro w hSw
            first | (go_simp; done) | (go_simp; with_reducible rfl)
          try simp only [Act.put, List.setIfInBounds_toArray, List.set_cons_zero, List.set_cons_succ]
          refine take_at (i := 11) (v := ?_) (some 44) rfl rfl (by kernel_rfl) (by kernel_rfl) (by kernel_rfl) (fun _ _ _ h => h) (Or.inl ⟨by rfl, ?_⟩) (by assumption) ?_
          rotate_left
          · intro w hSw
            first | (go_simp; done) | (go_simp; with_reducible rfl)
          try simp only [Act.put, List.setIfInBounds_toArray, List.set_cons_zero, List.set_cons_succ]
          refine take_at (i := 12) (v := ?_) (some 45) rfl rfl (by kernel_rfl) (by kernel_rfl) (by kernel_rfl) (fun _ _ _ h => h) (Or.inl ⟨by rfl, ?_⟩) (by assumption) ?_
          rotate_left
          · intro w hSw
            first | (go_simp; done) | (go_simp; with_reducible rfl)
          try simp only [Act.put, List.setIfInBounds_toArray, List.set_cons_zero, List.set_cons_succ]
          refine wpAnyH_done (by kernel_rfl) ?_ _
          refine NoPanic.normal ?_
          go_wp2_with fail
          go_meet
          exact ⟨rfl, gen_keep hHeld.2 ⟨rfl, rfl, rfl, rfl⟩⟩
        · go_simp
          refine hK.out _ _ ?_ (fun hHeld2 => ?_)
          · exact held_alloc hHeld hgl _
          clear hK K hHeld
          have hHeld := hHeld2
          clear hHeld2
          try simp only [Act.put, List.setIfInBounds_toArray, List.set_cons_zero, List.set_cons_succ]
          refine wpAnyH_ready (rs := [2]) (by kernel_rfl) (by simp) ?_
          refine AllReadyH.cons rfl (fun K hK => ?_) AllReadyH.nil
          go_simp
          refine (sum_own hC (HPW.out.below hHeld.2) hHeld.2.size HPP.out).mono ?_
          rintro e w' ⟨rfl, rfl⟩
          refine hK.out _ _ ?_ (fun hHeld2 => ?_)
          · exact held_alloc hHeld hgl _
          clear hK K hHeld
          have hHeld := hHeld2
          clear hHeld2
          try simp only [Act.put, List.setIfInBounds_toArray, List.set_cons_zero, List.set_cons_succ]
          refine wpAnyH_ready (rs := [6]) (by kernel_rfl) (by simp) ?_
          refine AllReadyH.cons rfl (fun K hK => ?_) AllReadyH.nil
          go_simp
          refine (sum_one (v := .slice A m c) (q := P) (B := W.heap.size) hC (new_past _ (new_drew _ _ _ rfl)) (HPb.out.below hHeld.2) hHeld.2.size).mono ?_
          rintro e w' ⟨rfl, rfl⟩
          refine hK.out _ _ ?_ (fun hHeld2 => ?_)
          · exact held_alloc hHeld hgl _
          clear hK K hHeld
          have hHeld := hHeld2
          clear hHeld2
          try simp only [Act.put, List.setIfInBounds_toArray, List.set_cons_zero, List.set_cons_succ]
          refine take_at (i := 7) (v := ?_) (some 40) rfl rfl (by kernel_rfl) (by kernel_rfl) (by kernel_rfl) (fun _ _ _ h => h) (Or.inl ⟨by rfl, ?_⟩) (by assumption) ?_
          rotate_left
          · intro w hSw
            first | (go_simp; done) | (go_simp; with_reducible rfl)
          try simp only [Act.put, List.setIfInBounds_toArray, List.set_cons_zero, List.set_cons_succ]
          refine take_at (i := 8) (v := ?_) (some 41) rfl rfl (by kernel_rfl) (by kernel_rfl) (by kernel_rfl) (fun _ _ _ h => h) (Or.inl ⟨by rfl, ?_⟩) (by assumption) ?_
          rotate_left
          · intro w hSw
            first | (go_simp; done) | (go_simp; with_reducible rfl)
          try simp only [Act.put, List.setIfInBounds_toArray, List.set_cons_zero, List.set_cons_succ]
          refine take_at (i := 9) (v := ?_) (some 42) rfl rfl (by kernel_rfl) (by kernel_rfl) (by kernel_rfl) (fun _ _ _ h => h) (Or.inl ⟨by rfl, ?_⟩) (by assumption) ?_
          rotate_left
          · intro w hSw
            first | (go_simp; done) | (go_simp; with_reducible rfl)
          try simp only [Act.put, List.setIfInBounds_toArray, List.set_cons_zero, List.set_cons_succ]
          refine take_at (i := 10) (v := ?_) (some 43) rfl rfl (by kernel_rfl) (by kernel_rfl) (by kernel_rfl) (fun _ _ _ h => h) (Or.inl ⟨by rfl, ?_⟩) (by assumption) ?_
          rotate_left
          · intro w hSw
            first | (go_simp; done) | (go_simp; with_reducible rfl)
          try simp only [Act.put, List.setIfInBounds_toArray, List.set_cons_zero, List.set_cons_succ]
          refine take_at (i := 11) (v := ?_) (some 44) rfl rfl (by kernel_rfl) (by kernel_rfl) (by kernel_rfl) (fun _ _ _ h => h) (Or.inl ⟨by rfl, ?_⟩) (by assumption) ?_
          rotate_left
          · intro w hSw
            first | (go_simp; done) | (go_simp; with_reducible rfl)
          try simp only [Act.put, List.setIfInBounds_toArray, List.set_cons_zero, List.set_cons_succ]
          refine take_at (i := 12) (v := ?_) (some 45) rfl rfl (by kernel_rfl) (by kernel_rfl) (by kernel_rfl) (fun _ _ _ h => h) (Or.inl ⟨by rfl, ?_⟩) (by assumption) ?_
          rotate_left
          · intro w hSw
            first | (go_simp; done) | (go_simp; with_reducible rfl)
          try simp only [Act.put, List.setIfInBounds_toArray, List.set_cons_zero, List.set_cons_succ]
          refine wpAnyH_done (by kernel_rfl) ?_ _
          refine NoPanic.normal ?_
          go_wp2_with fail
          go_meet
          exact ⟨rfl, gen_keep hHeld.2 ⟨rfl, rfl, rfl, rfl⟩⟩
--R12E
      case rest =>
        obtain ⟨rfl, hbx⟩ := hcut
        have Hbx := Lib.hid hbx
        have hgx : g < wc.heap.size := Nat.lt_of_lt_of_le hgl hbx.size
        by_cases hm0 : m = 0
        · have hz : ((m : Int) == 0) = true := by simp; omega
          have Hm0 := Lib.hid hm0
          clear hbx hm0
          go_wp2
--R13
          refine wp_region_noPanic ?_
          refine wp_region_held_drew (S := (fun w' => w'.rangeAt g 0 C ∧ Below W.heap.size W w')) (by kernel_rfl) ⟨range_below HR.out Hbx.out.drew hgl, Hbx.out.drew⟩ (fun hHeld => ?_)
          refine take_at (i := 0) (some 46) rfl rfl (by kernel_rfl) (by kernel_rfl) (by kernel_rfl) (fun _ _ _ h => h) (yieldsIf_load_mid (by rfl) _ _ rfl _ _ rfl _ _ (fun _ hw => hw.1) hund rfl hinfo) (by assumption) ?_
          try simp only [Act.put, List.setIfInBounds_toArray, List.set_cons_zero, List.set_cons_succ]
          refine take_at (i := 1) (v := ?_) (some 47) rfl rfl (by kernel_rfl) (by kernel_rfl) (by kernel_rfl) (fun _ _ _ h => h) (Or.inl ⟨by rfl, ?_⟩) (by assumption) ?_
          rotate_left
          · intro w hSw
            first | (go_simp; done) | (go_simp; with_reducible rfl)
          try simp only [Act.put, List.setIfInBounds_toArray, List.set_cons_zero, List.set_cons_succ]
          refine take_at (i := 3) (some 49) rfl rfl (by kernel_rfl) (by kernel_rfl) (by kernel_rfl) (fun _ _ _ h => h) (yieldsIf_load_mid (by rfl) _ _ rfl _ _ rfl _ _ (fun _ hw => hw.1) hund rfl hinfo) (by assumption) ?_
          try simp only [Act.put, List.setIfInBounds_toArray, List.set_cons_zero, List.set_cons_succ]
          refine take_at (i := 4) (v := ?_) (some 50) rfl rfl (by kernel_rfl) (by kernel_rfl) (by kernel_rfl) (fun _ _ _ h => h) (Or.inl ⟨by rfl, ?_⟩) (by assumption) ?_
          rotate_left
          · intro w hSw
            first | (go_simp; done) | (go_simp; with_reducible rfl)
          try simp only [Act.put, List.setIfInBounds_toArray, List.set_cons_zero, List.set_cons_succ]
          refine wpAnyH_ready (rs := [2, 5]) (by kernel_rfl) (by simp) ?_
          refine (AllReadyH.cons rfl (fun K hK => ?_) (AllReadyH.cons rfl (fun K hK => ?_) AllReadyH.nil))
          · go_simp
            refine (sum_own hC (HPW.out.below hHeld.2) hHeld.2.size HPP.out).mono ?_
            rintro e w' ⟨rfl, rfl⟩
            refine hK.out _ _ ?_ (fun hHeld2 => ?_)
            · exact held_alloc hHeld hgl _
            clear hK K hHeld
            have hHeld := hHeld2
            clear hHeld2
            try simp only [Act.put, List.setIfInBounds_toArray, List.set_cons_zero, List.set_cons_succ]
            refine wpAnyH_ready (rs := [5]) (by kernel_rfl) (by simp) ?_
            refine AllReadyH.cons rfl (fun K hK => ?_) AllReadyH.nil
            go_simp
            refine hK.out _ _ ?_ (fun hHeld2 => ?_)
            · exact held_alloc hHeld hgl _
            clear hK K hHeld
            have hHeld := hHeld2
            clear hHeld2
            try simp only [Act.put, List.setIfInBounds_toArray, List.set_cons_zero, List.set_cons_succ]
            refine wpAnyH_ready (rs := [6]) (by kernel_rfl) (by simp) ?_
            refine AllReadyH.cons rfl (fun K hK => ?_) AllReadyH.nil
            go_simp
            refine (sum_one (v := .slice A m c) (q := P) (B := W.heap.size) hC (new_drew _ _ _ (by simp)) (HPb.out.below hHeld.2) hHeld.2.size).mono ?_
            rintro e w' ⟨rfl, rfl⟩
            refine hK.out _ _ ?_ (fun hHeld2 => ?_)
            · exact held_alloc hHeld hgl _
            clear hK K hHeld
            have hHeld := hHeld2
            clear hHeld2
            try simp only [Act.put, List.setIfInBounds_toArray, List.set_cons_zero, List.set_cons_succ]
            refine take_at (i := 7) (v := ?_) (some 53) rfl rfl (by kernel_rfl) (by kernel_rfl) (by kernel_rfl) (fun _ _ _ h => h) (Or.inl ⟨by rfl, ?_⟩) (by assumption) ?_
            rotate_left
            · intro w hSw
              first | (go_simp; done) | (go_simp; with_reducible rfl)
            try simp only [Act.put, List.setIfInBounds_toArray, List.set_cons_zero, List.set_cons_succ]
            refine take_at (i := 8) (v := ?_) (some 6) rfl rfl (by kernel_rfl) (by kernel_rfl) (by kernel_rfl) (fun _ _ _ h => h) (Or.inl ⟨by rfl, ?_⟩) (by assumption) ?_
            rotate_left
            · intro w hSw
              first | (go_simp; done) | (go_simp; with_reducible rfl)
            try simp only [Act.put, List.setIfInBounds_toArray, List.set_cons_zero, List.set_cons_succ]
            refine wpAnyH_done (by kernel_rfl) ?_ _
            refine NoPanic.normal ?_
            have hend := HbW.out.trans (hHeld.2.mono HbW.out.size)
            refine gen_world (R := fun X => Below w.heap.size w X) (G := fun X => Exit.then _ _ _ _ X) hend ?_
            clear hend hHeld
            intro X hend
            go_wp2
            go_ret
            exact ⟨rfl, hend⟩
          · go_simp
            refine hK.out _ _ ?_ (fun hHeld2 => ?_)
            · exact held_alloc hHeld hgl _
            clear hK K hHeld
            have hHeld := hHeld2
            clear hHeld2
            try simp only [Act.put, List.setIfInBounds_toArray, List.set_cons_zero, List.set_cons_succ]
            refine wpAnyH_ready (rs := [2]) (by kernel_rfl) (by simp) ?_
            refine AllReadyH.cons rfl (fun K hK => ?_) AllReadyH.nil
            go_simp
            refine (sum_own hC (HPW.out.below hHeld.2) hHeld.2.size HPP.out).mono ?_
            rintro e w' ⟨rfl, rfl⟩
            refine hK.out _ _ ?_ (fun hHeld2 => ?_)
            · exact held_alloc hHeld hgl _
            clear hK K hHeld
            have hHeld := hHeld2
            clear hHeld2
            try simp only [Act.put, List.setIfInBounds_toArray, List.set_cons_zero, List.set_cons_succ]
            refine wpAnyH_ready (rs := [6]) (by kernel_rfl) (by simp) ?_
            refine AllReadyH.cons rfl (fun K hK => ?_) AllReadyH.nil
            go_simp
            refine (sum_one (v := .slice A m c) (q := P) (B := W.heap.size) hC (new_past _ (new_drew _ _ _ rfl)) (HPb.out.below hHeld.2) hHeld.2.size).mono ?_
            rintro e w' ⟨rfl, rfl⟩
            refine hK.out _ _ ?_ (fun hHeld2 => ?_)
            · exact held_alloc hHeld hgl _
            clear hK K hHeld
            have hHeld := hHeld2
            clear hHeld2
            try simp only [Act.put, List.setIfInBounds_toArray, List.set_cons_zero, List.set_cons_succ]
            refine take_at (i := 7) (v := ?_) (some 53) rfl rfl (by kernel_rfl) (by kernel_rfl) (by kernel_rfl) (fun _ _ _ h => h) (Or.inl ⟨by rfl, ?_⟩) (by assumption) ?_
            rotate_left
            · intro w hSw
              first | (go_simp; done) | (go_simp; with_reducible rfl)
            try simp only [Act.put, List.setIfInBounds_toArray, List.set_cons_zero, List.set_cons_succ]
            refine take_at (i := 8) (v := ?_) (some 6) rfl rfl (by kernel_rfl) (by kernel_rfl) (by kernel_rfl) (fun _ _ _ h => h) (Or.inl ⟨by rfl, ?_⟩) (by assumption) ?_
            rotate_left
            · intro w hSw
              first | (go_simp; done) | (go_simp; with_reducible rfl)
            try simp only [Act.put, List.setIfInBounds_toArray, List.set_cons_zero, List.set_cons_succ]
            refine wpAnyH_done (by kernel_rfl) ?_ _
            refine NoPanic.normal ?_
            have hend := HbW.out.trans (hHeld.2.mono HbW.out.size)
            refine gen_world (R := fun X => Below w.heap.size w X) (G := fun X => Exit.then _ _ _ _ X) hend ?_
            clear hend hHeld
            intro X hend
            go_wp2
            go_ret
            exact ⟨rfl, hend⟩
--R13E
        · have hz : ((m : Int) == 0) = false := by simp; omega
          have hPj : Parts (wc.alloc (.cells #[.slice A m c] 22)) (wc.alloc (.cells #[.slice A m c] 22)).heap.size (.slice (some ⟨wc.heap.size, 0, none⟩) 1 1) [P] :=
            parts_one (Go.heap_alloc_new wc _) (HPb.out.along hbx |>.along ((Below.refl _ _).alloc (Nat.le_refl _) _)) (Nat.le_refl _)
          have e1 : [P].flatten = P := by simp
          have hJ := join_mine _ _ _ hPj (by rw [e1]; exact HPb.out.small) (by rw [e1]; omega)
          rw [e1] at hJ
          have HJ := hide hJ
          clear hPj e1 hJ hbx
          go_wp2_with (go_at_call 18; fail)
          with_reducible refine (unhide HJ).mono ?_
          rintro e w8 ⟨A2, m2, c2, rfl, hM8, hb8⟩
          have hm2m : m2 = P.length := hM8.len
          have hm20 : 0 < m2 := by have := Hm2.out; omega
          obtain ⟨i, hi⟩ : ∃ i, i = att % m2 := ⟨_, rfl⟩
          have hil : i < m2 := by rw [hi]; exact Nat.mod_lt _ hm20
          have hmod : (att : Int) % (m2 : Int) = (i : Int) := by rw [hi, Int.natCast_emod]
          have hil2 : (i : Int) < (m2 : Int) := by omega
          have hi0 : (0 : Int) ≤ (i : Int) := by omega
          obtain ⟨gq, b, hA2, hgq, hfb, hb256, hcell, hfroz⟩ := hM8.at_ hil
          subst hA2
          have hx8 : bits .xor .u8 (b : Int) (trn : Int) = ((b ^^^ trn : Nat) : Int) := u8_xor_nat b trn hb256 htr
          have hnx : Mine (w8.setCell ⟨gq, i, none⟩ (.int .u8 ((b ^^^ trn : Nat) : Int))) wc.heap.size (some ⟨gq, 0, none⟩) m2 c2 (P.set i (b ^^^ trn)) := by
            refine ⟨?_, by rw [List.length_set]; exact hM8.len, ?_⟩
            · have h := (hM8.own.stored i (.int .u8 ((b ^^^ trn : Nat) : Int))).1
              have e : byt (P.set i (b ^^^ trn)) = (byt P).set i (.int .u8 ((b ^^^ trn : Nat) : Int)) := by unfold byt; rw [List.map_set]
              rw [e]
              exact own_lower2 h (by simp)
            · intro d hd
              rcases List.mem_or_eq_of_mem_set hd with h | h
              · exact hM8.small d h
              · rw [h]; exact Nat.xor_lt_two_pow (n := 8) (by omega) (by omega)
          have hb9 : Below wc.heap.size wc (w8.setCell ⟨gq, i, none⟩ (.int .u8 ((b ^^^ trn : Nat) : Int))) :=
            (((Below.refl wc.heap.size wc).alloc (Nat.le_refl _) _).trans (hb8.mono (by simp))).setCell (by have := hgq; simp at this; simp; omega) _
          have HNX := Lib.hid hnx.bytes
          have HB9 := Lib.hid hb9
          have Hfb := Lib.hid hfb
          have Hm2m := Lib.hid hm2m
          clear hi hnx hb9 hfb hm2m hM8 hb8
          obtain ⟨Q, hQ⟩ : ∃ Q, Q = P.set i (b ^^^ trn) := ⟨_, rfl⟩
          rw [← hQ] at HNX
          obtain ⟨bt, hbt, htz⟩ : ∃ bt : Bool, (((crc P : Nat) : Int) == ((crc Q : Nat) : Int)) = bt ∧ ((trn : Int) == 0) = bt := by
            by_cases h0 : trn = 0
            · refine ⟨true, ?_, ?_⟩
              · rw [hQ, h0, set_same P i b Hfb.out]
                simp
              · rw [h0]
                rfl
            · refine ⟨false, ?_, ?_⟩
              · have h := crc_turn P i trn b Hfb.out hb256 htr HPb.out.small h0
                rw [← hQ] at h
                simp
                omega
              · simp
                omega
          clear hQ
          go_wp2
          have hgy : g < (w8.setCell ⟨gq, i, none⟩ (.int .u8 ((b ^^^ trn : Nat) : Int))).heap.size := Nat.lt_of_lt_of_le hgx HB9.out.size
          have HRY := Lib.hid (range_below (range_below HR.out Hbx.out hgl) HB9.out hgx)
          have HPY := Lib.hid ((HPb.out.along Hbx.out).along HB9.out)
          have HbY := Lib.hid ((HbW.out.trans (Hbx.out.mono HbW.out.size)).trans (HB9.out.mono (Nat.le_trans HbW.out.size Hbx.out.size)))
          obtain ⟨Y, hY⟩ : ∃ Y, Y = w8.setCell ⟨gq, i, none⟩ (.int .u8 ((b ^^^ trn : Nat) : Int)) := ⟨_, rfl⟩
          rw [← hY] at hgy HRY HPY HbY HNX ⊢
          clear hY HB9 hcell hfroz hx8 hmod hil2 hi0
--R16
          refine wp_region_noPanic ?_
          refine wp_region_held_drew (S := (fun w' => w'.rangeAt g 0 C ∧ Below Y.heap.size Y w')) (by kernel_rfl) ⟨HRY.out, (Below.refl _ _).drew⟩ (fun hHeld => ?_)
          refine take_at (i := 0) (some 68) rfl rfl (by kernel_rfl) (by kernel_rfl) (by kernel_rfl) (fun _ _ _ h => h) (yieldsIf_load_mid (by rfl) _ _ rfl _ _ rfl _ _ (fun _ hw => hw.1) hund rfl hinfo) (by assumption) ?_
          try simp only [Act.put, List.setIfInBounds_toArray, List.set_cons_zero, List.set_cons_succ]
          refine take_at (i := 1) (v := ?_) (some 69) rfl rfl (by kernel_rfl) (by kernel_rfl) (by kernel_rfl) (fun _ _ _ h => h) (Or.inl ⟨by rfl, ?_⟩) (by assumption) ?_
          rotate_left
          · intro w hSw
            first | (go_simp; done) | (go_simp; with_reducible rfl)
          try simp only [Act.put, List.setIfInBounds_toArray, List.set_cons_zero, List.set_cons_succ]
          refine take_at (i := 4) (some 72) rfl rfl (by kernel_rfl) (by kernel_rfl) (by kernel_rfl) (fun _ _ _ h => h) (yieldsIf_load_mid (by rfl) _ _ rfl _ _ rfl _ _ (fun _ hw => hw.1) hund rfl hinfo) (by assumption) ?_
          try simp only [Act.put, List.setIfInBounds_toArray, List.set_cons_zero, List.set_cons_succ]
          refine take_at (i := 5) (v := ?_) (some 73) rfl rfl (by kernel_rfl) (by kernel_rfl) (by kernel_rfl) (fun _ _ _ h => h) (Or.inl ⟨by rfl, ?_⟩) (by assumption) ?_
          rotate_left
          · intro w hSw
            first | (go_simp; done) | (go_simp; with_reducible rfl)
          try simp only [Act.put, List.setIfInBounds_toArray, List.set_cons_zero, List.set_cons_succ]
          refine take_at (i := 9) (v := ?_) (some 77) rfl rfl (by kernel_rfl) (by kernel_rfl) (by kernel_rfl) (fun _ _ _ h => h) (Or.inl ⟨by rfl, ?_⟩) (by assumption) ?_
          rotate_left
          · intro w hSw
            first | (go_simp; done) | (go_simp; with_reducible rfl)
          try simp only [Act.put, List.setIfInBounds_toArray, List.set_cons_zero, List.set_cons_succ]
          refine take_at (i := 10) (v := ?_) (some 78) rfl rfl (by kernel_rfl) (by kernel_rfl) (by kernel_rfl) (fun _ _ _ h => h) (Or.inl ⟨by rfl, ?_⟩) (by assumption) ?_
          rotate_left
          · intro w hSw
            first | (go_simp; done) | (go_simp; with_reducible rfl)
          try simp only [Act.put, List.setIfInBounds_toArray, List.set_cons_zero, List.set_cons_succ]
          refine wpAnyH_ready (rs := [2, 6]) (by kernel_rfl) (by simp) ?_
          refine (AllReadyH.cons rfl (fun K hK => ?_) (AllReadyH.cons rfl (fun K hK => ?_) AllReadyH.nil))
          · go_simp
            refine hK.out _ _ ?_ (fun hHeld2 => ?_)
            · exact held_alloc hHeld hgy _
            clear hK K hHeld
            have hHeld := hHeld2
            clear hHeld2
            try simp only [Act.put, List.setIfInBounds_toArray, List.set_cons_zero, List.set_cons_succ]
            refine wpAnyH_ready (rs := [3, 6]) (by kernel_rfl) (by simp) ?_
            refine (AllReadyH.cons rfl (fun K hK => ?_) (AllReadyH.cons rfl (fun K hK => ?_) AllReadyH.nil))
            · go_simp
              refine (sum_one (v := .slice A m c) (q := P) (B := Y.heap.size) hC (by first | exact new_drew _ _ _ rfl | exact new_drew _ _ _ (by simp) | exact new_past _ (new_drew _ _ _ rfl) | exact new_past _ (new_drew _ _ _ (by simp)) | exact new_past _ (new_past _ (Go.heap_alloc_new _ _)) | exact new_past _ (Go.heap_alloc_new _ _)) (HPY.out.below hHeld.2) hHeld.2.size).mono ?_
              rintro e w' ⟨rfl, rfl⟩
              refine hK.out _ _ ?_ (fun hHeld2 => ?_)
              · exact held_alloc hHeld hgy _
              clear hK K hHeld
              have hHeld := hHeld2
              clear hHeld2
              try simp only [Act.put, List.setIfInBounds_toArray, List.set_cons_zero, List.set_cons_succ]
              refine wpAnyH_ready (rs := [6]) (by kernel_rfl) (by simp) ?_
              refine AllReadyH.cons rfl (fun K hK => ?_) AllReadyH.nil
              go_simp
              refine hK.out _ _ ?_ (fun hHeld2 => ?_)
              · exact held_alloc hHeld hgy _
              clear hK K hHeld
              have hHeld := hHeld2
              clear hHeld2
              try simp only [Act.put, List.setIfInBounds_toArray, List.set_cons_zero, List.set_cons_succ]
              refine wpAnyH_ready (rs := [7]) (by kernel_rfl) (by simp) ?_
              refine AllReadyH.cons rfl (fun K hK => ?_) AllReadyH.nil
              go_simp
              refine (sum_one (v := .slice (some ⟨gq, 0, none⟩) m2 c2) (q := Q) (B := Y.heap.size) hC (by first | exact new_drew _ _ _ rfl | exact new_drew _ _ _ (by simp) | exact new_past _ (new_drew _ _ _ rfl) | exact new_past _ (new_drew _ _ _ (by simp)) | exact new_past _ (new_past _ (Go.heap_alloc_new _ _)) | exact new_past _ (Go.heap_alloc_new _ _)) (HNX.out.below hHeld.2) hHeld.2.size).mono ?_
              rintro e w' ⟨rfl, rfl⟩
              refine hK.out _ _ ?_ (fun hHeld2 => ?_)
              · exact held_alloc hHeld hgy _
              clear hK K hHeld
              have hHeld := hHeld2
              clear hHeld2
              try simp only [Act.put, List.setIfInBounds_toArray, List.set_cons_zero, List.set_cons_succ]
              refine take_at (i := 8) (v := ?_) (some 76) rfl rfl (by kernel_rfl) (by kernel_rfl) (by kernel_rfl) (fun _ _ _ h => h) (Or.inl ⟨by rfl, ?_⟩) (by assumption) ?_
              rotate_left
              · intro w hSw
                first | (go_simp; done) | (go_simp; with_reducible rfl)
              try simp only [Act.put, List.setIfInBounds_toArray, List.set_cons_zero, List.set_cons_succ]
              refine take_at (i := 11) (v := ?_) (some 79) rfl rfl (by kernel_rfl) (by kernel_rfl) (by kernel_rfl) (fun _ _ _ h => h) (Or.inl ⟨by rfl, ?_⟩) (by assumption) ?_
              rotate_left
              · intro w hSw
                first | (go_simp; done) | (go_simp; with_reducible rfl)
              try simp only [Act.put, List.setIfInBounds_toArray, List.set_cons_zero, List.set_cons_succ]
              refine take_at (i := 12) (v := ?_) (some 6) rfl rfl (by kernel_rfl) (by kernel_rfl) (by kernel_rfl) (fun _ _ _ h => h) (Or.inl ⟨by rfl, ?_⟩) (by assumption) ?_
              rotate_left
              · intro w hSw
                first | (go_simp; done) | (go_simp; with_reducible rfl)
              try simp only [Act.put, List.setIfInBounds_toArray, List.set_cons_zero, List.set_cons_succ]
              refine wpAnyH_done (by kernel_rfl) ?_ _
              refine NoPanic.normal ?_
              have hend := HbY.out.trans (hHeld.2.mono HbY.out.size)
              refine gen_world (R := fun X => Below w.heap.size w X) (G := fun X => Exit.then _ _ _ _ X) hend ?_
              clear hend hHeld
              intro X hend
              go_wp2
              go_ret
              exact ⟨rfl, hend⟩
            · go_simp
              refine hK.out _ _ ?_ (fun hHeld2 => ?_)
              · exact held_alloc hHeld hgy _
              clear hK K hHeld
              have hHeld := hHeld2
              clear hHeld2
              try simp only [Act.put, List.setIfInBounds_toArray, List.set_cons_zero, List.set_cons_succ]
              refine wpAnyH_ready (rs := [3]) (by kernel_rfl) (by simp) ?_
              refine AllReadyH.cons rfl (fun K hK => ?_) AllReadyH.nil
              go_simp
              refine (sum_one (v := .slice A m c) (q := P) (B := Y.heap.size) hC (by first | exact new_drew _ _ _ rfl | exact new_drew _ _ _ (by simp) | exact new_past _ (new_drew _ _ _ rfl) | exact new_past _ (new_drew _ _ _ (by simp)) | exact new_past _ (new_past _ (Go.heap_alloc_new _ _)) | exact new_past _ (Go.heap_alloc_new _ _)) (HPY.out.below hHeld.2) hHeld.2.size).mono ?_
              rintro e w' ⟨rfl, rfl⟩
              refine hK.out _ _ ?_ (fun hHeld2 => ?_)
              · exact held_alloc hHeld hgy _
              clear hK K hHeld
              have hHeld := hHeld2
              clear hHeld2
              try simp only [Act.put, List.setIfInBounds_toArray, List.set_cons_zero, List.set_cons_succ]
              refine wpAnyH_ready (rs := [7]) (by kernel_rfl) (by simp) ?_
              refine AllReadyH.cons rfl (fun K hK => ?_) AllReadyH.nil
              go_simp
              refine (sum_one (v := .slice (some ⟨gq, 0, none⟩) m2 c2) (q := Q) (B := Y.heap.size) hC (by first | exact new_drew _ _ _ rfl | exact new_drew _ _ _ (by simp) | exact new_past _ (new_drew _ _ _ rfl) | exact new_past _ (new_drew _ _ _ (by simp)) | exact new_past _ (new_past _ (Go.heap_alloc_new _ _)) | exact new_past _ (Go.heap_alloc_new _ _)) (HNX.out.below hHeld.2) hHeld.2.size).mono ?_
              rintro e w' ⟨rfl, rfl⟩
              refine hK.out _ _ ?_ (fun hHeld2 => ?_)
              · exact held_alloc hHeld hgy _
              clear hK K hHeld
              have hHeld := hHeld2
              clear hHeld2
              try simp only [Act.put, List.setIfInBounds_toArray, List.set_cons_zero, List.set_cons_succ]
              refine take_at (i := 8) (v := ?_) (some 76) rfl rfl (by kernel_rfl) (by kernel_rfl) (by kernel_rfl) (fun _ _ _ h => h) (Or.inl ⟨by rfl, ?_⟩) (by assumption) ?_
              rotate_left
              · intro w hSw
                first | (go_simp; done) | (go_simp; with_reducible rfl)
              try simp only [Act.put, List.setIfInBounds_toArray, List.set_cons_zero, List.set_cons_succ]
              refine take_at (i := 11) (v := ?_) (some 79) rfl rfl (by kernel_rfl) (by kernel_rfl) (by kernel_rfl) (fun _ _ _ h => h) (Or.inl ⟨by rfl, ?_⟩) (by assumption) ?_
              rotate_left
              · intro w hSw
                first | (go_simp; done) | (go_simp; with_reducible rfl)
              try simp only [Act.put, List.setIfInBounds_toArray, List.set_cons_zero, List.set_cons_succ]
              refine take_at (i := 12) (v := ?_) (some 6) rfl rfl (by kernel_rfl) (by kernel_rfl) (by kernel_rfl) (fun _ _ _ h => h) (Or.inl ⟨by rfl, ?_⟩) (by assumption) ?_
              rotate_left
              · intro w hSw
                first | (go_simp; done) | (go_simp; with_reducible rfl)
              try simp only [Act.put, List.setIfInBounds_toArray, List.set_cons_zero, List.set_cons_succ]
              refine wpAnyH_done (by kernel_rfl) ?_ _
              refine NoPanic.normal ?_
              have hend := HbY.out.trans (hHeld.2.mono HbY.out.size)
              refine gen_world (R := fun X => Below w.heap.size w X) (G := fun X => Exit.then _ _ _ _ X) hend ?_
              clear hend hHeld
              intro X hend
              go_wp2
              go_ret
              exact ⟨rfl, hend⟩
          · go_simp
            refine hK.out _ _ ?_ (fun hHeld2 => ?_)
            · exact held_alloc hHeld hgy _
            clear hK K hHeld
            have hHeld := hHeld2
            clear hHeld2
            try simp only [Act.put, List.setIfInBounds_toArray, List.set_cons_zero, List.set_cons_succ]
            refine wpAnyH_ready (rs := [2]) (by kernel_rfl) (by simp) ?_
            refine AllReadyH.cons rfl (fun K hK => ?_) AllReadyH.nil
            go_simp
            refine hK.out _ _ ?_ (fun hHeld2 => ?_)
            · exact held_alloc hHeld hgy _
            clear hK K hHeld
            have hHeld := hHeld2
            clear hHeld2
            try simp only [Act.put, List.setIfInBounds_toArray, List.set_cons_zero, List.set_cons_succ]
            refine wpAnyH_ready (rs := [3]) (by kernel_rfl) (by simp) ?_
            refine AllReadyH.cons rfl (fun K hK => ?_) AllReadyH.nil
            go_simp
            refine (sum_one (v := .slice A m c) (q := P) (B := Y.heap.size) hC (by first | exact new_drew _ _ _ rfl | exact new_drew _ _ _ (by simp) | exact new_past _ (new_drew _ _ _ rfl) | exact new_past _ (new_drew _ _ _ (by simp)) | exact new_past _ (new_past _ (Go.heap_alloc_new _ _)) | exact new_past _ (Go.heap_alloc_new _ _)) (HPY.out.below hHeld.2) hHeld.2.size).mono ?_
            rintro e w' ⟨rfl, rfl⟩
            refine hK.out _ _ ?_ (fun hHeld2 => ?_)
            · exact held_alloc hHeld hgy _
            clear hK K hHeld
            have hHeld := hHeld2
            clear hHeld2
            try simp only [Act.put, List.setIfInBounds_toArray, List.set_cons_zero, List.set_cons_succ]
            refine wpAnyH_ready (rs := [7]) (by kernel_rfl) (by simp) ?_
            refine AllReadyH.cons rfl (fun K hK => ?_) AllReadyH.nil
            go_simp
            refine (sum_one (v := .slice (some ⟨gq, 0, none⟩) m2 c2) (q := Q) (B := Y.heap.size) hC (by first | exact new_drew _ _ _ rfl | exact new_drew _ _ _ (by simp) | exact new_past _ (new_drew _ _ _ rfl) | exact new_past _ (new_drew _ _ _ (by simp)) | exact new_past _ (new_past _ (Go.heap_alloc_new _ _)) | exact new_past _ (Go.heap_alloc_new _ _)) (HNX.out.below hHeld.2) hHeld.2.size).mono ?_
            rintro e w' ⟨rfl, rfl⟩
            refine hK.out _ _ ?_ (fun hHeld2 => ?_)
            · exact held_alloc hHeld hgy _
            clear hK K hHeld
            have hHeld := hHeld2
            clear hHeld2
            try simp only [Act.put, List.setIfInBounds_toArray, List.set_cons_zero, List.set_cons_succ]
            refine take_at (i := 8) (v := ?_) (some 76) rfl rfl (by kernel_rfl) (by kernel_rfl) (by kernel_rfl) (fun _ _ _ h => h) (Or.inl ⟨by rfl, ?_⟩) (by assumption) ?_
            rotate_left
            · intro w hSw
              first | (go_simp; done) | (go_simp; with_reducible rfl)
            try simp only [Act.put, List.setIfInBounds_toArray, List.set_cons_zero, List.set_cons_succ]
            refine take_at (i := 11) (v := ?_) (some 79) rfl rfl (by kernel_rfl) (by kernel_rfl) (by kernel_rfl) (fun _ _ _ h => h) (Or.inl ⟨by rfl, ?_⟩) (by assumption) ?_
            rotate_left
            · intro w hSw
              first | (go_simp; done) | (go_simp; with_reducible rfl)
            try simp only [Act.put, List.setIfInBounds_toArray, List.set_cons_zero, List.set_cons_succ]
            refine take_at (i := 12) (v := ?_) (some 6) rfl rfl (by kernel_rfl) (by kernel_rfl) (by kernel_rfl) (fun _ _ _ h => h) (Or.inl ⟨by rfl, ?_⟩) (by assumption) ?_
            rotate_left
            · intro w hSw
              first | (go_simp; done) | (go_simp; with_reducible rfl)
            try simp only [Act.put, List.setIfInBounds_toArray, List.set_cons_zero, List.set_cons_succ]
            refine wpAnyH_done (by kernel_rfl) ?_ _
            refine NoPanic.normal ?_
            have hend := HbY.out.trans (hHeld.2.mono HbY.out.size)
            refine gen_world (R := fun X => Below w.heap.size w X) (G := fun X => Exit.then _ _ _ _ X) hend ?_
            clear hend hHeld
            intro X hend
            go_wp2
            go_ret
            exact ⟨rfl, hend⟩
--R16E
end Go.Proofs.Ytmjmldnehgefiaa
