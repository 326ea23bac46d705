/- LCutT, LAppRows: joined by program (tools/merge.py). -/
import Derived.Test.YtalpippeelomjaaZ36
import Derived.Test.YtalpippeelomjaaZ39
import Derived.Deep.AppendLies
import Derived.Laws.OwnMore
namespace Go.Proofs.Ytalpippeelomjaa
theorem heapThreeZ49 (w : World) (o : Obj) {r : Nat} (h : r < w.heap.size) : (w.alloc o).heap[r]? = w.heap[r]? := by first | exact Go.heap_alloc_old _ _ h | exact Go.heap_alloc_old _ _ _ h
theorem heapFourZ49 (w : World) (o : Obj) (r : Nat) (h : r < w.heap.size) : (w.alloc o).heap[r]? = w.heap[r]? := heapThreeZ49 w o h
open Go.RowKit Go.Shelf
set_option linter.unusedSimpArgs false
set_option linter.unusedVariables false
/-- As Rows2, all in one block. -/
def RowsA (A1 : Option Addr) (w : World) (base B : Nat) (v : Value) (ls : List (List Nat)) : Prop :=
  ∃ vs : List Value, vs.length = ls.length ∧ w.ownsRow base 43 1 v ls.length vs ∧ (∀ (j : Nat) (u : Value) (l : List Nat), vs[j]? = some u → ls[j]? = some l → Bytes w B u l) ∧ ∀ u ∈ vs, ∀ k, u.ownBlock = some k → ∃ a, A1 = some a ∧ k = a.block
theorem RowsA.two {A1 : Option Addr} {w : World} {base B : Nat} {v : Value} {ls : List (List Nat)} (h : RowsA A1 w base B v ls) : Rows2 w base B v ls := by
  obtain ⟨vs, a, b, c, _⟩ := h
  exact ⟨vs, a, b, c⟩
theorem RowsA.nil (A1 : Option Addr) (w : World) (base B : Nat) : RowsA A1 w base B (.slice none 0 0) [] := ⟨[], rfl, World.ownsRow_nil _ _ _ _, fun j u l h => by simp at h, fun u h => by cases h⟩
theorem RowsA.keep {A1 : Option Addr} {w w' : World} {base B : Nat} {v : Value} {ls : List (List Nat)} (h : RowsA A1 w base B v ls) (hk : ∀ k, v.ownBlock = some k → w'.heap[k]? = w.heap[k]?) (hb : Below B w w') : RowsA A1 w' base B v ls := by
  obtain ⟨vs, h1, h2, h3, h4⟩ := h
  exact ⟨vs, h1, ownsRow_keep h2 hk, fun j u l hj hl => (h3 j u l hj hl).below hb, h4⟩
theorem RowsA.up {A1 : Option Addr} {w : World} {base B B' : Nat} {v : Value} {ls : List (List Nat)} (h : RowsA A1 w base B v ls) (hB : B ≤ B') : RowsA A1 w base B' v ls := by
  obtain ⟨vs, h1, h2, h3, h4⟩ := h
  exact ⟨vs, h1, h2, fun j u l hj hl => (h3 j u l hj hl).up hB, h4⟩
theorem RowsA.lower {A1 : Option Addr} {w : World} {base base' B : Nat} {v : Value} {ls : List (List Nat)} (h : RowsA A1 w base B v ls) (hb : base' ≤ base) : RowsA A1 w base' B v ls := by
  obtain ⟨vs, h1, h2, h3, h4⟩ := h
  exact ⟨vs, h1, own_up h2 fun k hk => Nat.le_trans hb (own_block_lt h2 hk).1, h3, h4⟩
theorem rowsA_snoc {A1 : Option Addr} {w : World} {base B : Nat} {v' u : Value} {ls : List (List Nat)} {vs : List Value} {l : List Nat} (hl : vs.length = ls.length) (h : w.ownsRow base 43 1 v' (ls.length + 1) (vs ++ [u]))
    (hb : ∀ (j : Nat) (u : Value) (l : List Nat), vs[j]? = some u → ls[j]? = some l → Bytes w B u l) (hu : Bytes w B u l) (ha : ∀ u ∈ vs, ∀ k, u.ownBlock = some k → ∃ a, A1 = some a ∧ k = a.block) (hua : ∀ k, u.ownBlock = some k → ∃ a, A1 = some a ∧ k = a.block) : RowsA A1 w base B v' (ls ++ [l]) := by
  refine ⟨vs ++ [u], by simp [hl], by rw [List.length_append]; exact h, fun j u' l' hj hl' => ?_, fun u' hu' => ?_⟩
  · by_cases hj2 : j < vs.length
    · rw [List.getElem?_append_left hj2] at hj
      rw [List.getElem?_append_left (by omega)] at hl'
      exact hb j u' l' hj hl'
    · rw [List.getElem?_append_right (by omega)] at hj
      rw [List.getElem?_append_right (by omega)] at hl'
      have h0 : j - vs.length = 0 := by
        have := (List.getElem?_eq_some_iff.1 hj).1
        simp at this
        omega
      rw [h0] at hj
      rw [show j - ls.length = 0 by omega] at hl'
      simp at hj hl'
      subst hj hl'
      exact hu
  · rcases List.mem_append.1 hu' with h1 | h1
    · exact ha u' h1
    · rw [List.mem_singleton] at h1
      subst h1
      exact hua
theorem subS_block {A : Option Addr} {E k j : Nat} (h : (subS A E k).ownBlock = some j) : ∃ a, A = some a ∧ j = a.block := by
  unfold subS at h
  cases A with
  | none => split at h <;> cases h
  | some a =>
    refine ⟨a, rfl, ?_⟩
    split at h
    · injection h with h; exact h.symm
    · injection h with h
      rw [← h]
      exact addr_add_block _ _
def CutST (A1 : Option Addr) (W : World) (g : Nat) (l : List Nat) (v e : Value) (wr : World) : Prop :=
  ∃ (ls : List (List Nat)) (rest : List Nat) (u : Value), e = .int .i64 ((layR ls).length : Int) ∧ l = layR ls ++ rest ∧ Fit ls ∧ Rdr wr g g u false rest ∧ RowsA A1 wr W.heap.size g v ls ∧ Below g W wr
theorem cut_nextT {A1 : Option Addr} {W wr w4 w6 : World} {g : Nat} {u4 u v4 v' : Value} {o : Obj} {ls : List (List Nat)} {vs : List Value} {r2 sz : List Nat} (hg : g < W.heap.size) (hB : Below g W wr) (hvl : vs.length = ls.length)
    (hown : wr.ownsRow W.heap.size 43 1 u4 ls.length vs) (hby : ∀ (j : Nat) (u : Value) (l : List Nat), vs[j]? = some u → ls[j]? = some l → Bytes wr g u l)
    (hR4 : Rdr w4 g g v4 false r2) (hC4 : Chg wr w4 g none) (hown6 : w6.ownsRow W.heap.size 43 1 v' (ls.length + 1) (vs ++ [u])) (hg6 : (w4.alloc o).grownBy w6 u4.ownBlock) (hu : Bytes w4 g u sz) (ha : ∀ u ∈ vs, ∀ k, u.ownBlock = some k → ∃ a, A1 = some a ∧ k = a.block) (hua : ∀ k, u.ownBlock = some k → ∃ a, A1 = some a ∧ k = a.block) :
    Rdr w6 g g v4 false r2 ∧ RowsA A1 w6 W.heap.size g v' (ls ++ [sz]) ∧ Below g W w6 := by
  have hs := hB.size
  have hs4 := hC4.size
  have hrow : ∀ k, u4.ownBlock = some k → W.heap.size ≤ k := fun k hk => (own_block_lt hown hk).1
  have b4 : Below g wr w4 := hC4.below_g (Below.refl g wr) (by omega)
  have b6 : Below g w4 w6 := ((Below.refl g w4).alloc (by omega) o).grown hg6 (by simp; omega) (fun k hk => by have := hrow k hk; omega)
  refine ⟨hR4.keep fun k hk => ?_, ?_, (hB.trans b4).trans b6⟩
  · have h1 : k < (w4.alloc o).heap.size := by simp; omega
    have h2 := hg6.block k h1 (fun e => by have := hrow k e.symm; omega)
    rw [h2]
    first | exact heapThreeZ49 _ _ (by omega) | exact heapFourZ49 _ _ _ (by omega)
  · exact rowsA_snoc hvl hown6 (fun j u l hj hl => ((hby j u l hj hl).below b4).below b6) (hu.below b6) ha hua
set_option maxRecDepth 100000 in
set_option maxHeartbeats 2000000 in
theorem cut_recsT (w : World) (v : Value) (l : List Nat) (hp : Bytes w w.heap.size v l) (hl : l.length ≤ 1048576) :
    Calls Try.prog 41 #[v] w fun e w' => ∃ u, e = .returned (.tuple #[u, .int .i64 ((layR (cutL l)).length : Int)]) ∧ Rows3 w' w.heap.size u (cutL l) ∧ Below w.heap.size w w' := by
  have HC := hide (tp_clone_any w v l hp (by omega))
  have HP := Lib.hid hp
  obtain ⟨i0, hi0, hz0, hz1, hz2⟩ := info_parts infoSlice
  have HI := Lib.hid hi0
  have H0 := Lib.hid hz0
  have H1 := Lib.hid hz1
  have H2 := Lib.hid hz2
  clear hi0 hz0 hz1 hz2
  obtain ⟨A0, c0, rfl, _, _, _⟩ := hp.form
  obtain ⟨N, hN⟩ : ∃ N, N = l.length := ⟨_, rfl⟩
  rw [← hN] at hl ⊢
  rw [← hN] at HC HP
  have HN := Lib.hid hN
  clear hp hN
  go_enter Try.func41, Try.ntmps41
  go_wp2_with (first
    | (go_at_call 66; (with_reducible refine (unhide HC).mono ?_); rintro e w1 ⟨A1, n1, c1, rfl, hM1, hb1⟩; go_loud (
        obtain rfl : N = n1 := (HN.out.trans hM1.len.symm);
        have hc1 : N ≤ c1 := mine_cap hM1;
        have HM1 := Lib.hid hM1;
        clear hM1;
        have HR := hide (tp_read_any w1 _ l (HP.out.along hb1) (by rw [← HN.out]; exact hl))))
    | (go_at_call 67; (with_reducible refine (unhide HR).mono ?_); rintro e w2 ⟨g, u, rfl, hR2, hg2, hb2⟩))
  have hg : g < w2.heap.size := lt_of_heap hR2.st
  have HOWN : Hid (Bytes w2 g (.slice A1 N c1) l) := Lib.hid ((HM1.out.bytes.below hb2).up hg2)
  have HW2 : Hid (Below w.heap.size w w2) := Lib.hid (hb1.trans (hb2.mono hb1.size))
  have hwg : w.heap.size ≤ g := Nat.le_trans hb1.size hg2
  have HTL : Hid (∀ a, A1 = some a → a.block < g) := Lib.hid fun a ha => by
    subst ha
    exact Nat.lt_of_lt_of_le (own_block_lt HM1.out.own (k := a.block) rfl).2 hg2
  have HTY : Hid (∀ a, A1 = some a → ∃ cs, w2.heap[a.block]? = some (.cells cs 5 (0, 0))) := Lib.hid fun a ha => by
    subst ha
    obtain ⟨cs, hcs⟩ := row_heap HM1.out.own (k := a.block) rfl
    exact ⟨cs, (hb2.block _ (lt_of_heap hcs)).trans hcs⟩
  clear hb1 hb2
  go_loopw [4, 5] (fun t e wr => CutST A1 w2 g l t e wr) (fun _ e _ => N - (intOf e).toNat)
  case atStart =>
    exact ⟨[], l, u, rfl, rfl, (fun s hs => by cases hs), hR2, RowsA.nil _ _ _ _, Below.refl _ _⟩
  case round =>
    obtain ⟨ls, rest, u1, rfl, hl1, hfit, hR, hRo, hB⟩ := hrel
    have HLf := hide (rleft_any wr g g u1 false rest hR)
    have hrs : ∀ b ∈ rest, b < 256 := hR.by_.small
    have hrl : rest.length ≤ N := by rw [HN.out, hl1, List.length_append]; omega
    have hEN : (layR ls).length + rest.length = N := by rw [HN.out, hl1, List.length_append]
    have HEN := Lib.hid hEN
    have HRD := Lib.hid hR
    have HRO := Lib.hid hRo
    have HB := Lib.hid hB
    have HL1 := Lib.hid hl1
    have HFIT := Lib.hid hfit
    have hsW := hB.size
    have HEnd : Hid (NoRec rest → ∀ w', Below wr.heap.size wr w' ∨ Chg wr w' g none → (∃ u, Ending.returned (.tuple #[u4, .int .i64 ((layR ls).length : Int)]) = .returned (.tuple #[u, .int .i64 ((layR (cutL l)).length : Int)]) ∧ Rows3 w' w.heap.size u (cutL l) ∧ Below w.heap.size w w')) := Lib.hid (by
      intro hno w' hw'
      have he : cutL l = ls := by rw [hl1]; exact cutL_eq hfit hno
      have hbg : Below g wr w' := hw'.elim (fun h => h.mono (by omega)) (fun h => h.below_g (Below.refl g wr) (by omega))
      have hk : ∀ k, u4.ownBlock = some k → w'.heap[k]? = wr.heap[k]? := fun k hk => by
        obtain ⟨vs, h1, h2, h3, _⟩ := hRo
        have hh := own_block_lt h2 hk
        exact hw'.elim (fun h => h.block k hh.2) (fun h => h.block k hh.2 (by omega) (by simp))
      refine ⟨u4, by rw [he], ?_, HW2.out.trans ((hB.trans hbg).mono hwg)⟩
      rw [he]
      obtain ⟨vs, r1, r2, r3, r4⟩ := ((hRo.keep hk hbg).lower (Nat.le_trans hwg (Nat.le_of_lt hg))).up (Nat.le_trans (by omega) hbg.size)
      refine ⟨vs, r1, r2, fun j u l hj hl => ⟨r3 j u l hj hl, fun k hk2 => ?_⟩⟩
      obtain ⟨a, ha, hka⟩ := r4 u (List.mem_of_getElem? hj) k hk2
      obtain ⟨cs, hcs⟩ := HTY.out a ha
      exact ⟨cs, (0, 0), by rw [hka]; exact ((hB.trans hbg).block _ (HTL.out a ha)).trans hcs⟩)
    clear hR hRo hB hl1 hfit hEN
    by_cases hre : rest = []
    · subst hre
      go_wp2_with (go_at_call 68; (with_reducible refine (unhide HLf).mono ?_); rintro e w3 ⟨rfl, rfl⟩)
      go_ret2
      exact HEnd.out noRec_nil _ (.inl (Below.refl _ _))
    · have hpos : (rest.length : Int) > 0 := by
        have := List.length_pos_iff.2 hre
        omega
      have HT := hide (rtext_any wr g g 65536 u1 false rest HRD.out (by decide))
      rw [show ((65536 : Nat) : Int) = 65536 from rfl] at HT
      by_cases hok : (takeText rest 65536).2.2 = true
      · obtain ⟨hre1, hsl⟩ := takeText_back hrs hok
        rw [hok] at HT
        obtain ⟨sz, hsz⟩ : ∃ n, n = (takeText rest 65536).1 := ⟨_, rfl⟩
        obtain ⟨r2, hr2⟩ : ∃ n, n = (takeText rest 65536).2.1 := ⟨_, rfl⟩
        rw [← hsz, ← hr2] at HT hre1
        rw [← hsz] at hsl
        have hr2l : r2.length ≤ N := by rw [hre1, List.length_append] at hrl; omega
        have HR1 := Lib.hid hre1
        have hle : sz.length + r2.length ≤ N := by
          rw [hre1, List.length_append] at hrl
          unfold rec1 at hrl
          rw [List.length_append] at hrl
          omega
        have HSUM : Hid ((layR (ls ++ [sz])).length + r2.length = N) := Lib.hid (by
          have := HEN.out
          rw [hre1, List.length_append] at this
          rw [layR_snoc, List.length_append]
          omega)
        have HGT : Hid ((layR ls).length + 1 + r2.length ≤ N) := Lib.hid (by
          have := HEN.out
          have := rec1_pos sz
          rw [hre1, List.length_append] at *
          omega)
        have hlss : ls.length ≤ N := by
          have := layR_count ls
          have := HEN.out
          omega
        have hfit2 : Fit (ls ++ [sz]) := fun s hs => by
          rcases List.mem_append.1 hs with h | h
          · exact HFIT.out s h
          · rw [List.mem_singleton] at h; rw [h]; exact hsl
        have HF2 := Lib.hid hfit2
        have HL2 : Hid (l = layR (ls ++ [sz]) ++ r2) := Lib.hid (by rw [layR_snoc, List.append_assoc, ← hre1]; exact HL1.out)
        clear hsz hr2 hok hre1 hre hrl hfit2
        have htx := txt_size sz
        obtain ⟨k, hk⟩ : ∃ k, k = sz.length := ⟨_, rfl⟩
        obtain ⟨m, hm⟩ : ∃ m, m = r2.length := ⟨_, rfl⟩
        rw [← hk] at hsl hle htx
        rw [← hm] at hle hr2l HSUM HGT
        have hTD := take_drop_rec (a := layR ls) (sz := sz) (r2 := r2) (HL1.out.trans (by rw [HR1.out])) HN.out hm
        rw [← hk] at hTD
        have HSB : Hid (∀ w4, Below g w2 w4 → Bytes w4 g (subS A1 (N - m) k) sz) := Lib.hid (fun w4 hb => by
          have := subS_bytes (E := N - m) (k := k) (HOWN.out.below hb) (by omega) (by omega)
          rw [hTD] at this
          exact this)
        have HK := Lib.hid hk
        have HMM := Lib.hid hm
        have hLeft : ∀ w4 v4, Rdr w4 g g v4 false r2 → Calls Try.prog 68 #[.pointer (some ⟨g, 0, none⟩)] w4 fun e w' => e = .returned (.int .i64 (m : Int)) ∧ w4 = w' := fun w4 v4 h => by rw [hm]; exact rleft_any w4 g g v4 false r2 h
        have HLL := Lib.hid hLeft
        obtain ⟨vs, hvl, hown, hby, hab⟩ := HRO.out
        have HAB := Lib.hid hab
        clear hab
        have HV := Lib.hid hvl
        have HO := Lib.hid hown
        have HBY := Lib.hid hby
        have HO4 : Hid (∀ w4 o, Chg wr w4 g none → (w4.alloc o).ownsRow w2.heap.size 43 1 u4 ls.length vs) := Lib.hid (fun w4 o h => World.ownsRow.alloc (ownsRow_keep hown fun k hk => by
          have hh := own_block_lt hown hk
          exact h.block k hh.2 (by omega) (by simp)) _)
        clear hk hm hLeft hTD hvl hown hby
        by_cases hm0 : m = 0
        · subst hm0
          have hd0 : doneIs false r2 = 0 := by
            have : r2 = [] := List.eq_nil_of_length_eq_zero HMM.out.symm
            rw [this]; rfl
          have HD0 := Lib.hid hd0
          clear hd0
          go_wp2_with (first
            | (go_at_call 68; (with_reducible refine (unhide HLf).mono ?_); rintro e w3 ⟨rfl, rfl⟩)
            | (go_at_call 68; (with_reducible refine (unhide HL4).mono ?_); rintro e w3 ⟨rfl, rfl⟩)
            | (go_at_call 70; (with_reducible refine (unhide HD4).mono ?_); rintro e w3 ⟨rfl, rfl⟩)
            | (at_builtin; go_loud (refine wpList_append_own _ rfl _ _ 34 rfl w2.heap.size 43 i0 (.slice none 0 0) 1 24 Try.underlying34 HI.out H0.out H1.out H2.out rfl (by decide) _ ls.length vs rfl (HO4.out w4 _ HC4.out) ⟨_, 0, none⟩ 1 1 [subS A1 N k] rfl rfl (cell_one_new _ _) (by simp [Value.oneCell', subS]) (by unfold maxLen; omega) (by omega) (by simp; omega) ?_); intro v' w6 hown6 hg6 hx6)
            | (go_at_call 69; (with_reducible refine (unhide HT).mono ?_); rintro e w4 ⟨rfl, v4, hR4, hC4⟩; go_loud (
                have hR4' : Rdr w4 g g v4 false r2 := hR4;
                have HL4 := hide (HLL.out w4 v4 hR4');
                have HD4 := hide (rdone_any w4 g g v4 false r2 hR4');
                rw [HD0.out] at HD4;
                have HR4 := Lib.hid hR4';
                have hs4 := hC4.size;
                have HC4 := Lib.hid hC4;
                clear hR4 hR4' hC4)))
          obtain ⟨j1, j2, j3⟩ := cut_nextT hg HB.out HV.out HO.out HBY.out HR4.out HC4.out hown6 hg6 (HSB.out w4 (HC4.out.below_g HB.out (by omega))) HAB.out (fun k hk => subS_block hk)
          have J1 := Lib.hid j1
          have J2 := Lib.hid j2
          have J3 := Lib.hid j3
          clear hown6 hg6 j1 j2 j3
          go_roundw
          case rel => exact ⟨ls ++ [sz], r2, v4, int_i64 (by have := HSUM.out; omega), HL2.out, HF2.out, J1.out, J2.out, J3.out⟩
          case measure => simp [intOf]; have := HSUM.out; have := HEN.out; have := HGT.out; omega
        · go_wp2_with (first
            | (go_at_call 68; (with_reducible refine (unhide HLf).mono ?_); rintro e w3 ⟨rfl, rfl⟩)
            | (go_at_call 68; (with_reducible refine (unhide HL4).mono ?_); rintro e w3 ⟨rfl, rfl⟩)
            | (at_builtin; go_loud (refine wpList_append_own _ rfl _ _ 34 rfl w2.heap.size 43 i0 (.slice none 0 0) 1 24 Try.underlying34 HI.out H0.out H1.out H2.out rfl (by decide) _ ls.length vs rfl (HO4.out w4 _ HC4.out) ⟨_, 0, none⟩ 1 1 [subS A1 (N - m) k] rfl rfl (cell_one_new _ _) (by simp [Value.oneCell', subS]) (by unfold maxLen; omega) (by omega) (by simp; omega) ?_); intro v' w6 hown6 hg6 hx6)
            | (go_at_call 69; (with_reducible refine (unhide HT).mono ?_); rintro e w4 ⟨rfl, v4, hR4, hC4⟩; go_loud (
                have hR4' : Rdr w4 g g v4 false r2 := hR4;
                have HL4 := hide (HLL.out w4 v4 hR4');
                have HR4 := Lib.hid hR4';
                have hs4 := hC4.size;
                have HC4 := Lib.hid hC4;
                clear hR4 hR4' hC4)))
          obtain ⟨j1, j2, j3⟩ := cut_nextT hg HB.out HV.out HO.out HBY.out HR4.out HC4.out hown6 hg6 (HSB.out w4 (HC4.out.below_g HB.out (by omega))) HAB.out (fun k hk => subS_block hk)
          have J1 := Lib.hid j1
          have J2 := Lib.hid j2
          have J3 := Lib.hid j3
          clear hown6 hg6 j1 j2 j3
          go_roundw
          case rel => exact ⟨ls ++ [sz], r2, v4, int_i64 (by have := HSUM.out; omega), HL2.out, HF2.out, J1.out, J2.out, J3.out⟩
          case measure => simp [intOf]; have := HSUM.out; have := HEN.out; have := HGT.out; omega
      · have hb := takeText_bad (Bool.eq_false_iff.2 hok)
        rw [hb] at HT
        have HNO := Lib.hid (show NoRec rest from Bool.eq_false_iff.2 hok)
        clear hok hb
        go_wp2_with (first
          | (go_at_call 68; (with_reducible refine (unhide HLf).mono ?_); rintro e w3 ⟨rfl, rfl⟩)
          | (go_at_call 68; (with_reducible refine (unhide HL4).mono ?_); rintro e w3 ⟨rfl, rfl⟩)
          | (go_at_call 70; (with_reducible refine (unhide HD4).mono ?_); rintro e w3 ⟨rfl, rfl⟩)
          | (go_at_call 69; (with_reducible refine (unhide HT).mono ?_); rintro e w4 ⟨rfl, v4, hR4, hC4⟩; go_loud (
              have hR4' : Rdr w4 g g v4 true [] := hR4;
              have HL4 := hide (rleft_any w4 g g v4 true [] hR4');
              have HD4 := hide (rdone_any w4 g g v4 true [] hR4');
              rw [done_bad (.inl rfl)] at HD4;
              have HR4 := Lib.hid hR4';
              have HC4 := Lib.hid hC4;
              clear hR4 hR4' hC4)))
        go_ret2
        exact HEnd.out HNO.out _ (.inr HC4.out)
/-- Rows of bytes are handed back. -/
def RecsT (w : World) (ls : List (List Nat)) (e : Ending) (w' : World) : Prop := ∃ u, e = .returned u ∧ Rows3 w' w.heap.size u ls ∧ Below w.heap.size w w'
set_option maxRecDepth 100000 in
set_option maxHeartbeats 4000000 in
theorem records_anyT {w : World} {gr gs gen ser first secs size count k : Nat} {pv rv : Value} {ps : List PV} (h : ReelW w gr gs gen ser first secs pv ps size count rv k) (hl : ps.length ≤ 2048) (hsz : size ≤ (rowOf ps).length) :
    Calls Try.prog 15 #[.pointer (some ⟨gr, 0, none⟩)] w (RecsT w (cutL ((rowOf ps).take size))) := by
  have c6 : w.cell? ⟨gr, 6, none⟩ = some (.int .i64 (size : Int)) := by unfold World.cell?; rw [h.st]; rfl
  have hgl := lt_of_heap h.st
  have hpl : size ≤ 1048576 := by
    have h1 := rowOf_le ps (fun p hp => (h.pages.ok p hp).few)
    omega
  have HC : Hid (∀ x, Below w.heap.size w x → x.cell? ⟨gr, 6, none⟩ = some (.int .i64 (size : Int))) := Lib.hid fun x hx => (hx.cell (p := ⟨gr, 6, none⟩) hgl).trans c6
  have HROW : Hid (∀ y, Below w.heap.size w y → Calls Try.prog 48 #[.pointer (some ⟨gr, 0, none⟩)] y fun e w' => ∃ A n c, e = .returned (.slice A n c) ∧ Mine w' y.heap.size A n c (rowOf ps) ∧ Below y.heap.size y w') :=
    Lib.hid fun y hy => row_any y gr gs gen ser first secs size count pv rv ps (h.below hy).st (h.below hy).pages h.long hl
  have HLT : Hid (((rowOf ps).take size).length ≤ 1048576) := Lib.hid (by rw [List.length_take]; omega)
  have hs0 : (0 : Int) ≤ (size : Int) := by omega
  clear h
  go_enter Try.func15, Try.ntmps15
  go_wp2_with fail
  go_region_held3 (fun x => Below w.heap.size w x ∧ x.cell? ⟨gr, 6, none⟩ = some (.int .i64 (size : Int)))
    ((refine (fun h => ⟨h, HC.out _ h⟩) ?_; repeat (with_reducible (first | exact Below.refl _ _ | assumption | refine ride_alloc ?_ _ | refine ride_drew ?_ | refine below_drewN ?_ _ | refine ride_call (by assumption) ?_))))
    (first
      | (go_at_call 48; (with_reducible refine (HROW.out _ (by repeat (with_reducible (first | exact Below.refl _ _ | assumption | refine ride_alloc ?_ _ | refine ride_drew ?_ | refine below_drewN ?_ _ | refine ride_call (by assumption) ?_)))).mono ?_); rintro e w1 ⟨A1, n1, k1, rfl, hM1, hb1⟩; have hk1 : size ≤ n1 ∧ n1 ≤ k1 := ⟨by rw [hM1.len]; exact hsz, mine_cap hM1⟩; have HM1 := Lib.hid (hM1.cut hk1.1); have hk3 : (size : Int) ≤ (k1 : Int) := (by have := hk1.1; have := hk1.2; omega); have hk4 : size ≤ k1 := (by have := hk1.1; have := hk1.2; omega); clear hM1 hk1)
      | (go_at_call 41; (with_reducible refine (cut_recsT _ _ ((rowOf ps).take size) (HM1.out.bytes.along (by repeat (with_reducible (first | exact Below.refl _ _ | assumption | refine ride_alloc ?_ _ | refine ride_drew ?_ | refine below_drewN ?_ _ | refine ride_call (by assumption) ?_)))) HLT.out).mono ?_); rintro e w2 ⟨u2, rfl, hR2, hb2⟩))
  rename_i hHeld
  have HH := Lib.hid hHeld
  have HR2 := Lib.hid (hR2.lower (base' := w.heap.size) (by have := hb1.size; simp at this; omega))
  clear hHeld hR2
  go_wp2
  go_ret
  exact ⟨u2, rfl, HR2.out, HH.out.1⟩
end Go.Proofs.Ytalpippeelomjaa
namespace Go.Proofs.Ytalpippeelomjaa
open Go.RowKit
set_option linter.unusedSimpArgs false
set_option linter.unusedVariables false
theorem wpList_append_rows {P : Program} {w : World} {ops : Array Oper} {rest : List Oper} {o : Oper} {a : Act} {Q : Exit → Act → World → Prop} (hgd : o.guard = none) (s x : Operand) (t : TypeId)
    (ho : o.op = .call { callee := .builtin .append, args := #[s, x], argTypes := #[t, t] })
    (base base2 : Nat) (e : TypeId) (i : TypeInfo) (z : Value) (bytes : Nat) (ht : P.underlying t = some (.slice e)) (hi : P.info? e = some i) (hz : i.zero = some z)
    (hsize : i.size = 1) (hby : i.bytes = bytes) (hzs : z.cells.size = 1)
    (v : Value) (n : Nat) (xs : List Value) (hs : a.eval s = v) (hown : w.ownsRow base e 1 v n xs)
    (u : Value) (m : Nat) (ys : List Value) (hx : a.eval x = u) (hu : w.ownsRow base2 e 1 u m ys) (h1 : ∀ y ∈ ys, y.oneCell' = true)
    (h63 : n + m ≤ maxLen) (hbytes : (n + m) * bytes ≤ 140737488355328) (hbase : base ≤ w.heap.size)
    (h : ∀ v' w', w'.ownsRow base e 1 v' (n + m) (xs ++ ys) → w.grownBy w' v.ownBlock → (v'.ownBlock = v.ownBlock ∨ v'.ownBlock = some w.heap.size) → wpList P ops Q rest (a.put o.dst v') w') :
    wpList P ops Q (o :: rest) a w := by
  rcases hu.2 with ⟨rfl, rfl⟩ | ⟨g, cap, cur, rfl, hbg, hg, hnc, hcm, hcs, htake⟩
  · have hys : ys = [] := List.eq_nil_of_length_eq_zero (by simpa using hu.1)
    subst hys
    have hr := run_append_owned_none (P := P) w base t o.type e i 1 ht hi v n xs hown
    refine wpList_plain hgd fun K hK => ?_
    unfold Oper.wp execOp
    simp only [ho, resolve, invoke, builtin, Sem.run_bind, Sem.run_pure, Result.andThen_ok, List.map_toArray, List.map_cons, List.map_nil, hs, hx, hr]
    exact hK _ _ (h v w (by rw [Nat.add_zero, List.append_nil]; exact hown) ⟨rfl, rfl, rfl, Nat.le_refl _, fun _ _ _ => rfl⟩ (.inl rfl))
  · refine wpList_append_own_at w hgd s x t ho base e i z 1 bytes ht hi hz hsize hby hzs (by decide) v n xs hs hown ⟨g, 0, none⟩ m cap ys hx hu.1 (hu.cells (g := g) rfl) h1 h63 hbytes hbase ?_
    intro v' w' h2 h3 _ h5
    exact h v' w' h2 h3 h5
end Go.Proofs.Ytalpippeelomjaa
