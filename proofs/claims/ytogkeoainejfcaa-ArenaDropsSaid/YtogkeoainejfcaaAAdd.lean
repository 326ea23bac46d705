/- Contract: a node becomes once more, or once less, the parent of a child. -/
import Derived.Test.YtogkeoainejfcaaAPar
namespace Go.Proofs.Ytogkeoainejfcaa
open Go.RowKit
set_option linter.unusedSimpArgs false
set_option linter.unusedVariables false
set_option maxRecDepth 100000
def AddR (w : World) (base gp kid : Nat) (F : PF) (l' : List (Nat × Nat)) (e : Ending) (w' : World) : Prop :=
  e = .returned (.tuple #[]) ∧ ∃ F' : PF, ParW w' base gp F' ∧ (∀ k, rowP F' k = if k = kid then l' else rowP F k) ∧ F'.length ≤ F.length + 1 ∧ Touch w w' (fun j => j = gp ∨ OwnsF F j) ∧ (∀ j, OwnsF F' j → OwnsF F j ∨ w.heap.size ≤ j)
theorem zeroRow (w : World) : (zeroValue 127).run Try.prog w = .ok (.slice none 0 0) w := by kernel_rfl
theorem valP_look (F : PF) (k : Nat) : (getL (mapL Prod.fst F) k).getD (.slice none 0 0) = valP F k := by
  rw [getL_map]
  rfl
theorem rowP_put {F : PF} (hF : Rise F) (kid : Nat) (v : Value) (l : List (Nat × Nat)) (k : Nat) : rowP (putL' F kid (v, l)) k = if k = kid then l else rowP F k := by
  unfold rowP
  rw [getL_put hF]
  by_cases h : k = kid
  · rw [if_pos h, if_pos h]; rfl
  · rw [if_neg h, if_neg h]
theorem rowP_del {F : PF} (kid : Nat) (k : Nat) : rowP (delL F kid) k = if k = kid then [] else rowP F k := by
  unfold rowP
  rw [getL_del]
  by_cases h : k = kid
  · rw [if_pos h, if_pos h]; rfl
  · rw [if_neg h, if_neg h]
theorem own_put {F : PF} (hF : Rise F) {kid : Nat} {v : Value} {l : List (Nat × Nat)} {n : Nat} (hv : ∀ j, v.ownBlock = some j → OwnsF F j ∨ n ≤ j) (j : Nat) (h : OwnsF (putL' F kid (v, l)) j) : OwnsF F j ∨ n ≤ j := by
  obtain ⟨k, x, hx, hg⟩ := h
  rw [getL_put hF] at hx
  by_cases e : k = kid
  · rw [if_pos e] at hx
    injection hx with hx
    subst hx
    exact hv j hg
  · rw [if_neg e] at hx
    exact .inl ⟨k, x, hx, hg⟩
theorem own_del {F : PF} {kid j : Nat} (h : OwnsF (delL F kid) j) : OwnsF F j := by
  obtain ⟨k, x, hx, hg⟩ := h
  rw [getL_del] at hx
  by_cases e : k = kid
  · rw [if_pos e] at hx; cases hx
  · rw [if_neg e] at hx
    exact ⟨k, x, hx, hg⟩
theorem POwn.some_ {w : World} {base : Nat} {v : Value} {l : List (Nat × Nat)} (h : POwn w base v l) (hl : l ≠ []) : ∃ g c, v = .slice (some ⟨g, 0, none⟩) l.length c ∧ base ≤ g ∧ g < w.heap.size := by
  rcases h.2 with ⟨_, h0⟩ | ⟨g, cap, cur, rfl, h1, h2, _⟩
  · exact absurd (List.eq_nil_of_length_eq_zero h0) hl
  · exact ⟨g, cap, rfl, h1, lt_of_heap2 h2⟩
theorem POwn.cell_ {w : World} {base g n c : Nat} {l : List (Nat × Nat)} (h : POwn w base (.slice (some ⟨g, 0, none⟩) n c) l) {i : Nat} {p : Nat × Nat} (hp : l[i]? = some p) : w.cell? ⟨g, i * 2 + 1, none⟩ = some (.int .i64 (p.2 : Int)) ∧ w.frozen? ⟨g, i * 2 + 1, none⟩ = false := by
  obtain ⟨ad, e, _, _, h2⟩ := h.lies i p hp
  injection e with e
  subst e
  refine ⟨?_, ?_⟩
  · rw [← h2]
    congr 1
    unfold Addr.add
    split <;> simp_all
  · rcases h.2 with ⟨h0, _⟩ | ⟨g', cap, cur, e, _, h3, _⟩
    · cases h0
    · injection e with e1 _ _
      injection e1 with e1
      injection e1 with e1 _ _
      subst e1
      exact frozen_of_row w g _ _ _ h3
theorem put_at {m : List (Nat × Nat)} (hr : Rise m) {k : Nat} (h : hasL m k = false) (v u : Nat) : (putL' m k v)[posL m k]? = some (k, v) ∧ (putL' m k v).set (posL m k) (k, u) = putL' m k u ∧ (putL' m k v).length = m.length + 1 := by
  have hl : (m.take (posL m k)).length = posL m k := by have := posL_le m k; rw [List.length_take]; omega
  rw [put_new hr k v h, put_new hr k u h]
  refine ⟨?_, ?_, ?_⟩
  · rw [List.getElem?_append_right (by omega), hl, Nat.sub_self]; rfl
  · rw [List.set_append_right _ _ (by omega), hl, Nat.sub_self]; rfl
  · have := posL_le m k
    rw [List.length_append, List.length_cons, List.length_take, List.length_drop]
    omega
set_option maxHeartbeats 8000000 in
theorem add_new (w : World) (base gp : Nat) (F : PF) (kid id : Nat) (hP : ParW w base gp F) (hk : kid < 18446744073709551616) (hid : id < 18446744073709551616) (hno : hasL (rowP F kid) id = false) (hl : (rowP F kid).length ≤ 999999999) (hFl : F.length ≤ 1000000000) (hbase : base ≤ w.heap.size) :
    Calls Try.prog 79 #[.map (some gp), .int .u64 (kid : Int), .int .u64 (id : Int), .int .i64 1] w (AddR w base gp kid F (putL' (rowP F kid) id 1)) := by
  obtain ⟨l, hL⟩ : ∃ l, l = rowP F kid := ⟨_, rfl⟩
  obtain ⟨ho, hr⟩ := hP.row kid
  rw [← hL] at ho hr hno hl ⊢
  obtain ⟨A, c, hv⟩ := ho.form
  obtain ⟨n, hn⟩ : ∃ n, n = l.length := ⟨_, rfl⟩
  rw [← hn] at hv hl
  rw [hv] at ho
  have hlook : (getL (mapL Prod.fst F) kid).getD (.slice none 0 0) = .slice A n c := by rw [valP_look, hv]
  obtain ⟨pos, hpos⟩ : ∃ p, p = posL l id := ⟨_, rfl⟩
  have hple : pos ≤ n := by rw [hpos, hn]; exact posL_le l id
  have HFI : Hid (Calls Try.prog 84 #[.slice A n c, .int .u64 (id : Int), .func (.func 85) #[] #[]] w fun e w' => e = .returned (.tuple #[.int .i64 (pos : Int), .bool false]) ∧ Below w.heap.size w w') := Lib.hid (by
    have h := find_any w A n c l id (POwn.lies ho) hn.symm hr (by omega)
    rw [hno, ← hpos] at h
    exact h)
  obtain ⟨hat0, hset, hlen0⟩ := put_at hr hno 0 1
  obtain ⟨l0, hl0⟩ : ∃ l0, l0 = putL' l id 0 := ⟨_, rfl⟩
  rw [← hl0, ← hpos] at hat0 hset
  rw [← hl0, ← hn] at hlen0
  have HIN : Hid (∀ w1, Below w.heap.size w w1 → Calls Try.prog 87 #[.slice A n c, .int .i64 (pos : Int), .slice (some ⟨w1.heap.size, 0, none⟩) 1 1] (w1.alloc (.cells #[.int .u64 (id : Int), .int .i64 0] 129)) fun e w' => ∃ g2 c2, e = .returned (.slice (some ⟨g2, 0, none⟩) (n + 1) c2) ∧ POwn w' base (.slice (some ⟨g2, 0, none⟩) (n + 1) c2) l0 ∧ (w1.alloc (.cells #[.int .u64 (id : Int), .int .i64 0] 129)).grownBy w' (Value.slice A n c).ownBlock ∧ ((Value.slice A n c).ownBlock = some g2 ∨ w.heap.size ≤ g2)) := Lib.hid (fun w1 hb1 => by
    have hbY : Below w.heap.size w (w1.alloc (.cells #[.int .u64 (id : Int), .int .i64 0] 129)) := hb1.trans (((Below.refl _ _).alloc (Nat.le_refl _) _).mono hb1.size)
    have h := insert_any (w1.alloc (.cells #[.int .u64 (id : Int), .int .i64 0] 129)) base (.slice A n c) l pos id w1.heap.size (ho.at_ fun g hg => hbY.block g (ho.block hg).2) (by omega) (Go.heap_alloc_new _ _) (fun e => by have := (ho.block e).2; have := hb1.size; omega) (by have := hbY.size; omega) (by omega)
    rw [hpos, ← put_new hr id 0 hno, ← hl0, ← hpos] at h
    refine h.mono ?_
    rintro e w' ⟨v2, e1, e2, e3, e4⟩
    obtain ⟨g2, c2, rfl, _, _⟩ := e2.some_ (fun e => by rw [e] at hlen0; simp at hlen0)
    rw [hlen0] at e1 e2 e4
    refine ⟨g2, c2, e1, e2, e3, ?_⟩
    rcases e4 with e4 | ⟨g, e4, e5⟩
    · exact .inl e4.symm
    · have e6 : g2 = g := Option.some.inj e4
      exact .inr (by rw [e6]; have := hbY.size; omega))
  have hFm : (mapL Prod.fst F).length < maxLen := by unfold mapL maxLen; rw [List.length_map]; omega
  have HV := Lib.hid hv
  have HL0 := Lib.hid hlen0
  have HAT := Lib.hid hat0
  have HSET := Lib.hid hset
  have HP := Lib.hid hP
  have HO := Lib.hid ho
  have HN := Lib.hid hn
  have HPO := Lib.hid hpos
  have HR := Lib.hid hr
  have HNO := Lib.hid hno
  have HLK := Lib.hid hlook
  clear hP ho hn hpos hr hno hlook hv hL hat0 hset hl0 hlen0
  go_enter Try.func79, Try.ntmps79
  go_wp2_with (first
    | (at_lookup; go_loud (
        refine wpList_look w rfl _ _ 72 127 rfl Try.underlying72 (.slice none 0 0) (zeroRow w) gp (mapL Prod.fst F) rfl HP.out.map kid hk rfl ?_;
        rw [HLK.out]))
    | (go_at_call 84; (with_reducible refine (HFI.out).mono ?_); rintro e w1 ⟨rfl, hb1⟩; go_loud (
        have HB1 := Lib.hid hb1;
        clear hb1))
    | (go_at_call 87; (with_reducible refine (HIN.out _ HB1.out).mono ?_); rintro e w2 ⟨g2, c2, rfl, hO2, hG2, hL2⟩; go_loud (
        obtain ⟨q1, q2⟩ := hO2.cell_ HAT.out;
        dsimp only at q1;
        have HO2 := Lib.hid hO2;
        have HG2 := Lib.hid hG2;
        have HL2 := Lib.hid hL2;
        have hown : ∀ j, (Value.slice A n c).ownBlock = some j → OwnsF F j := fun j hj => valP_own (by rw [HV.out]; exact hj);
        have hg2 : g2 ≠ gp ∧ ((Value.slice A n c).ownBlock = some g2 ∨ w.heap.size ≤ g2) := ⟨fun e => by
          rcases hL2 with h | h
          · exact (hown g2 h).ne HP.out e
          · have := HP.out.map.lt; omega, hL2⟩;
        have hT3 : Touch w (w2.setCell ⟨g2, pos * 2 + 1, none⟩ (.int .i64 1)) (fun j => j = gp ∨ (Value.slice A n c).ownBlock = some j) := (((Touch.of_below (HB1.out.trans (((Below.refl _ _).alloc (Nat.le_refl _) (.cells #[.int .u64 (id : Int), .int .i64 0] 129)).mono HB1.out.size)) _).trans (Touch.of_grown (S := fun j => (Value.slice A n c).ownBlock = some j) hG2 (fun j hj => hj)) (fun j hj => .inl (.inr hj))).setCell _ _ (hg2.2.imp .inr (fun h => h)));
        have hM3 := HP.out.map.at_ (w' := w2.setCell ⟨g2, pos * 2 + 1, none⟩ (.int .i64 1)) (((heap_setCell_other _ ⟨g2, pos * 2 + 1, none⟩ gp _ (fun e => hg2.1 e.symm)).trans (hG2.block gp (by have := HB1.out.size; have := HP.out.map.lt; simp; omega) (fun e => (hown gp e.symm).ne HP.out rfl))).trans ((heap_alloc_lt _ _ (by have := HB1.out.size; have := HP.out.map.lt; omega)).trans (HB1.out.block gp HP.out.map.lt)));
        have HM3 := Lib.hid hM3;
        have HT3 := Lib.hid hT3;
        have HOW := Lib.hid hown;
        have HGG := Lib.hid hg2;
        clear hO2 hG2 hL2 hown hg2 hT3 hM3))
    | (at_mapUpdate; go_loud (
        refine wpList_store _ rfl (.tmp 53) (.tmp 54) (.tmp 55) 72 127 rfl Try.underlying72 gp (mapL Prod.fst F) rfl HM3.out hFm kid hk rfl (.slice (some ⟨g2, 0, none⟩) (n + 1) c2) rfl ?_;
        intro w4 hM4 hT4;
        have HM4 := Lib.hid hM4;
        have HT4 := Lib.hid hT4;
        clear hM4 hT4)))
  have hT := HT3.out.trans (Touch.turned (S := fun j => j = gp) HT4.out rfl) (fun j hj => .inl (.inl hj))
  have hO3 := HO2.out.set 1 HAT.out
  rw [HSET.out] at hO3
  have hO4 : POwn w4 base (.slice (some ⟨g2, 0, none⟩) (n + 1) c2) (putL' l id 1) := hO3.at_ fun g hg => HT4.out.grown.block g (hO3.block hg).2 (fun e => HGG.out.1 (by injection e with e; rw [← e]; exact Option.some.inj hg))
  have hPut := HP.out.put (k := kid) HM4.out hO4 (by
    intro e
    have h1 := congrArg List.length e
    rw [← HSET.out, List.length_set, HL0.out] at h1
    simp at h1) (HR.out.put id 1) (fun j hj hne => hT.block j (hj.lt HP.out).2 (fun e => by
      rcases e with e | e
      · exact hj.ne HP.out e
      · exact hne (by rw [HV.out]; exact e))) (fun j hj => by
      have e : g2 = j := Option.some.inj hj
      rw [HV.out, ← e]
      exact HGG.out.2.imp (fun h => h) fun h1 h2 => by have := (h2.lt HP.out).2; omega)
  have hFr := HP.out.rise
  go_end0
  refine ⟨rfl, _, hPut, fun k => rowP_put hFr kid _ _ k, ?_, hT.more fun j e => e.imp (fun h => h) fun h => HOW.out j h, fun j hj => own_put hFr (fun j hj => ?_) j hj⟩
  · rw [putL_length _ _ hFr]
    split <;> omega
  · have e : g2 = j := Option.some.inj hj
    rw [← e]
    exact HGG.out.2.imp (fun h => HOW.out _ h) (fun h => h)
end Go.Proofs.Ytogkeoainejfcaa
