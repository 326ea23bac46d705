/- Contracts: are two rows of IDs, two nodes alike: the program's and the reference's. -/
import Derived.Test.YtogkeoainejfcaaACopy
namespace Go.Proofs.Ytogkeoainejfcaa
open Go.RowKit Go.Shelf
set_option linter.unusedSimpArgs false
set_option linter.unusedVariables false
set_option maxRecDepth 100000
attribute [local go_sem] Oper.semAt_some undef
def BoolR (w : World) (p : Prop) (e : Ending) (w' : World) : Prop := (∃ b : Bool, e = .returned (.bool b) ∧ (b = true ↔ p)) ∧ Below w.heap.size w w'
theorem ba_loop (s : ByteArray) : ∀ (m i : Nat) (r : List UInt8), i + m = s.size → ByteArray.toList.loop s i r = r.reverse ++ s.data.toList.drop i
  | 0, i, r, h => by
    rw [ByteArray.toList.loop, if_neg (by omega), List.drop_eq_nil_of_le (by rw [Array.length_toList]; show s.size ≤ i; omega), List.append_nil]
  | m + 1, i, r, h => by
    have hi : i < s.size := by omega
    rw [ByteArray.toList.loop, if_pos hi, ba_loop s m (i + 1) _ (by omega), List.reverse_cons, List.append_assoc]
    have h1 : i < s.data.toList.length := by rw [Array.length_toList]; exact hi
    rw [List.drop_eq_getElem_cons h1]
    congr 1
    show s.data[i]! :: _ = _
    rw [getElem!_pos s.data i hi]
    simp
theorem ba_toList (s : ByteArray) : s.toList = s.data.toList := by
  show ByteArray.toList.loop s 0 [] = _
  rw [ba_loop s s.size 0 [] (by omega)]
  rfl
theorem ba_inj {s t : ByteArray} (h : s.toList = t.toList) : s = t := by
  rw [ba_toList, ba_toList] at h
  rcases s with ⟨a⟩
  rcases t with ⟨b⟩
  congr 1
  exact Array.toList_inj.1 h
theorem list_end {l l' : List Nat} (hn : l.length = l'.length) (h : ∀ j < l.length, l[j]? = l'[j]?) : l = l' := by
  refine List.ext_getElem? fun j => ?_
  by_cases hj : j < l.length
  · exact h j hj
  · rw [List.getElem?_eq_none (by omega), List.getElem?_eq_none (by omega)]
set_option maxHeartbeats 2000000 in
theorem slEq_any (w : World) (n c n' c' : Nat) (A A' : Option Addr) (l l' : List Nat) (h : IdSl w w.heap.size (.slice A n c) l) (h' : IdSl w w.heap.size (.slice A' n' c') l') :
    Calls Try.prog 75 #[.slice A n c, .slice A' n' c'] w (BoolR w (l = l')) := by
  obtain ⟨hn, hc⟩ := h.len
  obtain ⟨hn', hc'⟩ := h'.len
  have hlong := h.long
  have HH := Lib.hid h
  have HH' := Lib.hid h'
  have HN := Lib.hid hn
  have HN' := Lib.hid hn'
  have hnb : n ≤ 1000000000 := by omega
  by_cases hne : n = n'
  · subst hne
    clear h h' hn hn' hlong
    go_enter Try.func75, Try.ntmps75
    go_wp2_with fail
    go_loopw [13] (fun i wr => ∃ k : Nat, k ≤ n ∧ i = .int .i64 (k : Int) ∧ (∀ j < k, l[j]? = l'[j]?) ∧ Below w.heap.size w wr) (fun i _ => n - (intOf i).toNat)
    case atStart => exact ⟨0, Nat.zero_le _, rfl, fun j hj => absurd hj (by omega), Below.refl _ _⟩
    case round =>
      obtain ⟨k, hk, rfl, hno, hb⟩ := hrel
      have HNO := Lib.hid hno
      have HB := Lib.hid hb
      clear hno hb
      by_cases hlt : k < n
      · have hltI : (k : Int) < (n : Int) := by omega
        obtain ⟨x, hx⟩ : ∃ x, l[k]? = some x := by rw [HN.out] at hlt; exact ⟨_, List.getElem?_eq_getElem hlt⟩
        obtain ⟨y, hy⟩ : ∃ x, l'[k]? = some x := by rw [HN'.out] at hlt; exact ⟨_, List.getElem?_eq_getElem hlt⟩
        obtain ⟨ad, hA, _, hcell⟩ := (HH.out.below HB.out).at_ hx
        obtain ⟨ad', hA', _, hcell'⟩ := (HH'.out.below HB.out).at_ hy
        have HX := Lib.hid hx
        have HY := Lib.hid hy
        clear hx hy
        subst hA
        subst hA'
        by_cases hxy : x = y
        · subst hxy
          go_wp2_with fail
          go_region
          all_goals
            go_wp2_with fail
            go_roundw
            case rel =>
              refine ⟨k + 1, by omega, rfl, fun j hj => ?_, ride_drew HB.out⟩
              by_cases e2 : j = k
              · rw [e2, HX.out, HY.out]
              · exact HNO.out j (by omega)
            case measure =>
              simp [intOf]
              omega
        · have hxI : ((x : Int) != (y : Int)) = true := by simp; omega
          have hxJ : ¬ (x : Int) = (y : Int) := by omega
          go_wp2_with fail
          go_region
          all_goals
            go_wp2_with fail
            go_ret
            refine ⟨⟨false, rfl, by simp; intro e; rw [e, HY.out] at HX; exact hxy (Option.some.inj HX.out.symm)⟩, ride_drew HB.out⟩
      · have hltI : ¬ (k : Int) < (n : Int) := by omega
        have hkn : k = n := by omega
        go_wp2_with fail
        go_ret
        refine ⟨⟨true, rfl, by simp; exact list_end (by rw [← HN.out, ← HN'.out]) (by rw [← HN.out, ← hkn]; exact HNO.out)⟩, HB.out⟩
  · have hnI : ((n : Int) != (n' : Int)) = true := by simp; omega
    have hnJ : ¬ (n : Int) = (n' : Int) := by omega
    clear h h' hn hn' hlong
    go_enter Try.func75, Try.ntmps75
    go_wp2_with fail
    go_ret
    exact ⟨⟨false, rfl, by simp; intro e; exact hne (by rw [HN.out, HN'.out, e])⟩, Below.refl _ _⟩
set_option maxHeartbeats 4000000 in
theorem equal_any (w : World) (n m : Nd) (c c' : Nat) (A A' : Option Addr) (hn : IdSl w w.heap.size (.slice A n.kids.length c) n.kids) (hm : IdSl w w.heap.size (.slice A' m.kids.length c') m.kids) :
    Calls Try.prog 54 #[ndV n (.slice A n.kids.length c), ndV m (.slice A' m.kids.length c')] w (BoolR w (n = m)) := by
  obtain ⟨k, s, u, t, r, ks⟩ := n
  obtain ⟨k', s', u', t', r', ks'⟩ := m
  unfold ndV
  dsimp only at hn hm ⊢
  by_cases h1 : k = k'
  case neg =>
    have z1 : ((k : Int) == (k' : Int)) = false := by rw [beq_eq_false_iff_ne]; omega
    have z2 : ¬ (k : Int) = (k' : Int) := by omega
    have z3 : ((k : Int) != (k' : Int)) = true := by simp; omega
    go_enter Try.func54, Try.ntmps54
    go_wp2_with fail
    go_ret
    exact ⟨⟨false, rfl, by simp [h1]⟩, ((Below.refl _ _).alloc (Nat.le_refl _) _).alloc (by simp) _⟩
  subst h1
  by_cases h2 : s = s'
  case neg =>
    have z1 : ¬ s.toList = s'.toList := fun e => h2 (ba_inj e)
    go_enter Try.func54, Try.ntmps54
    go_wp2_with fail
    go_ret
    exact ⟨⟨false, rfl, by simp [h2]⟩, ((Below.refl _ _).alloc (Nat.le_refl _) _).alloc (by simp) _⟩
  subst h2
  by_cases h3 : u = u'
  case neg =>
    have z1 : ((u : Int) == (u' : Int)) = false := by rw [beq_eq_false_iff_ne]; omega
    have z2 : ¬ (u : Int) = (u' : Int) := by omega
    have z3 : ((u : Int) != (u' : Int)) = true := by simp; omega
    go_enter Try.func54, Try.ntmps54
    go_wp2_with fail
    go_ret
    exact ⟨⟨false, rfl, by simp [h3]⟩, ((Below.refl _ _).alloc (Nat.le_refl _) _).alloc (by simp) _⟩
  subst h3
  by_cases h4 : t = t'
  case neg =>
    have z1 : ((t : Int) == (t' : Int)) = false := by rw [beq_eq_false_iff_ne]; omega
    have z2 : ¬ (t : Int) = (t' : Int) := by omega
    have z3 : ((t : Int) != (t' : Int)) = true := by simp; omega
    go_enter Try.func54, Try.ntmps54
    go_wp2_with fail
    go_ret
    exact ⟨⟨false, rfl, by simp [h4]⟩, ((Below.refl _ _).alloc (Nat.le_refl _) _).alloc (by simp) _⟩
  subst h4
  by_cases h5 : r = r'
  case neg =>
    have z1 : ((r : Int) == (r' : Int)) = false := by rw [beq_eq_false_iff_ne]; omega
    have z2 : ¬ (r : Int) = (r' : Int) := by omega
    have z3 : ((r : Int) != (r' : Int)) = true := by simp; omega
    go_enter Try.func54, Try.ntmps54
    go_wp2_with fail
    go_ret
    exact ⟨⟨false, rfl, by simp [h5]⟩, ((Below.refl _ _).alloc (Nat.le_refl _) _).alloc (by simp) _⟩
  subst h5
  have HEQ : Hid (∀ y, Below w.heap.size w y → Calls Try.prog 75 #[.slice A ks.length c, .slice A' ks'.length c'] y (BoolR y (ks = ks'))) := Lib.hid fun y hy => slEq_any y _ c _ c' A A' ks ks' ((hn.below hy).up hy.size) ((hm.below hy).up hy.size)
  clear hn hm
  go_enter Try.func54, Try.ntmps54
  go_wp2_with (go_at_call 75; go_loud (
    have hb1 : Below w.heap.size w ((w.alloc (.cells #[.int .u8 (k : Int), .string s, .int .i64 u, .int .u8 (t : Int), .int .u64 (r : Int), .slice A ks.length c] 33)).alloc (.cells #[.int .u8 (k : Int), .string s, .int .i64 u, .int .u8 (t : Int), .int .u64 (r : Int), .slice A' ks'.length c'] 33)) := ((Below.refl _ _).alloc (Nat.le_refl _) _).alloc (by simp) _;
    (with_reducible refine (HEQ.out _ hb1).mono ?_);
    rintro e w2 ⟨⟨b, rfl, hbi⟩, hb2⟩;
    have HB2 := Lib.hid (hb1.trans (hb2.mono hb1.size));
    have HBI := Lib.hid hbi;
    clear hbi hb1 hb2))
  go_ret
  exact ⟨⟨b, rfl, by rw [HBI.out]; simp⟩, HB2.out⟩
set_option maxHeartbeats 4000000 in
theorem rsame_any (w : World) (n m : Nd) (c c' : Nat) (A A' : Option Addr) (hn : IdSl w w.heap.size (.slice A n.kids.length c) n.kids) (hm : IdSl w w.heap.size (.slice A' m.kids.length c') m.kids) :
    Calls Try.prog 34 #[ndV n (.slice A n.kids.length c), ndV m (.slice A' m.kids.length c')] w (BoolR w (n = m)) := by
  obtain ⟨k, s, u, t, r, ks⟩ := n
  obtain ⟨k', s', u', t', r', ks'⟩ := m
  unfold ndV
  dsimp only at hn hm ⊢
  by_cases h1 : k = k'
  case neg =>
    have z1 : ((k : Int) == (k' : Int)) = false := by rw [beq_eq_false_iff_ne]; omega
    have z2 : ¬ (k : Int) = (k' : Int) := by omega
    have z3 : ((k : Int) != (k' : Int)) = true := by simp; omega
    go_enter Try.func34, Try.ntmps34
    go_wp2_with fail
    go_ret
    exact ⟨⟨false, rfl, by simp [h1]⟩, ((Below.refl _ _).alloc (Nat.le_refl _) _).alloc (by simp) _⟩
  subst h1
  by_cases h2 : s = s'
  case neg =>
    have z1 : ¬ s.toList = s'.toList := fun e => h2 (ba_inj e)
    go_enter Try.func34, Try.ntmps34
    go_wp2_with fail
    go_ret
    exact ⟨⟨false, rfl, by simp [h2]⟩, ((Below.refl _ _).alloc (Nat.le_refl _) _).alloc (by simp) _⟩
  subst h2
  by_cases h3 : u = u'
  case neg =>
    have z1 : ((u : Int) == (u' : Int)) = false := by rw [beq_eq_false_iff_ne]; omega
    have z2 : ¬ (u : Int) = (u' : Int) := by omega
    have z3 : ((u : Int) != (u' : Int)) = true := by simp; omega
    go_enter Try.func34, Try.ntmps34
    go_wp2_with fail
    go_ret
    exact ⟨⟨false, rfl, by simp [h3]⟩, ((Below.refl _ _).alloc (Nat.le_refl _) _).alloc (by simp) _⟩
  subst h3
  by_cases h4 : t = t'
  case neg =>
    have z1 : ((t : Int) == (t' : Int)) = false := by rw [beq_eq_false_iff_ne]; omega
    have z2 : ¬ (t : Int) = (t' : Int) := by omega
    have z3 : ((t : Int) != (t' : Int)) = true := by simp; omega
    go_enter Try.func34, Try.ntmps34
    go_wp2_with fail
    go_ret
    exact ⟨⟨false, rfl, by simp [h4]⟩, ((Below.refl _ _).alloc (Nat.le_refl _) _).alloc (by simp) _⟩
  subst h4
  by_cases h5 : r = r'
  case neg =>
    have z1 : ((r : Int) == (r' : Int)) = false := by rw [beq_eq_false_iff_ne]; omega
    have z2 : ¬ (r : Int) = (r' : Int) := by omega
    have z3 : ((r : Int) != (r' : Int)) = true := by simp; omega
    go_enter Try.func34, Try.ntmps34
    go_wp2_with fail
    go_ret
    exact ⟨⟨false, rfl, by simp [h5]⟩, ((Below.refl _ _).alloc (Nat.le_refl _) _).alloc (by simp) _⟩
  subst h5
  obtain ⟨N, hN⟩ : ∃ N, N = ks.length := ⟨_, rfl⟩
  obtain ⟨N', hN'⟩ : ∃ N', N' = ks'.length := ⟨_, rfl⟩
  rw [← hN] at hn
  rw [← hN'] at hm
  rw [← hN, ← hN']
  have HN := Lib.hid hN
  have HN' := Lib.hid hN'
  have hNb : N ≤ 1000000000 := by rw [hN]; exact hn.long
  by_cases hne : N = N'
  case neg =>
    have z1 : ((N : Int) == (N' : Int)) = false := by rw [beq_eq_false_iff_ne]; omega
    have z2 : ¬ (N : Int) = (N' : Int) := by omega
    have z3 : ((N : Int) != (N' : Int)) = true := by simp; omega
    clear hn hm hN hN'
    go_enter Try.func34, Try.ntmps34
    go_wp2_with fail
    go_ret
    exact ⟨⟨false, rfl, by simp; intro e; exact hne (by rw [HN.out, HN'.out, e])⟩, ((Below.refl _ _).alloc (Nat.le_refl _) _).alloc (by simp) _⟩
  subst hne
  obtain ⟨W1, hW1⟩ : ∃ W1, W1 = (w.alloc (.cells #[.int .u8 (k : Int), .string s, .int .i64 u, .int .u8 (t : Int), .int .u64 (r : Int), .slice A N c] 33)).alloc (.cells #[.int .u8 (k : Int), .string s, .int .i64 u, .int .u8 (t : Int), .int .u64 (r : Int), .slice A' N c'] 33) := ⟨_, rfl⟩
  have hb1 : Below w.heap.size w W1 := by rw [hW1]; exact ((Below.refl _ _).alloc (Nat.le_refl _) _).alloc (by simp) _
  have hx1 : W1.heap[w.heap.size]? = some (.cells #[.int .u8 (k : Int), .string s, .int .i64 u, .int .u8 (t : Int), .int .u64 (r : Int), .slice A N c] 33 (0, 0)) := by rw [hW1, heap_alloc_lt _ _ (by simp)]; exact Go.heap_alloc_new _ _
  have hx2 : W1.heap[w.heap.size + 1]? = some (.cells #[.int .u8 (k : Int), .string s, .int .i64 u, .int .u8 (t : Int), .int .u64 (r : Int), .slice A' N c'] 33 (0, 0)) := by rw [hW1]; exact alloc2 _ _ _ _ _
  have HH := Lib.hid ((hn.below hb1).up hb1.size)
  have HH' := Lib.hid ((hm.below hb1).up hb1.size)
  have HB1 := Lib.hid hb1
  have HX1 := Lib.hid hx1
  have HX2 := Lib.hid hx2
  have HW1 := Lib.hid hW1
  clear hn hm hN hN' hb1 hx1 hx2 hW1
  go_enter Try.func34, Try.ntmps34
  go_wp2_with fail
  rw [← HW1.out]
  go_loopw [51] (fun i wr => ∃ p : Nat, p ≤ N ∧ i = .int .i64 (p : Int) ∧ (∀ j < p, ks[j]? = ks'[j]?) ∧ Below W1.heap.size W1 wr) (fun i _ => N - (intOf i).toNat)
  case atStart => exact ⟨0, Nat.zero_le _, rfl, fun j hj => absurd hj (by omega), Below.refl _ _⟩
  case round =>
    obtain ⟨p, hp, rfl, hno, hb⟩ := hrel
    have HNO := Lib.hid hno
    have HB := Lib.hid hb
    obtain ⟨_, _, _, _, _, b5, _⟩ := box_cells (n := ⟨k, s, u, t, r, ks⟩) ((hb.block _ (lt_of_heap2 HX1.out)).trans HX1.out)
    obtain ⟨_, _, _, _, _, d5, _⟩ := box_cells (n := ⟨k, s, u, t, r, ks'⟩) ((hb.block _ (lt_of_heap2 HX2.out)).trans HX2.out)
    clear hno hb
    by_cases hlt : p < N
    · have hltI : (p : Int) < (N : Int) := by omega
      obtain ⟨x, hx⟩ : ∃ x, ks[p]? = some x := by rw [HN.out] at hlt; exact ⟨_, List.getElem?_eq_getElem hlt⟩
      obtain ⟨y, hy⟩ : ∃ x, ks'[p]? = some x := by rw [HN'.out] at hlt; exact ⟨_, List.getElem?_eq_getElem hlt⟩
      obtain ⟨ad, hA, _, hcell⟩ := (HH.out.below HB.out).at_ hx
      obtain ⟨ad', hA', _, hcell'⟩ := (HH'.out.below HB.out).at_ hy
      have HX := Lib.hid hx
      have HY := Lib.hid hy
      clear hx hy
      subst hA
      subst hA'
      by_cases hxy : x = y
      · subst hxy
        go_wp2_with fail
        go_region
        all_goals
          go_wp2_with fail
          go_roundw
          case rel =>
            refine ⟨p + 1, by omega, rfl, fun j hj => ?_, ride_drew HB.out⟩
            by_cases e2 : j = p
            · rw [e2, HX.out, HY.out]
            · exact HNO.out j (by omega)
          case measure =>
            simp [intOf]
            omega
      · have hxI : ((x : Int) != (y : Int)) = true := by simp; omega
        have hxJ : ¬ (x : Int) = (y : Int) := by omega
        go_wp2_with fail
        go_region
        all_goals
          go_wp2_with fail
          go_ret
          refine ⟨⟨false, rfl, by simp; intro e; rw [e, HY.out] at HX; exact hxy (Option.some.inj HX.out.symm)⟩, HB1.out.trans ((ride_drew HB.out).mono HB1.out.size)⟩
    · have hltI : ¬ (p : Int) < (N : Int) := by omega
      have hkn : p = N := by omega
      go_wp2_with fail
      go_ret
      refine ⟨⟨true, rfl, by simp; exact list_end (by rw [← HN.out, ← HN'.out]) (by rw [← HN.out, ← hkn]; exact HNO.out)⟩, HB1.out.trans (HB.out.mono HB1.out.size)⟩
end Go.Proofs.Ytogkeoainejfcaa
