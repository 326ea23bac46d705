/- AEq, ASame: joined by program (tools/merge.py). -/
import Derived.Test.YtdphpjlhkamadaaZ20
namespace Go.Proofs.Ytdphpjlhkamadaa
open Go.RowKit Go.Shelf
set_option linter.unusedSimpArgs false
set_option linter.unusedVariables false
set_option maxRecDepth 100000
attribute [local go_sem] Oper.semAt_some undef
def BoolR (w : World) (p : Prop) (e : Ending) (w' : World) : Prop := (∃ b : Bool, e = .returned (.bool b) ∧ (b = true ↔ p)) ∧ Below w.heap.size w w'
theorem ba_loop (s : ByteArray) : ∀ (m i : Nat) (r : List UInt8), i + m = s.size → ByteArray.toList.loop s i r = r.reverse ++ s.data.toList.drop i
  | 0, i, r, h => by
    rw [ByteArray.toList.loop, if_neg (by omega), List.drop_eq_nil_of_le (by rw [Array.length_toList]; show s.size ≤ i; omega), List.append_nil]
  | m + 1, i, r, h => by
    have hi : i < s.size := by omega
    rw [ByteArray.toList.loop, if_pos hi, ba_loop s m (i + 1) _ (by omega), List.reverse_cons, List.append_assoc]
    have h1 : i < s.data.toList.length := by rw [Array.length_toList]; exact hi
    rw [List.drop_eq_getElem_cons h1]
    congr 1
    show s.data[i]! :: _ = _
    rw [getElem!_pos s.data i hi]
    simp
theorem ba_toList (s : ByteArray) : s.toList = s.data.toList := by
  show ByteArray.toList.loop s 0 [] = _
  rw [ba_loop s s.size 0 [] (by omega)]
  rfl
theorem ba_inj {s t : ByteArray} (h : s.toList = t.toList) : s = t := by
  rw [ba_toList, ba_toList] at h
  rcases s with ⟨a⟩
  rcases t with ⟨b⟩
  congr 1
  exact Array.toList_inj.1 h
theorem list_end {l l' : List Nat} (hn : l.length = l'.length) (h : ∀ j < l.length, l[j]? = l'[j]?) : l = l' := by
  refine List.ext_getElem? fun j => ?_
  by_cases hj : j < l.length
  · exact h j hj
  · rw [List.getElem?_eq_none (by omega), List.getElem?_eq_none (by omega)]
set_option maxHeartbeats 2000000 in
theorem slEq_any (w : World) (n c n' c' : Nat) (A A' : Option Addr) (l l' : List Nat) (h : IdSl w w.heap.size (.slice A n c) l) (h' : IdSl w w.heap.size (.slice A' n' c') l') :
    Calls Try.prog 75 #[.slice A n c, .slice A' n' c'] w (BoolR w (l = l')) := by
  obtain ⟨hn, hc⟩ := h.len
  obtain ⟨hn', hc'⟩ := h'.len
  have hlong := h.long
  have HH := Lib.hid h
  have HH' := Lib.hid h'
  have HN := Lib.hid hn
  have HN' := Lib.hid hn'
  have hnb : n ≤ 1000000000 := by omega
  by_cases hne : n = n'
  · subst hne
    clear h h' hn hn' hlong
    go_enter Try.func75, Try.ntmps75
    go_wp2_with fail
    go_loopw [13] (fun i wr => ∃ k : Nat, k ≤ n ∧ i = .int .i64 (k : Int) ∧ (∀ j < k, l[j]? = l'[j]?) ∧ Below w.heap.size w wr) (fun i _ => n - (intOf i).toNat)
    case atStart => exact ⟨0, Nat.zero_le _, rfl, fun j hj => absurd hj (by omega), Below.refl _ _⟩
    case round =>
      obtain ⟨k, hk, rfl, hno, hb⟩ := hrel
      have HNO := Lib.hid hno
      have HB := Lib.hid hb
      clear hno hb
      by_cases hlt : k < n
      · have hltI : (k : Int) < (n : Int) := by omega
        obtain ⟨x, hx⟩ : ∃ x, l[k]? = some x := by rw [HN.out] at hlt; exact ⟨_, List.getElem?_eq_getElem hlt⟩
        obtain ⟨y, hy⟩ : ∃ x, l'[k]? = some x := by rw [HN'.out] at hlt; exact ⟨_, List.getElem?_eq_getElem hlt⟩
        obtain ⟨ad, hA, _, hcell⟩ := (HH.out.below HB.out).at_ hx
        obtain ⟨ad', hA', _, hcell'⟩ := (HH'.out.below HB.out).at_ hy
        have HX := Lib.hid hx
        have HY := Lib.hid hy
        clear hx hy
        subst hA
        subst hA'
        by_cases hxy : x = y
        · subst hxy
          go_wp2_with fail
          go_region
          all_goals
            go_wp2_with fail
            go_roundw
            case rel =>
              refine ⟨k + 1, by omega, rfl, fun j hj => ?_, ride_drew HB.out⟩
              by_cases e2 : j = k
              · rw [e2, HX.out, HY.out]
              · exact HNO.out j (by omega)
            case measure =>
              simp [intOf]
              omega
        · have hxI : ((x : Int) != (y : Int)) = true := by simp; omega
          have hxJ : ¬ (x : Int) = (y : Int) := by omega
          go_wp2_with fail
          go_region
          all_goals
            go_wp2_with fail
            go_ret
            refine ⟨⟨false, rfl, by simp; intro e; rw [e, HY.out] at HX; exact hxy (Option.some.inj HX.out.symm)⟩, ride_drew HB.out⟩
      · have hltI : ¬ (k : Int) < (n : Int) := by omega
        have hkn : k = n := by omega
        go_wp2_with fail
        go_ret
        refine ⟨⟨true, rfl, by simp; exact list_end (by rw [← HN.out, ← HN'.out]) (by rw [← HN.out, ← hkn]; exact HNO.out)⟩, HB.out⟩
  · have hnI : ((n : Int) != (n' : Int)) = true := by simp; omega
    have hnJ : ¬ (n : Int) = (n' : Int) := by omega
    clear h h' hn hn' hlong
    go_enter Try.func75, Try.ntmps75
    go_wp2_with fail
    go_ret
    exact ⟨⟨false, rfl, by simp; intro e; exact hne (by rw [HN.out, HN'.out, e])⟩, Below.refl _ _⟩
set_option maxHeartbeats 4000000 in
theorem equal_any (w : World) (n m : Nd) (c c' : Nat) (A A' : Option Addr) (hn : IdSl w w.heap.size (.slice A n.kids.length c) n.kids) (hm : IdSl w w.heap.size (.slice A' m.kids.length c') m.kids) :
    Calls Try.prog 54 #[ndV n (.slice A n.kids.length c), ndV m (.slice A' m.kids.length c')] w (BoolR w (n = m)) := by
  obtain ⟨k, s, u, t, r, ks⟩ := n
  obtain ⟨k', s', u', t', r', ks'⟩ := m
  unfold ndV
  dsimp only at hn hm ⊢
  by_cases h1 : k = k'
  case neg =>
    have z1 : ((k : Int) == (k' : Int)) = false := by rw [beq_eq_false_iff_ne]; omega
    have z2 : ¬ (k : Int) = (k' : Int) := by omega
    have z3 : ((k : Int) != (k' : Int)) = true := by simp; omega
    go_enter Try.func54, Try.ntmps54
    go_wp2_with fail
    go_ret
    exact ⟨⟨false, rfl, by simp [h1]⟩, ((Below.refl _ _).alloc (Nat.le_refl _) _).alloc (by simp) _⟩
  subst h1
  by_cases h2 : s = s'
  case neg =>
    have z1 : ¬ s.toList = s'.toList := fun e => h2 (ba_inj e)
    go_enter Try.func54, Try.ntmps54
    go_wp2_with fail
    go_ret
    exact ⟨⟨false, rfl, by simp [h2]⟩, ((Below.refl _ _).alloc (Nat.le_refl _) _).alloc (by simp) _⟩
  subst h2
  by_cases h3 : u = u'
  case neg =>
    have z1 : ((u : Int) == (u' : Int)) = false := by rw [beq_eq_false_iff_ne]; omega
    have z2 : ¬ (u : Int) = (u' : Int) := by omega
    have z3 : ((u : Int) != (u' : Int)) = true := by simp; omega
    go_enter Try.func54, Try.ntmps54
    go_wp2_with fail
    go_ret
    exact ⟨⟨false, rfl, by simp [h3]⟩, ((Below.refl _ _).alloc (Nat.le_refl _) _).alloc (by simp) _⟩
  subst h3
  by_cases h4 : t = t'
  case neg =>
    have z1 : ((t : Int) == (t' : Int)) = false := by rw [beq_eq_false_iff_ne]; omega
    have z2 : ¬ (t : Int) = (t' : Int) := by omega
    have z3 : ((t : Int) != (t' : Int)) = true := by simp; omega
    go_enter Try.func54, Try.ntmps54
    go_wp2_with fail
    go_ret
    exact ⟨⟨false, rfl, by simp [h4]⟩, ((Below.refl _ _).alloc (Nat.le_refl _) _).alloc (by simp) _⟩
  subst h4
  by_cases h5 : r = r'
  case neg =>
    have z1 : ((r : Int) == (r' : Int)) = false := by rw [beq_eq_false_iff_ne]; omega
    have z2 : ¬ (r : Int) = (r' : Int) := by omega
    have z3 : ((r : Int) != (r' : Int)) = true := by simp; omega
    go_enter Try.func54, Try.ntmps54
    go_wp2_with fail
    go_ret
    exact ⟨⟨false, rfl, by simp [h5]⟩, ((Below.refl _ _).alloc (Nat.le_refl _) _).alloc (by simp) _⟩
  subst h5
  have HEQ : Hid (∀ y, Below w.heap.size w y → Calls Try.prog 75 #[.slice A ks.length c, .slice A' ks'.length c'] y (BoolR y (ks = ks'))) := Lib.hid fun y hy => slEq_any y _ c _ c' A A' ks ks' ((hn.below hy).up hy.size) ((hm.below hy).up hy.size)
  clear hn hm
  go_enter Try.func54, Try.ntmps54
  go_wp2_with (go_at_call 75; go_loud (
    have hb1 : Below w.heap.size w ((w.alloc (.cells #[.int .u8 (k : Int), .string s, .int .i64 u, .int .u8 (t : Int), .int .u64 (r : Int), .slice A ks.length c] 33)).alloc (.cells #[.int .u8 (k : Int), .string s, .int .i64 u, .int .u8 (t : Int), .int .u64 (r : Int), .slice A' ks'.length c'] 33)) := ((Below.refl _ _).alloc (Nat.le_refl _) _).alloc (by simp) _;
    (with_reducible refine (HEQ.out _ hb1).mono ?_);
    rintro e w2 ⟨⟨b, rfl, hbi⟩, hb2⟩;
    have HB2 := Lib.hid (hb1.trans (hb2.mono hb1.size));
    have HBI := Lib.hid hbi;
    clear hbi hb1 hb2))
  go_ret
  exact ⟨⟨b, rfl, by rw [HBI.out]; simp⟩, HB2.out⟩
set_option maxHeartbeats 4000000 in
theorem rsame_any (w : World) (n m : Nd) (c c' : Nat) (A A' : Option Addr) (hn : IdSl w w.heap.size (.slice A n.kids.length c) n.kids) (hm : IdSl w w.heap.size (.slice A' m.kids.length c') m.kids) :
    Calls Try.prog 34 #[ndV n (.slice A n.kids.length c), ndV m (.slice A' m.kids.length c')] w (BoolR w (n = m)) := by
  obtain ⟨k, s, u, t, r, ks⟩ := n
  obtain ⟨k', s', u', t', r', ks'⟩ := m
  unfold ndV
  dsimp only at hn hm ⊢
  by_cases h1 : k = k'
  case neg =>
    have z1 : ((k : Int) == (k' : Int)) = false := by rw [beq_eq_false_iff_ne]; omega
    have z2 : ¬ (k : Int) = (k' : Int) := by omega
    have z3 : ((k : Int) != (k' : Int)) = true := by simp; omega
    go_enter Try.func34, Try.ntmps34
    go_wp2_with fail
    go_ret
    exact ⟨⟨false, rfl, by simp [h1]⟩, ((Below.refl _ _).alloc (Nat.le_refl _) _).alloc (by simp) _⟩
  subst h1
  by_cases h2 : s = s'
  case neg =>
    have z1 : ¬ s.toList = s'.toList := fun e => h2 (ba_inj e)
    go_enter Try.func34, Try.ntmps34
    go_wp2_with fail
    go_ret
    exact ⟨⟨false, rfl, by simp [h2]⟩, ((Below.refl _ _).alloc (Nat.le_refl _) _).alloc (by simp) _⟩
  subst h2
  by_cases h3 : u = u'
  case neg =>
    have z1 : ((u : Int) == (u' : Int)) = false := by rw [beq_eq_false_iff_ne]; omega
    have z2 : ¬ (u : Int) = (u' : Int) := by omega
    have z3 : ((u : Int) != (u' : Int)) = true := by simp; omega
    go_enter Try.func34, Try.ntmps34
    go_wp2_with fail
    go_ret
    exact ⟨⟨false, rfl, by simp [h3]⟩, ((Below.refl _ _).alloc (Nat.le_refl _) _).alloc (by simp) _⟩
  subst h3
  by_cases h4 : t = t'
  case neg =>
    have z1 : ((t : Int) == (t' : Int)) = false := by rw [beq_eq_false_iff_ne]; omega
    have z2 : ¬ (t : Int) = (t' : Int) := by omega
    have z3 : ((t : Int) != (t' : Int)) = true := by simp; omega
    go_enter Try.func34, Try.ntmps34
    go_wp2_with fail
    go_ret
    exact ⟨⟨false, rfl, by simp [h4]⟩, ((Below.refl _ _).alloc (Nat.le_refl _) _).alloc (by simp) _⟩
  subst h4
  by_cases h5 : r = r'
  case neg =>
    have z1 : ((r : Int) == (r' : Int)) = false := by rw [beq_eq_false_iff_ne]; omega
    have z2 : ¬ (r : Int) = (r' : Int) := by omega
    have z3 : ((r : Int) != (r' : Int)) = true := by simp; omega
    go_enter Try.func34, Try.ntmps34
    go_wp2_with fail
    go_ret
    exact ⟨⟨false, rfl, by simp [h5]⟩, ((Below.refl _ _).alloc (Nat.le_refl _) _).alloc (by simp) _⟩
  subst h5
  obtain ⟨N, hN⟩ : ∃ N, N = ks.length := ⟨_, rfl⟩
  obtain ⟨N', hN'⟩ : ∃ N', N' = ks'.length := ⟨_, rfl⟩
  rw [← hN] at hn
  rw [← hN'] at hm
  rw [← hN, ← hN']
  have HN := Lib.hid hN
  have HN' := Lib.hid hN'
  have hNb : N ≤ 1000000000 := by rw [hN]; exact hn.long
  by_cases hne : N = N'
  case neg =>
    have z1 : ((N : Int) == (N' : Int)) = false := by rw [beq_eq_false_iff_ne]; omega
    have z2 : ¬ (N : Int) = (N' : Int) := by omega
    have z3 : ((N : Int) != (N' : Int)) = true := by simp; omega
    clear hn hm hN hN'
    go_enter Try.func34, Try.ntmps34
    go_wp2_with fail
    go_ret
    exact ⟨⟨false, rfl, by simp; intro e; exact hne (by rw [HN.out, HN'.out, e])⟩, ((Below.refl _ _).alloc (Nat.le_refl _) _).alloc (by simp) _⟩
  subst hne
  obtain ⟨W1, hW1⟩ : ∃ W1, W1 = (w.alloc (.cells #[.int .u8 (k : Int), .string s, .int .i64 u, .int .u8 (t : Int), .int .u64 (r : Int), .slice A N c] 33)).alloc (.cells #[.int .u8 (k : Int), .string s, .int .i64 u, .int .u8 (t : Int), .int .u64 (r : Int), .slice A' N c'] 33) := ⟨_, rfl⟩
  have hb1 : Below w.heap.size w W1 := by rw [hW1]; exact ((Below.refl _ _).alloc (Nat.le_refl _) _).alloc (by simp) _
  have hx1 : W1.heap[w.heap.size]? = some (.cells #[.int .u8 (k : Int), .string s, .int .i64 u, .int .u8 (t : Int), .int .u64 (r : Int), .slice A N c] 33 (0, 0)) := by rw [hW1, heap_alloc_lt _ _ (by simp)]; exact Go.heap_alloc_new _ _
  have hx2 : W1.heap[w.heap.size + 1]? = some (.cells #[.int .u8 (k : Int), .string s, .int .i64 u, .int .u8 (t : Int), .int .u64 (r : Int), .slice A' N c'] 33 (0, 0)) := by rw [hW1]; exact alloc2 _ _ _ _ _
  have HH := Lib.hid ((hn.below hb1).up hb1.size)
  have HH' := Lib.hid ((hm.below hb1).up hb1.size)
  have HB1 := Lib.hid hb1
  have HX1 := Lib.hid hx1
  have HX2 := Lib.hid hx2
  have HW1 := Lib.hid hW1
  clear hn hm hN hN' hb1 hx1 hx2 hW1
  go_enter Try.func34, Try.ntmps34
  go_wp2_with fail
  rw [← HW1.out]
  go_loopw [51] (fun i wr => ∃ p : Nat, p ≤ N ∧ i = .int .i64 (p : Int) ∧ (∀ j < p, ks[j]? = ks'[j]?) ∧ Below W1.heap.size W1 wr) (fun i _ => N - (intOf i).toNat)
  case atStart => exact ⟨0, Nat.zero_le _, rfl, fun j hj => absurd hj (by omega), Below.refl _ _⟩
  case round =>
    obtain ⟨p, hp, rfl, hno, hb⟩ := hrel
    have HNO := Lib.hid hno
    have HB := Lib.hid hb
    obtain ⟨_, _, _, _, _, b5, _⟩ := box_cells (n := ⟨k, s, u, t, r, ks⟩) ((hb.block _ (lt_of_heap2 HX1.out)).trans HX1.out)
    obtain ⟨_, _, _, _, _, d5, _⟩ := box_cells (n := ⟨k, s, u, t, r, ks'⟩) ((hb.block _ (lt_of_heap2 HX2.out)).trans HX2.out)
    clear hno hb
    by_cases hlt : p < N
    · have hltI : (p : Int) < (N : Int) := by omega
      obtain ⟨x, hx⟩ : ∃ x, ks[p]? = some x := by rw [HN.out] at hlt; exact ⟨_, List.getElem?_eq_getElem hlt⟩
      obtain ⟨y, hy⟩ : ∃ x, ks'[p]? = some x := by rw [HN'.out] at hlt; exact ⟨_, List.getElem?_eq_getElem hlt⟩
      obtain ⟨ad, hA, _, hcell⟩ := (HH.out.below HB.out).at_ hx
      obtain ⟨ad', hA', _, hcell'⟩ := (HH'.out.below HB.out).at_ hy
      have HX := Lib.hid hx
      have HY := Lib.hid hy
      clear hx hy
      subst hA
      subst hA'
      by_cases hxy : x = y
      · subst hxy
        go_wp2_with fail
        go_region
        all_goals
          go_wp2_with fail
          go_roundw
          case rel =>
            refine ⟨p + 1, by omega, rfl, fun j hj => ?_, ride_drew HB.out⟩
            by_cases e2 : j = p
            · rw [e2, HX.out, HY.out]
            · exact HNO.out j (by omega)
          case measure =>
            simp [intOf]
            omega
      · have hxI : ((x : Int) != (y : Int)) = true := by simp; omega
        have hxJ : ¬ (x : Int) = (y : Int) := by omega
        go_wp2_with fail
        go_region
        all_goals
          go_wp2_with fail
          go_ret
          refine ⟨⟨false, rfl, by simp; intro e; rw [e, HY.out] at HX; exact hxy (Option.some.inj HX.out.symm)⟩, HB1.out.trans ((ride_drew HB.out).mono HB1.out.size)⟩
    · have hltI : ¬ (p : Int) < (N : Int) := by omega
      have hkn : p = N := by omega
      go_wp2_with fail
      go_ret
      refine ⟨⟨true, rfl, by simp; exact list_end (by rw [← HN.out, ← HN'.out]) (by rw [← HN.out, ← hkn]; exact HNO.out)⟩, HB1.out.trans (HB.out.mono HB1.out.size)⟩
end Go.Proofs.Ytdphpjlhkamadaa
namespace Go.Proofs.Ytdphpjlhkamadaa
open Go.RowKit Go.Shelf
open Go.Maps (Keyed)
set_option linter.unusedSimpArgs false
set_option linter.unusedVariables false
set_option maxRecDepth 100000
attribute [local go_sem] Oper.semAt_some undef
theorem rise_same {ns ns' : List (Nat × Nd)} (hr : Rise ns) (hr' : Rise ns') (hl : ns.length = ns'.length) (h : ∀ k, hasL ns k = true → getL ns' k = getL ns k) : ns = ns' := by
  refine rise_ext hr hr' fun k => ?_
  cases hk : hasL ns k with
  | true => exact (h k hk).symm
  | false =>
    have h1 : getL ns k = none := by
      unfold hasL at hk
      cases hg : getL ns k with
      | none => rfl
      | some n => rw [hg] at hk; cases hk
    rw [h1]
    cases hg : getL ns' k with
    | none => rfl
    | some n =>
      exfalso
      have hno : k ∉ ns.map Prod.fst := fun hm => by
        obtain ⟨p, hp, rfl⟩ := List.mem_map.1 hm
        have := getL_of_mem hr (k := p.1) (v := p.2) hp
        rw [h1] at this
        cases this
      have hle := nodup_le (ns := ns') (done := k :: ns.map Prod.fst) (List.nodup_cons.2 ⟨hno, by
        unfold List.Nodup
        rw [List.pairwise_map]
        exact List.Pairwise.imp (fun h2 => by omega) hr⟩) (fun x hx => by
        rcases List.mem_cons.1 hx with rfl | hx
        · unfold hasL; rw [hg]; rfl
        · obtain ⟨p, hp, rfl⟩ := List.mem_map.1 hx
          have h2 := getL_of_mem hr (k := p.1) (v := p.2) hp
          have h3 := h p.1 (by unfold hasL; rw [h2]; rfl)
          unfold hasL
          rw [h3, h2]
          rfl)
      rw [List.length_cons, List.length_map] at hle
      omega
set_option maxHeartbeats 4000000 in
theorem eqFunc_any (w : World) (gm gm' : Nat) (vs vs' : List (Nat × Value)) (ns ns' : List (Nat × Nd)) (hM : MapV w gm vs) (hM' : MapV w gm' vs') (hN : NodesV w vs ns) (hN' : NodesV w vs' ns') (hr : Rise ns) (hr' : Rise ns') (hns : ns.length ≤ 1000000) :
    Calls Try.prog 53 #[.map (some gm), .map (some gm'), .func (.func 54) #[] #[]] w (BoolR w (ns = ns')) := by
  have hl := nodes_len hN hM.rise hr
  have hl' := nodes_len hN' hM'.rise hr'
  have q1 := run_count 70 33 Try.underlying70 hM 3
  have q2 := run_count 70 33 Try.underlying70 hM' 3
  rw [hl] at q1
  rw [hl'] at q2
  have HM := Lib.hid hM
  have HM' := Lib.hid hM'
  have HN := Lib.hid hN
  have HN' := Lib.hid hN'
  have HL := Lib.hid hl
  have HL' := Lib.hid hl'
  clear hM hM' hN hN' hl hl'
  by_cases hne : ns.length = ns'.length
  case neg =>
    have z1 : ((ns.length : Int) != (ns'.length : Int)) = true := by simp; omega
    have z2 : ¬ (ns.length : Int) = (ns'.length : Int) := by omega
    go_enter Try.func53, Try.ntmps53
    go_wp2_with (first
      | (at_len; (
        refine wpList_count w rfl _ 70 33 rfl Try.underlying70 gm vs rfl HM.out ?_;
        rw [HL.out]))
      | (at_len; (
        refine wpList_count w rfl _ 70 33 rfl Try.underlying70 gm' vs' rfl HM'.out ?_;
        rw [HL'.out])))
    go_ret
    exact ⟨⟨false, rfl, by simp; intro e; exact hne (by rw [e])⟩, Below.refl _ _⟩
  obtain ⟨M, hMM⟩ : ∃ M, M = ns.length := ⟨_, rfl⟩
  rw [← hMM] at q1
  rw [← hne, ← hMM] at q2
  have HLM : Hid (vs.length = M) := Lib.hid (HL.out.trans hMM.symm)
  have HLM' : Hid (vs'.length = M) := Lib.hid (HL'.out.trans (hne.symm.trans hMM.symm))
  have HNE := Lib.hid hne
  clear hMM hne
  go_enter Try.func53, Try.ntmps53
  go_wp2_with (first
    | (at_len; (
      refine wpList_count w rfl _ 70 33 rfl Try.underlying70 gm vs rfl HM.out ?_;
      rw [HLM.out]))
    | (at_len; (
      refine wpList_count w rfl _ 70 33 rfl Try.underlying70 gm' vs' rfl HM'.out ?_;
      rw [HLM'.out]))
    | (at_range; go_loud (
        refine wpList_range_own w rfl _ _ rfl 24 33 idKeyed Try.underlying70 heldE gm vs.length (mapD vs) rfl HM.out.own ?_;
        intro w2 hr2 hg2 hs2;
        have HR2 := Lib.hid hr2;
        have HG2 := Lib.hid hg2;
        clear hr2 hg2)))
  go_frame
  obtain ⟨r, hrr⟩ : ∃ r, r = w.heap.size := ⟨_, rfl⟩
  rw [← hrr]
  have HRR := Lib.hid hrr
  clear hrr q1 q2
  go_loopw [18] (fun _ wr => ∃ left cnt, RangesV wr gm r vs.length vs left cnt ∧ Below w.heap.size w wr ∧ ∀ k, hasL ns k = true → left (keyL k) = false → getL ns' k = getL ns k) (fun _ wr => wr.rangeLeft gm r)
  case atStart =>
    refine ⟨Maps.has (mapD vs), _, by rw [HRR.out]; exact HR2.out, (Below.refl _ _).grown HG2.out (Nat.le_refl _) (fun k e => by cases e), fun k hk hlk => ?_⟩
    rw [mapD_has] at hlk
    obtain ⟨_, _, _, _, _, hh⟩ := HN.out.get k
    rw [← hh] at hk
    unfold hasL at hk
    rw [hlk] at hk
    cases hk
  case round =>
    obtain ⟨left, cnt, hrng, hb, hsub⟩ := hrel
    have hcnt := hrng.left_eq
    have HS := Lib.hid hsub
    have HB := Lib.hid hb
    have HRG0 := Lib.hid hrng
    rcases hrng.next idKeyed 0 with ⟨h0, hl, hrun⟩ | ⟨key, v, kl, y, w3, cnt', hkey, hlk, hv, hat, hrun, hrg3, hlt, hgr, hsz, hen⟩
    · have HLL := Lib.hid hl
      clear hb hrng hsub hl
      go_wp2_with fail
      go_ret
      exact ⟨⟨true, rfl, by simp; exact rise_same hr hr' HNE.out fun k hk => HS.out k hk (HLL.out _)⟩, HB.out⟩
    · obtain ⟨x, rfl⟩ := keyInv key kl hkey
      obtain ⟨rfl, hx⟩ := keyIs hkey
      have hgx := valIs hv hat
      have hb3 : Below w.heap.size w w3 := hb.grown hgr hb.size (fun k e => by injection e with e; have := HRR.out; omega)
      obtain ⟨Ao, co, hold, hos, hook, hhas⟩ := HN.out.get x
      rw [hgx] at hold
      have hhx : hasL ns x = true := by rw [← hhas]; unfold hasL; rw [hgx]; rfl
      obtain ⟨o, ho⟩ : ∃ o, o = ndOf ns x := ⟨_, rfl⟩
      rw [show (getL ns x).getD zeroNd = o from ho.symm] at hold hos hook
      have hvo : v = ndV o (.slice Ao o.kids.length co) := hold
      subst hvo
      unfold ndV at hrun hen
      obtain ⟨Ap, cp, hold', hos', hook', hhas'⟩ := HN'.out.get x
      obtain ⟨p, hp⟩ : ∃ p, p = ndOf ns' x := ⟨_, rfl⟩
      rw [show (getL ns' x).getD zeroNd = p from hp.symm] at hold' hos' hook'
      have hM3 : ∀ z, Below w.heap.size w z → MapV z gm' vs' := fun z hz => HM'.out.at_ (hz.block _ HM'.out.lt)
      have HM3 := Lib.hid hM3
      have HOLD := Lib.hid hold'
      have HHAS := Lib.hid hhas'
      have HEQ : Hid (∀ z, Below w.heap.size w z → Calls Try.prog 54 #[.agg #[.int .u8 (o.kind : Int), .string o.name, .int .i64 o.num, .int .u8 (o.typ : Int), .int .u64 (o.ref : Int), .slice Ao o.kids.length co], .agg #[.int .u8 (p.kind : Int), .string p.name, .int .i64 p.num, .int .u8 (p.typ : Int), .int .u64 (p.ref : Int), .slice Ap p.kids.length cp]] z (BoolR z (o = p))) := Lib.hid fun z hz => equal_any z o p co cp Ao Ap ((hos.below hz).up hz.size) ((hos'.below hz).up hz.size)
      have HB3 := Lib.hid hb3
      have HRG := Lib.hid hrg3
      have HHX := Lib.hid hhx
      have HO := Lib.hid ho
      have HP := Lib.hid hp
      have HC := Lib.hid hcnt
      have HLT := Lib.hid hlt
      have HLK := Lib.hid hlk
      clear hb hrng hsub hkey hlk hv hat hrg3 hlt hgr hsz hgx hb3 hold hos hook hhas hhx ho hp hcnt hold' hos' hook' hhas' hM3
      cases hh : hasL ns' x with
      | false =>
        rw [hh] at HHAS
        go_wp2_with (at_lookup; go_loud (
          refine wpList_lookOk _ rfl _ _ 70 33 rfl Try.underlying70 (ndV zeroNd (.slice none 0 0)) (zeroNode _) gm' vs' rfl (HM3.out _ (HB3.out.alloc HB3.out.size _)) x hx rfl ?_;
          rw [HHAS.out, HOLD.out];
          unfold ndV))
        go_ret
        exact ⟨⟨false, rfl, by simp; intro e; rw [e, hh] at HHX; exact absurd HHX.out (by simp)⟩, (HB3.out.alloc HB3.out.size _).alloc (by have := HB3.out.size; simp; omega) _⟩
      | true =>
        rw [hh] at HHAS
        by_cases hop : o = p
        · subst hop
          go_wp2_with (first
            | (at_lookup; go_loud (
              refine wpList_lookOk _ rfl _ _ 70 33 rfl Try.underlying70 (ndV zeroNd (.slice none 0 0)) (zeroNode _) gm' vs' rfl (HM3.out _ (HB3.out.alloc HB3.out.size _)) x hx rfl ?_;
              rw [HHAS.out, HOLD.out];
              unfold ndV))
            | (go_at_call 54; go_loud (
              have hb5 := (HB3.out.alloc HB3.out.size (.cells #[.int .u8 (o.kind : Int), .string o.name, .int .i64 o.num, .int .u8 (o.typ : Int), .int .u64 (o.ref : Int), .slice Ao o.kids.length co] 33)).alloc (by have := HB3.out.size; simp; omega) (.cells #[.int .u8 (o.kind : Int), .string o.name, .int .i64 o.num, .int .u8 (o.typ : Int), .int .u64 (o.ref : Int), .slice Ap o.kids.length cp] 33);
              (with_reducible refine (HEQ.out _ hb5).mono ?_);
              rintro e w6 ⟨⟨b, rfl, hbi⟩, hb6⟩;
              obtain rfl : b = true := hbi.2 rfl;
              have hb36 : Below w3.heap.size w3 w6 := (((Below.refl _ _).alloc (Nat.le_refl _) (.cells #[.int .u8 (o.kind : Int), .string o.name, .int .i64 o.num, .int .u8 (o.typ : Int), .int .u64 (o.ref : Int), .slice Ao o.kids.length co] 33)).alloc (by simp) (.cells #[.int .u8 (o.kind : Int), .string o.name, .int .i64 o.num, .int .u8 (o.typ : Int), .int .u64 (o.ref : Int), .slice Ap o.kids.length cp] 33)).trans (hb6.mono (by simp; omega));
              have HB36 := Lib.hid hb36;
              clear hbi hb6 hb5 hb36)))
          obtain ⟨mm, since, seen, c0, hi⟩ := ranges_iter HRG.out
          have hnx := ranges_at HRG.out (w' := w6) (HB36.out.block gm (Nat.lt_of_lt_of_le HM.out.lt HB3.out.size)) (HB36.out.block r (lt_of_heap2 hi))
          go_roundw
          case rel =>
            refine ⟨_, _, hnx, HB3.out.trans (HB36.out.mono HB3.out.size), fun k hk hlk => ?_⟩
            rw [key_same] at hlk
            by_cases e : k = x
            · rw [e]
              have h1 := HHX.out
              unfold hasL at h1 hh
              obtain ⟨q, hq⟩ := Option.isSome_iff_exists.1 h1
              obtain ⟨q', hq'⟩ := Option.isSome_iff_exists.1 hh
              have e1 : o = q := by rw [HO.out]; unfold ndOf; rw [hq]; rfl
              have e2 : o = q' := by rw [HP.out]; unfold ndOf; rw [hq']; rfl
              rw [hq, hq', ← e1, ← e2]
            · exact HS.out k hk (by simpa [e] using hlk)
          case measure =>
            rw [hnx.left_eq, HC.out]
            exact HLT.out
        · go_wp2_with (first
            | (at_lookup; go_loud (
              refine wpList_lookOk _ rfl _ _ 70 33 rfl Try.underlying70 (ndV zeroNd (.slice none 0 0)) (zeroNode _) gm' vs' rfl (HM3.out _ (HB3.out.alloc HB3.out.size _)) x hx rfl ?_;
              rw [HHAS.out, HOLD.out];
              unfold ndV))
            | (go_at_call 54; go_loud (
              have hb5 := (HB3.out.alloc HB3.out.size (.cells #[.int .u8 (o.kind : Int), .string o.name, .int .i64 o.num, .int .u8 (o.typ : Int), .int .u64 (o.ref : Int), .slice Ao o.kids.length co] 33)).alloc (by have := HB3.out.size; simp; omega) (.cells #[.int .u8 (p.kind : Int), .string p.name, .int .i64 p.num, .int .u8 (p.typ : Int), .int .u64 (p.ref : Int), .slice Ap p.kids.length cp] 33);
              (with_reducible refine (HEQ.out _ hb5).mono ?_);
              rintro e w6 ⟨⟨b, rfl, hbi⟩, hb6⟩;
              obtain rfl : b = false := by cases b; rfl; exact absurd (hbi.1 rfl) hop;
              have HB6 := Lib.hid (hb5.trans (hb6.mono hb5.size));
              clear hbi hb6 hb5)))
          go_ret
          exact ⟨⟨false, rfl, by simp; intro e; exact hop (by rw [HO.out, HP.out, e])⟩, HB6.out⟩
theorem same_nils (w : World) : Calls Try.prog 23 #[.pointer none, .pointer none] w (fun e w' => e = .returned (.bool true) ∧ Below w.heap.size w w') := by
  go_enter Try.func23, Try.ntmps23
  go_wp2_with fail
  go_ret
  exact ⟨rfl, Below.refl _ _⟩
theorem same_one (w : World) (p : Addr) : Calls Try.prog 23 #[.pointer (some p), .pointer none] w (fun e w' => e = .returned (.bool false) ∧ Below w.heap.size w w') := by
  go_enter Try.func23, Try.ntmps23
  go_wp2_with fail
  go_ret
  exact ⟨rfl, Below.refl _ _⟩
set_option maxHeartbeats 2000000 in
theorem same_any (w : World) {base ga gm gp N base' ga' gm' gp' N' : Nat} {F F' : PF} {vs vs' : List (Nat × Value)} {ns ns' : List (Nat × Nd)} (h : AR w base ga gm gp F vs ns N) (h' : AR w base' ga' gm' gp' F' vs' ns' N') (hns : ns.length ≤ 1000000) :
    Calls Try.prog 23 #[.pointer (some ⟨ga, 0, none⟩), .pointer (some ⟨ga', 0, none⟩)] w (BoolR w (ns = ns')) := by
  have q0 : w.cell? ⟨ga, 0, none⟩ = some (.map (some gm)) := by unfold World.cell?; rw [h.st]; rfl
  have q1 : w.cell? ⟨ga', 0, none⟩ = some (.map (some gm')) := by unfold World.cell?; rw [h'.st]; rfl
  have HEF := Lib.hid (fun y (hy : Below w.heap.size w y) => eqFunc_any y gm gm' vs vs' ns ns' (h.below hy).map (h'.below hy).map (h.below hy).nodes (h'.below hy).nodes h.rise h'.rise hns)
  clear h h'
  go_enter Try.func23, Try.ntmps23
  go_wp2_with fail
  go_region_law (go_simp; go_at_call 53; (with_reducible refine (HEF.out _ (ride_drew (Below.refl _ _))).mono ?_); rintro e w1 ⟨⟨b, rfl, hbi⟩, hb1⟩)
  all_goals
    go_wp2_with fail
    go_ret
    exact ⟨⟨b, rfl, hbi⟩, (ride_drew (Below.refl _ _)).trans hb1⟩
end Go.Proofs.Ytdphpjlhkamadaa
