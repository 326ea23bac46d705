/- AOwn, ARAsk, ARLess, ARWalk: joined by program (tools/merge.py). -/
import Derived.Test.YtogkeoainejfcaaAAsk
import Derived.Test.YtogkeoainejfcaaAFindP
import Derived.Test.YtogkeoainejfcaaARows
namespace Go.Proofs.Ytogkeoainejfcaa
open Go.RowKit
set_option linter.unusedSimpArgs false
set_option linter.unusedVariables false
set_option maxRecDepth 100000
theorem own_lower {w : World} {base base' n size : Nat} {tp : TypeId} {v : Value} {xs : List Value} (h : w.ownsRow base tp size v n xs) (hb : base' ≤ base) : w.ownsRow base' tp size v n xs := by
  refine ⟨h.1, ?_⟩
  rcases h.2 with e | ⟨g, cap, cur, e, h1, h2, h3⟩
  · exact .inl e
  · exact .inr ⟨g, cap, cur, e, Nat.le_trans hb h1, h2, h3⟩
def CloneO (w : World) (l : List Nat) (e : Ending) (w' : World) : Prop :=
  ∃ A c, e = .returned (.slice A l.length c) ∧ w'.ownsRow w.heap.size 24 1 (.slice A l.length c) l.length (ids l) ∧ Below w.heap.size w w'
def WholeO (w : World) (n : Nd) (e : Ending) (w' : World) : Prop :=
  ∃ A c, e = .returned (ndV n (.slice A n.kids.length c)) ∧ w'.ownsRow w.heap.size 24 1 (.slice A n.kids.length c) n.kids.length (ids n.kids) ∧ Below w.heap.size w w'
def GetO (w : World) (n : Nd) (b : Bool) (e : Ending) (w' : World) : Prop :=
  ∃ A c, e = .returned (.tuple #[ndV n (.slice A n.kids.length c), .bool b]) ∧ w'.ownsRow w.heap.size 24 1 (.slice A n.kids.length c) n.kids.length (ids n.kids) ∧ NdOk n ∧ Below w.heap.size w w'
set_option maxHeartbeats 4000000 in
theorem clone_own (w : World) (A : Option Addr) (c : Nat) (l : List Nat) (h : IdSl w w.heap.size (.slice A l.length c) l) :
    Calls Try.prog 43 #[.slice A l.length c] w (CloneO w l) := by
  have hlong := h.long
  obtain ⟨i0, hi0, hz0, hs0, hb0⟩ := info_parts infoId
  cases A with
  | none =>
    have hnil : l = [] := by
      cases l with
      | nil => rfl
      | cons x r => obtain ⟨ad, e, _⟩ := h.at_ (i := 0) (k := x) rfl; cases e
    subst hnil
    have hnl : ∀ W : World, (binOp .eql 30 (.slice none 0 c) (.slice none 0 0)).run Try.prog W = .ok (.bool true) W := fun W => by
      rw [Lib.run_eql_slice_nil W 30 24 _ 0 c 0 0 Try.underlying30]
      rfl
    clear h
    go_enter Try.func43, Try.ntmps43
    go_wp2_with fail
    go_ret
    exact ⟨none, _, rfl, World.ownsRow_nil _ _ _ _, Below.refl _ _⟩
  | some ad =>
    obtain ⟨n, hn⟩ : ∃ n, n = l.length := ⟨_, rfl⟩
    rw [← hn] at h hlong ⊢
    have hcells : ∀ (j : Nat) (u : Value), (ids l)[j]? = some u → (w.alloc (.cells #[] 24)).cell? (ad.add j) = some u := fun j u hj => by
      obtain ⟨⟨A', c', e, h1, _⟩, _, _⟩ := h
      injection e with e _ _
      obtain ⟨ad', e', hbk, hc⟩ := h1 j u hj
      rw [← e] at e'
      injection e' with e'
      subst e'
      exact (((Below.refl w.heap.size w).alloc (Nat.le_refl _) _).cell (by rw [addr_add_block]; exact hbk)).trans hc
    have HE : Hid ((w.alloc (.cells #[] 24)).ownsRow w.heap.size 24 1 (.slice (some ⟨w.heap.size, 0, none⟩) 0 0) 0 []) := Lib.hid ⟨rfl, .inr ⟨w.heap.size, 0, #[], rfl, Nat.le_refl _, Go.heap_alloc_new _ _, Nat.le_refl _, Nat.zero_le _, rfl, rfl⟩⟩
    have hnl : ∀ W : World, (binOp .eql 30 (.slice (some ad) n c) (.slice none 0 0)).run Try.prog W = .ok (.bool false) W := fun W => by
      rw [Lib.run_eql_slice_nil W 30 24 _ n c 0 0 Try.underlying30]
      rfl
    have HC := Lib.hid hcells
    have HH := Lib.hid h
    have HN := Lib.hid hn
    clear h hn hcells
    go_enter Try.func43, Try.ntmps43
    go_wp2_with (at_builtin; go_loud (
      refine wpList_append_own_at _ rfl _ _ 30 rfl w.heap.size 24 i0 (.int .u64 0) 1 8 Try.underlying30 hi0 hz0 hs0 hb0 rfl (by decide) (.slice (some ⟨w.heap.size, 0, none⟩) 0 0) 0 [] rfl HE.out ad n c (ids l) rfl (by rw [ids_length, ← HN.out]; omega) HC.out (ids_one l) (by unfold maxLen; omega) (by omega) (by simp) ?_;
      intro v' w' hown' hgrow hnil hloc;
      rw [Nat.zero_add, List.nil_append] at hown';
      have HO := Lib.hid hown';
      have HG := Lib.hid hgrow;
      have HL := Lib.hid hloc;
      clear hown' hgrow hnil hloc))
    go_ret
    have hf : ∃ A2 c2, v' = .slice A2 n c2 := by
      rcases HO.out.2 with ⟨e, h0⟩ | ⟨g, cap, cur, e, _⟩
      · exact ⟨none, 0, by rw [e, h0]⟩
      · exact ⟨_, _, e⟩
    obtain ⟨A2, c2, rfl⟩ := hf
    have hfin : Ending.returned (.slice A2 n c2) = .returned (.slice A2 l.length c2) := by rw [← HN.out]
    exact ⟨A2, c2, hfin, by rw [← HN.out]; exact HO.out, ((Below.refl _ _).alloc (Nat.le_refl _) _).grown HG.out (by simp) (fun k hk => Nat.le_of_eq (Option.some.inj hk))⟩
set_option maxHeartbeats 4000000 in
theorem whole_own (w : World) (n : Nd) (A : Option Addr) (c : Nat) (h : NodeV w (ndV n (.slice A n.kids.length c)) n) (hs : IdSl w w.heap.size (.slice A n.kids.length c) n.kids) :
    Calls Try.prog 17 #[ndV n (.slice A n.kids.length c)] w (WholeO w n) := by
  have hok := h.2
  have hXb : Below w.heap.size w (w.alloc (.cells #[.int .u8 (n.kind : Int), .string n.name, .int .i64 n.num, .int .u8 (n.typ : Int), .int .u64 (n.ref : Int), .slice A n.kids.length c] 33)) := (Below.refl _ _).alloc (Nat.le_refl _) _
  have hXh := Go.heap_alloc_new w (.cells #[.int .u8 (n.kind : Int), .string n.name, .int .i64 n.num, .int .u8 (n.typ : Int), .int .u64 (n.ref : Int), .slice A n.kids.length c] 33)
  have HCL : Hid (∀ y, Below (w.alloc (.cells #[.int .u8 (n.kind : Int), .string n.name, .int .i64 n.num, .int .u8 (n.typ : Int), .int .u64 (n.ref : Int), .slice A n.kids.length c] 33)).heap.size (w.alloc (.cells #[.int .u8 (n.kind : Int), .string n.name, .int .i64 n.num, .int .u8 (n.typ : Int), .int .u64 (n.ref : Int), .slice A n.kids.length c] 33)) y → Calls Try.prog 43 #[.slice A n.kids.length c] y (CloneO y n.kids)) := Lib.hid fun y hy => clone_own y A c n.kids (((hs.below hXb).up hXb.size).below hy |>.up hy.size)
  have HOK := Lib.hid hok
  have HXB := Lib.hid hXb
  have HXH := Lib.hid hXh
  clear h hs hok hXb hXh
  unfold ndV
  go_enter Try.func17, Try.ntmps17
  go_wp2_with (first
    | (go_at_call 43; (with_reducible refine (HCL.out _ (ride_alloc (Below.refl _ _) _)).mono ?_); rintro e w1 ⟨A1, c1, rfl, hI, hb1⟩; go_loud (
        have hbx := (hb1.block w.heap.size (by simp; omega)).trans ((heap_alloc_lt _ _ (by simp)).trans HXH.out);
        obtain ⟨b0, b1, b2, b3, b4, b5, b6⟩ := box_cells hbx;
        have hrx := (hb1.block (w.heap.size + 1) (by simp)).trans (alloc2 _ _ _ _ _);
        obtain ⟨⟨r0, r1, r2, r3, r4, r5⟩, f0, f1, f2, f3, f4, f5⟩ := zero_cells hrx;
        have HRX := Lib.hid hrx;
        have HI := Lib.hid hI;
        have HB1 := Lib.hid hb1;
        clear hI hb1 hbx hrx)))
  have hw0 : w.heap.size < w1.heap.size := by have := HB1.out.size; simp at this; omega
  have hbw : Below w.heap.size w (w1.setCell ⟨w.heap.size, 5, none⟩ (.slice A1 n.kids.length c1)) := (HXB.out.trans ((((Below.refl _ _).alloc (Nat.le_refl _) _).trans (HB1.out.mono (by simp))).mono HXB.out.size)).setCell (p := ⟨w.heap.size, 5, none⟩) (Nat.le_refl _) _
  have hrb := (heap_setCell_other w1 ⟨w.heap.size, 5, none⟩ (w.heap.size + 1) (.slice A1 n.kids.length c1) (by show w.heap.size + 1 ≠ w.heap.size; omega)).trans HRX.out
  have hfin := set_node (v0 := .int .u8 (n.kind : Int)) (v1 := .string n.name) (v2 := .int .i64 n.num) (v3 := .int .u8 (n.typ : Int)) (v4 := .int .u64 (n.ref : Int)) (v5 := .slice A1 n.kids.length c1) hrb
  have hbf := below_node (v0 := .int .u8 (n.kind : Int)) (v1 := .string n.name) (v2 := .int .i64 n.num) (v3 := .int .u8 (n.typ : Int)) (v4 := .int .u64 (n.ref : Int)) (v5 := .slice A1 n.kids.length c1) hbw (show w.heap.size ≤ w.heap.size + 1 by omega)
  refine node_ret (p := 2) rfl rfl rfl hfin rfl ?_
  refine ⟨A1, c1, rfl, own_lower (ownsRow_at HI.out fun j cs hcs => ?_) (Nat.le_trans (HXB.out.size) (by simp)), hbf⟩
  have hj1 : j ≠ w.heap.size := fun e => by
    have h1 := (HB1.out.block w.heap.size (by simp; omega)).trans ((heap_alloc_lt _ _ (by simp)).trans HXH.out)
    rw [e, h1] at hcs
    injection hcs with hcs
    injection hcs with _ h2 _
    revert h2
    decide
  have hj2 : j ≠ w.heap.size + 1 := fun e => by
    rw [e, HRX.out] at hcs
    injection hcs with hcs
    injection hcs with _ h2 _
    revert h2
    decide
  rw [heap_setCell_other _ ⟨w.heap.size + 1, 5, none⟩ j _ hj2, heap_setCell_other _ ⟨w.heap.size + 1, 4, none⟩ j _ hj2, heap_setCell_other _ ⟨w.heap.size + 1, 3, none⟩ j _ hj2, heap_setCell_other _ ⟨w.heap.size + 1, 2, none⟩ j _ hj2, heap_setCell_other _ ⟨w.heap.size + 1, 1, none⟩ j _ hj2, heap_setCell_other _ ⟨w.heap.size + 1, 0, none⟩ j _ hj2, heap_setCell_other _ ⟨w.heap.size, 5, none⟩ j _ hj1]
set_option maxHeartbeats 4000000 in
theorem get_own (w : World) (base ga gm gp id N : Nat) (F : PF) (vs : List (Nat × Value)) (ns : List (Nat × Nd)) (h : AR w base ga gm gp F vs ns N) (hid : id < 18446744073709551616) :
    Calls Try.prog 12 #[.pointer (some ⟨ga, 0, none⟩), .int .u64 (id : Int)] w (GetO w ((getL ns id).getD zeroNd) (hasL ns id)) := by
  have q0 : (w.alloc (.cells #[.int .u8 0, .string ⟨#[]⟩, .int .i64 0, .int .u8 0, .int .u64 0, .slice none 0 0] 33)).cell? ⟨ga, 0, none⟩ = some (.map (some gm)) := by
    rw [((Below.refl w.heap.size w).alloc (Nat.le_refl _) _).cell (p := ⟨ga, 0, none⟩) (lt_of_heap2 h.st)]
    unfold World.cell?; rw [h.st]; rfl
  have hM0 := (h.below ((Below.refl w.heap.size w).alloc (Nat.le_refl _) (.cells #[.int .u8 0, .string ⟨#[]⟩, .int .i64 0, .int .u8 0, .int .u64 0, .slice none 0 0] 33))).map
  obtain ⟨A, c, hold, hos, hook, hhas⟩ := h.nodes.get id
  obtain ⟨o, ho⟩ : ∃ o, o = (getL ns id).getD zeroNd := ⟨_, rfl⟩
  rw [← ho] at hold hos hook ⊢
  have HW : Hid (∀ y, Below w.heap.size w y → Calls Try.prog 17 #[ndV o (.slice A o.kids.length c)] y (WholeO y o)) := Lib.hid fun y hy => whole_own y o A c ⟨⟨A, c, rfl, (hos.below hy).up hy.size⟩, hook⟩ ((hos.below hy).up hy.size)
  have HOOK := Lib.hid hook
  have HM := Lib.hid hM0
  have HH := Lib.hid hhas
  have HOLD := Lib.hid hold
  clear h hhas hold hos ho hM0
  go_enter Try.func12, Try.ntmps12
  go_wp2_with (first
    | (at_lookup; go_loud (
      refine wpList_lookOk _ rfl _ _ 70 33 rfl Try.underlying70 (ndV zeroNd (.slice none 0 0)) (zeroNode _) gm vs rfl HM.out id hid rfl ?_;
      rw [HH.out, HOLD.out]; unfold ndV))
    | (go_at_call 17; (refine (HW.out _ (ride_alloc (ride_alloc (Below.refl _ _) _) _)).mono ?_); rintro e w1 ⟨A1, c1, rfl, hI, hb1⟩; go_loud (
        unfold ndV;
        have hrx := (hb1.block w.heap.size (by simp; omega)).trans ((heap_alloc_lt _ _ (by simp)).trans (Go.heap_alloc_new w _));
        obtain ⟨⟨r0, r1, r2, r3, r4, r5⟩, f0, f1, f2, f3, f4, f5⟩ := zero_cells hrx;
        have HRX := Lib.hid hrx;
        have HI := Lib.hid hI;
        have HB1 := Lib.hid hb1;
        clear hI hb1 hrx)))
  have hfin := set_node (v0 := .int .u8 (o.kind : Int)) (v1 := .string o.name) (v2 := .int .i64 o.num) (v3 := .int .u8 (o.typ : Int)) (v4 := .int .u64 (o.ref : Int)) (v5 := .slice A1 o.kids.length c1) HRX.out
  have hbw : Below w.heap.size w w1 := ((((Below.refl w.heap.size w).alloc (Nat.le_refl _) _).alloc (by simp) _).trans (HB1.out.mono (by simp; omega)))
  exact node_ret2 (p := 4) (u := 5) rfl rfl rfl rfl hfin rfl ⟨A1, c1, rfl, own_lower (ownsRow_at HI.out fun j cs hcs => by
    have hj2 : j ≠ w.heap.size := fun e => by
      rw [e, HRX.out] at hcs
      injection hcs with hcs
      injection hcs with _ h2 _
      revert h2
      decide
    rw [heap_setCell_other _ ⟨w.heap.size, 5, none⟩ j _ hj2, heap_setCell_other _ ⟨w.heap.size, 4, none⟩ j _ hj2, heap_setCell_other _ ⟨w.heap.size, 3, none⟩ j _ hj2, heap_setCell_other _ ⟨w.heap.size, 2, none⟩ j _ hj2, heap_setCell_other _ ⟨w.heap.size, 1, none⟩ j _ hj2, heap_setCell_other _ ⟨w.heap.size, 0, none⟩ j _ hj2]) (by simp; omega), HOOK.out, below_node hbw (Nat.le_refl _)⟩
end Go.Proofs.Ytogkeoainejfcaa
namespace Go.Proofs.Ytogkeoainejfcaa
open Go.RowKit Go.Shelf
set_option linter.unusedSimpArgs false
set_option linter.unusedVariables false
set_option maxRecDepth 100000
attribute [local go_sem] Oper.semAt_some undef
/-- The cells of a row of numbers. -/
def IdCells (w : World) (A : Option Addr) (l : List Nat) : Prop := ∀ (j y : Nat), l[j]? = some y → ∃ ad, A = some ad ∧ w.cell? (ad.add j) = some (.int .u64 (y : Int))
theorem in_any (w : World) (n c x : Nat) (A : Option Addr) (l : List Nat) (h : IdCells w A l) (hn : n = l.length) (hnb : n ≤ 1000000000) :
    Calls Try.prog 40 #[.slice A n c, .int .u64 (x : Int)] w (BoolR w (x ∈ l)) := by
  have HH := Lib.hid h
  have HN := Lib.hid hn
  clear h hn
  go_enter Try.func40, Try.ntmps40
  go_wp2_with fail
  go_loopw [9] (fun i wr => ∃ k : Nat, k ≤ n ∧ i = .int .i64 (k : Int) ∧ (∀ j < k, l[j]? ≠ some x) ∧ wr = w) (fun i _ => n - (intOf i).toNat)
  case atStart => exact ⟨0, Nat.zero_le _, rfl, fun j hj => absurd hj (by omega), rfl⟩
  case round =>
    obtain ⟨k, hk, rfl, hno, rfl⟩ := hrel
    have HNO := Lib.hid hno
    clear hno
    by_cases hlt : k < n
    · have hltI : (k : Int) < (n : Int) := by omega
      obtain ⟨y, hy⟩ : ∃ y, l[k]? = some y := by rw [HN.out] at hlt; exact ⟨_, List.getElem?_eq_getElem hlt⟩
      obtain ⟨ad, hA, hcell⟩ := HH.out k y hy
      have HY := Lib.hid hy
      clear hy
      subst hA
      by_cases hxy : x = y
      · subst hxy
        go_wp2_with fail
        go_ret
        exact ⟨⟨true, rfl, iff_of_true rfl (List.mem_of_getElem? HY.out)⟩, Below.refl _ _⟩
      · have hxI : ((x : Int) == (y : Int)) = false := by rw [beq_eq_false_iff_ne]; omega
        have hxJ : ¬ (x : Int) = (y : Int) := by omega
        go_wp2_with fail
        go_roundw
        case rel =>
          refine ⟨k + 1, by omega, rfl, fun j hj e => ?_, by first | rfl | trivial⟩
          by_cases e2 : j = k
          · rw [e2, HY.out] at e; injection e with e; exact hxy e.symm
          · exact HNO.out j (by omega) e
        case measure =>
          simp [intOf]
          omega
    · have hltI : ¬ (k : Int) < (n : Int) := by omega
      have hkn : k = n := by omega
      go_wp2_with fail
      go_ret
      refine ⟨⟨false, rfl, iff_of_false (by decide) fun hm => ?_⟩, Below.refl _ _⟩
      obtain ⟨j, hj, e⟩ := List.getElem_of_mem hm
      exact HNO.out j (by have := HN.out; omega) (by rw [List.getElem?_eq_getElem hj, e])
def AtR (w : World) (xs : XL) (id : Nat) (e : Ending) (w' : World) : Prop :=
  ((∃ (i : Nat) (p : Nat × (Value × Nd)), e = .returned (.int .i64 (i : Int)) ∧ xs[i]? = some p ∧ p.1 = id) ∨ (e = .returned (.int .i64 (-1)) ∧ ∀ p ∈ xs, p.1 ≠ id)) ∧ Below w.heap.size w w'
def AtI (w : World) (n id : Nat) (xs : XL) (i : Value) (wr : World) : Prop := ∃ k : Nat, k ≤ n ∧ i = .int .i64 (k : Int) ∧ (∀ j p, j < k → xs[j]? = some p → p.1 ≠ id) ∧ Below w.heap.size w wr
theorem AtI.mk {w wr : World} {n id : Nat} {xs : XL} (k : Nat) (hk : k ≤ n) (h : ∀ j p, j < k → xs[j]? = some p → p.1 ≠ id) (hb : Below w.heap.size w wr) : AtI w n id xs (.int .i64 (k : Int)) wr := ⟨k, hk, rfl, h, hb⟩
theorem at_any (w : World) (base n c id : Nat) (A : Option Addr) (xs : XL) (h : XR w base (.slice A n c) xs) (hn : n = xs.length) (hnb : n ≤ 1000000000) :
    Calls Try.prog 39 #[.slice A n c, .int .u64 (id : Int)] w (AtR w xs id) := by
  have HH := Lib.hid h
  have HN := Lib.hid hn
  clear h hn
  go_enter Try.func39, Try.ntmps39
  go_wp2_with fail
  go_loopw [9] (fun i wr => AtI w n id xs i wr) (fun i _ => n - (intOf i).toNat)
  case atStart => exact AtI.mk 0 (Nat.zero_le _) (fun j p hj => absurd hj (by omega)) (Below.refl _ _)
  case round =>
    obtain ⟨k, hk, rfl, hno, hb⟩ := hrel
    have HNO := Lib.hid hno
    have HB := Lib.hid hb
    clear hno hb
    by_cases hlt : k < n
    · have hltI : (k : Int) < (n : Int) := by omega
      obtain ⟨p, hp⟩ : ∃ p, xs[k]? = some p := by rw [HN.out] at hlt; exact ⟨_, List.getElem?_eq_getElem hlt⟩
      obtain ⟨g, Ak, ck, hA, _, _, _, _, c0, c1, c2, c3, c4, c5, c6⟩ := (HH.out.below HB.out).at_ hp
      have HP := Lib.hid hp
      clear hp
      subst hA
      obtain ⟨pid, pv, pn⟩ := p
      dsimp only at c0 c1 c2 c3 c4 c5 c6
      by_cases hxy : pid = id
      · subst hxy
        go_wp2_with fail
        go_ret
        exact ⟨.inl ⟨k, _, rfl, HP.out, rfl⟩, HB.out.alloc HB.out.size _⟩
      · have hxI : ((pid : Int) == (id : Int)) = false := by rw [beq_eq_false_iff_ne]; omega
        have hxJ : ¬ (pid : Int) = (id : Int) := by omega
        go_wp2_with fail
        go_roundw
        case rel =>
          refine AtI.mk (k + 1) (by omega) (fun j p hj hp e => ?_) (HB.out.alloc HB.out.size _)
          by_cases e2 : j = k
          · rw [e2, HP.out] at hp; injection hp with hp; rw [← hp] at e; exact hxy e
          · exact HNO.out j p (by omega) hp e
        case measure =>
          simp [intOf]
          omega
    · have hltI : ¬ (k : Int) < (n : Int) := by omega
      have hkn : k = n := by omega
      go_wp2_with fail
      go_ret
      refine ⟨.inr ⟨rfl, fun p hp e => ?_⟩, HB.out⟩
      obtain ⟨j, hj, e2⟩ := List.getElem_of_mem hp
      exact HNO.out j p (by have := HN.out; omega) (by rw [List.getElem?_eq_getElem hj, e2]) e
end Go.Proofs.Ytogkeoainejfcaa
namespace Go.Proofs.Ytogkeoainejfcaa
open Go.RowKit Go.Shelf
set_option linter.unusedSimpArgs false
set_option linter.unusedVariables false
set_option maxRecDepth 100000
attribute [local go_sem] Oper.semAt_some undef
def lessX (ks : List Nat) (xs : XL) : XL := xs.filter fun p => decide (p.1 ∉ ks)
theorem lessX_next {ks : List Nat} {xs : XL} {k : Nat} {p : Nat × (Value × Nd)} (hp : xs[k]? = some p) : lessX ks (xs.take (k + 1)) = lessX ks (xs.take k) ++ if p.1 ∈ ks then [] else [p] := by
  have ht : xs.take (k + 1) = xs.take k ++ [p] := by rw [List.take_add_one, hp]; rfl
  unfold lessX
  rw [ht, List.filter_append]
  congr 1
  by_cases h : p.1 ∈ ks <;> simp [h]
def LessI (w : World) (N : Nat) (xs : XL) (ks : List Nat) (ov iv : Value) (wr : World) : Prop :=
  ∃ k : Nat, k ≤ N ∧ iv = .int .i64 (k : Int) ∧ XR wr w.heap.size ov (lessX ks (xs.take k)) ∧ Below w.heap.size w wr
theorem LessI.mk {w wr : World} {N : Nat} {xs : XL} {ks : List Nat} {ov : Value} (k : Nat) (h1 : k ≤ N) (h2 : XR wr w.heap.size ov (lessX ks (xs.take k))) (h3 : Below w.heap.size w wr) : LessI w N xs ks ov (.int .i64 (k : Int)) wr := ⟨k, h1, rfl, h2, h3⟩
set_option maxHeartbeats 4000000 in
theorem rless_any (w : World) (base N c n ci : Nat) (A Ai : Option Addr) (xs : XL) (ks : List Nat) (h : XR w base (.slice A N c) xs) (hN : N = xs.length) (hNb : N ≤ 1000) (hk : IdCells w Ai ks) (hn : n = ks.length) (hnb : n ≤ 1000000000) (hlt : ∀ ad, Ai = some ad → ad.block < w.heap.size) :
    Calls Try.prog 16 #[.slice A N c, .slice Ai n ci] w (RPutR w (lessX ks xs)) := by
  obtain ⟨i7, hi7, hz7, hs7, hb7⟩ := info_parts infoRow
  have HIN : Hid (∀ (y : World) (x : Nat), Below w.heap.size w y → Calls Try.prog 40 #[.slice Ai n ci, .int .u64 (x : Int)] y (BoolR y (x ∈ ks))) := Lib.hid fun y x hy => in_any y n ci x Ai ks (fun j v hj => by
    obtain ⟨ad, e, hc⟩ := hk j v hj
    exact ⟨ad, e, (hy.cell (by rw [addr_add_block]; exact hlt ad e)).trans hc⟩) hn hnb
  have HX := Lib.hid h
  have HN := Lib.hid hN
  clear h hN hk hn hlt
  go_enter Try.func16, Try.ntmps16
  go_wp2_with fail
  go_loopw [5, 10] (fun ov iv wr => LessI w N xs ks ov iv wr) (fun _ iv _ => N - (intOf iv).toNat)
  case atStart => exact LessI.mk 0 (Nat.zero_le _) ⟨World.ownsRow_nil _ _ _ _, by simp [lessX], by simp [lessX]⟩ (Below.refl _ _)
  case round =>
    obtain ⟨k, hk, rfl, hxo, hb⟩ := hrel
    obtain ⟨out, hout⟩ : ∃ out, out = lessX ks (xs.take k) := ⟨_, rfl⟩
    rw [← hout] at hxo
    obtain ⟨Ao, co, rfl⟩ := row_form hxo.own
    obtain ⟨no, hno⟩ : ∃ no, no = out.length := ⟨_, rfl⟩
    have hol : out.length ≤ k := by
      rw [hout]
      unfold lessX
      exact Nat.le_trans (List.length_filter_le _ _) (by rw [List.length_take]; omega)
    rw [← hno] at hol ⊢
    have HXO := Lib.hid hxo
    have HB := Lib.hid hb
    have HNO := Lib.hid hno
    have HOUT := Lib.hid hout
    clear hxo hb hno hout
    by_cases hlt : k < N
    · have hltI : (k : Int) < (N : Int) := by omega
      obtain ⟨p, hp⟩ : ∃ p, xs[k]? = some p := by rw [HN.out] at hlt; exact ⟨_, List.getElem?_eq_getElem hlt⟩
      obtain ⟨g, Ap, cp, hA, hgb, hpv, hpi, hpo, e0, e1, e2, e3, e4, e5, e6⟩ := (HX.out.below HB.out).at_ hp
      have HNEXT := Lib.hid (lessX_next (ks := ks) hp)
      have hpx := HX.out.small p (List.mem_of_getElem? hp)
      obtain ⟨pid, pv, pn⟩ := p
      dsimp only at hpv hpi hpo e0 e1 e2 e3 e4 e5 e6 hpx
      have HNP : Hid (∀ y, Below wr.heap.size wr y → NodeV y pv pn) := Lib.hid fun y hy => ⟨⟨Ap, cp, hpv, (hpi.below hy).up hy.size⟩, hpo⟩
      have HPV := Lib.hid hpv
      subst hA
      have hb2 : Below wr.heap.size wr (wr.alloc (.cells #[.int .u64 (pid : Int), .int .u8 (pn.kind : Int), .string pn.name, .int .i64 pn.num, .int .u8 (pn.typ : Int), .int .u64 (pn.ref : Int), .slice Ap pn.kids.length cp] 69)) := (Below.refl _ _).alloc (Nat.le_refl _) _
      have hx2 : (wr.alloc (.cells #[.int .u64 (pid : Int), .int .u8 (pn.kind : Int), .string pn.name, .int .i64 pn.num, .int .u8 (pn.typ : Int), .int .u64 (pn.ref : Int), .slice Ap pn.kids.length cp] 69)).heap[wr.heap.size]? = some (.cells #[.int .u64 (pid : Int), .int .u8 (pn.kind : Int), .string pn.name, .int .i64 pn.num, .int .u8 (pn.typ : Int), .int .u64 (pn.ref : Int), .slice Ap pn.kids.length cp] 69 (0, 0)) := Go.heap_alloc_new _ _
      have HB2 := Lib.hid hb2
      have HX2 := Lib.hid hx2
      have HIN2 := Lib.hid (HIN.out _ pid (HB.out.trans (hb2.mono HB.out.size)))
      clear hpv hpi hpo hp hb2 hx2
      by_cases hm : pid ∈ ks
      · go_wp2_with (go_at_call 40; go_loud (
          (with_reducible refine (HIN2.out).mono ?_);
          rintro e w3 ⟨⟨b, rfl, hbi⟩, hb3⟩;
          obtain rfl : b = true := hbi.2 hm;
          have HB3 := Lib.hid (HB2.out.trans (hb3.mono HB2.out.size));
          clear hbi hb3))
        have hLI := LessI.mk (N := N) (xs := xs) (ks := ks) (ov := .slice Ao no co) (k + 1) (by omega) (by rw [HNEXT.out, if_pos hm, List.append_nil, ← HOUT.out, HNO.out]; exact HXO.out.below HB3.out) (HB.out.trans (HB3.out.mono HB.out.size))
        first
          | (refine ⟨⟨_, _, _, _, _, _, _, _, _, _, _, _, _, _, _, _, hLI, rfl⟩, ?measure⟩; (case measure => simp [intOf]; omega))
          | (refine ⟨hLI, ?measure⟩; (case measure => simp [intOf]; omega))
      · go_wp2_with (first
          | (go_at_call 40; go_loud (
              (with_reducible refine (HIN2.out).mono ?_);
              rintro e w3 ⟨⟨b, rfl, hbi⟩, hb3⟩;
              obtain rfl : b = false := by cases b; rfl; exact absurd (hbi.1 rfl) hm;
              have hx3 := (hb3.block _ (lt_of_heap2 HX2.out)).trans HX2.out;
              obtain ⟨d0, d1, d2, d3, d4, d5, d6⟩ := box7 hx3;
              have HB3 := Lib.hid (HB2.out.trans (hb3.mono HB2.out.size));
              clear hbi hb3 hx3))
          | (at_builtin; go_loud (
              skip;
              have hal : Below w3.heap.size w3 (w3.alloc (.cells #[.int .u64 (pid : Int), .int .u8 (pn.kind : Int), .string pn.name, .int .i64 pn.num, .int .u8 (pn.typ : Int), .int .u64 (pn.ref : Int), .slice Ap pn.kids.length cp] 69)) := (Below.refl _ _).alloc (Nat.le_refl _) _;
              have hxr := (show XR (w3.alloc (.cells #[.int .u64 (pid : Int), .int .u8 (pn.kind : Int), .string pn.name, .int .i64 pn.num, .int .u8 (pn.typ : Int), .int .u64 (pn.ref : Int), .slice Ap pn.kids.length cp] 69)) w.heap.size (.slice Ao no co) out by rw [HNO.out]; exact HXO.out.below (HB3.out.trans (hal.mono HB3.out.size)));
              refine wpList_append_own_at _ rfl _ _ 22 rfl w.heap.size 69 i7 (.agg #[.int .u64 0, .int .u8 0, .string ⟨#[]⟩, .int .i64 0, .int .u8 0, .int .u64 0, .slice none 0 0]) 7 80 Try.underlying22 hi7 hz7 hs7 hb7 rfl (by decide) (.slice Ao no co) (no) (xCells (out)) rfl (by have h9 := hxr.own; simpa [← HNO.out] using h9) ⟨w3.heap.size, 0, none⟩ 1 1 [.int .u64 (pid : Int), .int .u8 (pn.kind : Int), .string pn.name, .int .i64 pn.num, .int .u8 (pn.typ : Int), .int .u64 (pn.ref : Int), .slice Ap pn.kids.length cp] rfl rfl (by have h9 := row_lie w3 (cs := [.int .u64 (pid : Int), .int .u8 (pn.kind : Int), .string pn.name, .int .i64 pn.num, .int .u8 (pn.typ : Int), .int .u64 (pn.ref : Int), .slice Ap pn.kids.length cp]); simpa [HNO.out] using h9) found_one (by unfold maxLen; omega) (by omega) (by have := hal.size; have := HB.out.size; have := HB3.out.size; simp; omega) ?_;
              intro v' w' hown' hgrow hnil hloc;
              have hnv := HNP.out _ (HB3.out.trans (hal.mono HB3.out.size));
              have hlist : [.int .u64 (pid : Int), .int .u8 (pn.kind : Int), .string pn.name, .int .i64 pn.num, .int .u8 (pn.typ : Int), .int .u64 (pn.ref : Int), .slice Ap pn.kids.length cp] = (.int .u64 (pid : Int) :: ndCells pv) := by rw [HPV.out]; rfl;
              rw [hlist] at hown';
              have hxr2 := hxr.more (id := pid) (val := pv) (nd := pn) hgrow (by simpa [← HNO.out] using hown') hnv hpx;
              have hba := ((HB.out.trans (HB3.out.mono HB.out.size)).trans (hal.mono (Nat.le_trans HB.out.size HB3.out.size))).grown hgrow (by have := hal.size; have := HB.out.size; have := HB3.out.size; simp at *; omega) (fun k e => by have := (World.ownsRow.lt hxr.own k e).1; omega);
              obtain ⟨A1, c1, rfl⟩ := row_form hown';
              have HXR4 := Lib.hid hxr2;
              have HBA4 := Lib.hid hba;
              clear hown' hgrow hnil hloc hxr hxr2 hba hal hnv hlist)))
        have hLI := LessI.mk (N := N) (xs := xs) (ks := ks) (ov := .slice A1 (no + 1) c1) (k + 1) (by omega) (by rw [HNEXT.out, if_neg hm, ← HOUT.out]; exact HXR4.out) HBA4.out
        first
          | (refine ⟨⟨_, _, _, _, _, _, _, _, _, _, _, _, _, _, _, _, hLI, rfl⟩, ?measure⟩; (case measure => simp [intOf]; omega))
          | (refine ⟨hLI, ?measure⟩; (case measure => simp [intOf]; omega))
    · have hltI : ¬ (k : Int) < (N : Int) := by omega
      have hkN : k = N := by omega
      go_wp2_with fail
      go_ret
      refine ⟨_, rfl, ?_, HB.out⟩
      have h1 := HXO.out
      rw [HOUT.out, hkN, HN.out, List.take_length] at h1
      rw [HNO.out, HOUT.out, hkN, HN.out, List.take_length]
      exact h1
end Go.Proofs.Ytogkeoainejfcaa
namespace Go.Proofs.Ytogkeoainejfcaa
open Go.RowKit Go.Shelf
set_option linter.unusedSimpArgs false
set_option linter.unusedVariables false
set_option maxRecDepth 100000
attribute [local go_sem] Oper.semAt_some undef
theorem ids_append (a b : List Nat) : ids (a ++ b) = ids a ++ ids b := by unfold ids; rw [List.map_append]
theorem ids_some {l : List Nat} {j : Nat} {u : Value} (h : (ids l)[j]? = some u) : ∃ y : Nat, l[j]? = some y ∧ u = .int .u64 (y : Int) := by
  rw [ids_at] at h
  cases hj : l[j]? with
  | none => rw [hj] at h; cases h
  | some y => rw [hj] at h; exact ⟨y, rfl, (Option.some.inj h).symm⟩
theorem addr_add_off (g o j : Nat) : (⟨g, o, none⟩ : Addr).add j = ⟨g, o + j, none⟩ := by
  unfold Addr.add
  split <;> simp_all
theorem lt_of_heap_eq {w w' : World} {g : Nat} (e : w'.heap[g]? = w.heap[g]?) (h : g < w.heap.size) : g < w'.heap.size := by
  rw [Array.getElem?_eq_getElem h] at e
  exact lt_of_heap2 e
/-- What waits, as memory has it. -/
def WaitV (w0 wr : World) (ov : Value) (left : List Nat) (v : Value) : Prop :=
  ∃ A c, v = .slice A left.length c ∧ left.length ≤ c ∧ ∀ (x : Nat) (r : List Nat), left = x :: r → ∃ gl o, A = some ⟨gl, o, none⟩ ∧ w0.heap.size ≤ gl ∧ gl < wr.heap.size ∧ ov.ownBlock ≠ some gl ∧ ∀ j y : Nat, left[j]? = some y → wr.cell? ⟨gl, o + j, none⟩ = some (.int .u64 (y : Int))
def RWkI (w : World) (ns : List (Nat × Nd)) (id : Nat) (ov iv : Value) (wr : World) : Prop :=
  ∃ left done, WalkAt ns id left done ∧ wr.ownsRow w.heap.size 24 1 ov done.length (ids done) ∧ WaitV w wr ov left iv ∧ Below w.heap.size w wr
theorem RWkI.mk {w wr : World} {ns : List (Nat × Nd)} {id : Nat} {ov iv : Value} (left done : List Nat) (h1 : WalkAt ns id left done) (h2 : wr.ownsRow w.heap.size 24 1 ov done.length (ids done)) (h3 : WaitV w wr ov left iv) (h4 : Below w.heap.size w wr) : RWkI w ns id ov iv wr := ⟨left, done, h1, h2, h3, h4⟩
def rwMu (ns : List (Nat × Nd)) (ov iv : Value) : Nat := (sumU ns [] + 2) * (ns.length - lenV ov) + lenV iv
/-- What waits behind the first. -/
theorem WaitV.tail {w0 w' : World} {ov : Value} {x : Nat} {left : List Nat} {gl o c : Nat} (hc : left.length + 1 ≤ c) (h1 : w0.heap.size ≤ gl) (h2 : gl < w'.heap.size) (h3 : ov.ownBlock ≠ some gl) (h4 : ∀ j y : Nat, (x :: left)[j]? = some y → w'.cell? ⟨gl, o + j, none⟩ = some (.int .u64 (y : Int))) {v : Value} (hv : v = .slice (some ⟨gl, o + 1, none⟩) left.length (c - 1)) : WaitV w0 w' ov left v :=
  ⟨_, _, hv, by omega, fun y r e => ⟨gl, o + 1, rfl, h1, h2, h3, fun j y hj => by have := h4 (j + 1) y (by simpa using hj); rw [show o + 1 + j = o + (j + 1) by omega]; exact this⟩⟩
/-- A row of one's own waits. -/
theorem WaitV.own {w0 w' : World} {ov v : Value} {l : List Nat} {B : Nat} (h : w'.ownsRow B 24 1 v l.length (ids l)) (hB : w0.heap.size ≤ B) (ho : ∀ k, ov.ownBlock = some k → k < B) : WaitV w0 w' ov l v := by
  rcases h.2 with ⟨e, h0⟩ | ⟨g, cap, cur, e, hb, hg, h1, h2, h3, h4⟩
  · exact ⟨none, 0, by rw [e, h0], by omega, fun x r hl => by rw [hl] at h0; cases h0⟩
  · refine ⟨_, _, e, h1, fun x r hl => ⟨g, 0, rfl, Nat.le_trans hB hb, lt_of_heap2 hg, fun e2 => absurd (ho g e2) (by omega), fun j y hj => ?_⟩⟩
    have hl2 : (ids l)[j]? = some (.int .u64 (y : Int)) := by rw [ids_at, hj]; rfl
    unfold World.cell?
    rw [hg]
    dsimp only
    rw [← h4] at hl2
    rw [List.getElem?_take] at hl2
    split at hl2
    · simpa using hl2
    · cases hl2
theorem WaitV.none {w0 w' : World} {ov : Value} {A : Option Addr} {c : Nat} : WaitV w0 w' ov [] (.slice A 0 c) := ⟨_, _, rfl, Nat.zero_le _, fun x r e => by cases e⟩
theorem xNs_in {xs : XL} {i : Nat} {p : Nat × (Value × Nd)} (h : xs[i]? = some p) : (p.1, p.2.2) ∈ xNs xs := by
  unfold xNs mapL
  exact List.mem_map.2 ⟨p, List.mem_of_getElem? h, rfl⟩
theorem xNs_of {xs : XL} {x : Nat} {n : Nd} (h : (x, n) ∈ xNs xs) : ∃ p ∈ xs, p.1 = x := by
  unfold xNs mapL at h
  obtain ⟨p, hp, e⟩ := List.mem_map.1 h
  exact ⟨p, hp, (congrArg Prod.fst e)⟩
theorem getL_none_iff {ns : List (Nat × Nd)} {x : Nat} : getL ns x = none ↔ ∀ q ∈ ns, q.1 ≠ x := by
  refine ⟨fun h q hq e => ?_, getL_none⟩
  induction ns with
  | nil => cases hq
  | cons p r ih =>
    have h2 : (if p.1 = x then some p.2 else getL r x) = none := h
    by_cases e2 : p.1 = x
    · rw [if_pos e2] at h2; cases h2
    · rw [if_neg e2] at h2
      rcases List.mem_cons.1 hq with rfl | hq
      · exact e2 e
      · exact ih h2 hq
theorem AtR.none {xs : XL} {ns : List (Nat × Nd)} {x : Nat} {e : Ending} (h : (∃ (i : Nat) (p : Nat × (Value × Nd)), e = .returned (.int .i64 (i : Int)) ∧ xs[i]? = some p ∧ p.1 = x) ∨ (e = .returned (.int .i64 (-1)) ∧ ∀ p ∈ xs, p.1 ≠ x)) (hns : xNs xs = ns) (hh : hasL ns x = false) : e = .returned (.int .i64 (-1)) := by
  rcases h with ⟨i, p, rfl, hp, hpx⟩ | ⟨rfl, _⟩
  · exfalso
    have h1 := xNs_in hp
    rw [hns] at h1
    unfold hasL at hh
    rw [← hpx] at hh
    cases hg : getL ns p.1 with
    | none => exact (getL_none_iff.1 hg) _ h1 rfl
    | some n => rw [hg] at hh; cases hh
  · rfl
theorem AtR.found {xs : XL} {ns : List (Nat × Nd)} {x : Nat} {e : Ending} (h : (∃ (i : Nat) (p : Nat × (Value × Nd)), e = .returned (.int .i64 (i : Int)) ∧ xs[i]? = some p ∧ p.1 = x) ∨ (e = .returned (.int .i64 (-1)) ∧ ∀ p ∈ xs, p.1 ≠ x)) (hns : xNs xs = ns) (hh : hasL ns x = true) : ∃ (i : Nat) (p : Nat × (Value × Nd)), e = .returned (.int .i64 (i : Int)) ∧ xs[i]? = some p ∧ p.1 = x := by
  rcases h with h | ⟨rfl, hno⟩
  · exact h
  · exfalso
    unfold hasL at hh
    cases hg : getL ns x with
    | none => rw [hg] at hh; cases hh
    | some n =>
      have h1 := getL_mem hg
      rw [← hns] at h1
      obtain ⟨p, hp, e1⟩ := xNs_of h1
      exact hno p hp e1
theorem own_below {w w' : World} {B n : Nat} {v : Value} {cs : List Value} (h : w.ownsRow B 24 1 v n cs) (hb : Below w.heap.size w w') : w'.ownsRow B 24 1 v n cs := ownsRow_at h fun g cs hg => hb.block g (lt_of_heap2 hg)
theorem own_cells {w w' : World} {B n c : Nat} {A : Option Addr} {l : List Nat} (h : w.ownsRow B 24 1 (.slice A n c) n (ids l)) (hb : Below w.heap.size w w') (hB : True) : IdCells w' A l := fun j y hj => by
  obtain ⟨ad, e, hbk, hc⟩ := Lies.of_own (own_below h hb) j (.int .u64 (y : Int)) (by rw [ids_at, hj]; rfl)
  exact ⟨ad, e, hc⟩
theorem wpList_append_cells {w : World} {ops : Array Oper} {rest : List Oper} {o : Oper} {a : Act} {Q : Exit → Act → World → Prop} (hgd : o.guard = none) (s x : Operand)
    (ho : o.op = .call { callee := .builtin .append, args := #[s, x], argTypes := #[30, 30] })
    (base : Nat) (v : Value) (n : Nat) (xs : List Value) (hs : a.eval s = v) (hown : w.ownsRow base 24 1 v n xs)
    (A : Option Addr) (m c : Nat) (l : List Nat) (hx : a.eval x = .slice A m c) (hl : l.length = m) (hc : ∀ j u, (ids l)[j]? = some u → ∃ ad, A = some ad ∧ w.cell? (ad.add j) = some u)
    (h63 : n + m ≤ 1000000000) (hbase : base ≤ w.heap.size)
    (h : ∀ v' w', w'.ownsRow base 24 1 v' (n + m) (xs ++ ids l) → w.grownBy w' v.ownBlock → (v'.ownBlock = v.ownBlock ∨ v'.ownBlock = some w.heap.size) → wpList Try.prog ops Q rest (a.put o.dst v') w') :
    wpList Try.prog ops Q (o :: rest) a w := by
  obtain ⟨i0, hi0, hz0, hs0, hb0⟩ := info_parts infoId
  cases A with
  | some ad =>
    refine wpList_append_own_at _ hgd s x 30 ho base 24 i0 (.int .u64 0) 1 8 Try.underlying30 hi0 hz0 hs0 hb0 rfl (by decide) v n xs hs hown ad m c (ids l) hx (by rw [ids_length, hl, Nat.mul_one]) (fun j u hj => ?_) (ids_one _) (by unfold maxLen; omega) (by omega) hbase fun v' w' h1 h2 _ h3 => h v' w' h1 h2 h3
    obtain ⟨ad', e, h2⟩ := hc j u hj
    injection e with e
    rw [e]; exact h2
  | none =>
    have hl0 : l = [] := by
      cases l with
      | nil => rfl
      | cons y r => obtain ⟨ad, e, _⟩ := hc 0 (.int .u64 (y : Int)) rfl; cases e
    subst hl0
    have hm : m = 0 := hl.symm
    subst hm
    have h1 : w.ownsRow base 24 1 v (n + 0) (xs ++ ids []) := by rw [show ids ([] : List Nat) = [] from rfl, List.append_nil]; exact hown
    have h2 : w.grownBy w v.ownBlock := World.grownBy.refl w _
    rcases hown.2 with ⟨e, h0⟩ | ⟨g, cap, cur, e, hb, hg, hnc, _⟩
    · refine wpList_append_nothing hgd s x 30 ho 24 i0 Try.underlying30 hi0 none 0 0 c (by rw [hs, e]) (Nat.le_refl _) hx ?_
      rw [← e]
      exact h v w h1 h2 (.inl rfl)
    · refine wpList_append_nothing hgd s x 30 ho 24 i0 Try.underlying30 hi0 (some ⟨g, 0, none⟩) n cap c (by rw [hs, e]) hnc hx ?_
      rw [← e]
      exact h v w h1 h2 (.inl rfl)
set_option maxHeartbeats 8000000 in
theorem rwalk_any (w : World) (base N c id : Nat) (A : Option Addr) (xs : XL) (ns : List (Nat × Nd)) (h : XR w base (.slice A N c) xs) (hN : N = xs.length) (hNb : N ≤ 1000) (hns : xNs xs = ns) (hr : Rise ns) (hfew : sumU ns [] ≤ 1000000) :
    Calls Try.prog 11 #[.slice A N c, .int .u64 (id : Int)] w (IdsR w (walkL ns id)) := by
  obtain ⟨i0, hi0, hz0, hs0, hb0⟩ := info_parts infoId
  have HAT : Hid (∀ (y : World) (x : Nat), Below w.heap.size w y → Calls Try.prog 39 #[.slice A N c, .int .u64 (x : Int)] y (AtR y xs x)) := Lib.hid fun y x hy => at_any y base N c x A xs (h.below hy) hN (by omega)
  have HX := Lib.hid h
  have HN := Lib.hid hN
  have HNS := Lib.hid hns
  have HR := Lib.hid hr
  have hnsl : ns.length ≤ 1000 := by rw [← hns, xNs_len, ← hN]; exact hNb
  clear h hN hns hr
  go_enter Try.func11, Try.ntmps11
  go_wp2_with fail
  go_loopw [5, 6] (fun ov iv wr => RWkI w ns id ov iv wr) (fun ov iv _ => rwMu ns ov iv)
  case atStart =>
    refine RWkI.mk [id] [] (WalkAt.start ns id) (World.ownsRow_nil _ _ _ _) ⟨_, _, rfl, Nat.le_refl _, fun x r e => ⟨w.heap.size, 0, rfl, Nat.le_refl _, by simp, by simp [Value.ownBlock], fun j y hj => ?_⟩⟩ ((Below.refl _ _).alloc (Nat.le_refl _) _)
    have hj0 : j = 0 := by cases j with | zero => rfl | succ j => simp at hj
    subst hj0
    simp at hj
    subst hj
    unfold World.cell?
    rw [Nat.zero_add, Go.heap_alloc_new]
    rfl
  case round =>
    obtain ⟨left, done, hw, ho, hv, hb⟩ := hrel
    obtain ⟨Ao, co, rfl⟩ := row_form ho
    obtain ⟨Aw, cw, rfl, hcw, hwait⟩ := hv
    have HW := Lib.hid hw
    have HO := Lib.hid ho
    have HB := Lib.hid hb
    have hdl : done.length ≤ ns.length := nodup_le hw.once hw.node
    have hll := hw.few
    clear hw ho hb
    cases left with
    | nil =>
      go_wp2_with fail
      go_ret
      exact ⟨_, rfl, by have h1 := HO.out; rw [← HW.out.end_]; exact h1, HB.out⟩
    | cons x left =>
      obtain ⟨gl, o, rfl, hg1, hg2, hg3, hcell⟩ := hwait x left rfl
      have q0 : wr.cell? ⟨gl, o, none⟩ = some (.int .u64 (x : Int)) := hcell 0 x rfl
      obtain ⟨m, hm⟩ : ∃ m, m = left.length := ⟨_, rfl⟩
      obtain ⟨d, hd⟩ : ∃ d, d = done.length := ⟨_, rfl⟩
      rw [List.length_cons] at hcw hll
      rw [List.length_cons, ← hm, ← hd]
      rw [← hm] at hcw hll
      rw [← hd] at hdl
      have hgt : (0 : Int) < (m : Int) + 1 := by omega
      have HC := Lib.hid hcell
      have HG3 := Lib.hid hg3
      have HM := Lib.hid hm
      have HD := Lib.hid hd
      have HAT1 := Lib.hid (HAT.out wr x HB.out)
      clear hcell hg3 hwait hm hd
      by_cases hc1 : cw = 1
      · subst hc1
        obtain rfl : m = 0 := by omega
        have hl0 : left = [] := List.eq_nil_of_length_eq_zero HM.out.symm
        subst hl0
        cases hh : hasL ns x with
        | false =>
          go_wp2_with (go_at_call 39; go_loud (
            (with_reducible refine (HAT1.out).mono ?_);
            rintro e w3 ⟨ha, hb3⟩;
            obtain rfl := AtR.none ha HNS.out hh;
            have HB3 := Lib.hid hb3;
            have HIN3 := Lib.hid (in_any w3 d co x Ao done (own_cells HO.out hb3 trivial) HD.out (by omega));
            clear hb3))
          have hfin : RWkI w ns id (.slice Ao d co) (.slice (some ⟨gl, o, none⟩) 0 0) w3 := by
            rw [HD.out]
            exact RWkI.mk [] done (HW.out.skip (.inl hh)) (own_below HO.out HB3.out) (WaitV.none) (HB.out.trans (HB3.out.mono HB.out.size))
          first
            | (refine ⟨⟨_, _, _, _, _, _, _, _, _, _, _, _, _, _, _, _, _, _, _, _, _, _, _, _, _, _, _, _, _, _, _, _, _, _, _, _, _, hfin, rfl⟩, ?measure⟩; (case measure => unfold rwMu; simp [lenV]))
            | (refine ⟨⟨_, _, _, _, _, _, _, _, _, _, _, _, _, _, _, _, _, _, _, _, _, _, _, _, _, _, _, _, _, _, _, _, _, _, _, _, hfin, rfl⟩, ?measure⟩; (case measure => unfold rwMu; simp [lenV]))
            | (refine ⟨hfin, ?measure⟩; (case measure => unfold rwMu; simp [lenV]))
            | (go_roundw; (case rel => exact hfin); (case measure => unfold rwMu; simp [lenV]))
        | true =>
          by_cases hdn : x ∈ done
          · go_wp2_with (first
              | (go_at_call 39; go_loud (
            (with_reducible refine (HAT1.out).mono ?_);
            rintro e w3 ⟨ha, hb3⟩;
            obtain ⟨i, p, rfl, hp, hpx⟩ := AtR.found ha HNS.out hh;
            have HB3 := Lib.hid hb3;
            have HIN3 := Lib.hid (in_any w3 d co x Ao done (own_cells HO.out hb3 trivial) HD.out (by omega));
            clear hb3))
              | (go_at_call 40; go_loud (
            (with_reducible refine (HIN3.out).mono ?_);
            rintro e w4 ⟨⟨b, rfl, hbi⟩, hb4⟩;
            obtain rfl : b = true := hbi.2 hdn;
            have HB4 := Lib.hid (HB3.out.trans (hb4.mono HB3.out.size));
            clear hbi hb4)))
            have hfin : RWkI w ns id (.slice Ao d co) (.slice (some ⟨gl, o, none⟩) 0 0) w4 := by
              rw [HD.out]
              exact RWkI.mk [] done (HW.out.skip (.inr hdn)) (own_below HO.out HB4.out) (WaitV.none) (HB.out.trans (HB4.out.mono HB.out.size))
            first
              | (refine ⟨⟨_, _, _, _, _, _, _, _, _, _, _, _, _, _, _, _, _, _, _, _, _, _, _, _, _, _, _, _, _, _, _, _, _, _, _, _, _, hfin, rfl⟩, ?measure⟩; (case measure => unfold rwMu; simp [lenV]))
              | (refine ⟨⟨_, _, _, _, _, _, _, _, _, _, _, _, _, _, _, _, _, _, _, _, _, _, _, _, _, _, _, _, _, _, _, _, _, _, _, _, hfin, rfl⟩, ?measure⟩; (case measure => unfold rwMu; simp [lenV]))
              | (refine ⟨hfin, ?measure⟩; (case measure => unfold rwMu; simp [lenV]))
              | (go_roundw; (case rel => exact hfin); (case measure => unfold rwMu; simp [lenV]))
          · have hwt : ∀ (j u : Nat), ([] : List Nat)[j]? = some u → wr.cell? ((⟨gl, o, none⟩ : Addr).add j) = some (.int .u64 (u : Int)) := fun j u hj => by cases hj
            have HWT := Lib.hid hwt
            clear hwt
            go_wp2_with (first
              | (go_at_call 39; go_loud (
            (with_reducible refine (HAT1.out).mono ?_);
            rintro e w3 ⟨ha, hb3⟩;
            obtain ⟨i, p, rfl, hp, hpx⟩ := AtR.found ha HNS.out hh;
            obtain ⟨g, Ak, ck, hA, _, hpv, hpi, hpo, _, _, _, _, _, _, c6⟩ := HX.out.at_ hp;
            subst hA;
            have hiN : i < N := (by rw [HN.out]; exact (List.getElem?_eq_some_iff.1 hp).1);
            have hiI : (i : Int) < (N : Int) := (by omega);
            have hi0' : ¬ (i : Int) < 0 := (by omega);
            obtain ⟨kl, hkl⟩ : ∃ kl, kl = p.2.2.kids.length := ⟨_, rfl⟩;
            rw [← hkl] at c6;
            have hgx : getL ns x = some p.2.2 := getL_of_mem HR.out (by rw [← HNS.out, ← hpx]; exact xNs_in hp);
            have HPI := Lib.hid hpi;
            have HGX := Lib.hid hgx;
            have HC6 := Lib.hid c6;
            have HKL := Lib.hid hkl;
            have HST := Lib.hid (HW.out.step HR.out hgx hdn);
            clear hp hpx hpv hpi hpo c6 hgx hkl;
            have HB3 := Lib.hid hb3;
            have HIN3 := Lib.hid (in_any w3 d co x Ao done (own_cells HO.out hb3 trivial) HD.out (by omega));
            clear hb3))
              | (go_at_call 40; go_loud (
            (with_reducible refine (HIN3.out).mono ?_);
            rintro e w4 ⟨⟨b, rfl, hbi⟩, hb4⟩;
            obtain rfl : b = false := by cases b; rfl; exact absurd (hbi.1 rfl) hdn;
            have HB4 := Lib.hid (HB3.out.trans (hb4.mono HB3.out.size));
            clear hbi hb4))
              | (at_builtin; (
            have hal : Below w4.heap.size w4 (w4.alloc (.cells #[.int .u64 (x : Int)] 24)) := (Below.refl _ _).alloc (Nat.le_refl _) _;
            have hwal := HB4.out.trans (hal.mono HB4.out.size);
            refine wpList_append_cells rfl _ _ rfl w.heap.size (.slice Ao d co) d (ids done) rfl (by rw [HD.out]; exact own_below HO.out hwal) (some ⟨w4.heap.size, 0, none⟩) 1 1 [x] rfl rfl (fun j u hj => ⟨_, rfl, cell_one_new _ _ _ j u hj⟩) (by omega) (by have := HB.out.size; have := hwal.size; omega) ?_;
            intro v5 w5 hown5 hgr5 hloc5;
            have hsz := HB4.out.size;
            have hg5 : v5.ownBlock ≠ some gl := (by
              rcases hloc5 with e | e
              · rw [e, HD.out]; exact HG3.out
              · rw [e]; intro e2; have e3 := Option.some.inj e2; simp at e3; omega);
            have hb5 : Below w.heap.size w w5 := (HB.out.trans (hwal.mono HB.out.size)).grown hgr5 (by have := HB.out.size; have := hwal.size; omega) (fun k e => (World.ownsRow.lt HO.out k (by rw [← HD.out]; exact e)).1);
            have hw5 : w5.heap[gl]? = wr.heap[gl]? := (hgr5.block gl (by have := hwal.size; omega) (fun e => HG3.out (by rw [← HD.out]; exact e.symm))).trans (hwal.block gl hg2);
            have hc5 : (w5.alloc (.cells #[] 24)).cell? ⟨g, i * 7 + 1 + 5, none⟩ = some (.slice Ak kl ck) := ((hb5.alloc hb5.size _).cell (p := ⟨g, i * 7 + 6, none⟩) (World.block_lt_of_cell? w _ HC6.out)).trans HC6.out;
            obtain ⟨A5, c5, rfl⟩ := row_form hown5;
            have HOWN5 := Lib.hid hown5;
            have HB5 := Lib.hid hb5;
            have HG5 := Lib.hid hg5;
            have HW5 := Lib.hid hw5;
            clear hal hwal hown5 hgr5 hloc5 hsz hg5 hb5 hw5))
              | (at_builtin; (
            have hal : Below w5.heap.size w5 (w5.alloc (.cells #[] 24)) := (Below.refl _ _).alloc (Nat.le_refl _) _;
            refine wpList_append_cells rfl _ _ rfl w5.heap.size (.slice (some ⟨w5.heap.size, 0, none⟩) 0 0) 0 [] rfl ⟨rfl, .inr ⟨w5.heap.size, 0, #[], rfl, Nat.le_refl _, Go.heap_alloc_new _ _, Nat.le_refl _, Nat.zero_le _, rfl, rfl⟩⟩ Ak kl ck p.2.2.kids rfl HKL.out.symm (fun j u hj => ?_) (by have := HST.out.few; rw [List.length_append, ← HKL.out] at this; omega) hal.size ?_;
            · obtain ⟨⟨Ak2, ck2, e2, hl2, _⟩, _⟩ := HPI.out
              injection e2 with e2
              subst e2
              obtain ⟨ad, e3, hbk, hc⟩ := hl2 j u hj
              exact ⟨ad, e3, ((HB5.out.trans (hal.mono HB5.out.size)).cell (by rw [addr_add_block]; exact hbk)).trans hc⟩;
            intro v6 w6 hown6 hgr6 hloc6;
            have hb6 : Below w5.heap.size w5 w6 := hal.grown hgr6 hal.size (fun k e => by have e2 := Option.some.inj (show some w5.heap.size = some k from e); omega);
            rw [Nat.zero_add, List.nil_append] at hown6;
            obtain ⟨A6, c6, rfl⟩ := row_form hown6;
            have HOWN6 := Lib.hid hown6;
            have HB6 := Lib.hid hb6;
            clear hal hown6 hgr6 hloc6 hb6))
              | (at_builtin; (
            refine wpList_append_cells rfl _ _ rfl w5.heap.size (.slice A6 kl c6) kl (ids p.2.2.kids) rfl HOWN6.out (some ⟨gl, o, none⟩) 0 0 [] rfl rfl (fun j u hj => ?_) (by have := HST.out.few; rw [List.length_append, ← HKL.out] at this; omega) HB6.out.size ?_;
            · obtain ⟨y, e1, e2⟩ := ids_some hj
              rw [e2]
              exact ⟨_, rfl, (World.cell?_of_block (by rw [addr_add_block]; exact (HB6.out.block gl (by have := lt_of_heap_eq HW5.out hg2; exact this)).trans HW5.out)).trans (HWT.out j y e1)⟩;
            intro v7 w7 hown7 hgr7 hloc7;
            have hb7 : Below w5.heap.size w5 w7 := HB6.out.grown hgr7 HB6.out.size (fun k e => (World.ownsRow.lt HOWN6.out k e).1);
            have HOWN7 := Lib.hid hown7;
            have HB7 := Lib.hid hb7;
            clear hown7 hgr7 hloc7 hb7))
              )
            have hdl2 := nodup_le HST.out.once HST.out.node
            rw [List.length_append] at hdl2
            have hfew := HST.out.few
            rw [List.length_append] at hfew
            have hln : lenV v7 = p.2.2.kids.length + ([] : List Nat).length := by
              obtain ⟨A7, c7, e7⟩ := row_form HOWN7.out
              rw [e7, HKL.out]; rfl
            have hfin : RWkI w ns id (.slice A5 (d + 1) c5) v7 w7 := by
              refine RWkI.mk (p.2.2.kids ++ ([] : List Nat)) (done ++ [x]) HST.out ?_ (WaitV.own (B := w5.heap.size) ?_ HB5.out.size fun k e => (World.ownsRow.lt HOWN5.out k e).2) (HB5.out.trans (HB7.out.mono HB5.out.size))
              · have h1 := own_below HOWN5.out HB7.out
                rw [HD.out] at h1 ⊢
                rw [List.length_append, ids_append]; exact h1
              · have h1 := HOWN7.out
                rw [HKL.out] at h1
                rw [List.length_append, ids_append]; exact h1
            have hmu : rwMu ns (.slice A5 (d + 1) c5) v7 < (sumU ns [] + 2) * (ns.length - d) + (0 + 1) := by
              unfold rwMu
              rw [hln]
              show (sumU ns [] + 2) * (ns.length - (d + 1)) + _ < _
              have e1 : ns.length - d = (ns.length - (d + 1)) + 1 := by have := HD.out; simp at hdl2; omega
              rw [e1, Nat.mul_add]
              omega
            first
              | (refine ⟨⟨_, _, _, _, _, _, _, _, _, _, _, _, _, _, _, _, _, _, _, _, _, _, _, _, _, _, _, _, _, _, _, _, _, _, _, _, _, hfin, rfl⟩, ?measure⟩; (case measure => first | exact hmu | (unfold rwMu; simpa [lenV, rwMu] using hmu)))
              | (refine ⟨⟨_, _, _, _, _, _, _, _, _, _, _, _, _, _, _, _, _, _, _, _, _, _, _, _, _, _, _, _, _, _, _, _, _, _, _, _, hfin, rfl⟩, ?measure⟩; (case measure => first | exact hmu | (unfold rwMu; simpa [lenV, rwMu] using hmu)))
              | (refine ⟨hfin, ?measure⟩; (case measure => first | exact hmu | (unfold rwMu; simpa [lenV, rwMu] using hmu)))
              | (go_roundw; (case rel => exact hfin); (case measure => first | exact hmu | (unfold rwMu; simpa [lenV, rwMu] using hmu)))
      · have hc2 : ¬ (cw : Int) = 1 := by omega
        have hc3 : ¬ (1 : Int) = (cw : Int) := by omega
        cases hh : hasL ns x with
        | false =>
          go_wp2_with (go_at_call 39; go_loud (
            (with_reducible refine (HAT1.out).mono ?_);
            rintro e w3 ⟨ha, hb3⟩;
            obtain rfl := AtR.none ha HNS.out hh;
            have HB3 := Lib.hid hb3;
            have HIN3 := Lib.hid (in_any w3 d co x Ao done (own_cells HO.out hb3 trivial) HD.out (by omega));
            clear hb3))
          have hfin : RWkI w ns id (.slice Ao d co) (.slice (some ⟨gl, o + 1, none⟩) m (cw - 1)) w3 := by
            rw [HD.out]
            exact RWkI.mk left done (HW.out.skip (.inl hh)) (own_below HO.out HB3.out) (WaitV.tail (x := x) (left := left) (by rw [← HM.out]; exact hcw) hg1 (Nat.lt_of_lt_of_le hg2 HB3.out.size) HG3.out (fun j y hj => (HB3.out.cell (p := ⟨gl, o + j, none⟩) hg2).trans (HC.out j y hj)) (by rw [← HM.out])) (HB.out.trans (HB3.out.mono HB.out.size))
          first
            | (refine ⟨⟨_, _, _, _, _, _, _, _, _, _, _, _, _, _, _, _, _, _, _, _, _, _, _, _, _, _, _, _, _, _, _, _, _, _, _, _, _, hfin, rfl⟩, ?measure⟩; (case measure => unfold rwMu; simp [lenV]))
            | (refine ⟨⟨_, _, _, _, _, _, _, _, _, _, _, _, _, _, _, _, _, _, _, _, _, _, _, _, _, _, _, _, _, _, _, _, _, _, _, _, hfin, rfl⟩, ?measure⟩; (case measure => unfold rwMu; simp [lenV]))
            | (refine ⟨hfin, ?measure⟩; (case measure => unfold rwMu; simp [lenV]))
            | (go_roundw; (case rel => exact hfin); (case measure => unfold rwMu; simp [lenV]))
        | true =>
          by_cases hdn : x ∈ done
          · go_wp2_with (first
              | (go_at_call 39; go_loud (
            (with_reducible refine (HAT1.out).mono ?_);
            rintro e w3 ⟨ha, hb3⟩;
            obtain ⟨i, p, rfl, hp, hpx⟩ := AtR.found ha HNS.out hh;
            have HB3 := Lib.hid hb3;
            have HIN3 := Lib.hid (in_any w3 d co x Ao done (own_cells HO.out hb3 trivial) HD.out (by omega));
            clear hb3))
              | (go_at_call 40; go_loud (
            (with_reducible refine (HIN3.out).mono ?_);
            rintro e w4 ⟨⟨b, rfl, hbi⟩, hb4⟩;
            obtain rfl : b = true := hbi.2 hdn;
            have HB4 := Lib.hid (HB3.out.trans (hb4.mono HB3.out.size));
            clear hbi hb4)))
            have hfin : RWkI w ns id (.slice Ao d co) (.slice (some ⟨gl, o + 1, none⟩) m (cw - 1)) w4 := by
              rw [HD.out]
              exact RWkI.mk left done (HW.out.skip (.inr hdn)) (own_below HO.out HB4.out) (WaitV.tail (x := x) (left := left) (by rw [← HM.out]; exact hcw) hg1 (Nat.lt_of_lt_of_le hg2 HB4.out.size) HG3.out (fun j y hj => (HB4.out.cell (p := ⟨gl, o + j, none⟩) hg2).trans (HC.out j y hj)) (by rw [← HM.out])) (HB.out.trans (HB4.out.mono HB.out.size))
            first
              | (refine ⟨⟨_, _, _, _, _, _, _, _, _, _, _, _, _, _, _, _, _, _, _, _, _, _, _, _, _, _, _, _, _, _, _, _, _, _, _, _, _, hfin, rfl⟩, ?measure⟩; (case measure => unfold rwMu; simp [lenV]))
              | (refine ⟨⟨_, _, _, _, _, _, _, _, _, _, _, _, _, _, _, _, _, _, _, _, _, _, _, _, _, _, _, _, _, _, _, _, _, _, _, _, hfin, rfl⟩, ?measure⟩; (case measure => unfold rwMu; simp [lenV]))
              | (refine ⟨hfin, ?measure⟩; (case measure => unfold rwMu; simp [lenV]))
              | (go_roundw; (case rel => exact hfin); (case measure => unfold rwMu; simp [lenV]))
          · have hwt : ∀ (j u : Nat), left[j]? = some u → wr.cell? ((⟨gl, o + 1, none⟩ : Addr).add j) = some (.int .u64 (u : Int)) := fun j u hj => by rw [addr_add_off]; have := HC.out (j + 1) u (by simpa using hj); rw [show o + 1 + j = o + (j + 1) by omega]; exact this
            have HWT := Lib.hid hwt
            clear hwt
            go_wp2_with (first
              | (go_at_call 39; go_loud (
            (with_reducible refine (HAT1.out).mono ?_);
            rintro e w3 ⟨ha, hb3⟩;
            obtain ⟨i, p, rfl, hp, hpx⟩ := AtR.found ha HNS.out hh;
            obtain ⟨g, Ak, ck, hA, _, hpv, hpi, hpo, _, _, _, _, _, _, c6⟩ := HX.out.at_ hp;
            subst hA;
            have hiN : i < N := (by rw [HN.out]; exact (List.getElem?_eq_some_iff.1 hp).1);
            have hiI : (i : Int) < (N : Int) := (by omega);
            have hi0' : ¬ (i : Int) < 0 := (by omega);
            obtain ⟨kl, hkl⟩ : ∃ kl, kl = p.2.2.kids.length := ⟨_, rfl⟩;
            rw [← hkl] at c6;
            have hgx : getL ns x = some p.2.2 := getL_of_mem HR.out (by rw [← HNS.out, ← hpx]; exact xNs_in hp);
            have HPI := Lib.hid hpi;
            have HGX := Lib.hid hgx;
            have HC6 := Lib.hid c6;
            have HKL := Lib.hid hkl;
            have HST := Lib.hid (HW.out.step HR.out hgx hdn);
            clear hp hpx hpv hpi hpo c6 hgx hkl;
            have HB3 := Lib.hid hb3;
            have HIN3 := Lib.hid (in_any w3 d co x Ao done (own_cells HO.out hb3 trivial) HD.out (by omega));
            clear hb3))
              | (go_at_call 40; go_loud (
            (with_reducible refine (HIN3.out).mono ?_);
            rintro e w4 ⟨⟨b, rfl, hbi⟩, hb4⟩;
            obtain rfl : b = false := by cases b; rfl; exact absurd (hbi.1 rfl) hdn;
            have HB4 := Lib.hid (HB3.out.trans (hb4.mono HB3.out.size));
            clear hbi hb4))
              | (at_builtin; (
            have hal : Below w4.heap.size w4 (w4.alloc (.cells #[.int .u64 (x : Int)] 24)) := (Below.refl _ _).alloc (Nat.le_refl _) _;
            have hwal := HB4.out.trans (hal.mono HB4.out.size);
            refine wpList_append_cells rfl _ _ rfl w.heap.size (.slice Ao d co) d (ids done) rfl (by rw [HD.out]; exact own_below HO.out hwal) (some ⟨w4.heap.size, 0, none⟩) 1 1 [x] rfl rfl (fun j u hj => ⟨_, rfl, cell_one_new _ _ _ j u hj⟩) (by omega) (by have := HB.out.size; have := hwal.size; omega) ?_;
            intro v5 w5 hown5 hgr5 hloc5;
            have hsz := HB4.out.size;
            have hg5 : v5.ownBlock ≠ some gl := (by
              rcases hloc5 with e | e
              · rw [e, HD.out]; exact HG3.out
              · rw [e]; intro e2; have e3 := Option.some.inj e2; simp at e3; omega);
            have hb5 : Below w.heap.size w w5 := (HB.out.trans (hwal.mono HB.out.size)).grown hgr5 (by have := HB.out.size; have := hwal.size; omega) (fun k e => (World.ownsRow.lt HO.out k (by rw [← HD.out]; exact e)).1);
            have hw5 : w5.heap[gl]? = wr.heap[gl]? := (hgr5.block gl (by have := hwal.size; omega) (fun e => HG3.out (by rw [← HD.out]; exact e.symm))).trans (hwal.block gl hg2);
            have hc5 : (w5.alloc (.cells #[] 24)).cell? ⟨g, i * 7 + 1 + 5, none⟩ = some (.slice Ak kl ck) := ((hb5.alloc hb5.size _).cell (p := ⟨g, i * 7 + 6, none⟩) (World.block_lt_of_cell? w _ HC6.out)).trans HC6.out;
            obtain ⟨A5, c5, rfl⟩ := row_form hown5;
            have HOWN5 := Lib.hid hown5;
            have HB5 := Lib.hid hb5;
            have HG5 := Lib.hid hg5;
            have HW5 := Lib.hid hw5;
            clear hal hwal hown5 hgr5 hloc5 hsz hg5 hb5 hw5))
              | (at_builtin; (
            have hal : Below w5.heap.size w5 (w5.alloc (.cells #[] 24)) := (Below.refl _ _).alloc (Nat.le_refl _) _;
            refine wpList_append_cells rfl _ _ rfl w5.heap.size (.slice (some ⟨w5.heap.size, 0, none⟩) 0 0) 0 [] rfl ⟨rfl, .inr ⟨w5.heap.size, 0, #[], rfl, Nat.le_refl _, Go.heap_alloc_new _ _, Nat.le_refl _, Nat.zero_le _, rfl, rfl⟩⟩ Ak kl ck p.2.2.kids rfl HKL.out.symm (fun j u hj => ?_) (by have := HST.out.few; rw [List.length_append, ← HKL.out] at this; omega) hal.size ?_;
            · obtain ⟨⟨Ak2, ck2, e2, hl2, _⟩, _⟩ := HPI.out
              injection e2 with e2
              subst e2
              obtain ⟨ad, e3, hbk, hc⟩ := hl2 j u hj
              exact ⟨ad, e3, ((HB5.out.trans (hal.mono HB5.out.size)).cell (by rw [addr_add_block]; exact hbk)).trans hc⟩;
            intro v6 w6 hown6 hgr6 hloc6;
            have hb6 : Below w5.heap.size w5 w6 := hal.grown hgr6 hal.size (fun k e => by have e2 := Option.some.inj (show some w5.heap.size = some k from e); omega);
            rw [Nat.zero_add, List.nil_append] at hown6;
            obtain ⟨A6, c6, rfl⟩ := row_form hown6;
            have HOWN6 := Lib.hid hown6;
            have HB6 := Lib.hid hb6;
            clear hal hown6 hgr6 hloc6 hb6))
              | (at_builtin; (
            refine wpList_append_cells rfl _ _ rfl w5.heap.size (.slice A6 kl c6) kl (ids p.2.2.kids) rfl HOWN6.out (some ⟨gl, o + 1, none⟩) m (cw - 1) left rfl HM.out.symm (fun j u hj => ?_) (by have := HST.out.few; rw [List.length_append, ← HKL.out] at this; have := HM.out; omega) HB6.out.size ?_;
            · obtain ⟨y, e1, e2⟩ := ids_some hj
              rw [e2]
              exact ⟨_, rfl, (World.cell?_of_block (by rw [addr_add_block]; exact (HB6.out.block gl (by have := lt_of_heap_eq HW5.out hg2; exact this)).trans HW5.out)).trans (HWT.out j y e1)⟩;
            intro v7 w7 hown7 hgr7 hloc7;
            have hb7 : Below w5.heap.size w5 w7 := HB6.out.grown hgr7 HB6.out.size (fun k e => (World.ownsRow.lt HOWN6.out k e).1);
            have HOWN7 := Lib.hid hown7;
            have HB7 := Lib.hid hb7;
            clear hown7 hgr7 hloc7 hb7))
              )
            have hdl2 := nodup_le HST.out.once HST.out.node
            rw [List.length_append] at hdl2
            have hfew := HST.out.few
            rw [List.length_append] at hfew
            have hln : lenV v7 = p.2.2.kids.length + left.length := by
              obtain ⟨A7, c7, e7⟩ := row_form HOWN7.out
              rw [e7, HKL.out, HM.out]; rfl
            have hfin : RWkI w ns id (.slice A5 (d + 1) c5) v7 w7 := by
              refine RWkI.mk (p.2.2.kids ++ left) (done ++ [x]) HST.out ?_ (WaitV.own (B := w5.heap.size) ?_ HB5.out.size fun k e => (World.ownsRow.lt HOWN5.out k e).2) (HB5.out.trans (HB7.out.mono HB5.out.size))
              · have h1 := own_below HOWN5.out HB7.out
                rw [HD.out] at h1 ⊢
                rw [List.length_append, ids_append]; exact h1
              · have h1 := HOWN7.out
                rw [HKL.out, HM.out] at h1
                rw [List.length_append, ids_append]; exact h1
            have hmu : rwMu ns (.slice A5 (d + 1) c5) v7 < (sumU ns [] + 2) * (ns.length - d) + (m + 1) := by
              unfold rwMu
              rw [hln]
              show (sumU ns [] + 2) * (ns.length - (d + 1)) + _ < _
              have e1 : ns.length - d = (ns.length - (d + 1)) + 1 := by have := HD.out; simp at hdl2; omega
              rw [e1, Nat.mul_add]
              omega
            first
              | (refine ⟨⟨_, _, _, _, _, _, _, _, _, _, _, _, _, _, _, _, _, _, _, _, _, _, _, _, _, _, _, _, _, _, _, _, _, _, _, _, _, hfin, rfl⟩, ?measure⟩; (case measure => first | exact hmu | (unfold rwMu; simpa [lenV, rwMu] using hmu)))
              | (refine ⟨⟨_, _, _, _, _, _, _, _, _, _, _, _, _, _, _, _, _, _, _, _, _, _, _, _, _, _, _, _, _, _, _, _, _, _, _, _, hfin, rfl⟩, ?measure⟩; (case measure => first | exact hmu | (unfold rwMu; simpa [lenV, rwMu] using hmu)))
              | (refine ⟨hfin, ?measure⟩; (case measure => first | exact hmu | (unfold rwMu; simpa [lenV, rwMu] using hmu)))
              | (go_roundw; (case rel => exact hfin); (case measure => first | exact hmu | (unfold rwMu; simpa [lenV, rwMu] using hmu)))
end Go.Proofs.Ytogkeoainejfcaa
